import Derived.Test.YtbcbnkapipimmaaGreatDoorZRg0
import Derived.Test.YtbcbnkapipimmaaGreatDoorZRg2
import Derived.WalkSmall
import Derived.Laws.IdiomStrings
import Derived.Outline
set_option linter.unusedVariables false
set_option linter.unusedSimpArgs false
namespace Go.Proofs.YtbcbnkapipimmaaGreatDoor.Dg
def val : List Int → Int
  | [] => 0
  | d :: ds => d + 65536 * val ds
theorem pow_pos (k : Nat) : (0 : Int) < 65536 ^ k := Int.pow_pos (by decide)
theorem pow_succ (k : Nat) : (65536 : Int) ^ (k + 1) = 65536 * 65536 ^ k := by rw [Int.pow_succ, Int.mul_comm]
end Go.Proofs.YtbcbnkapipimmaaGreatDoor.Dg
set_option linter.unusedVariables false
set_option linter.unusedSimpArgs false
namespace Go.Proofs.YtbcbnkapipimmaaGreatDoor
open Go.RowKit
def cells (ds : List Int) : List Value := ds.map (Value.int .u64)
def RawB (B : Nat) (w : World) (v : Value) (ds : List Int) : Prop := w.ownsRow B 136 1 v ds.length (cells ds)
theorem Qw.grown {w wr w1 : World} {v : Value} {ds : List Int} (h : Qw w wr) (hr : RawB w.heap.size wr v ds) (wx : World) (hx : wr.heap.size ≤ wx.heap.size) (hq : Qw wr wx) (hg : wx.grownBy w1 v.ownBlock) : Qw w w1 :=
  Below.grown (Qw.trans h hq) hg (by have := h.size; omega) (fun k hk => (hr.lt k hk).1)
theorem cell_one_new (w : World) (a : Value) (t : TypeId) : ∀ j u, [a][j]? = some u → (w.alloc (.cells #[a] t)).cell? ((⟨w.heap.size, 0, none⟩ : Addr).add j) = some u := by
  intro j u hj
  match j, hj with
  | 0, hj => simp at hj; subst hj; simp [Addr.add]
  | j + 1, hj => simp at hj
end Go.Proofs.YtbcbnkapipimmaaGreatDoor
set_option linter.unusedVariables false
set_option linter.unusedSimpArgs false
namespace Go.Proofs.YtbcbnkapipimmaaGreatDoor
open Go.RowKit
def OwnB (B : Nat) (w : World) (v : Value) (l : List UInt8) : Prop := w.ownsRow B 5 1 v l.length (Lib.byteCells l)
theorem ownB_nil (B : Nat) (w : World) : OwnB B w (.slice none 0 0) [] := World.ownsRow_nil w _ _ _
theorem info_u8 : (Tryz.prog.info? 5).map (fun i => (i.zero, i.size, i.bytes)) = some (some (.int .u8 0), 1, 1) := by kernel_rfl
theorem ownB_push {B : Nat} {w : World} {v : Value} {l : List UInt8} {c : UInt8} (h : w.ownsRow B 5 1 v (l.length + 1) (Lib.byteCells l ++ [.int .u8 (c.toNat : Int)])) : OwnB B w v (l ++ [c]) := by
  unfold OwnB
  rw [show (l ++ [c]).length = l.length + 1 by simp, show Lib.byteCells (l ++ [c]) = Lib.byteCells l ++ [.int .u8 (c.toNat : Int)] by simp [Lib.byteCells]]
  exact h
theorem below_grown {B : Nat} {w wr w1 : World} {v : Value} {l : List UInt8} (h : Below B w wr) (hB : B ≤ w.heap.size) (hr : OwnB B wr v l) (wx : World) (hq : Below wr.heap.size wr wx) (hg : wx.grownBy w1 v.ownBlock) : Below B w w1 :=
  Below.grown (h.trans (hq.mono (by have := h.size; omega))) hg (by have := h.size; have := hq.size; omega) (fun k hk => (World.ownsRow.lt hr k hk).1)
def FracK (B : Nat) (f : Int) (l : List UInt8) (w : World) (tv fv uv : Value) (wr : World) (k : Nat) : Prop :=
  k ≤ 6 ∧ (∀ i, i < k → f % um i ≠ 0) ∧ fv = .int .i64 (f % um k) ∧ uv = .int .i64 (un k) ∧ OwnB B wr tv (l ++ 46 :: dgs f k) ∧ Below B w wr
set_option maxRecDepth 100000 in
set_option maxHeartbeats 1000000 in
theorem fxFrac (B : Nat) (f : Int) (v : Value) (l : List UInt8) (w : World) (f0 : 0 ≤ f) (f1 : f < 1000000) (hr : OwnB B w v l) (hB : B ≤ w.heap.size) (hl : l.length ≤ 1000) :
    Calls Tryz.prog 156 #[v, .int .i64 f] w fun e w' => ∃ v', e = .returned v' ∧ OwnB B w' v' (l ++ frac f) ∧ Below B w w' := by
  obtain ⟨i0, hi, hz0, hz1, hz2⟩ := info_parts info_u8
  unfold frac
  by_cases hz : f = 0
  · rw [if_pos hz, List.append_nil]
    subst hz
    go_enter Tryz.func156, Tryz.ntmps156
    go_wp2
    go_ret
    exact ⟨_, rfl, hr, Below.refl _ _⟩
  · rw [if_neg hz]
    have bz : (f == 0) = false := beq_eq_false_iff_ne.2 hz
    have Hr := Lib.hid hr
    have Hz := Lib.hid hz
    clear hr hz
    go_enter Tryz.func156, Tryz.ntmps156
    go_wp2_with (at_builtin; refine wpList_append_own _ rfl _ _ 59 rfl B 5 i0 (.int .u8 0) 1 1 Tryz.underlying59 hi hz0 hz1 hz2 rfl (by decide) _ _ _ rfl (World.ownsRow.alloc Hr.out _) ⟨w.heap.size, 0, none⟩ 1 1 [.int .u8 46] rfl rfl (cell_one_new _ _ _) (ints_oneCell .u8 [46]) (by unfold maxLen; omega) (by omega) (by simp; omega) ?_)
    intro v1 w1 hown1 hgrow1 _
    have h1 : OwnB B w1 v1 (l ++ [46]) := ownB_push (c := 46) hown1
    have q1 : Below B w w1 := below_grown (Below.refl _ _) hB Hr.out _ ((Below.refl _ _).alloc (Nat.le_refl _) _) hgrow1
    clear hown1 hgrow1
    have H1 := Lib.hid h1
    clear h1
    go_wp2
    go_loopw [0, 1, 5] (fun tv fv uv wr => ∃ k, FracK B f l w tv fv uv wr k) (fun _ _ uv _ => (intOf uv).toNat)
    case atStart => exact ⟨0, by omega, fun i hi => by omega, by simp only [um]; rw [Int.emod_eq_of_lt f0 f1], rfl, H1.out, q1⟩
    case round =>
      obtain ⟨k, hk6, hne, rfl, rfl, hown, hq⟩ := hrel
      have x0 : 0 ≤ f % um k := Int.emod_nonneg _ (by have := um_pos k; omega)
      have K : Hid (k ≤ 5 → dn f k = f % um k / un k ∧ f % um (k + 1) = f % um k % un k ∧ un (k + 1) = un k / 10) := Lib.hid fun h => ⟨rfl, (mod_step f k h).symm, (un_step k h).symm⟩
      have Hn := Lib.hid hne
      have Ho := Lib.hid hown
      clear hne hown
      by_cases hx : 0 < f % um k
      · have k5 : k ≤ 5 := by
          rcases Nat.lt_or_ge 5 k with h | h
          · have : k = 6 := by omega
            subst this; simp only [um] at hx; omega
          · exact h
        obtain ⟨u1, u2, u3, u4⟩ := un_um k k5
        obtain ⟨d0, d1⟩ := dn_bd f k k5
        have dn' := dg_nat f k k5
        have xu : f % um k < um k := Int.emod_lt_of_pos _ (by have := um_pos k; omega)
        obtain ⟨e1, e2, e3⟩ := K.out k5
        rw [e1] at d0 d1 dn'
        have hne' : ∀ i, i < k + 1 → f % um i ≠ 0 := fun i hi => by
          rcases Nat.lt_or_ge i k with h | h
          · exact Hn.out i h
          · obtain rfl : i = k := by omega
            omega
        have Hn2 := Lib.hid hne'
        clear hne' u1 K
        obtain ⟨x, ex⟩ : ∃ x, f % um k = x := ⟨_, rfl⟩
        obtain ⟨u, eu⟩ : ∃ u, un k = u := ⟨_, rfl⟩
        rw [ex] at hx x0 d0 d1 xu dn' e2
        rw [eu] at d0 d1 u2 u3 u4 dn' e2 e3
        rw [ex, eu]
        have E := Lib.hid (And.intro e2 (And.intro e3 dn'))
        have x1 : x ≤ 1000000 := by omega
        have zu : (u == 0) = false := beq_eq_false_iff_ne.2 (by omega)
        have m0 : 0 ≤ x % u := Int.emod_nonneg _ (by omega)
        have m1 : x % u < u := Int.emod_lt_of_pos _ (by omega)
        clear e1 e2 e3 dn' ex eu xu
        have hs := hq.size
        go_wp2_with (at_builtin; refine wpList_append_own _ rfl _ _ 59 rfl B 5 i0 (.int .u8 0) 1 1 Tryz.underlying59 hi hz0 hz1 hz2 rfl (by decide) _ _ _ rfl (World.ownsRow.alloc Ho.out _) ⟨wr.heap.size, 0, none⟩ 1 1 [.int .u8 (48 + x / u)] rfl rfl (cell_one_new _ _ _) (ints_oneCell .u8 [48 + x / u]) (by unfold maxLen; simp [dgs_length]; omega) (by simp [dgs_length]; omega) (by simp; omega) ?_)
        intro v2 w2 hown2 hgrow2 _
        have h2 : OwnB B w2 v2 ((l ++ 46 :: dgs f k) ++ [dg f k]) := ownB_push (by rw [E.out.2.2, List.length_append, List.length_cons]; exact hown2)
        have q2 : Below B w w2 := below_grown hq hB Ho.out _ ((Below.refl _ _).alloc (Nat.le_refl _) _) hgrow2
        clear hown2 hgrow2 hq hs
        rw [List.append_assoc, List.cons_append, ← dgs_succ] at h2
        have H2 := Lib.hid h2
        clear h2
        go_wp2
        go_roundw
        case rel => exact ⟨k + 1, by omega, Hn2.out, by rw [E.out.1], by rw [E.out.2.1], H2.out, q2⟩
        case measure => simp [intOf]; omega
      · have hx0 : f % um k = 0 := by omega
        have hk : kf f = k := kf_eq hk6 (by simp only [um]; rw [Int.emod_eq_of_lt f0 f1]; exact Hz.out) hx0 Hn.out
        have HK := Lib.hid hk
        rw [hx0]
        clear hk hx0 hx x0 K
        go_wp2
        go_ret
        exact ⟨_, rfl, by rw [HK.out]; exact Ho.out, hq⟩
theorem ownB_more {B : Nat} {w : World} {v : Value} {l k : List UInt8} (h : w.ownsRow B 5 1 v (l.length + k.length) (Lib.byteCells l ++ Lib.byteCells k)) : OwnB B w v (l ++ k) := by
  unfold OwnB
  rw [List.length_append, show Lib.byteCells (l ++ k) = Lib.byteCells l ++ Lib.byteCells k by simp [Lib.byteCells]]
  exact h
theorem dec_len10 (l : List UInt8) (m : Int) (hl : l.length ≤ 1) (h0 : 0 ≤ m) (h1 : m ≤ 1000000000000000) : (l ++ Lib.decDigits (m / 1000000).toNat).length ≤ 1000 := by
  have p : (10 : Nat) ^ (9 + 1) = 10000000000 := by decide
  have := dec_len 9 (m / 1000000).toNat (by rw [p]; omega)
  rw [List.length_append]; omega
def Tb (w : World) : Prop := Lib.TabBelow Tryz.prog w.heap.size w "internal/strconv.uint64pow10" .u64 Lib.pow10Tab
theorem Tb.kept {w w' : World} (h : Tb w) (q : Qw w w') : Tb w' := fun w'' q' => h w'' (Below.trans q (Below.mono q' q.size))
theorem own_cases {B : Nat} {w : World} {v : Value} {l : List UInt8} (h : OwnB B w v l) (hl : l ≠ []) :
    ∃ g cap, v = .slice (some ⟨g, 0, none⟩) l.length cap ∧ ∀ j (hj : j < l.length), w.cell? ((⟨g, 0, none⟩ : Addr).add j) = some (.int .u8 (l[j].toNat : Int)) := by
  have h0 := h
  obtain ⟨h1, h2⟩ := h
  rcases h2 with ⟨h2, h3⟩ | ⟨g, cap, cur, rfl, hg, hh, r1, r2, r3, r4⟩
  · exact absurd (List.eq_nil_of_length_eq_zero h3) hl
  · refine ⟨g, cap, rfl, fun j hj => ?_⟩
    refine World.ownsRow.cells h0 rfl j _ ?_
    unfold Lib.byteCells
    rw [List.getElem?_map, List.getElem?_eq_getElem hj]; rfl
set_option maxRecDepth 100000 in
set_option maxHeartbeats 1000000 in
theorem fxFormat (n : Int) (w : World) (ht : Tb w) :
    Calls Tryz.prog 119 #[.int .i64 n] w fun e w' => e = .returned (.string ⟨(fmtl n).toArray⟩) ∧ Qw w w' := by
  obtain ⟨i0, hi, hz0, hz1, hz2⟩ := info_parts info_u8
  have q0 : Below w.heap.size w w := Below.refl _ _
  have HT := Lib.hid ht
  cases hv : vld n
  · rw [show fmtl n = [] from if_neg (by rw [hv]; decide)]
    go_enter Tryz.func119, Tryz.ntmps119
    go_wp2_with (go_at_call 154; refine (fxValid _ _).mono ?_; rintro e w' ⟨rfl, rfl⟩)
    go_ret
    exact ⟨rfl, Qw.refl _⟩
  · obtain ⟨a1, a2⟩ := vld_bd hv
    by_cases hn : n < 0
    · obtain ⟨m, rfl⟩ : ∃ m, n = -m := ⟨-n, by omega⟩
      rw [show fmtl (-m) = [45] ++ fmtp m by unfold fmtl; rw [if_pos hv, if_pos hn, Int.neg_neg]; rfl]
      have m0 : 0 < m := by omega
      have m1 : m ≤ 1000000000000000 := by omega
      clear hn a1 a2
      unfold fmtp
      rw [← List.append_assoc]
      have o0 := Lib.hid (ownB_nil w.heap.size w)
      go_enter Tryz.func119, Tryz.ntmps119
      go_wp2_with (first | (go_at_call 154; refine (fxValid _ _).mono ?_; rintro e w' ⟨rfl, rfl⟩) | (at_builtin; refine wpList_append_own _ rfl _ _ 59 rfl w.heap.size 5 i0 (.int .u8 0) 1 1 Tryz.underlying59 hi hz0 hz1 hz2 rfl (by decide) _ _ _ rfl (World.ownsRow.alloc o0.out _) ⟨w.heap.size, 0, none⟩ 1 1 [.int .u8 45] rfl rfl (cell_one_new _ _ _) (ints_oneCell .u8 [45]) (by unfold maxLen; simp) (by simp) (by simp) ?_))
      intro v1 w1 hown1 hgrow1 _
      have h1 : OwnB w.heap.size w1 v1 ([] ++ [45]) := ownB_push (c := 45) hown1
      have q1 : Below w.heap.size w w1 := below_grown q0 (Nat.le_refl _) o0.out _ ((Below.refl _ _).alloc (Nat.le_refl _) _) hgrow1
      clear hown1 hgrow1 o0
      rw [List.nil_append] at h1
      have H1 := Lib.hid h1
      clear h1
      go_wp2_with fail
      refine (Tryz.strconv_AppendInt_10 w.heap.size 1 (m / 1000000) (by omega) (by omega) v1 (Lib.byteCells [45]) _ H1.out (by have := q1.size; omega) (by decide) (HT.out.on q1)).mono ?_
      rintro e w2 ⟨v2, rfl, hown2, hb2, _⟩
      have it : Lib.itoa (m / 1000000) = Lib.decDigits (m / 1000000).toNat := by unfold Lib.itoa; rw [if_neg (by omega)]
      rw [it] at hown2
      have h2 : OwnB w.heap.size w2 v2 ([45] ++ Lib.decDigits (m / 1000000).toNat) := ownB_more hown2
      have q2 : Below w.heap.size w w2 := q1.trans hb2
      have l2 : ([45] ++ Lib.decDigits (m / 1000000).toNat).length ≤ 1000 := dec_len10 _ _ (by decide) (by omega) (by omega)
      have H2 := Lib.hid h2
      clear it hown2 hb2 h2
      go_wp2_with fail
      refine (fxFrac w.heap.size (m % 1000000) v2 _ _ (by omega) (by omega) H2.out (by have := q2.size; omega) l2).mono ?_
      rintro e w3 ⟨v3, rfl, h3, hb3⟩
      have q3 : Below w.heap.size w w3 := q2.trans hb3
      obtain ⟨g, cap, rfl, hc⟩ := own_cases h3 (by simp [dec_ne])
      have cv := run_convert_bytes_back (P := Tryz.prog) w3 59 9 5 ⟨g, 0, none⟩ cap _ Tryz.underlying59 Tryz.underlying5 Tryz.underlying9 hc
      clear h3 hb3 hc H2 l2
      generalize hX : [45] ++ Lib.decDigits (m / 1000000).toNat ++ frac (m % 1000000) = X at *
      have HX := Lib.hid hX
      clear hX
      go_wp2
      go_ret
      exact ⟨by rw [← HX.out]; rfl, q3⟩
    · rw [show fmtl n = [] ++ fmtp n from (if_pos hv).trans (if_neg hn)]
      unfold fmtp
      rw [← List.append_assoc]
      have H1 := Lib.hid (ownB_nil w.heap.size w)
      go_enter Tryz.func119, Tryz.ntmps119
      go_wp2_with (go_at_call 154; refine (fxValid _ _).mono ?_; rintro e w' ⟨rfl, rfl⟩)
      go_wp2_with fail
      refine (Tryz.strconv_AppendInt_10 w.heap.size 0 (n / 1000000) (by omega) (by omega) (.slice none 0 0) (Lib.byteCells []) _ H1.out (by have := q0.size; omega) (by decide) (HT.out.on q0)).mono ?_
      rintro e w2 ⟨v2, rfl, hown2, hb2, _⟩
      have it : Lib.itoa (n / 1000000) = Lib.decDigits (n / 1000000).toNat := by unfold Lib.itoa; rw [if_neg (by omega)]
      rw [it] at hown2
      have h2 : OwnB w.heap.size w2 v2 ([] ++ Lib.decDigits (n / 1000000).toNat) := ownB_more hown2
      have q2 : Below w.heap.size w w2 := q0.trans hb2
      have l2 : ([] ++ Lib.decDigits (n / 1000000).toNat).length ≤ 1000 := dec_len10 _ _ (by decide) (by omega) (by omega)
      have H2 := Lib.hid h2
      clear it hown2 hb2 h2
      go_wp2_with fail
      refine (fxFrac w.heap.size (n % 1000000) v2 _ _ (by omega) (by omega) H2.out (by have := q2.size; omega) l2).mono ?_
      rintro e w3 ⟨v3, rfl, h3, hb3⟩
      have q3 : Below w.heap.size w w3 := q2.trans hb3
      obtain ⟨g, cap, rfl, hc⟩ := own_cases h3 (by simp [dec_ne])
      have cv := run_convert_bytes_back (P := Tryz.prog) w3 59 9 5 ⟨g, 0, none⟩ cap _ Tryz.underlying59 Tryz.underlying5 Tryz.underlying9 hc
      clear h3 hb3 hc H2 l2
      generalize hX : [] ++ Lib.decDigits (n / 1000000).toNat ++ frac (n % 1000000) = X at *
      have HX := Lib.hid hX
      clear hX
      go_wp2
      go_ret
      exact ⟨by rw [← HX.out]; rfl, q3⟩
end Go.Proofs.YtbcbnkapipimmaaGreatDoor
set_option linter.unusedVariables false
set_option linter.unusedSimpArgs false
namespace Go.Proofs.YtbcbnkapipimmaaGreatDoor
namespace Sy
open Lx
inductive Ex where
  | mk (op n : Int) (ks : List Ex)
def Ex.op : Ex → Int | .mk o _ _ => o
def Ex.n : Ex → Int | .mk _ n _ => n
def Ex.ks : Ex → List Ex | .mk _ _ k => k
theorem Ex.ind {P : Ex → Prop} (h : ∀ op n ks, (∀ k ∈ ks, P k) → P (.mk op n ks)) : ∀ x, P x
  | .mk op n ks => h op n ks (fun k _ => Ex.ind h k)
def onms : List (List UInt8) := [[], [35], [45], [43], [45], [42], [47], [77, 79, 68], [83, 73, 78], [67, 79, 83], [84, 65, 78], [65, 84, 65, 78], [83, 81, 82, 84], [65, 66, 83], [82, 79, 85, 78, 68], [70, 73, 88], [70, 85, 80], [69, 81], [78, 69], [71, 84], [71, 69], [76, 84], [76, 69], [65, 78, 68], [79, 82], [88, 79, 82]]
def onm (i : Nat) : List UInt8 := onms.getD i []
def fop (x : List UInt8) : Nat → Nat → Option Nat
  | _, 0 => none
  | lo, k + 1 => if x = onm lo then some lo else fop x (lo + 1) k
theorem fop_range {x : List UInt8} : ∀ {k lo op : Nat}, fop x lo k = some op → lo ≤ op ∧ op < lo + k ∧ x = onm op
  | 0, _, _, h => by simp [fop] at h
  | k + 1, lo, op, h => by
    unfold fop at h
    by_cases e : x = onm lo
    · rw [if_pos e] at h; injection h with h; subst h; exact ⟨Nat.le_refl _, by omega, e⟩
    · rw [if_neg e] at h
      have := fop_range h
      exact ⟨by omega, by omega, this.2.2⟩
theorem onm_ne : ∀ i, 1 ≤ i → i < 26 → onm i ≠ [] := by
  have h : ∀ i, i < 26 → 1 ≤ i → onm i ≠ [] := by decide
  exact fun i a b => h i b a
theorem fop_nil : ∀ {k lo : Nat}, 1 ≤ lo → lo + k ≤ 26 → fop [] lo k = none
  | 0, _, _, _ => rfl
  | k + 1, lo, h, g => by
    unfold fop
    rw [if_neg (fun e => onm_ne lo h (by omega) e.symm)]
    exact fop_nil (by omega) (by omega)
def lo : Nat → Nat
  | 0 => 24 | 1 => 23 | 2 => 17 | 3 => 3 | _ => 5
def cn : Nat → Nat
  | 0 => 2 | 1 => 1 | 2 => 6 | 3 => 2 | _ => 3
def lop (l : Nat) (x : List UInt8) : Option Nat := fop x (lo l) (cn l)
def fun1 (x : List UInt8) : Option Nat := match fop x 8 3 with
  | some o => some o
  | none => fop x 12 5
def kd (ts : List Lx.Tok) (i : Nat) : Int := match ts[i]? with | some t => t.k | none => 0
def tn (ts : List Lx.Tok) (i : Nat) : Int := match ts[i]? with | some t => t.n | none => 0
def tx (ts : List Lx.Tok) (i : Nat) : List UInt8 := match ts[i]? with | some t => t.x | none => []
def tp (ts : List Lx.Tok) (len i : Nat) : Nat := match ts[i]? with | some t => t.p | none => len
theorem tx_lt {ts : List Lx.Tok} {i : Nat} {x : List UInt8} (h : tx ts i = x) (h0 : x ≠ []) : i < ts.length := by
  rcases Nat.lt_or_ge i ts.length with g | g
  · exact g
  · unfold tx at h; rw [List.getElem?_eq_none g] at h; exact absurd h.symm h0
theorem kd_lt {ts : List Lx.Tok} {i : Nat} {k : Int} (h : kd ts i = k) (h0 : k ≠ 0) : i < ts.length := by
  rcases Nat.lt_or_ge i ts.length with g | g
  · exact g
  · unfold kd at h; rw [List.getElem?_eq_none g] at h; exact absurd h.symm h0
theorem lop_lt {ts : List Lx.Tok} {i l o : Nat} (h : lop l (tx ts i) = some o) : i < ts.length := by
  rcases Nat.lt_or_ge i ts.length with g | g
  · exact g
  · unfold tx at h; rw [List.getElem?_eq_none g] at h
    unfold lop at h
    rw [fop_nil (by unfold lo; split <;> omega) (by unfold lo cn; split <;> simp)] at h
    cases h
inductive Rs (α : Type) where
  | ok (x : α) (i : Nat)
  | bad (i : Nat)
def num (n : Int) : Ex := .mk 0 n []
def un (o : Int) (x : Ex) : Ex := .mk o 0 [x]
def bin (o : Int) (x y : Ex) : Ex := .mk o 0 [x, y]
def shut (ts : List Lx.Tok) : Rs Ex → Rs Ex
  | .bad j => .bad j
  | .ok x j => if tx ts j = [93] then .ok x (j + 1) else .bad j
def wrapU (o : Int) : Rs Ex → Rs Ex
  | .bad j => .bad j
  | .ok x j => .ok (un o x) j
def wrapB (o : Int) (x : Ex) : Rs Ex → Rs Ex
  | .bad j => .bad j
  | .ok y j => .ok (bin o x y) j
mutual
def pE (ts : List Lx.Tok) : Nat → Nat → Nat → Rs Ex
  | 0, _, i => .bad i
  | f + 1, l, i =>
    if l = 5 then
      if tx ts i = [45] then wrapU 2 (pE ts f 5 (i + 1))
      else if tx ts i = [43] then pE ts f 5 (i + 1)
      else pP ts f i
    else match pE ts f (l + 1) i with
      | .bad j => .bad j
      | .ok x j => pL ts f l x j
def pL (ts : List Lx.Tok) : Nat → Nat → Ex → Nat → Rs Ex
  | 0, _, _, i => .bad i
  | f + 1, l, x, i => match lop l (tx ts i) with
    | none => .ok x i
    | some o => match pE ts f (l + 1) (i + 1) with
      | .bad j => .bad j
      | .ok y j => if l = 2 then .ok (bin o x y) j else pL ts f l (bin o x y) j
def pP (ts : List Lx.Tok) : Nat → Nat → Rs Ex
  | 0, i => .bad i
  | f + 1, i =>
    if tx ts i = [65, 84, 65, 78] then match pB ts f (i + 1) with
      | .bad j => .bad j
      | .ok x j => if tx ts j = [47] then wrapB 11 x (pB ts f (j + 1)) else .bad j
    else match fun1 (tx ts i) with
      | some o => wrapU o (pB ts f (i + 1))
      | none => pC ts f i
def pC (ts : List Lx.Tok) : Nat → Nat → Rs Ex
  | 0, i => .bad i
  | f + 1, i =>
    if kd ts i = 2 then .ok (num (tn ts i)) (i + 1)
    else if tx ts i = [35] then wrapU 1 (pC ts f (i + 1))
    else pB ts f i
def pB (ts : List Lx.Tok) : Nat → Nat → Rs Ex
  | 0, i => .bad i
  | f + 1, i => if tx ts i = [91] then shut ts (pE ts f 0 (i + 1)) else .bad i
end
def Fwd (n i : Nat) (r : Rs Ex) : Prop := match r with
  | .ok _ j => i < j ∧ j ≤ n
  | .bad j => i ≤ j ∧ j ≤ n
theorem Fwd.wrapU {n i : Nat} {o : Int} {r : Rs Ex} (h : Fwd n i r) : Fwd n i (wrapU o r) := by cases r <;> exact h
theorem Fwd.wrapB {n i : Nat} {o : Int} {x : Ex} {r : Rs Ex} (h : Fwd n i r) : Fwd n i (wrapB o x r) := by cases r <;> exact h
theorem Fwd.later {n i k : Nat} {r : Rs Ex} (h : Fwd n k r) (g : i ≤ k) : Fwd n i r := by
  cases r <;> (unfold Fwd at *; simp only at *; omega)
theorem Fwd.shut {ts : List Lx.Tok} {i : Nat} {r : Rs Ex} (h : Fwd ts.length i r) : Fwd ts.length i (shut ts r) := by
  cases r with
  | bad j => exact h
  | ok x j =>
    unfold Sy.shut
    unfold Fwd at h
    simp only at h ⊢
    split
    · have := tx_lt ‹_› (by decide)
      unfold Fwd; simp only; omega
    · unfold Fwd; simp only; omega
structure FwdAll (ts : List Lx.Tok) (f : Nat) : Prop where
  e : ∀ l i, i ≤ ts.length → Fwd ts.length i (pE ts f l i)
  l : ∀ l x i, i ≤ ts.length → (match pL ts f l x i with | .ok _ j => i ≤ j ∧ j ≤ ts.length | .bad j => i ≤ j ∧ j ≤ ts.length)
  p : ∀ i, i ≤ ts.length → Fwd ts.length i (pP ts f i)
  c : ∀ i, i ≤ ts.length → Fwd ts.length i (pC ts f i)
  b : ∀ i, i ≤ ts.length → Fwd ts.length i (pB ts f i)
theorem Fwd.self {n i : Nat} (h : i ≤ n) : Fwd n i (.bad i : Rs Ex) := ⟨Nat.le_refl _, h⟩
theorem fwd (ts : List Lx.Tok) : ∀ f, FwdAll ts f
  | 0 => ⟨fun l i h => by unfold pE; exact Fwd.self h, fun l x i h => by unfold pL; exact ⟨Nat.le_refl _, h⟩, fun i h => by unfold pP; exact Fwd.self h, fun i h => by unfold pC; exact Fwd.self h, fun i h => by unfold pB; exact Fwd.self h⟩
  | f + 1 => by
    have ih := fwd ts f
    refine ⟨fun l i h => ?_, fun l x i h => ?_, fun i h => ?_, fun i h => ?_, fun i h => ?_⟩
    · unfold pE
      split
      · split
        · have g := tx_lt ‹_› (by decide)
          exact Fwd.wrapU ((ih.e 5 (i + 1) (by omega)).later (by omega))
        · split
          · have g := tx_lt ‹_› (by decide)
            exact (ih.e 5 (i + 1) (by omega)).later (by omega)
          · exact ih.p i h
      · have g := ih.e (l + 1) i h
        cases e : pE ts f (l + 1) i with
        | bad j => rw [e] at g; exact g
        | ok x j =>
          rw [e] at g
          unfold Fwd at g
          simp only at g ⊢
          have k := ih.l l x j g.2
          cases e2 : pL ts f l x j <;> rw [e2] at k <;> unfold Fwd <;> simp only at k ⊢ <;> omega
    · unfold pL
      cases e : lop l (tx ts i) with
      | none => exact ⟨Nat.le_refl _, h⟩
      | some o =>
        have g0 := lop_lt e
        have g := ih.e (l + 1) (i + 1) (by omega)
        cases e1 : pE ts f (l + 1) (i + 1) with
        | bad j => rw [e1] at g; unfold Fwd at g; simp only at g ⊢; omega
        | ok y j =>
          rw [e1] at g
          unfold Fwd at g
          simp only at g ⊢
          by_cases h2 : l = 2
          · rw [if_pos h2]; simp only; omega
          · rw [if_neg h2]
            have k := ih.l l (bin o x y) j g.2
            cases e2 : pL ts f l (bin o x y) j <;> rw [e2] at k <;> simp only at k ⊢ <;> omega
    · unfold pP
      split
      · have g0 := tx_lt ‹_› (by decide)
        have g := ih.b (i + 1) (by omega)
        cases e1 : pB ts f (i + 1) with
        | bad j => rw [e1] at g; exact Fwd.later (k := i + 1) g (by omega)
        | ok x j =>
          rw [e1] at g
          unfold Fwd at g
          simp only at g ⊢
          split
          · have g1 := tx_lt ‹_› (by decide)
            exact Fwd.wrapB ((ih.b (j + 1) (by omega)).later (by omega))
          · unfold Fwd; simp only; omega
      · cases e1 : fun1 (tx ts i) with
        | none => exact ih.c i h
        | some o =>
          have g0 : i < ts.length := by
            rcases Nat.lt_or_ge i ts.length with g | g
            · exact g
            · unfold tx at e1; rw [List.getElem?_eq_none g] at e1
              cases (show fun1 [] = some o from e1)
          exact Fwd.wrapU ((ih.b (i + 1) (by omega)).later (by omega))
    · unfold pC
      split
      · have g := kd_lt ‹_› (by decide)
        unfold Fwd; simp only; omega
      · split
        · have g := tx_lt ‹_› (by decide)
          exact Fwd.wrapU ((ih.c (i + 1) (by omega)).later (by omega))
        · exact ih.b i h
    · unfold pB
      split
      · have g := tx_lt ‹_› (by decide)
        exact Fwd.shut ((ih.e 0 (i + 1) (by omega)).later (by omega))
      · exact Fwd.self h
def fuel (ts : List Lx.Tok) : Nat := 16 * ts.length + 40
def pV (ts : List Lx.Tok) (i : Nat) : Rs Ex :=
  if tx ts i = [45] then wrapU 2 (pC ts (fuel ts) (i + 1))
  else if tx ts i = [43] then pC ts (fuel ts) (i + 1)
  else pC ts (fuel ts) i
theorem fwd_v (ts : List Lx.Tok) (i : Nat) (h : i ≤ ts.length) : Fwd ts.length i (pV ts i) := by
  unfold pV
  split
  · have g := tx_lt ‹_› (by decide)
    exact Fwd.wrapU (((fwd ts _).c (i + 1) (by omega)).later (by omega))
  · split
    · have g := tx_lt ‹_› (by decide)
      exact ((fwd ts _).c (i + 1) (by omega)).later (by omega)
    · exact (fwd ts _).c i h
def isw (c : Int) : Bool := decide (65 ≤ c) && decide (c ≤ 90) && decide (c ≠ 78) && decide (c ≠ 79)
def pW (ts : List Lx.Tok) : Nat → List (Int × Ex) → Nat → Rs (List (Int × Ex))
  | 0, _, i => .bad i
  | f + 1, ws, i => if kd ts i = 1 ∧ isw (tn ts i) = true then
      match pV ts (i + 1) with
      | .bad j => .bad j
      | .ok x j => pW ts f (ws ++ [(tn ts i, x)]) j
    else .ok ws i
def isc (n : Int) (m : Nat) : Bool := decide (n % 1000000 = 0) && decide (1 ≤ n / 1000000) && decide (n / 1000000 ≤ m)
def pN (ts : List Lx.Tok) (m i : Nat) : Rs Int :=
  if kd ts i = 2 ∧ isc (tn ts i) m = true then .ok (tn ts i / 1000000) (i + 1) else .bad i
structure Bl where
  kind : Int
  label : Int
  skip : Bool
  words : List (Int × Ex)
  left : Ex
  x : Ex
  n : Int
def zx : Ex := .mk 0 0 []
def blk (k : Int) (ws : List (Int × Ex)) (l x : Ex) (n : Int) : Bl := ⟨k, 0, false, ws, l, x, n⟩
def wrapC {α β : Type} (g : α → β) : Rs α → Rs β
  | .bad j => .bad j
  | .ok x j => .ok (g x) j
def pCt (ts : List Lx.Tok) (i : Nat) : Rs Bl :=
  if tx ts i = [35] then match pC ts (fuel ts) (i + 1) with
    | .bad j => .bad j
    | .ok c j => if tx ts j = [61] then wrapC (fun x => blk 1 [] c x 0) (pE ts (fuel ts) 0 (j + 1)) else .bad j
  else if tx ts i = [73, 70] then match pB ts (fuel ts) (i + 1) with
    | .bad j => .bad j
    | .ok x j => if tx ts j = [71, 79, 84, 79] then wrapC (fun v => blk 3 [] v x 0) (pV ts (j + 1)) else .bad j
  else if tx ts i = [71, 79, 84, 79] then wrapC (fun x => blk 2 [] zx x 0) (pV ts (i + 1))
  else if tx ts i = [87, 72, 73, 76, 69] then match pB ts (fuel ts) (i + 1) with
    | .bad j => .bad j
    | .ok x j => if tx ts j = [68, 79] then wrapC (fun n => blk 4 [] zx x n) (pN ts 3 (j + 1)) else .bad j
  else if tx ts i = [69, 78, 68] then wrapC (fun n => blk 5 [] zx zx n) (pN ts 3 (i + 1))
  else if kd ts i = 1 ∧ tn ts i = 79 then wrapC (fun n => blk 6 [] zx zx n) (pN ts 99999 (i + 1))
  else wrapC (fun ws => blk 0 ws zx zx 0) (pW ts (ts.length + 1) [] i)
def pEnd (ts : List Lx.Tok) (skip : Bool) (label : Int) : Rs Bl → Rs Bl
  | .bad j => .bad j
  | .ok b j => if j < ts.length then .bad j else .ok { b with skip := skip, label := label } j
def pLn (ts : List Lx.Tok) : Rs Bl :=
  let i := if tx ts 0 = [47] then 1 else 0
  let s := decide (tx ts 0 = [47])
  if kd ts i = 1 ∧ tn ts i = 78 then match pN ts 99999 (i + 1) with
    | .bad j => .bad j
    | .ok n j => pEnd ts s n (pCt ts j)
  else pEnd ts s 0 (pCt ts i)
end Sy
end Go.Proofs.YtbcbnkapipimmaaGreatDoor
set_option linter.unusedVariables false
set_option linter.unusedSimpArgs false
namespace Go.Proofs.YtbcbnkapipimmaaGreatDoor
namespace Sy
open Lx
def kdsl : List Nat := [0, 1, 1, 2, 2, 2, 2, 2, 1, 1, 1, 2, 1, 1, 1, 1, 1, 2, 2, 2, 2, 2, 2, 2, 2, 2]
def kds (o : Nat) : Nat := kdsl.getD o 0
def nodeB (op n : Int) (k : Nat) : Bool := decide (0 ≤ op) && decide (op ≤ 25) && decide (k = kds op.toNat) && (decide (n = 0) || (decide (op = 0) && decide (0 ≤ n) && decide (n < 1000000000000000)))
def okx : Ex → Bool
  | .mk op n ks => nodeB op n ks.length && ks.attach.all (fun ⟨k, h⟩ => okx k)
theorem okx_mk (op n : Int) (ks : List Ex) : okx (.mk op n ks) = (nodeB op n ks.length && ks.all okx) := by
  rw [okx]; simp
def dmx : List Nat → Nat
  | [] => 0
  | d :: l => max d (dmx l)
def dpt : Ex → Nat
  | .mk op n ks => 1 + dmx (ks.attach.map (fun ⟨k, h⟩ => dpt k))
theorem dpt_mk (op n : Int) (ks : List Ex) : dpt (.mk op n ks) = 1 + dmx (ks.map dpt) := by
  rw [dpt]; simp
inductive Form : Ex → Prop where
  | num (n : Int) (h0 : 0 ≤ n) (h1 : n < 1000000000000000) : Form (num n)
  | un (o : Nat) (x : Ex) (hx : okx x = true) (h : o = 1 ∨ o = 2 ∨ (8 ≤ o ∧ o ≤ 10) ∨ (12 ≤ o ∧ o ≤ 16)) : Form (un o x)
  | bin (o : Nat) (x y : Ex) (hx : okx x = true) (hy : okx y = true) (h : (3 ≤ o ∧ o ≤ 7) ∨ o = 11 ∨ (17 ≤ o ∧ o ≤ 25)) : Form (bin o x y)
theorem kds_0 : ∀ o, o < 26 → kds o = 0 → o = 0 := by decide
theorem kds_1 : ∀ o, o < 26 → kds o = 1 → (o = 1 ∨ o = 2 ∨ (8 ≤ o ∧ o ≤ 10) ∨ (12 ≤ o ∧ o ≤ 16)) := by decide
theorem kds_2 : ∀ o, o < 26 → kds o = 2 → ((3 ≤ o ∧ o ≤ 7) ∨ o = 11 ∨ (17 ≤ o ∧ o ≤ 25)) := by decide
theorem kds_le : ∀ o, o < 26 → kds o = 0 ∨ kds o = 1 ∨ kds o = 2 := by decide
theorem kds_1i : ∀ o, o < 26 → (o = 1 ∨ o = 2 ∨ (8 ≤ o ∧ o ≤ 10) ∨ (12 ≤ o ∧ o ≤ 16)) → kds o = 1 := by decide
theorem kds_2i : ∀ o, o < 26 → ((3 ≤ o ∧ o ≤ 7) ∨ o = 11 ∨ (17 ≤ o ∧ o ≤ 25)) → kds o = 2 := by decide
theorem form {x : Ex} (h : okx x = true) : Form x := by
  obtain ⟨op, n, ks⟩ := x
  rw [okx_mk] at h
  simp only [nodeB, Bool.and_eq_true, Bool.or_eq_true, decide_eq_true_eq] at h
  obtain ⟨⟨⟨⟨h0, h1⟩, hk⟩, hn⟩, ha⟩ := h
  have hb : op.toNat < 26 := by omega
  have ho : (op.toNat : Int) = op := by omega
  rcases kds_le op.toNat hb with k | k | k
  · have e := kds_0 _ hb k
    rw [k] at hk
    obtain rfl := List.eq_nil_of_length_eq_zero hk
    have : op = 0 := by omega
    subst this
    exact Form.num n (by omega) (by omega)
  · have e := kds_1 _ hb k
    rw [k] at hk
    have hn0 : n = 0 := by rcases hn with hn | ⟨⟨hn, _⟩, _⟩ <;> omega
    subst hn0
    obtain ⟨x, rfl⟩ := List.length_eq_one_iff.1 hk
    have := Form.un op.toNat x (by simpa using ha) e
    rw [Sy.un, ho] at this; exact this
  · have e := kds_2 _ hb k
    rw [k] at hk
    have hn0 : n = 0 := by rcases hn with hn | ⟨⟨hn, _⟩, _⟩ <;> omega
    subst hn0
    obtain ⟨x, y, rfl⟩ : ∃ x y, ks = [x, y] := by
      match ks, hk with
      | [x, y], _ => exact ⟨x, y, rfl⟩
    simp at ha
    have := Form.bin op.toNat x y ha.1 ha.2 e
    rw [Sy.bin, ho] at this; exact this
theorem okx_num {n : Int} (h0 : 0 ≤ n) (h1 : n < 1000000000000000) : okx (num n) = true := by
  rw [num, okx_mk]; simp [nodeB, kds, kdsl, h0, h1]
theorem okx_un {o : Nat} {x : Ex} (h : okx x = true) (ho : o = 1 ∨ o = 2 ∨ (8 ≤ o ∧ o ≤ 10) ∨ (12 ≤ o ∧ o ≤ 16)) : okx (un o x) = true := by
  rw [un, okx_mk]
  simp only [nodeB, Bool.and_eq_true, Bool.or_eq_true, decide_eq_true_eq]
  refine ⟨⟨⟨⟨by omega, by omega⟩, ?_⟩, .inl trivial⟩, by simp [h]⟩
  rw [show ((o : Int)).toNat = o by omega, kds_1i o (by omega) ho]; rfl
theorem okx_bin {o : Nat} {x y : Ex} (h : okx x = true) (h' : okx y = true) (ho : (3 ≤ o ∧ o ≤ 7) ∨ o = 11 ∨ (17 ≤ o ∧ o ≤ 25)) : okx (bin o x y) = true := by
  rw [bin, okx_mk]
  simp only [nodeB, Bool.and_eq_true, Bool.or_eq_true, decide_eq_true_eq]
  refine ⟨⟨⟨⟨by omega, by omega⟩, ?_⟩, .inl trivial⟩, by simp [h, h']⟩
  rw [show ((o : Int)).toNat = o by omega, kds_2i o (by omega) ho]; rfl
def Good (ts : List Lx.Tok) : Prop := ∀ t ∈ ts, (t.k = 2 → 0 ≤ t.n ∧ t.n < 1000000000000000) ∧ (t.x ≠ [] → t.k = 3 ∨ t.k = 4) ∧ (t.k = 3 ∨ t.k = 4 → t.x ≠ []) ∧ (t.k = 1 → 65 ≤ t.n ∧ t.n ≤ 90)
def OkR (r : Rs Ex) : Prop := match r with
  | .ok x _ => okx x = true
  | .bad _ => True
theorem OkR.shut {ts : List Lx.Tok} {r : Rs Ex} (h : OkR r) : OkR (shut ts r) := by
  cases r with
  | bad j => trivial
  | ok x j =>
    unfold Sy.shut; simp only
    by_cases e : tx ts j = [93]
    · rw [if_pos e]; exact h
    · rw [if_neg e]; trivial
theorem OkR.wrapU {o : Nat} {r : Rs Ex} (h : OkR r) (ho : o = 1 ∨ o = 2 ∨ (8 ≤ o ∧ o ≤ 10) ∨ (12 ≤ o ∧ o ≤ 16)) : OkR (wrapU o r) := by
  cases r with
  | bad j => trivial
  | ok x j => exact okx_un h ho
theorem OkR.wrapB {o : Nat} {x : Ex} {r : Rs Ex} (hx : okx x = true) (h : OkR r) (ho : (3 ≤ o ∧ o ≤ 7) ∨ o = 11 ∨ (17 ≤ o ∧ o ≤ 25)) : OkR (wrapB o x r) := by
  cases r with
  | bad j => trivial
  | ok y j => exact okx_bin hx h ho
theorem fun1_range {x : List UInt8} {o : Nat} (h : fun1 x = some o) : (8 ≤ o ∧ o ≤ 10) ∨ (12 ≤ o ∧ o ≤ 16) := by
  unfold fun1 at h
  split at h
  · injection h with h; subst h
    have := fop_range ‹_›; omega
  · have := fop_range h; omega
theorem lop_range {l : Nat} {x : List UInt8} {o : Nat} (h : lop l x = some o) : (3 ≤ o ∧ o ≤ 7) ∨ o = 11 ∨ (17 ≤ o ∧ o ≤ 25) := by
  unfold lop at h
  have := fop_range h
  unfold lo cn at this
  split at this <;> simp at this <;> omega
theorem num_ok {ts : List Lx.Tok} (hg : Good ts) {i : Nat} (h : kd ts i = 2) : 0 ≤ tn ts i ∧ tn ts i < 1000000000000000 := by
  have g := kd_lt h (by decide)
  unfold kd at h; unfold tn
  rw [List.getElem?_eq_getElem g] at h ⊢
  exact (hg _ (List.getElem_mem g)).1 h
structure OkAll (ts : List Lx.Tok) (f : Nat) : Prop where
  e : ∀ l i, OkR (pE ts f l i)
  l : ∀ l x i, okx x = true → OkR (pL ts f l x i)
  p : ∀ i, OkR (pP ts f i)
  c : ∀ i, OkR (pC ts f i)
  b : ∀ i, OkR (pB ts f i)
theorem okr (ts : List Lx.Tok) (hg : Good ts) : ∀ f, OkAll ts f
  | 0 => ⟨fun l i => by unfold pE; trivial, fun l x i h => by unfold pL; trivial, fun i => by unfold pP; trivial, fun i => by unfold pC; trivial, fun i => by unfold pB; trivial⟩
  | f + 1 => by
    have ih := okr ts hg f
    refine ⟨fun l i => ?_, fun l x i h => ?_, fun i => ?_, fun i => ?_, fun i => ?_⟩
    · unfold pE
      split
      · split
        · exact OkR.wrapU (o := 2) (ih.e 5 (i + 1)) (by omega)
        · split
          · exact ih.e 5 (i + 1)
          · exact ih.p i
      · have g := ih.e (l + 1) i
        cases e : pE ts f (l + 1) i with
        | bad j => trivial
        | ok x j => rw [e] at g; exact ih.l l x j g
    · unfold pL
      cases e : lop l (tx ts i) with
      | none => exact h
      | some o =>
        have g := ih.e (l + 1) (i + 1)
        cases e1 : pE ts f (l + 1) (i + 1) with
        | bad j => trivial
        | ok y j =>
          rw [e1] at g
          have k : okx (bin o x y) = true := okx_bin h g (lop_range e)
          simp only
          split
          · exact k
          · exact ih.l l _ j k
    · unfold pP
      split
      · have g := ih.b (i + 1)
        cases e1 : pB ts f (i + 1) with
        | bad j => trivial
        | ok x j =>
          rw [e1] at g
          simp only
          split
          · exact OkR.wrapB (o := 11) g (ih.b (j + 1)) (by omega)
          · trivial
      · cases e1 : fun1 (tx ts i) with
        | none => exact ih.c i
        | some o => exact OkR.wrapU (ih.b (i + 1)) (by have := fun1_range e1; omega)
    · unfold pC
      split
      · have := num_ok hg ‹_›
        exact okx_num this.1 this.2
      · split
        · exact OkR.wrapU (o := 1) (ih.c (i + 1)) (by omega)
        · exact ih.b i
    · unfold pB
      split
      · exact OkR.shut (ih.e 0 (i + 1))
      · trivial
def smp (x : Ex) : Bool := decide (x.op = 0) || decide (x.op = 1)
def need (n i l : Nat) : Nat := 16 * (n - i) + 4 + (5 - l)
def binB (o : Nat) : Bool := (decide (3 ≤ o) && decide (o ≤ 7)) || (decide (17 ≤ o) && decide (o ≤ 25))
theorem binB_of {o : Nat} (h : (3 ≤ o ∧ o ≤ 7) ∨ o = 11 ∨ (17 ≤ o ∧ o ≤ 25)) (h' : o ≠ 11) : binB o = true := by
  unfold binB; simp; omega
end Sy
end Go.Proofs.YtbcbnkapipimmaaGreatDoor

