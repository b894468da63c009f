
/- The walks of fixed.appendFraction and fixed.Format. -/
import Derived.Test.YthfgpmdgklphkaaDoorFxA
import Derived.Test.YthfgpmdgklphkaaDoorFxF
import Derived.Test.YthfgpmdgklphkaaDoorLaidA
import Derived.Test.YthfgpmdgklphkaaDoorRefB
import Derived.Laws.IdiomStrings
import Derived.Outline
set_option linter.unusedVariables false
set_option linter.unusedSimpArgs false
namespace Go.Proofs.YthfgpmdgklphkaaDoor
open Go.RowKit

/-- A slice that holds the bytes l in a block of its own, from block B on. -/
def OwnB (B : Nat) (w : World) (v : Value) (l : List UInt8) : Prop := w.ownsRow B 5 1 v l.length (Lib.byteCells l)

theorem ownB_nil (B : Nat) (w : World) : OwnB B w (.slice none 0 0) [] := World.ownsRow_nil w _ _ _

theorem info_u8 : (Tryd.prog.info? 5).map (fun i => (i.zero, i.size, i.bytes)) = some (some (.int .u8 0), 1, 1) := by kernel_rfl

theorem ownB_push {B : Nat} {w : World} {v : Value} {l : List UInt8} {c : UInt8} (h : w.ownsRow B 5 1 v (l.length + 1) (Lib.byteCells l ++ [.int .u8 (c.toNat : Int)])) : OwnB B w v (l ++ [c]) := by
  unfold OwnB
  rw [show (l ++ [c]).length = l.length + 1 by simp, show Lib.byteCells (l ++ [c]) = Lib.byteCells l ++ [.int .u8 (c.toNat : Int)] by simp [Lib.byteCells]]
  exact h

theorem below_grown {B : Nat} {w wr w1 : World} {v : Value} {l : List UInt8} (h : Below B w wr) (hB : B ≤ w.heap.size) (hr : OwnB B wr v l) (wx : World) (hq : Below wr.heap.size wr wx) (hg : wx.grownBy w1 v.ownBlock) : Below B w w1 :=
  Below.grown (h.trans (hq.mono (by have := h.size; omega))) hg (by have := h.size; have := hq.size; omega) (fun k hk => (World.ownsRow.lt hr k hk).1)

/-- What is known at the head of a round of appendFraction. -/
def FracK (B : Nat) (f : Int) (l : List UInt8) (w : World) (tv fv uv : Value) (wr : World) (k : Nat) : Prop :=
  k ≤ 6 ∧ (∀ i, i < k → f % um i ≠ 0) ∧ fv = .int .i64 (f % um k) ∧ uv = .int .i64 (un k) ∧ OwnB B wr tv (l ++ 46 :: dgs f k) ∧ Below B w wr

set_option maxRecDepth 100000 in
set_option maxHeartbeats 1000000 in
theorem fxFrac (B : Nat) (f : Int) (v : Value) (l : List UInt8) (w : World) (f0 : 0 ≤ f) (f1 : f < 1000000) (hr : OwnB B w v l) (hB : B ≤ w.heap.size) (hl : l.length ≤ 1000) :
    Calls Tryd.prog 57 #[v, .int .i64 f] w fun e w' => ∃ v', e = .returned v' ∧ OwnB B w' v' (l ++ frac f) ∧ Below B w w' := by
  obtain ⟨i0, hi, hz0, hz1, hz2⟩ := info_parts info_u8
  unfold frac
  by_cases hz : f = 0
  · rw [if_pos hz, List.append_nil]
    subst hz
    go_enter Tryd.func57, Tryd.ntmps57
    go_wp2
    go_ret
    exact ⟨_, rfl, hr, Below.refl _ _⟩
  · rw [if_neg hz]
    have bz : (f == 0) = false := beq_eq_false_iff_ne.2 hz
    have Hr := Lib.hid hr
    have Hz := Lib.hid hz
    clear hr hz
    go_enter Tryd.func57, Tryd.ntmps57
    go_wp2_with (at_builtin; refine wpList_append_own _ rfl _ _ 52 rfl B 5 i0 (.int .u8 0) 1 1 Tryd.underlying52 hi hz0 hz1 hz2 rfl (by decide) _ _ _ rfl (World.ownsRow.alloc Hr.out _) ⟨w.heap.size, 0, none⟩ 1 1 [.int .u8 46] rfl rfl (cell_one_new _ _ _) (ints_oneCell .u8 [46]) (by unfold maxLen; omega) (by omega) (by simp; omega) ?_)
    intro v1 w1 hown1 hgrow1 _
    have h1 : OwnB B w1 v1 (l ++ [46]) := ownB_push (c := 46) hown1
    have q1 : Below B w w1 := below_grown (Below.refl _ _) hB Hr.out _ ((Below.refl _ _).alloc (Nat.le_refl _) _) hgrow1
    clear hown1 hgrow1
    have H1 := Lib.hid h1
    clear h1
    go_wp2
    go_loopw [0, 1, 5] (fun tv fv uv wr => ∃ k, FracK B f l w tv fv uv wr k) (fun _ _ uv _ => (intOf uv).toNat)
    case atStart => exact ⟨0, by omega, fun i hi => by omega, by simp only [um]; rw [Int.emod_eq_of_lt f0 f1], rfl, H1.out, q1⟩
    case round =>
      obtain ⟨k, hk6, hne, rfl, rfl, hown, hq⟩ := hrel
      have x0 : 0 ≤ f % um k := Int.emod_nonneg _ (by have := um_pos k; omega)
      have K : Hid (k ≤ 5 → dn f k = f % um k / un k ∧ f % um (k + 1) = f % um k % un k ∧ un (k + 1) = un k / 10) := Lib.hid fun h => ⟨rfl, (mod_step f k h).symm, (un_step k h).symm⟩
      have Hn := Lib.hid hne
      have Ho := Lib.hid hown
      clear hne hown
      by_cases hx : 0 < f % um k
      · have k5 : k ≤ 5 := by
          rcases Nat.lt_or_ge 5 k with h | h
          · have : k = 6 := by omega
            subst this; simp only [um] at hx; omega
          · exact h
        obtain ⟨u1, u2, u3, u4⟩ := un_um k k5
        obtain ⟨d0, d1⟩ := dn_bd f k k5
        have dn' := dg_nat f k k5
        have xu : f % um k < um k := Int.emod_lt_of_pos _ (by have := um_pos k; omega)
        obtain ⟨e1, e2, e3⟩ := K.out k5
        rw [e1] at d0 d1 dn'
        have hne' : ∀ i, i < k + 1 → f % um i ≠ 0 := fun i hi => by
          rcases Nat.lt_or_ge i k with h | h
          · exact Hn.out i h
          · obtain rfl : i = k := by omega
            omega
        have Hn2 := Lib.hid hne'
        clear hne' u1 K
        obtain ⟨x, ex⟩ : ∃ x, f % um k = x := ⟨_, rfl⟩
        obtain ⟨u, eu⟩ : ∃ u, un k = u := ⟨_, rfl⟩
        rw [ex] at hx x0 d0 d1 xu dn' e2
        rw [eu] at d0 d1 u2 u3 u4 dn' e2 e3
        rw [ex, eu]
        have E := Lib.hid (And.intro e2 (And.intro e3 dn'))
        have x1 : x ≤ 1000000 := by omega
        have zu : (u == 0) = false := beq_eq_false_iff_ne.2 (by omega)
        have m0 : 0 ≤ x % u := Int.emod_nonneg _ (by omega)
        have m1 : x % u < u := Int.emod_lt_of_pos _ (by omega)
        clear e1 e2 e3 dn' ex eu xu
        have hs := hq.size
        go_wp2_with (at_builtin; refine wpList_append_own _ rfl _ _ 52 rfl B 5 i0 (.int .u8 0) 1 1 Tryd.underlying52 hi hz0 hz1 hz2 rfl (by decide) _ _ _ rfl (World.ownsRow.alloc Ho.out _) ⟨wr.heap.size, 0, none⟩ 1 1 [.int .u8 (48 + x / u)] rfl rfl (cell_one_new _ _ _) (ints_oneCell .u8 [48 + x / u]) (by unfold maxLen; simp [dgs_length]; omega) (by simp [dgs_length]; omega) (by simp; omega) ?_)
        intro v2 w2 hown2 hgrow2 _
        have h2 : OwnB B w2 v2 ((l ++ 46 :: dgs f k) ++ [dg f k]) := ownB_push (by rw [E.out.2.2, List.length_append, List.length_cons]; exact hown2)
        have q2 : Below B w w2 := below_grown hq hB Ho.out _ ((Below.refl _ _).alloc (Nat.le_refl _) _) hgrow2
        clear hown2 hgrow2 hq hs
        rw [List.append_assoc, List.cons_append, ← dgs_succ] at h2
        have H2 := Lib.hid h2
        clear h2
        go_wp2
        go_roundw
        case rel => exact ⟨k + 1, by omega, Hn2.out, by rw [E.out.1], by rw [E.out.2.1], H2.out, q2⟩
        case measure => simp [intOf]; omega
      · have hx0 : f % um k = 0 := by omega
        have hk : kf f = k := kf_eq hk6 (by simp only [um]; rw [Int.emod_eq_of_lt f0 f1]; exact Hz.out) hx0 Hn.out
        have HK := Lib.hid hk
        rw [hx0]
        clear hk hx0 hx x0 K
        go_wp2
        go_ret
        exact ⟨_, rfl, by rw [HK.out]; exact Ho.out, hq⟩

theorem ownB_more {B : Nat} {w : World} {v : Value} {l k : List UInt8} (h : w.ownsRow B 5 1 v (l.length + k.length) (Lib.byteCells l ++ Lib.byteCells k)) : OwnB B w v (l ++ k) := by
  unfold OwnB
  rw [List.length_append, show Lib.byteCells (l ++ k) = Lib.byteCells l ++ Lib.byteCells k by simp [Lib.byteCells]]
  exact h

theorem dec_len10 (l : List UInt8) (m : Int) (hl : l.length ≤ 1) (h0 : 0 ≤ m) (h1 : m ≤ 1000000000000000) : (l ++ Lib.decDigits (m / 1000000).toNat).length ≤ 1000 := by
  have p : (10 : Nat) ^ (9 + 1) = 10000000000 := by decide
  have := dec_len 9 (m / 1000000).toNat (by rw [p]; omega)
  rw [List.length_append]; omega

/-- The table of powers of ten reads as it was laid. -/
def Tb (w : World) : Prop := Lib.TabBelow Tryd.prog w.heap.size w "internal/strconv.uint64pow10" .u64 Lib.pow10Tab
theorem Tb.kept {w w' : World} (h : Tb w) (q : Qw w w') : Tb w' := fun w'' q' => h w'' (Below.trans q (Below.mono q' q.size))

theorem own_cases {B : Nat} {w : World} {v : Value} {l : List UInt8} (h : OwnB B w v l) (hl : l ≠ []) :
    ∃ g cap, v = .slice (some ⟨g, 0, none⟩) l.length cap ∧ ∀ j (hj : j < l.length), w.cell? ((⟨g, 0, none⟩ : Addr).add j) = some (.int .u8 (l[j].toNat : Int)) := by
  have h0 := h
  obtain ⟨h1, h2⟩ := h
  rcases h2 with ⟨h2, h3⟩ | ⟨g, cap, cur, rfl, hg, hh, r1, r2, r3, r4⟩
  · exact absurd (List.eq_nil_of_length_eq_zero h3) hl
  · refine ⟨g, cap, rfl, fun j hj => ?_⟩
    refine World.ownsRow.cells h0 rfl j _ ?_
    unfold Lib.byteCells
    rw [List.getElem?_map, List.getElem?_eq_getElem hj]; rfl

set_option maxRecDepth 100000 in
set_option maxHeartbeats 1000000 in
theorem fxFormat (n : Int) (w : World) (ht : Tb w) :
    Calls Tryd.prog 26 #[.int .i64 n] w fun e w' => e = .returned (.string ⟨(fmtl n).toArray⟩) ∧ Qw w w' := by
  obtain ⟨i0, hi, hz0, hz1, hz2⟩ := info_parts info_u8
  have q0 : Below w.heap.size w w := Below.refl _ _
  have HT := Lib.hid ht
  cases hv : vld n
  · rw [show fmtl n = [] from if_neg (by rw [hv]; decide)]
    go_enter Tryd.func26, Tryd.ntmps26
    go_wp2_with (go_at_call 24; refine (fxValid _ _).mono ?_; rintro e w' ⟨rfl, rfl⟩)
    go_ret
    exact ⟨rfl, Qw.refl _⟩
  · obtain ⟨a1, a2⟩ := vld_bd hv
    by_cases hn : n < 0
    · obtain ⟨m, rfl⟩ : ∃ m, n = -m := ⟨-n, by omega⟩
      rw [show fmtl (-m) = [45] ++ fmtp m by unfold fmtl; rw [if_pos hv, if_pos hn, Int.neg_neg]; rfl]
      have m0 : 0 < m := by omega
      have m1 : m ≤ 1000000000000000 := by omega
      clear hn a1 a2
      unfold fmtp
      rw [← List.append_assoc]
      have o0 := Lib.hid (ownB_nil w.heap.size w)
      go_enter Tryd.func26, Tryd.ntmps26
      go_wp2_with (first | (go_at_call 24; refine (fxValid _ _).mono ?_; rintro e w' ⟨rfl, rfl⟩) | (at_builtin; refine wpList_append_own _ rfl _ _ 52 rfl w.heap.size 5 i0 (.int .u8 0) 1 1 Tryd.underlying52 hi hz0 hz1 hz2 rfl (by decide) _ _ _ rfl (World.ownsRow.alloc o0.out _) ⟨w.heap.size, 0, none⟩ 1 1 [.int .u8 45] rfl rfl (cell_one_new _ _ _) (ints_oneCell .u8 [45]) (by unfold maxLen; simp) (by simp) (by simp) ?_))
      intro v1 w1 hown1 hgrow1 _
      have h1 : OwnB w.heap.size w1 v1 ([] ++ [45]) := ownB_push (c := 45) hown1
      have q1 : Below w.heap.size w w1 := below_grown q0 (Nat.le_refl _) o0.out _ ((Below.refl _ _).alloc (Nat.le_refl _) _) hgrow1
      clear hown1 hgrow1 o0
      rw [List.nil_append] at h1
      have H1 := Lib.hid h1
      clear h1
      go_wp2_with fail
      refine (Tryd.strconv_AppendInt_10 w.heap.size 1 (m / 1000000) (by omega) (by omega) v1 (Lib.byteCells [45]) _ H1.out (by have := q1.size; omega) (by decide) (HT.out.on q1)).mono ?_
      rintro e w2 ⟨v2, rfl, hown2, hb2, _⟩
      have it : Lib.itoa (m / 1000000) = Lib.decDigits (m / 1000000).toNat := by unfold Lib.itoa; rw [if_neg (by omega)]
      rw [it] at hown2
      have h2 : OwnB w.heap.size w2 v2 ([45] ++ Lib.decDigits (m / 1000000).toNat) := ownB_more hown2
      have q2 : Below w.heap.size w w2 := q1.trans hb2
      have l2 : ([45] ++ Lib.decDigits (m / 1000000).toNat).length ≤ 1000 := dec_len10 _ _ (by decide) (by omega) (by omega)
      have H2 := Lib.hid h2
      clear it hown2 hb2 h2
      go_wp2_with fail
      refine (fxFrac w.heap.size (m % 1000000) v2 _ _ (by omega) (by omega) H2.out (by have := q2.size; omega) l2).mono ?_
      rintro e w3 ⟨v3, rfl, h3, hb3⟩
      have q3 : Below w.heap.size w w3 := q2.trans hb3
      obtain ⟨g, cap, rfl, hc⟩ := own_cases h3 (by simp [dec_ne])
      have cv := run_convert_bytes_back (P := Tryd.prog) w3 52 9 5 ⟨g, 0, none⟩ cap _ Tryd.underlying52 Tryd.underlying5 Tryd.underlying9 hc
      clear h3 hb3 hc H2 l2
      generalize hX : [45] ++ Lib.decDigits (m / 1000000).toNat ++ frac (m % 1000000) = X at *
      have HX := Lib.hid hX
      clear hX
      go_wp2
      go_ret
      exact ⟨by rw [← HX.out]; rfl, q3⟩
    · rw [show fmtl n = [] ++ fmtp n from (if_pos hv).trans (if_neg hn)]
      unfold fmtp
      rw [← List.append_assoc]
      have H1 := Lib.hid (ownB_nil w.heap.size w)
      go_enter Tryd.func26, Tryd.ntmps26
      go_wp2_with (go_at_call 24; refine (fxValid _ _).mono ?_; rintro e w' ⟨rfl, rfl⟩)
      go_wp2_with fail
      refine (Tryd.strconv_AppendInt_10 w.heap.size 0 (n / 1000000) (by omega) (by omega) (.slice none 0 0) (Lib.byteCells []) _ H1.out (by have := q0.size; omega) (by decide) (HT.out.on q0)).mono ?_
      rintro e w2 ⟨v2, rfl, hown2, hb2, _⟩
      have it : Lib.itoa (n / 1000000) = Lib.decDigits (n / 1000000).toNat := by unfold Lib.itoa; rw [if_neg (by omega)]
      rw [it] at hown2
      have h2 : OwnB w.heap.size w2 v2 ([] ++ Lib.decDigits (n / 1000000).toNat) := ownB_more hown2
      have q2 : Below w.heap.size w w2 := q0.trans hb2
      have l2 : ([] ++ Lib.decDigits (n / 1000000).toNat).length ≤ 1000 := dec_len10 _ _ (by decide) (by omega) (by omega)
      have H2 := Lib.hid h2
      clear it hown2 hb2 h2
      go_wp2_with fail
      refine (fxFrac w.heap.size (n % 1000000) v2 _ _ (by omega) (by omega) H2.out (by have := q2.size; omega) l2).mono ?_
      rintro e w3 ⟨v3, rfl, h3, hb3⟩
      have q3 : Below w.heap.size w w3 := q2.trans hb3
      obtain ⟨g, cap, rfl, hc⟩ := own_cases h3 (by simp [dec_ne])
      have cv := run_convert_bytes_back (P := Tryd.prog) w3 52 9 5 ⟨g, 0, none⟩ cap _ Tryd.underlying52 Tryd.underlying5 Tryd.underlying9 hc
      clear h3 hb3 hc H2 l2
      generalize hX : [] ++ Lib.decDigits (n / 1000000).toNat ++ frac (n % 1000000) = X at *
      have HX := Lib.hid hX
      clear hX
      go_wp2
      go_ret
      exact ⟨by rw [← HX.out]; rfl, q3⟩

end Go.Proofs.YthfgpmdgklphkaaDoor
