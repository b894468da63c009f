import Derived.Test.YthfcimfoinidbaaDoorZd24
set_option linter.unusedVariables false
set_option linter.unusedSimpArgs false
namespace Go.Proofs.YthfcimfoinidbaaDoor
open Go.RowKit
def bcs (b : Sy.Bl) (wa : Option Addr) (wc : Nat) (la : Option Addr) (lc : Nat) (xa : Option Addr) (xc : Nat) : Array Value := #[.int .i64 b.kind, .int .i64 b.label, .bool b.skip, .slice wa b.words.length wc, .int .i64 b.left.op, .int .i64 b.left.n, .slice la b.left.ks.length lc, .int .i64 b.x.op, .int .i64 b.x.n, .slice xa b.x.ks.length xc, .int .i64 b.n]
theorem lineW {s : ByteArray} {b : Sy.Bl} {n : Nat} {er : Int} (hs : s.size ≤ 1000000) (e : Sy.lnR s.data.toList = (b, n, er)) (w : World) (hT : Tn w) (hO : Ow w) :
    Calls Tryd.prog 10 #[.string s] w fun e w' => ∃ wa wc la lc xa xc, e = .returned (.tuple #[.agg #[.int .i64 b.kind, .int .i64 b.label, .bool b.skip, .slice wa b.words.length wc, .int .i64 b.left.op, .int .i64 b.left.n, .slice la b.left.ks.length lc, .int .i64 b.x.op, .int .i64 b.x.n, .slice xa b.x.ks.length xc, .int .i64 b.n], .int .i64 (n : Int), .int .i64 er]) ∧ BlkB w' (fun b => w.heap.size ≤ b) b (bcs b wa wc la lc xa xc) ∧ Qw w w' := by
  have h := sz_line s hs w hT hO
  rw [e] at h
  refine h.mono ?_
  rintro e w' ⟨⟨cs, rfl, B⟩, q⟩
  have B0 := B
  obtain ⟨wa, wc, la, lc, xa, xc, rfl, _, _, _⟩ := B
  exact ⟨wa, wc, la, lc, xa, xc, rfl, B0, q⟩
theorem BlkB.kept {w w' : World} {S : Nat → Prop} {b : Sy.Bl} {cs : Array Value} (h : BlkB w S b cs) (q : Qw w w') : BlkB w' S b cs := h.go fun b hS hb => ⟨q.block b hb, hS⟩
theorem awake6 (w : World) (hT : Tn w) (hO : Ow w) (hB : Tb w) : Calls Tryd.prog 6 #[] w fun e w' => e = .returned (.bool true) ∧ Qw w w' := by
  have c1 : ∀ w1, Qw w w1 → _ := fun w1 q => lineW (s := ⟨#[78, 49, 48, 71, 48, 49, 88, 45, 91, 35, 49, 43, 50, 42, 51, 93]⟩) (by decide) Sy.aw_line w1 (hT.kept q) (hO.kept q)
  have c2 : ∀ w1, Qw w w1 → _ := fun w1 q => lineW (s := ⟨#[110]⟩) (by decide) Sy.aw_n w1 (hT.kept q) (hO.kept q)
  have c3 : ∀ (w1 : World) (wa : Option Addr) (wc : Nat) (la : Option Addr) (lc : Nat) (xa : Option Addr) (xc : Nat) (S : Nat → Prop), Qw w w1 → BlkB w1 S Sy.awB (bcs Sy.awB wa wc la lc xa xc) → Calls Tryd.prog 12 #[.agg #[.int .i64 Sy.awB.kind, .int .i64 Sy.awB.label, .bool Sy.awB.skip, .slice wa Sy.awB.words.length wc, .int .i64 Sy.awB.left.op, .int .i64 Sy.awB.left.n, .slice la Sy.awB.left.ks.length lc, .int .i64 Sy.awB.x.op, .int .i64 Sy.awB.x.n, .slice xa Sy.awB.x.ks.length xc, .int .i64 Sy.awB.n]] w1 fun e w' => e = .returned (.string ⟨#[78, 49, 48, 32, 71, 49, 32, 88, 91, 45, 91, 35, 49, 32, 43, 32, 91, 50, 32, 42, 32, 51, 93, 93, 93]⟩) ∧ Qw w1 w' := fun w1 wa wc la lc xa xc S q hb => by
    have := sx_format Sy.awB _ S w1 (hO.kept q) (hB.kept q) hb
    rw [Sy.aw_fmt] at this
    exact this
  have C1 := Lib.hid c1
  have C2 := Lib.hid c2
  have C3 := Lib.hid c3
  clear c1 c2 c3 hT hO hB
  generalize Sy.awB = aw at *
  generalize Sy.zb = zb at *
  have q0 : Hid (Qw w w) := Lib.hid (Qw.refl w)
  go_enter Tryd.func6, Tryd.ntmps6
  go_wp2_with (first
    | (go_at_call 10; ((with_reducible refine (C1.out _ (by repeat (first | exact q0.out | exact Qw.refl _ | refine Qw.al ?_ _ | refine Qw.dr ?_ | refine Qw.dn ?_ _ | refine Qw.sc ?_ (by first | (simp; done) | omega | (have := q0.out.size; first | omega | (simp; omega))) _))).mono ?_); rintro e w' ⟨wa, wc, la, lc, xa, xc, rfl, hb, q⟩; have HB := Lib.hid hb; have X0 : Bx (w'.alloc (.cells #[.int .i64 aw.kind, .int .i64 aw.label, .bool aw.skip, .slice wa aw.words.length wc, .int .i64 aw.left.op, .int .i64 aw.left.n, .slice la aw.left.ks.length lc, .int .i64 aw.x.op, .int .i64 aw.x.n, .slice xa aw.x.ks.length xc, .int .i64 aw.n] 34)) w'.heap.size _ _ := Bx.new _ _ _; have X := Lib.hid X0; clear X0 hb; replace q0 : Hid (Qw w w') := Lib.hid (Qw.trans (by repeat (first | exact q0.out | exact Qw.refl _ | refine Qw.al ?_ _ | refine Qw.dr ?_ | refine Qw.dn ?_ _ | refine Qw.sc ?_ (by first | (simp; done) | omega | (have := q0.out.size; first | omega | (simp; omega))) _)) q); clear q; clear C1))
    | (go_at_call 10; ((with_reducible refine (C2.out _ (by repeat (first | exact q0.out | exact Qw.refl _ | refine Qw.al ?_ _ | refine Qw.dr ?_ | refine Qw.dn ?_ _ | refine Qw.sc ?_ (by first | (simp; done) | omega | (have := q0.out.size; first | omega | (simp; omega))) _))).mono ?_); rintro e w' ⟨ya, yc, yb, yd, ye, yf, rfl, hb, q⟩; clear hb; replace X := Lib.hid (Bx.kept X.out q); replace HB := Lib.hid (BlkB.kept HB.out (Qw.trans (by unfold Qw; exact (Below.refl _ _).alloc (Nat.le_refl _) _) q)); have xn := Nat.ne_of_lt X.out.lt; have xl := X.out.lt; have x0 := X.out.cell' 0 _ rfl; have x1 := X.out.cell' 1 _ rfl; have x2 := X.out.cell' 2 _ rfl; have x3 := X.out.cell' 3 _ rfl; have x4 := X.out.cell' 4 _ rfl; have x5 := X.out.cell' 5 _ rfl; have x6 := X.out.cell' 6 _ rfl; have x7 := X.out.cell' 7 _ rfl; have x8 := X.out.cell' 8 _ rfl; have x9 := X.out.cell' 9 _ rfl; have x10 := X.out.cell' 10 _ rfl; replace q0 : Hid (Qw w w') := Lib.hid (Qw.trans (by repeat (first | exact q0.out | exact Qw.refl _ | refine Qw.al ?_ _ | refine Qw.dr ?_ | refine Qw.dn ?_ _ | refine Qw.sc ?_ (by first | (simp; done) | omega | (have := q0.out.size; first | omega | (simp; omega))) _)) q); clear q))
    | (go_at_call 12; ((with_reducible refine (C3.out _ _ _ _ _ _ _ _ (by repeat (first | exact q0.out | exact Qw.refl _ | refine Qw.al ?_ _ | refine Qw.dr ?_ | refine Qw.dn ?_ _ | refine Qw.sc ?_ (by first | (simp; done) | omega | (have := q0.out.size; first | omega | (simp; omega))) _)) (BlkB.kept HB.out (by unfold Qw; repeat (first | exact Below.refl _ _ | refine Below.alloc ?_ (Nat.le_refl _) _ | refine Below.drew ?_)))).mono ?_); rintro e w' ⟨rfl, q⟩; replace q0 : Hid (Qw w w') := Lib.hid (Qw.trans (by repeat (first | exact q0.out | exact Qw.refl _ | refine Qw.al ?_ _ | refine Qw.dr ?_ | refine Qw.dn ?_ _ | refine Qw.sc ?_ (by first | (simp; done) | omega | (have := q0.out.size; first | omega | (simp; omega))) _)) q); clear q)))
  go_ret
  exact ⟨rfl, q0.out⟩
end Go.Proofs.YthfcimfoinidbaaDoor
set_option linter.unusedVariables false
set_option linter.unusedSimpArgs false
namespace Go.Proofs.YthfcimfoinidbaaDoor
open Go.RowKit
theorem KidsB.at {w : World} {S : Nat → Prop} {a : Option Addr} {cap : Nat} {ks : List Sy.Ex} (h : KidsB w S a cap ks) (i : Nat) (hi : i < ks.length) : ∃ (b off : Nat) (ad : Option Addr) (cc : Nat), a = some ⟨b, off, none⟩ ∧ S b ∧ b < w.heap.size ∧
    w.cell? ⟨b, off + i * 3, none⟩ = some (.int .i64 ks[i].op) ∧ w.cell? ⟨b, off + i * 3 + 1, none⟩ = some (.int .i64 ks[i].n) ∧ w.cell? ⟨b, off + i * 3 + 2, none⟩ = some (.slice ad ks[i].ks.length cc) ∧ KidsB w S ad cc ks[i].ks := by
  cases h with
  | nl => simp at hi
  | mk b off cap ks ad cc hS h1 h2 hc hkk =>
    obtain ⟨z0, z1, z2⟩ := hc i hi
    exact ⟨b, off, ad i, cc i, rfl, hS, cell_lt z0, z0, z1, z2, hkk i hi⟩
end Go.Proofs.YthfcimfoinidbaaDoor
set_option linter.unusedVariables false
set_option linter.unusedSimpArgs false
namespace Go.Proofs.YthfcimfoinidbaaDoor
open Go.RowKit
theorem WordsB.at {w : World} {S : Nat → Prop} {a : Option Addr} {cap : Nat} {ws : List (Int × Sy.Ex)} (h : WordsB w S a cap ws) (i : Nat) (hi : i < ws.length) : ∃ (b off : Nat) (ad : Option Addr) (cc : Nat), a = some ⟨b, off, none⟩ ∧ b < w.heap.size ∧
    w.cell? ⟨b, off + i * 4, none⟩ = some (.int .i64 ws[i].1) ∧ w.cell? ⟨b, off + i * 4 + 1, none⟩ = some (.int .i64 ws[i].2.op) ∧ w.cell? ⟨b, off + i * 4 + 2, none⟩ = some (.int .i64 ws[i].2.n) ∧ w.cell? ⟨b, off + i * 4 + 3, none⟩ = some (.slice ad ws[i].2.ks.length cc) ∧ KidsB w S ad cc ws[i].2.ks := by
  rcases h.2.2 with rfl | ⟨b, off, ad, cc, rfl, hS, hc⟩
  · simp at hi
  · obtain ⟨h1, h2, h3, h4, h5⟩ := hc i hi
    exact ⟨b, off, ad i, cc i, rfl, cell_lt h1, h1, h2, h3, h4, h5⟩
end Go.Proofs.YthfcimfoinidbaaDoor
set_option linter.unusedVariables false
set_option linter.unusedSimpArgs false
namespace Go.Proofs.YthfcimfoinidbaaDoor
open Go.RowKit
namespace Sy
open Lx
def dx : Nat → Ex
  | 0 => num 1000000
  | n + 1 => bin 3 (dx n) (num 1000000)
theorem dx_ok : ∀ n, okx (dx n) = true
  | 0 => okx_num' (by decide) (by decide)
  | n + 1 => okx_bin' (by decide) rfl (dx_ok n) (okx_num' (by decide) (by decide))
theorem dx_dpt : ∀ n, dpt (dx n) = n + 1
  | 0 => dpt_num _
  | n + 1 => by rw [dx, dpt_bin, dx_dpt n, dpt_num]; omega
def deepT (n : Nat) : List UInt8 := [35, 49, 61, 49] ++ (List.replicate n [43, 49]).flatten
def wordT (n : Nat) : List UInt8 := (List.replicate n [71, 49]).flatten
theorem deepT_succ (n : Nat) : deepT (n + 1) = deepT n ++ [43, 49] := by
  unfold deepT; rw [List.replicate_succ', List.flatten_append, List.append_assoc]; rfl
theorem wordT_succ (n : Nat) : wordT (n + 1) = wordT n ++ [71, 49] := by
  unfold wordT; rw [List.replicate_succ', List.flatten_append]; rfl
theorem deepT_len (n : Nat) : (deepT n).length = 4 + 2 * n := by
  induction n with
  | zero => rfl
  | succ n ih => rw [deepT_succ, List.length_append, ih]; simp; omega
theorem wordT_len (n : Nat) : (wordT n).length = 2 * n := by
  induction n with
  | zero => rfl
  | succ n ih => rw [wordT_succ, List.length_append, ih]; simp; omega
def dB (n : Nat) : Bl := ⟨1, 0, false, [], num 1000000, dx n, 0⟩
def wB (n : Nat) : Bl := ⟨0, 0, false, List.replicate n (71, num 1000000), zx, zx, 0⟩
theorem dB_vld (n : Nat) : vldb (dB n) = decide (n ≤ 15) := by
  have h1 := okx_num' (n := 1000000) (by decide) (by decide)
  unfold vldb okb limb dB depB
  simp [h1, dx_ok, dx_dpt, dpt_num]
theorem wB_vld (n : Nat) : vldb (wB n) = decide (n ≤ 24) := by
  have h1 := okx_num' (n := 1000000) (by decide) (by decide)
  have h2 : decide (dpt zx ≤ 16) = true := decide_eq_true (by rw [dpt_zx']; decide)
  have h3 : noneB zx = true := rfl
  unfold vldb okb limb wB depB
  simp [h1, h2, h3, dpt_num, isw, dpt_zx']
theorem lnR_lim {l : List UInt8} {ts : List Lx.Tok} {b : Bl} {j : Nat} (hl : l.length ≤ 65536) (h1 : lxf (l.length + 1) l 0 = .ok ts) (h2 : pLn ts = .ok b j) (h3 : vldb b = false) : lnR l = (zb, 0, 10) := by
  rw [lxf_eq _ _ _ (Nat.lt_succ_self _)] at h1
  unfold lnR
  rw [if_neg (by omega), h1]
  simp only [h2]
  rw [if_neg (by rw [h3]; decide)]
theorem lnR_both {l : List UInt8} {ts : List Lx.Tok} {b : Bl} {j : Nat} (hl : l.length ≤ 65536) (h1 : lxf (l.length + 1) l 0 = .ok ts) (h2 : pLn ts = .ok b j) : lnR l = if vldb b = true then (b, l.length, 0) else (zb, 0, 10) := by
  cases h3 : vldb b with
  | true => rw [if_pos rfl]; exact lnR_of hl h1 h2 h3
  | false => rw [if_neg (by decide)]; exact lnR_lim hl h1 h2 h3
theorem deep_ln : ∀ n, n < 24 → lnR (deepT n) = if vldb (dB n) = true then (dB n, (deepT n).length, 0) else (zb, 0, 10)
  | 0, _ => lnR_both (ts := getT (lxf 5 (deepT 0) 0)) (j := 4) (by rw [deepT_len]; decide) (by kernel_rfl) (by kernel_rfl)
  | 1, _ => lnR_both (ts := getT (lxf 7 (deepT 1) 0)) (j := 6) (by rw [deepT_len]; decide) (by kernel_rfl) (by kernel_rfl)
  | 2, _ => lnR_both (ts := getT (lxf 9 (deepT 2) 0)) (j := 8) (by rw [deepT_len]; decide) (by kernel_rfl) (by kernel_rfl)
  | 3, _ => lnR_both (ts := getT (lxf 11 (deepT 3) 0)) (j := 10) (by rw [deepT_len]; decide) (by kernel_rfl) (by kernel_rfl)
  | 4, _ => lnR_both (ts := getT (lxf 13 (deepT 4) 0)) (j := 12) (by rw [deepT_len]; decide) (by kernel_rfl) (by kernel_rfl)
  | 5, _ => lnR_both (ts := getT (lxf 15 (deepT 5) 0)) (j := 14) (by rw [deepT_len]; decide) (by kernel_rfl) (by kernel_rfl)
  | 6, _ => lnR_both (ts := getT (lxf 17 (deepT 6) 0)) (j := 16) (by rw [deepT_len]; decide) (by kernel_rfl) (by kernel_rfl)
  | 7, _ => lnR_both (ts := getT (lxf 19 (deepT 7) 0)) (j := 18) (by rw [deepT_len]; decide) (by kernel_rfl) (by kernel_rfl)
  | 8, _ => lnR_both (ts := getT (lxf 21 (deepT 8) 0)) (j := 20) (by rw [deepT_len]; decide) (by kernel_rfl) (by kernel_rfl)
  | 9, _ => lnR_both (ts := getT (lxf 23 (deepT 9) 0)) (j := 22) (by rw [deepT_len]; decide) (by kernel_rfl) (by kernel_rfl)
  | 10, _ => lnR_both (ts := getT (lxf 25 (deepT 10) 0)) (j := 24) (by rw [deepT_len]; decide) (by kernel_rfl) (by kernel_rfl)
  | 11, _ => lnR_both (ts := getT (lxf 27 (deepT 11) 0)) (j := 26) (by rw [deepT_len]; decide) (by kernel_rfl) (by kernel_rfl)
  | 12, _ => lnR_both (ts := getT (lxf 29 (deepT 12) 0)) (j := 28) (by rw [deepT_len]; decide) (by kernel_rfl) (by kernel_rfl)
  | 13, _ => lnR_both (ts := getT (lxf 31 (deepT 13) 0)) (j := 30) (by rw [deepT_len]; decide) (by kernel_rfl) (by kernel_rfl)
  | 14, _ => lnR_both (ts := getT (lxf 33 (deepT 14) 0)) (j := 32) (by rw [deepT_len]; decide) (by kernel_rfl) (by kernel_rfl)
  | 15, _ => lnR_both (ts := getT (lxf 35 (deepT 15) 0)) (j := 34) (by rw [deepT_len]; decide) (by kernel_rfl) (by kernel_rfl)
  | 16, _ => lnR_both (ts := getT (lxf 37 (deepT 16) 0)) (j := 36) (by rw [deepT_len]; decide) (by kernel_rfl) (by kernel_rfl)
  | 17, _ => lnR_both (ts := getT (lxf 39 (deepT 17) 0)) (j := 38) (by rw [deepT_len]; decide) (by kernel_rfl) (by kernel_rfl)
  | 18, _ => lnR_both (ts := getT (lxf 41 (deepT 18) 0)) (j := 40) (by rw [deepT_len]; decide) (by kernel_rfl) (by kernel_rfl)
  | 19, _ => lnR_both (ts := getT (lxf 43 (deepT 19) 0)) (j := 42) (by rw [deepT_len]; decide) (by kernel_rfl) (by kernel_rfl)
  | 20, _ => lnR_both (ts := getT (lxf 45 (deepT 20) 0)) (j := 44) (by rw [deepT_len]; decide) (by kernel_rfl) (by kernel_rfl)
  | 21, _ => lnR_both (ts := getT (lxf 47 (deepT 21) 0)) (j := 46) (by rw [deepT_len]; decide) (by kernel_rfl) (by kernel_rfl)
  | 22, _ => lnR_both (ts := getT (lxf 49 (deepT 22) 0)) (j := 48) (by rw [deepT_len]; decide) (by kernel_rfl) (by kernel_rfl)
  | 23, _ => lnR_both (ts := getT (lxf 51 (deepT 23) 0)) (j := 50) (by rw [deepT_len]; decide) (by kernel_rfl) (by kernel_rfl)
  | n + 24, h => by omega
theorem word_ln : ∀ n, n < 30 → lnR (wordT n) = if vldb (wB n) = true then (wB n, (wordT n).length, 0) else (zb, 0, 10)
  | 0, _ => lnR_both (ts := getT (lxf 1 (wordT 0) 0)) (j := 0) (by rw [wordT_len]; decide) (by kernel_rfl) (by kernel_rfl)
  | 1, _ => lnR_both (ts := getT (lxf 3 (wordT 1) 0)) (j := 2) (by rw [wordT_len]; decide) (by kernel_rfl) (by kernel_rfl)
  | 2, _ => lnR_both (ts := getT (lxf 5 (wordT 2) 0)) (j := 4) (by rw [wordT_len]; decide) (by kernel_rfl) (by kernel_rfl)
  | 3, _ => lnR_both (ts := getT (lxf 7 (wordT 3) 0)) (j := 6) (by rw [wordT_len]; decide) (by kernel_rfl) (by kernel_rfl)
  | 4, _ => lnR_both (ts := getT (lxf 9 (wordT 4) 0)) (j := 8) (by rw [wordT_len]; decide) (by kernel_rfl) (by kernel_rfl)
  | 5, _ => lnR_both (ts := getT (lxf 11 (wordT 5) 0)) (j := 10) (by rw [wordT_len]; decide) (by kernel_rfl) (by kernel_rfl)
  | 6, _ => lnR_both (ts := getT (lxf 13 (wordT 6) 0)) (j := 12) (by rw [wordT_len]; decide) (by kernel_rfl) (by kernel_rfl)
  | 7, _ => lnR_both (ts := getT (lxf 15 (wordT 7) 0)) (j := 14) (by rw [wordT_len]; decide) (by kernel_rfl) (by kernel_rfl)
  | 8, _ => lnR_both (ts := getT (lxf 17 (wordT 8) 0)) (j := 16) (by rw [wordT_len]; decide) (by kernel_rfl) (by kernel_rfl)
  | 9, _ => lnR_both (ts := getT (lxf 19 (wordT 9) 0)) (j := 18) (by rw [wordT_len]; decide) (by kernel_rfl) (by kernel_rfl)
  | 10, _ => lnR_both (ts := getT (lxf 21 (wordT 10) 0)) (j := 20) (by rw [wordT_len]; decide) (by kernel_rfl) (by kernel_rfl)
  | 11, _ => lnR_both (ts := getT (lxf 23 (wordT 11) 0)) (j := 22) (by rw [wordT_len]; decide) (by kernel_rfl) (by kernel_rfl)
  | 12, _ => lnR_both (ts := getT (lxf 25 (wordT 12) 0)) (j := 24) (by rw [wordT_len]; decide) (by kernel_rfl) (by kernel_rfl)
  | 13, _ => lnR_both (ts := getT (lxf 27 (wordT 13) 0)) (j := 26) (by rw [wordT_len]; decide) (by kernel_rfl) (by kernel_rfl)
  | 14, _ => lnR_both (ts := getT (lxf 29 (wordT 14) 0)) (j := 28) (by rw [wordT_len]; decide) (by kernel_rfl) (by kernel_rfl)
  | 15, _ => lnR_both (ts := getT (lxf 31 (wordT 15) 0)) (j := 30) (by rw [wordT_len]; decide) (by kernel_rfl) (by kernel_rfl)
  | 16, _ => lnR_both (ts := getT (lxf 33 (wordT 16) 0)) (j := 32) (by rw [wordT_len]; decide) (by kernel_rfl) (by kernel_rfl)
  | 17, _ => lnR_both (ts := getT (lxf 35 (wordT 17) 0)) (j := 34) (by rw [wordT_len]; decide) (by kernel_rfl) (by kernel_rfl)
  | 18, _ => lnR_both (ts := getT (lxf 37 (wordT 18) 0)) (j := 36) (by rw [wordT_len]; decide) (by kernel_rfl) (by kernel_rfl)
  | 19, _ => lnR_both (ts := getT (lxf 39 (wordT 19) 0)) (j := 38) (by rw [wordT_len]; decide) (by kernel_rfl) (by kernel_rfl)
  | 20, _ => lnR_both (ts := getT (lxf 41 (wordT 20) 0)) (j := 40) (by rw [wordT_len]; decide) (by kernel_rfl) (by kernel_rfl)
  | 21, _ => lnR_both (ts := getT (lxf 43 (wordT 21) 0)) (j := 42) (by rw [wordT_len]; decide) (by kernel_rfl) (by kernel_rfl)
  | 22, _ => lnR_both (ts := getT (lxf 45 (wordT 22) 0)) (j := 44) (by rw [wordT_len]; decide) (by kernel_rfl) (by kernel_rfl)
  | 23, _ => lnR_both (ts := getT (lxf 47 (wordT 23) 0)) (j := 46) (by rw [wordT_len]; decide) (by kernel_rfl) (by kernel_rfl)
  | 24, _ => lnR_both (ts := getT (lxf 49 (wordT 24) 0)) (j := 48) (by rw [wordT_len]; decide) (by kernel_rfl) (by kernel_rfl)
  | 25, _ => lnR_both (ts := getT (lxf 51 (wordT 25) 0)) (j := 50) (by rw [wordT_len]; decide) (by kernel_rfl) (by kernel_rfl)
  | 26, _ => lnR_both (ts := getT (lxf 53 (wordT 26) 0)) (j := 52) (by rw [wordT_len]; decide) (by kernel_rfl) (by kernel_rfl)
  | 27, _ => lnR_both (ts := getT (lxf 55 (wordT 27) 0)) (j := 54) (by rw [wordT_len]; decide) (by kernel_rfl) (by kernel_rfl)
  | 28, _ => lnR_both (ts := getT (lxf 57 (wordT 28) 0)) (j := 56) (by rw [wordT_len]; decide) (by kernel_rfl) (by kernel_rfl)
  | 29, _ => lnR_both (ts := getT (lxf 59 (wordT 29) 0)) (j := 58) (by rw [wordT_len]; decide) (by kernel_rfl) (by kernel_rfl)
  | n + 30, h => by omega
end Sy
end Go.Proofs.YthfcimfoinidbaaDoor

