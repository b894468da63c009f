import Derived.Test.YthfcimfoinidbaaDoorZc23
import Derived.Test.YthfcimfoinidbaaDoorZc26
import Derived.Test.YthfcimfoinidbaaDoorZc28
set_option linter.unusedVariables false
set_option linter.unusedSimpArgs false
namespace Go.Proofs.YthfcimfoinidbaaDoor
open Go.RowKit
def bcs (b : Sy.Bl) (wa : Option Addr) (wc : Nat) (la : Option Addr) (lc : Nat) (xa : Option Addr) (xc : Nat) : Array Value := #[.int .i64 b.kind, .int .i64 b.label, .bool b.skip, .slice wa b.words.length wc, .int .i64 b.left.op, .int .i64 b.left.n, .slice la b.left.ks.length lc, .int .i64 b.x.op, .int .i64 b.x.n, .slice xa b.x.ks.length xc, .int .i64 b.n]
theorem lineW {s : ByteArray} {b : Sy.Bl} {n : Nat} {er : Int} (hs : s.size ≤ 1000000) (e : Sy.lnR s.data.toList = (b, n, er)) (w : World) (hT : Tn w) (hO : Ow w) :
    Calls Tryd.prog 10 #[.string s] w fun e w' => ∃ wa wc la lc xa xc, e = .returned (.tuple #[.agg #[.int .i64 b.kind, .int .i64 b.label, .bool b.skip, .slice wa b.words.length wc, .int .i64 b.left.op, .int .i64 b.left.n, .slice la b.left.ks.length lc, .int .i64 b.x.op, .int .i64 b.x.n, .slice xa b.x.ks.length xc, .int .i64 b.n], .int .i64 (n : Int), .int .i64 er]) ∧ BlkB w' (fun b => w.heap.size ≤ b) b (bcs b wa wc la lc xa xc) ∧ Qw w w' := by
  have h := sz_line s hs w hT hO
  rw [e] at h
  refine h.mono ?_
  rintro e w' ⟨⟨cs, rfl, B⟩, q⟩
  have B0 := B
  obtain ⟨wa, wc, la, lc, xa, xc, rfl, _, _, _⟩ := B
  exact ⟨wa, wc, la, lc, xa, xc, rfl, B0, q⟩
theorem BlkB.kept {w w' : World} {S : Nat → Prop} {b : Sy.Bl} {cs : Array Value} (h : BlkB w S b cs) (q : Qw w w') : BlkB w' S b cs := h.go fun b hS hb => ⟨q.block b hb, hS⟩
theorem awake6 (w : World) (hT : Tn w) (hO : Ow w) (hB : Tb w) : Calls Tryd.prog 6 #[] w fun e w' => e = .returned (.bool true) ∧ Qw w w' := by
  have c1 : ∀ w1, Qw w w1 → _ := fun w1 q => lineW (s := ⟨#[78, 49, 48, 71, 48, 49, 88, 45, 91, 35, 49, 43, 50, 42, 51, 93]⟩) (by decide) Sy.aw_line w1 (hT.kept q) (hO.kept q)
  have c2 : ∀ w1, Qw w w1 → _ := fun w1 q => lineW (s := ⟨#[110]⟩) (by decide) Sy.aw_n w1 (hT.kept q) (hO.kept q)
  have c3 : ∀ (w1 : World) (wa : Option Addr) (wc : Nat) (la : Option Addr) (lc : Nat) (xa : Option Addr) (xc : Nat) (S : Nat → Prop), Qw w w1 → BlkB w1 S Sy.awB (bcs Sy.awB wa wc la lc xa xc) → Calls Tryd.prog 12 #[.agg #[.int .i64 Sy.awB.kind, .int .i64 Sy.awB.label, .bool Sy.awB.skip, .slice wa Sy.awB.words.length wc, .int .i64 Sy.awB.left.op, .int .i64 Sy.awB.left.n, .slice la Sy.awB.left.ks.length lc, .int .i64 Sy.awB.x.op, .int .i64 Sy.awB.x.n, .slice xa Sy.awB.x.ks.length xc, .int .i64 Sy.awB.n]] w1 fun e w' => e = .returned (.string ⟨#[78, 49, 48, 32, 71, 49, 32, 88, 91, 45, 91, 35, 49, 32, 43, 32, 91, 50, 32, 42, 32, 51, 93, 93, 93]⟩) ∧ Qw w1 w' := fun w1 wa wc la lc xa xc S q hb => by
    have := sx_format Sy.awB _ S w1 (hO.kept q) (hB.kept q) hb
    rw [Sy.aw_fmt] at this
    exact this
  have C1 := Lib.hid c1
  have C2 := Lib.hid c2
  have C3 := Lib.hid c3
  clear c1 c2 c3 hT hO hB
  generalize Sy.awB = aw at *
  generalize Sy.zb = zb at *
  have q0 : Hid (Qw w w) := Lib.hid (Qw.refl w)
  go_enter Tryd.func6, Tryd.ntmps6
  go_wp2_with (first
    | (go_at_call 10; ((with_reducible refine (C1.out _ (by repeat (first | exact q0.out | exact Qw.refl _ | refine Qw.al ?_ _ | refine Qw.dr ?_ | refine Qw.dn ?_ _ | refine Qw.sc ?_ (by first | (simp; done) | omega | (have := q0.out.size; first | omega | (simp; omega))) _))).mono ?_); rintro e w' ⟨wa, wc, la, lc, xa, xc, rfl, hb, q⟩; have HB := Lib.hid hb; have X0 : Bx (w'.alloc (.cells #[.int .i64 aw.kind, .int .i64 aw.label, .bool aw.skip, .slice wa aw.words.length wc, .int .i64 aw.left.op, .int .i64 aw.left.n, .slice la aw.left.ks.length lc, .int .i64 aw.x.op, .int .i64 aw.x.n, .slice xa aw.x.ks.length xc, .int .i64 aw.n] 34)) w'.heap.size _ _ := Bx.new _ _ _; have X := Lib.hid X0; clear X0 hb; replace q0 : Hid (Qw w w') := Lib.hid (Qw.trans (by repeat (first | exact q0.out | exact Qw.refl _ | refine Qw.al ?_ _ | refine Qw.dr ?_ | refine Qw.dn ?_ _ | refine Qw.sc ?_ (by first | (simp; done) | omega | (have := q0.out.size; first | omega | (simp; omega))) _)) q); clear q; clear C1))
    | (go_at_call 10; ((with_reducible refine (C2.out _ (by repeat (first | exact q0.out | exact Qw.refl _ | refine Qw.al ?_ _ | refine Qw.dr ?_ | refine Qw.dn ?_ _ | refine Qw.sc ?_ (by first | (simp; done) | omega | (have := q0.out.size; first | omega | (simp; omega))) _))).mono ?_); rintro e w' ⟨ya, yc, yb, yd, ye, yf, rfl, hb, q⟩; clear hb; replace X := Lib.hid (Bx.kept X.out q); replace HB := Lib.hid (BlkB.kept HB.out (Qw.trans (by unfold Qw; exact (Below.refl _ _).alloc (Nat.le_refl _) _) q)); have xn := Nat.ne_of_lt X.out.lt; have xl := X.out.lt; have x0 := X.out.cell' 0 _ rfl; have x1 := X.out.cell' 1 _ rfl; have x2 := X.out.cell' 2 _ rfl; have x3 := X.out.cell' 3 _ rfl; have x4 := X.out.cell' 4 _ rfl; have x5 := X.out.cell' 5 _ rfl; have x6 := X.out.cell' 6 _ rfl; have x7 := X.out.cell' 7 _ rfl; have x8 := X.out.cell' 8 _ rfl; have x9 := X.out.cell' 9 _ rfl; have x10 := X.out.cell' 10 _ rfl; replace q0 : Hid (Qw w w') := Lib.hid (Qw.trans (by repeat (first | exact q0.out | exact Qw.refl _ | refine Qw.al ?_ _ | refine Qw.dr ?_ | refine Qw.dn ?_ _ | refine Qw.sc ?_ (by first | (simp; done) | omega | (have := q0.out.size; first | omega | (simp; omega))) _)) q); clear q))
    | (go_at_call 12; ((with_reducible refine (C3.out _ _ _ _ _ _ _ _ (by repeat (first | exact q0.out | exact Qw.refl _ | refine Qw.al ?_ _ | refine Qw.dr ?_ | refine Qw.dn ?_ _ | refine Qw.sc ?_ (by first | (simp; done) | omega | (have := q0.out.size; first | omega | (simp; omega))) _)) (BlkB.kept HB.out (by unfold Qw; repeat (first | exact Below.refl _ _ | refine Below.alloc ?_ (Nat.le_refl _) _ | refine Below.drew ?_)))).mono ?_); rintro e w' ⟨rfl, q⟩; replace q0 : Hid (Qw w w') := Lib.hid (Qw.trans (by repeat (first | exact q0.out | exact Qw.refl _ | refine Qw.al ?_ _ | refine Qw.dr ?_ | refine Qw.dn ?_ _ | refine Qw.sc ?_ (by first | (simp; done) | omega | (have := q0.out.size; first | omega | (simp; omega))) _)) q); clear q)))
  go_ret
  exact ⟨rfl, q0.out⟩
end Go.Proofs.YthfcimfoinidbaaDoor
set_option linter.unusedVariables false
set_option linter.unusedSimpArgs false
namespace Go.Proofs.YthfcimfoinidbaaDoor
open Go.RowKit
theorem KidsB.at {w : World} {S : Nat → Prop} {a : Option Addr} {cap : Nat} {ks : List Sy.Ex} (h : KidsB w S a cap ks) (i : Nat) (hi : i < ks.length) : ∃ (b off : Nat) (ad : Option Addr) (cc : Nat), a = some ⟨b, off, none⟩ ∧ S b ∧ b < w.heap.size ∧
    w.cell? ⟨b, off + i * 3, none⟩ = some (.int .i64 ks[i].op) ∧ w.cell? ⟨b, off + i * 3 + 1, none⟩ = some (.int .i64 ks[i].n) ∧ w.cell? ⟨b, off + i * 3 + 2, none⟩ = some (.slice ad ks[i].ks.length cc) ∧ KidsB w S ad cc ks[i].ks := by
  cases h with
  | nl => simp at hi
  | mk b off cap ks ad cc hS h1 h2 hc hkk =>
    obtain ⟨z0, z1, z2⟩ := hc i hi
    exact ⟨b, off, ad i, cc i, rfl, hS, cell_lt z0, z0, z1, z2, hkk i hi⟩
set_option maxRecDepth 100000 in
set_option maxHeartbeats 4000000 in
theorem sx_sameExpr (x : Sy.Ex) : ∀ (a a' : Option Addr) (cap cap' : Nat) (S S' : Nat → Prop) (w : World), KidsB w S a cap x.ks → KidsB w S' a' cap' x.ks →
    Calls Tryd.prog 19 #[.agg #[.int .i64 x.op, .int .i64 x.n, .slice a x.ks.length cap], .agg #[.int .i64 x.op, .int .i64 x.n, .slice a' x.ks.length cap']] w fun e w' => e = .returned (.bool true) ∧ Qw w w' := by
  induction x using Sy.Ex.ind with
  | h op n ks ih =>
    intro a a' cap cap' S S' w hk hk'
    show Calls Tryd.prog 19 #[.agg #[.int .i64 op, .int .i64 n, .slice a ks.length cap], .agg #[.int .i64 op, .int .i64 n, .slice a' ks.length cap']] w _
    replace hk : KidsB w S a cap ks := hk
    replace hk' : KidsB w S' a' cap' ks := hk'
    obtain ⟨l1, l2⟩ := hk.cap
    obtain ⟨l1', l2'⟩ := hk'.cap
    have HK := Lib.hid hk
    have HK' := Lib.hid hk'
    have IH := Lib.hid ih
    clear hk hk' ih
    go_enter Tryd.func19, Tryd.ntmps19
    go_wp2_with fail
    refine code_of (fun w2 => Hid (Bx w2 w.heap.size #[.int .i64 op, .int .i64 n, .slice a ks.length cap] 32) ∧ Hid (Bx w2 (w.heap.size + 1) #[.int .i64 op, .int .i64 n, .slice a' ks.length cap'] 32) ∧ Hid (Qw w w2)) ⟨Lib.hid (by repeat (first | exact Bx.new _ _ _ | refine Bx.alloc ?_ _ | refine Bx.drew ?_)), Lib.hid (by have := Bx.new (w.alloc (.cells #[.int .i64 op, .int .i64 n, .slice a ks.length cap] 32)) #[.int .i64 op, .int .i64 n, .slice a' ks.length cap'] 32; simpa using this), Lib.hid (by unfold Qw; repeat (first | exact Below.refl _ _ | refine Below.alloc ?_ (by simp) _ | refine Below.drew ?_))⟩ ?_
    rintro w2 ⟨B0, B1, Q0⟩
    go_loopw [5] (fun iv wr => ∃ i : Nat, iv = .int .i64 (i : Int) ∧ i ≤ ks.length ∧ Hid (Bx wr w.heap.size #[.int .i64 op, .int .i64 n, .slice a ks.length cap] 32) ∧ Hid (Bx wr (w.heap.size + 1) #[.int .i64 op, .int .i64 n, .slice a' ks.length cap'] 32) ∧ Hid (Qw w wr)) (fun iv _ => ks.length - (intOf iv).toNat)
    case atStart => exact ⟨0, rfl, Nat.zero_le _, B0, B1, Q0⟩
    case round =>
      clear B0 B1 Q0
      obtain ⟨i, rfl, hi, B0, B1, Q0⟩ := hrel
      have x2 : wr.cell? ⟨w.heap.size, 2, none⟩ = some (.slice a ks.length cap) := B0.out.cell' 2 _ rfl
      have y2 : wr.cell? ⟨w.heap.size + 1, 2, none⟩ = some (.slice a' ks.length cap') := B1.out.cell' 2 _ rfl
      by_cases hlt : i < ks.length
      · obtain ⟨b, off, ad, cc, rfl, hS, bl, z0, z1, z2, KK⟩ := HK.out.at i hlt
        obtain ⟨b', off', ad', cc', rfl, hS', bl', z0', z1', z2', KK'⟩ := HK'.out.at i hlt
        have hi2 : (i : Int) < (ks.length : Int) := by omega
        have cr : ∀ w1, Qw w w1 → _ := fun w1 q => IH.out ks[i] (List.getElem_mem hlt) ad ad' cc cc' S S' w1 (KK.kept q) (KK'.kept q)
        have D1 : Hid (∀ p : Kept wr, Calls Tryd.prog 19 #[.agg #[.int .i64 ks[i].op, .int .i64 ks[i].n, .slice ad ks[i].ks.length cc], .agg #[.int .i64 ks[i].op, .int .i64 ks[i].n, .slice ad' ks[i].ks.length cc']] p.v fun e w' => e = .returned (.bool true) ∧ Qw p.v w') := Lib.hid fun p => cr p.v (Q0.out.trans p.h)
        have kx := B0.out.kcell 2 _ rfl
        have ky := B1.out.kcell 2 _ rfl
        have k0 : ∀ p : Kept wr, p.v.cell? ⟨b, off + i * 3, none⟩ = some (.int .i64 ks[i].op) := fun p => (World.cell?_of_block (w := w) ((Q0.out.trans p.h).block _ bl)).trans z0
        have k1 : ∀ p : Kept wr, p.v.cell? ⟨b, off + i * 3 + 1, none⟩ = some (.int .i64 ks[i].n) := fun p => (World.cell?_of_block (w := w) ((Q0.out.trans p.h).block _ bl)).trans z1
        have k2 : ∀ p : Kept wr, p.v.cell? ⟨b, off + i * 3 + 2, none⟩ = some (.slice ad ks[i].ks.length cc) := fun p => (World.cell?_of_block (w := w) ((Q0.out.trans p.h).block _ bl)).trans z2
        have k0' : ∀ p : Kept wr, p.v.cell? ⟨b', off' + i * 3, none⟩ = some (.int .i64 ks[i].op) := fun p => (World.cell?_of_block (w := w) ((Q0.out.trans p.h).block _ bl')).trans z0'
        have k1' : ∀ p : Kept wr, p.v.cell? ⟨b', off' + i * 3 + 1, none⟩ = some (.int .i64 ks[i].n) := fun p => (World.cell?_of_block (w := w) ((Q0.out.trans p.h).block _ bl')).trans z1'
        have k2' : ∀ p : Kept wr, p.v.cell? ⟨b', off' + i * 3 + 2, none⟩ = some (.slice ad' ks[i].ks.length cc') := fun p => (World.cell?_of_block (w := w) ((Q0.out.trans p.h).block _ bl')).trans z2'
        clear cr z0 z1 z2 z0' z1' z2' KK KK' IH HK HK'
        generalize ks[i].ks.length = kl at *
        generalize ks[i].op = ko at *
        generalize ks[i].n = kn at *
        go_upto_region 6 with fail
        refine region_kept (by kernel_rfl) (by kernel_rfl) ?_
        repeat (go_big_quiet_step (first | (go_at_call 19; with_reducible exact Kept.call (D1.out _))))
        refine wpQuiet_nil ?_
        intro w3 q
        replace B0 := Lib.hid (B0.out.kept q)
        replace B1 := Lib.hid (B1.out.kept q)
        replace Q0 := Lib.hid (Q0.out.trans q)
        clear kx ky k0 k1 k2 k0' k1' k2' q x2 y2 D1
        go_wp2_with fail
        go_roundw
        case measure => simp [intOf]; omega
        case rel => exact ⟨i + 1, by go_num, by omega, B0, B1, Q0⟩
      · obtain rfl : i = ks.length := by omega
        have hb : ¬ ((ks.length : Nat) : Int) < (ks.length : Int) := by omega
        go_wp2_with fail
        go_ret
        exact ⟨rfl, Q0.out⟩
end Go.Proofs.YthfcimfoinidbaaDoor
set_option linter.unusedVariables false
set_option linter.unusedSimpArgs false
namespace Go.Proofs.YthfcimfoinidbaaDoor
open Go.RowKit
theorem WordsB.at {w : World} {S : Nat → Prop} {a : Option Addr} {cap : Nat} {ws : List (Int × Sy.Ex)} (h : WordsB w S a cap ws) (i : Nat) (hi : i < ws.length) : ∃ (b off : Nat) (ad : Option Addr) (cc : Nat), a = some ⟨b, off, none⟩ ∧ b < w.heap.size ∧
    w.cell? ⟨b, off + i * 4, none⟩ = some (.int .i64 ws[i].1) ∧ w.cell? ⟨b, off + i * 4 + 1, none⟩ = some (.int .i64 ws[i].2.op) ∧ w.cell? ⟨b, off + i * 4 + 2, none⟩ = some (.int .i64 ws[i].2.n) ∧ w.cell? ⟨b, off + i * 4 + 3, none⟩ = some (.slice ad ws[i].2.ks.length cc) ∧ KidsB w S ad cc ws[i].2.ks := by
  rcases h.2.2 with rfl | ⟨b, off, ad, cc, rfl, hS, hc⟩
  · simp at hi
  · obtain ⟨h1, h2, h3, h4, h5⟩ := hc i hi
    exact ⟨b, off, ad i, cc i, rfl, cell_lt h1, h1, h2, h3, h4, h5⟩
set_option maxRecDepth 100000 in
set_option maxHeartbeats 4000000 in
theorem sx_same (b : Sy.Bl) (cs cs' : Array Value) (S S' : Nat → Prop) (w : World) (hB : BlkB w S b cs) (hB' : BlkB w S' b cs') :
    Calls Tryd.prog 11 #[.agg cs, .agg cs'] w fun e w' => e = .returned (.bool true) ∧ Qw w w' := by
  obtain ⟨kind, label, skip, words, left, x, n⟩ := b
  obtain ⟨wa, wc, la, lc, xa, xc, rfl, hW, hL, hX⟩ := hB
  obtain ⟨wa', wc', la', lc', xa', xc', rfl, hW', hL', hX'⟩ := hB'
  have cl : ∀ w1, Qw w w1 → Calls Tryd.prog 19 #[.agg #[.int .i64 left.op, .int .i64 left.n, .slice la left.ks.length lc], .agg #[.int .i64 left.op, .int .i64 left.n, .slice la' left.ks.length lc']] w1 fun e w' => e = .returned (.bool true) ∧ Qw w1 w' := fun w1 q => sx_sameExpr left la la' lc lc' S S' w1 (hL.kept q) (hL'.kept q)
  have cx : ∀ w1, Qw w w1 → Calls Tryd.prog 19 #[.agg #[.int .i64 x.op, .int .i64 x.n, .slice xa x.ks.length xc], .agg #[.int .i64 x.op, .int .i64 x.n, .slice xa' x.ks.length xc']] w1 fun e w' => e = .returned (.bool true) ∧ Qw w1 w' := fun w1 q => sx_sameExpr x xa xa' xc xc' S S' w1 (hX.kept q) (hX'.kept q)
  have m2 : words.length ≤ 9223372036854775807 := Nat.le_trans hW.1 hW.2.1
  have CL := Lib.hid cl
  have CX := Lib.hid cx
  have HW := Lib.hid hW
  have HW' := Lib.hid hW'
  clear cl cx hW hW' hL hL' hX hX'
  show Calls Tryd.prog 11 #[.agg #[.int .i64 kind, .int .i64 label, .bool skip, .slice wa words.length wc, .int .i64 left.op, .int .i64 left.n, .slice la left.ks.length lc, .int .i64 x.op, .int .i64 x.n, .slice xa x.ks.length xc, .int .i64 n], .agg #[.int .i64 kind, .int .i64 label, .bool skip, .slice wa' words.length wc', .int .i64 left.op, .int .i64 left.n, .slice la' left.ks.length lc', .int .i64 x.op, .int .i64 x.n, .slice xa' x.ks.length xc', .int .i64 n]] w _
  generalize left.ks.length = ll at *
  generalize left.op = lo at *
  generalize left.n = ln at *
  generalize x.ks.length = xl at *
  generalize x.op = xo at *
  generalize x.n = xn at *
  have K0 : Hid (∀ w2, Qw ((w.alloc (.cells #[.int .i64 kind, .int .i64 label, .bool skip, .slice wa words.length wc, .int .i64 lo, .int .i64 ln, .slice la ll lc, .int .i64 xo, .int .i64 xn, .slice xa xl xc, .int .i64 n] 34)).alloc (.cells #[.int .i64 kind, .int .i64 label, .bool skip, .slice wa' words.length wc', .int .i64 lo, .int .i64 ln, .slice la' ll lc', .int .i64 xo, .int .i64 xn, .slice xa' xl xc', .int .i64 n] 34)) w2 →
      Bx w2 w.heap.size #[.int .i64 kind, .int .i64 label, .bool skip, .slice wa words.length wc, .int .i64 lo, .int .i64 ln, .slice la ll lc, .int .i64 xo, .int .i64 xn, .slice xa xl xc, .int .i64 n] 34 ∧ Bx w2 (w.heap.size + 1) #[.int .i64 kind, .int .i64 label, .bool skip, .slice wa' words.length wc', .int .i64 lo, .int .i64 ln, .slice la' ll lc', .int .i64 xo, .int .i64 xn, .slice xa' xl xc', .int .i64 n] 34 ∧ Qw w w2) := Lib.hid fun w2 q => ⟨((Bx.new w _ _).alloc _).kept q, by have := (Bx.new (w.alloc (.cells #[.int .i64 kind, .int .i64 label, .bool skip, .slice wa words.length wc, .int .i64 lo, .int .i64 ln, .slice la ll lc, .int .i64 xo, .int .i64 xn, .slice xa xl xc, .int .i64 n] 34)) #[.int .i64 kind, .int .i64 label, .bool skip, .slice wa' words.length wc', .int .i64 lo, .int .i64 ln, .slice la' ll lc', .int .i64 xo, .int .i64 xn, .slice xa' xl xc', .int .i64 n] 34).kept q; simpa using this, Qw.trans (((Below.refl _ _).alloc (Nat.le_refl _) _).alloc (by simp) _) q⟩
  go_enter Tryd.func11, Tryd.ntmps11
  go_wp2_with (first
    | (go_at_call 19; ((with_reducible refine (CL.out _ (K0.out _ (by unfold Qw; repeat (first | exact Below.refl _ _ | refine Below.drew ?_))).2.2).mono ?_); rintro e w' ⟨rfl, q⟩; have F := Lib.hid (K0.out _ q); clear q; have x7 := F.out.1.cell' 7 _ rfl; have x8 := F.out.1.cell' 8 _ rfl; have x9 := F.out.1.cell' 9 _ rfl; have y7 := F.out.2.1.cell' 7 _ rfl; have y8 := F.out.2.1.cell' 8 _ rfl; have y9 := F.out.2.1.cell' 9 _ rfl; clear CL))
    | (go_at_call 19; ((with_reducible refine (CX.out _ F.out.2.2).mono ?_); rintro e w' ⟨rfl, q⟩; have B0 := Lib.hid (F.out.1.kept q); have B1 := Lib.hid (F.out.2.1.kept q); have Q0 := Lib.hid (F.out.2.2.trans q); clear q F x7 x8 x9 y7 y8 y9; have x3 := B0.out.cell' 3 _ rfl; have y3 := B1.out.cell' 3 _ rfl)))
  go_loopw [5] (fun iv wr => ∃ i : Nat, iv = .int .i64 (i : Int) ∧ i ≤ words.length ∧ Hid (Bx wr w.heap.size #[.int .i64 kind, .int .i64 label, .bool skip, .slice wa words.length wc, .int .i64 lo, .int .i64 ln, .slice la ll lc, .int .i64 xo, .int .i64 xn, .slice xa xl xc, .int .i64 n] 34) ∧ Hid (Bx wr (w.heap.size + 1) #[.int .i64 kind, .int .i64 label, .bool skip, .slice wa' words.length wc', .int .i64 lo, .int .i64 ln, .slice la' ll lc', .int .i64 xo, .int .i64 xn, .slice xa' xl xc', .int .i64 n] 34) ∧ Hid (Qw w wr)) (fun iv _ => words.length - (intOf iv).toNat)
  case atStart => exact ⟨0, rfl, Nat.zero_le _, B0, B1, Q0⟩
  case round =>
    clear B0 B1 Q0 x3 y3
    obtain ⟨i, rfl, hi, B0, B1, Q0⟩ := hrel
    have x3 : wr.cell? ⟨w.heap.size, 3, none⟩ = some (.slice wa words.length wc) := B0.out.cell' 3 _ rfl
    have y3 : wr.cell? ⟨w.heap.size + 1, 3, none⟩ = some (.slice wa' words.length wc') := B1.out.cell' 3 _ rfl
    by_cases hlt : i < words.length
    · obtain ⟨b, off, ad, cc, rfl, bl, z0, z1, z2, z3, KK⟩ := HW.out.at i hlt
      obtain ⟨b', off', ad', cc', rfl, bl', z0', z1', z2', z3', KK'⟩ := HW'.out.at i hlt
      have hi2 : (i : Int) < (words.length : Int) := by omega
      have cr : ∀ w1, Qw w w1 → _ := fun w1 q => sx_sameExpr words[i].2 ad ad' cc cc' S S' w1 (KK.kept q) (KK'.kept q)
      have D1 : Hid (∀ p : Kept wr, Calls Tryd.prog 19 #[.agg #[.int .i64 words[i].2.op, .int .i64 words[i].2.n, .slice ad words[i].2.ks.length cc], .agg #[.int .i64 words[i].2.op, .int .i64 words[i].2.n, .slice ad' words[i].2.ks.length cc']] p.v fun e w' => e = .returned (.bool true) ∧ Qw p.v w') := Lib.hid fun p => cr p.v (Q0.out.trans p.h)
      have kx := B0.out.kcell 3 _ rfl
      have ky := B1.out.kcell 3 _ rfl
      have k0 : ∀ p : Kept wr, p.v.cell? ⟨b, off + i * 4, none⟩ = some (.int .i64 words[i].1) := fun p => (World.cell?_of_block (w := w) ((Q0.out.trans p.h).block _ bl)).trans z0
      have k1 : ∀ p : Kept wr, p.v.cell? ⟨b, off + i * 4 + 1, none⟩ = some (.int .i64 words[i].2.op) := fun p => (World.cell?_of_block (w := w) ((Q0.out.trans p.h).block _ bl)).trans z1
      have k2 : ∀ p : Kept wr, p.v.cell? ⟨b, off + i * 4 + 2, none⟩ = some (.int .i64 words[i].2.n) := fun p => (World.cell?_of_block (w := w) ((Q0.out.trans p.h).block _ bl)).trans z2
      have k3 : ∀ p : Kept wr, p.v.cell? ⟨b, off + i * 4 + 3, none⟩ = some (.slice ad words[i].2.ks.length cc) := fun p => (World.cell?_of_block (w := w) ((Q0.out.trans p.h).block _ bl)).trans z3
      have k0' : ∀ p : Kept wr, p.v.cell? ⟨b', off' + i * 4, none⟩ = some (.int .i64 words[i].1) := fun p => (World.cell?_of_block (w := w) ((Q0.out.trans p.h).block _ bl')).trans z0'
      have k1' : ∀ p : Kept wr, p.v.cell? ⟨b', off' + i * 4 + 1, none⟩ = some (.int .i64 words[i].2.op) := fun p => (World.cell?_of_block (w := w) ((Q0.out.trans p.h).block _ bl')).trans z1'
      have k2' : ∀ p : Kept wr, p.v.cell? ⟨b', off' + i * 4 + 2, none⟩ = some (.int .i64 words[i].2.n) := fun p => (World.cell?_of_block (w := w) ((Q0.out.trans p.h).block _ bl')).trans z2'
      have k3' : ∀ p : Kept wr, p.v.cell? ⟨b', off' + i * 4 + 3, none⟩ = some (.slice ad' words[i].2.ks.length cc') := fun p => (World.cell?_of_block (w := w) ((Q0.out.trans p.h).block _ bl')).trans z3'
      clear cr z0 z1 z2 z3 z0' z1' z2' z3' KK KK' HW HW' CX
      generalize words[i].2.ks.length = kl at *
      generalize words[i].2.op = ko at *
      generalize words[i].2.n = kn at *
      generalize words[i].1 = kc at *
      go_upto_region 6 with fail
      refine region_kept (by kernel_rfl) (by kernel_rfl) ?_
      repeat (go_big_quiet_step (first | (go_at_call 19; with_reducible exact Kept.call (D1.out _))))
      refine wpQuiet_nil ?_
      intro w3 q
      replace B0 := Lib.hid (B0.out.kept q)
      replace B1 := Lib.hid (B1.out.kept q)
      replace Q0 := Lib.hid (Q0.out.trans q)
      clear kx ky k0 k1 k2 k3 k0' k1' k2' k3' q x3 y3 D1
      go_wp2_with fail
      go_roundw
      case measure => simp [intOf]; omega
      case rel => exact ⟨i + 1, by go_num, by omega, B0, B1, Q0⟩
    · obtain rfl : i = words.length := by omega
      have hb : ¬ ((words.length : Nat) : Int) < (words.length : Int) := by omega
      go_wp2_with fail
      go_ret
      exact ⟨rfl, Q0.out⟩
end Go.Proofs.YthfcimfoinidbaaDoor
set_option linter.unusedVariables false
set_option linter.unusedSimpArgs false
namespace Go.Proofs.YthfcimfoinidbaaDoor
namespace Sy
open Lx
theorem pLn_len {ts : List Lx.Tok} (hg : Good ts) {b : Bl} {j : Nat} (e : pLn ts = .ok b j) : (fmb b).length ≤ 20 * ts.length + 60 := by
  have hb := pLn_ok hg e
  have key : ∀ (s : Bool) (n : Int) (i : Nat), i ≤ ts.length → pEnd ts s n (pCt ts i) = .ok b j → bodb b ≤ 20 * ts.length + 40 := by
    intro s n i hi e
    cases e1 : pCt ts i with
    | bad k => rw [e1] at e; cases e
    | ok c k =>
      have g := pCt_len hg e1
      have f := fwd_ct hi _ _ e1
      rw [e1] at e
      unfold pEnd at e
      simp only at e
      split at e
      · cases e
      · cases e
        have : bodb { c with skip := s, label := n } = bodb c := rfl
        rw [this]; omega
  have two : ∀ (i : Nat) (s : Bool), i ≤ ts.length → (if kd ts i = 1 ∧ tn ts i = 78 then match pN ts 99999 (i + 1) with
        | .bad j => .bad j
        | .ok n j => pEnd ts s n (pCt ts j)
      else pEnd ts s 0 (pCt ts i)) = .ok b j → bodb b ≤ 20 * ts.length + 40 := by
    intro i s hi e
    split at e
    · cases e1 : pN ts 99999 (i + 1) with
      | bad k => rw [e1] at e; cases e
      | ok n k =>
        have := fwd_n e1
        rw [e1] at e; exact key _ n k (by omega) e
    · exact key _ 0 _ hi e
  have hi : (if tx ts 0 = [47] then 1 else 0) ≤ ts.length := by
    split
    · have := tx_lt ‹_› (by decide); omega
    · omega
  have := two _ _ hi e
  have := fmb_len hb
  omega
theorem lnR_len {l : List UInt8} (h : (lnR l).2.2 = 0) : (fmb (lnR l).1).length ≤ 20 * l.length + 60 := by
  unfold lnR at h ⊢
  by_cases h0 : 65536 < l.length
  · rw [if_pos h0] at h; exact absurd h (by simp)
  · rw [if_neg h0] at h ⊢
    cases e : Lx.lx l 0 with
    | bad a => rw [e] at h; exact absurd h (by simp)
    | ok ts =>
      rw [e] at h
      obtain ⟨hg, hl⟩ := good_lx e
      simp only at h ⊢
      cases e2 : pLn ts with
      | bad j => rw [e2] at h; exact absurd h (by simp)
      | ok b j =>
        rw [e2] at h
        simp only at h ⊢
        by_cases hv : vldb b = true
        · rw [if_pos hv]
          have := pLn_len hg e2
          simp only; omega
        · rw [if_neg hv] at h; exact absurd h (by simp)
end Sy
end Go.Proofs.YthfcimfoinidbaaDoor
set_option linter.unusedVariables false
set_option linter.unusedSimpArgs false
namespace Go.Proofs.YthfcimfoinidbaaDoor
open Go.RowKit
namespace Lx
def Bd (m : Nat) : Res → Prop
  | .bad k => k ≤ m
  | .ok ts => ∀ t ∈ ts, t.p ≤ m
theorem Bd.pre {m : Nat} {r : Res} {t : Lx.Tok} (h : Bd m r) (ht : t.p ≤ m) : Bd m (r.pre [t]) := by
  cases r with
  | bad k => exact h
  | ok ts =>
    intro u hu
    rcases List.mem_cons.1 (show u ∈ t :: ts from hu) with rfl | hu
    · exact ht
    · exact h u hu
theorem lx_bd : ∀ (n : Nat) (l : List UInt8) (a : Nat), l.length ≤ n → Bd (a + l.length) (lx l a)
  | n, [], a, _ => by rw [lx]; intro t ht; cases ht
  | 0, c :: t, a, h => by simp at h
  | n + 1, c :: t, a, h => by
    simp only [List.length_cons] at h ⊢
    rcases act_cases c t with ⟨_, e⟩ | ⟨_, e⟩ | ⟨_, e⟩ | ⟨_, j, _, hj, e⟩ | ⟨_, _, e⟩ | ⟨_, hm, e⟩
    · rw [lx_skip e]
      have := lx_bd n (t.drop 0) (a + 1 + 0) (by rw [List.length_drop]; omega)
      rw [List.length_drop, show a + 1 + 0 + (t.length - 0) = a + (t.length + 1) by omega] at this
      exact this
    · rw [lx_skip e]
      have := lx_bd n (t.drop t.length) (a + 1 + t.length) (by rw [List.length_drop]; omega)
      rw [List.length_drop, show a + 1 + t.length + (t.length - t.length) = a + (t.length + 1) by omega] at this
      exact this
    · rw [lx_bad e]; exact Nat.le_add_right _ _
    · rw [lx_skip e]
      have := lx_bd n (t.drop (j + 1)) (a + 1 + (j + 1)) (by rw [List.length_drop]; omega)
      rw [List.length_drop, show a + 1 + (j + 1) + (t.length - (j + 1)) = a + (t.length + 1) by omega] at this
      exact this
    · rw [lx_bad e]; exact Nat.le_add_right _ _
    · rw [lx_tok e]
      have fl := fst_le (c :: t) (by simp)
      simp only [List.length_cons] at fl
      have := lx_bd n (t.drop ((fst (c :: t)).m - 1)) (a + (fst (c :: t)).m) (by rw [List.length_drop]; omega)
      rw [List.length_drop, show a + (fst (c :: t)).m + (t.length - ((fst (c :: t)).m - 1)) = a + (t.length + 1) by omega] at this
      exact this.pre (Nat.le_add_right _ _)
end Lx
namespace Sy
open Lx
theorem lnR_at (l : List UInt8) : (lnR l).2.1 ≤ l.length := by
  have h := lx_bd l.length l 0 (Nat.le_refl _)
  rw [Nat.zero_add] at h
  unfold lnR
  split
  · exact Nat.zero_le _
  · split
    · rename_i a e; rw [e] at h; exact h
    · rename_i ts e
      rw [e] at h
      split
      · rename_i j e2
        show tp ts l.length j ≤ _
        unfold tp
        split
        · rename_i t ht; exact h t (List.mem_of_getElem? ht)
        · exact Nat.le_refl _
      · split
        · exact Nat.le_refl _
        · exact Nat.zero_le _
theorem canon {l : List UInt8} (hl : l.length ≤ 200) (h : (lnR l).2.2 = 0) : vldb (lnR l).1 = true ∧ fmt (lnR l).1 = fmb (lnR l).1 ∧ lnR (fmb (lnR l).1) = ((lnR l).1, (fmb (lnR l).1).length, 0) ∧ (fmb (lnR l).1).length ≤ 4060 ∧ (lnR l).2.1 = l.length := by
  have hlen := lnR_len h
  rcases lnR_block l with ⟨_, hv, ha⟩ | ⟨_, h2⟩
  · exact ⟨hv, by unfold fmt; rw [if_pos hv], lnR_fmb hv (by omega), by omega, ha⟩
  · exfalso; omega
theorem canon_bad {l : List UInt8} (h : (lnR l).2.2 ≠ 0) : (lnR l).1 = zb := by
  rcases lnR_block l with ⟨h0, _⟩ | ⟨hz, _⟩
  · exact absurd h0 h
  · exact hz
end Sy
end Go.Proofs.YthfcimfoinidbaaDoor

