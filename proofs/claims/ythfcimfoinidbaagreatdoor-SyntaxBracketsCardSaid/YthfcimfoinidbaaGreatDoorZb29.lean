import Derived.Test.YthfcimfoinidbaaGreatDoorZb22
import Derived.Test.YthfcimfoinidbaaGreatDoorZb28
import Derived.Deep.Cut
import Derived.IntWalk
import Derived.Deep.RegionLaw
set_option linter.unusedVariables false
set_option linter.unusedSimpArgs false
namespace Go.Proofs.YthfcimfoinidbaaGreatDoor
open Go.RowKit
namespace Lx
def lxf : Nat → List UInt8 → Nat → Res
  | 0, _, a => .bad a
  | f + 1, l, a => match l with
    | [] => .ok []
    | c :: t => match act c t with
      | .bad => .bad a
      | .skip k => lxf f (t.drop k) (a + 1 + k)
      | .tok g => (lxf f (t.drop (g.m - 1)) (a + g.m)).pre [⟨g.k, g.n, a, g.x⟩]
theorem lxf_eq : ∀ (f : Nat) (l : List UInt8) (a : Nat), l.length < f → lxf f l a = lx l a
  | 0, l, a, h => by omega
  | f + 1, [], a, h => by rw [lx]; rfl
  | f + 1, c :: t, a, h => by
    rw [lxf, lx]
    simp only [List.length_cons] at h
    cases act c t with
    | bad => rfl
    | skip k => exact lxf_eq f _ _ (by rw [List.length_drop]; omega)
    | tok g =>
      have := lxf_eq f (t.drop (g.m - 1)) (a + g.m) (by rw [List.length_drop]; omega)
      simp only [this]
end Lx
namespace Sy
open Lx
def getT : Res → List Lx.Tok
  | .ok ts => ts
  | .bad _ => []
theorem lnR_of {l : List UInt8} {ts : List Lx.Tok} {b : Bl} {j : Nat} (hl : l.length ≤ 65536) (h1 : lxf (l.length + 1) l 0 = .ok ts) (h2 : pLn ts = .ok b j) (h3 : vldb b = true) : lnR l = (b, l.length, 0) := by
  rw [lxf_eq _ _ _ (Nat.lt_succ_self _)] at h1
  unfold lnR
  rw [if_neg (by omega), h1]
  simp only [h2]
  rw [if_pos h3]
theorem okx_num' {n : Int} (h0 : 0 ≤ n) (h1 : n < 1000000000000000) : okx (num n) = true := by
  unfold num; rw [okx_mk]; unfold nodeB; simp [kds, kdsl]; omega
theorem okx_un' {o : Int} {x : Ex} (h : 0 ≤ o ∧ o ≤ 25) (k : kds o.toNat = 1) (hx : okx x = true) : okx (un o x) = true := by
  unfold un; rw [okx_mk]; unfold nodeB; simp [k, hx]; omega
theorem okx_bin' {o : Int} {x y : Ex} (h : 0 ≤ o ∧ o ≤ 25) (k : kds o.toNat = 2) (hx : okx x = true) (hy : okx y = true) : okx (bin o x y) = true := by
  unfold bin; rw [okx_mk]; unfold nodeB; simp [k, hx, hy]; omega
theorem dpt_num (n : Int) : dpt (num n) = 1 := by unfold num; rw [dpt_mk]; rfl
theorem dpt_un (o : Int) (x : Ex) : dpt (un o x) = 1 + dpt x := by unfold un; rw [dpt_mk]; simp [dmx]
theorem dpt_bin (o : Int) (x y : Ex) : dpt (bin o x y) = 1 + max (dpt x) (dpt y) := by unfold bin; rw [dpt_mk]; simp [dmx]
theorem dpt_zx' : dpt zx = 1 := by unfold zx; rw [dpt_mk]; rfl
def awE : Ex := un 2 (bin 3 (un 1 (num 1000000)) (bin 5 (num 2000000) (num 3000000)))
def awB : Bl := ⟨0, 10, false, [(71, num 1000000), (88, awE)], zx, zx, 0⟩
theorem awE_ok : okx awE = true := okx_un' (by decide) rfl (okx_bin' (by decide) rfl (okx_un' (by decide) rfl (okx_num' (by decide) (by decide))) (okx_bin' (by decide) rfl (okx_num' (by decide) (by decide)) (okx_num' (by decide) (by decide))))
theorem awE_dpt : dpt awE = 4 := by unfold awE; rw [dpt_un, dpt_bin, dpt_un, dpt_num, dpt_bin, dpt_num, dpt_num]; rfl
theorem aw_vld : vldb awB = true := by
  have h1 := okx_num' (n := 1000000) (by decide) (by decide)
  unfold vldb okb limb awB depB
  simp [cnt, isw, h1, awE_ok, awE_dpt, dpt_num, dpt_zx', noneB, zx, Ex.op, Ex.n, Ex.ks]
  exact decide_eq_true (show dpt zx ≤ 16 by rw [dpt_zx']; decide)
theorem aw_line : lnR [78, 49, 48, 71, 48, 49, 88, 45, 91, 35, 49, 43, 50, 42, 51, 93] = (awB, 16, 0) := lnR_of (ts := getT (lxf 17 [78, 49, 48, 71, 48, 49, 88, 45, 91, 35, 49, 43, 50, 42, 51, 93] 0)) (j := 14) (by decide) (by kernel_rfl) (by kernel_rfl) aw_vld
theorem aw_n : lnR [110] = (zb, 0, 2) := by kernel_rfl
theorem decs_1 {n : Int} (h0 : 0 ≤ n) (h : n < 10) : decs n = [UInt8.ofNat (48 + n.toNat)] := by
  unfold decs; rw [Lib.decDigits, dif_pos (by omega)]
theorem fmtp_1 (n m : Int) (e : n = m * 1000000) (h0 : 0 ≤ m) (h : m < 10) : fmtp n = [UInt8.ofNat (48 + m.toNat)] := by rw [e, fmtp_whole, decs_1 h0 h]
theorem decs_10 : decs 10 = [49, 48] := by
  unfold decs; rw [Lib.decDigits, dif_neg (by decide), Lib.decDigits, dif_pos (by decide)]; rfl
theorem aw_fmt : fmt awB = [78, 49, 48, 32, 71, 49, 32, 88, 91, 45, 91, 35, 49, 32, 43, 32, 91, 50, 32, 42, 32, 51, 93, 93, 93] := by
  have d1 := fmtp_1 1000000 1 rfl (by decide) (by decide)
  have d2 := fmtp_1 2000000 2 rfl (by decide) (by decide)
  have d3 := fmtp_1 3000000 3 rfl (by decide) (by decide)
  unfold fmt
  rw [if_pos aw_vld]
  unfold fmb partsb awB
  simp [joinb, decs_10, wdb, bva, smp, num, un, bin, awE, bcl, bpr, binb, bpc, d1, d2, d3, onm, onms, Ex.op]
end Sy
end Go.Proofs.YthfcimfoinidbaaGreatDoor
set_option linter.unusedVariables false
set_option linter.unusedSimpArgs false
namespace Go.Proofs.YthfcimfoinidbaaGreatDoor
open Go.RowKit
def bcs (b : Sy.Bl) (wa : Option Addr) (wc : Nat) (la : Option Addr) (lc : Nat) (xa : Option Addr) (xc : Nat) : Array Value := #[.int .i64 b.kind, .int .i64 b.label, .bool b.skip, .slice wa b.words.length wc, .int .i64 b.left.op, .int .i64 b.left.n, .slice la b.left.ks.length lc, .int .i64 b.x.op, .int .i64 b.x.n, .slice xa b.x.ks.length xc, .int .i64 b.n]
theorem lineW {s : ByteArray} {b : Sy.Bl} {n : Nat} {er : Int} (hs : s.size ≤ 1000000) (e : Sy.lnR s.data.toList = (b, n, er)) (w : World) (hT : Tn w) (hO : Ow w) :
    Calls Tryz.prog 35 #[.string s] w fun e w' => ∃ wa wc la lc xa xc, e = .returned (.tuple #[.agg #[.int .i64 b.kind, .int .i64 b.label, .bool b.skip, .slice wa b.words.length wc, .int .i64 b.left.op, .int .i64 b.left.n, .slice la b.left.ks.length lc, .int .i64 b.x.op, .int .i64 b.x.n, .slice xa b.x.ks.length xc, .int .i64 b.n], .int .i64 (n : Int), .int .i64 er]) ∧ BlkB w' (fun b => w.heap.size ≤ b) b (bcs b wa wc la lc xa xc) ∧ Qw w w' := by
  have h := sz_line s hs w hT hO
  rw [e] at h
  refine h.mono ?_
  rintro e w' ⟨⟨cs, rfl, B⟩, q⟩
  have B0 := B
  obtain ⟨wa, wc, la, lc, xa, xc, rfl, _, _, _⟩ := B
  exact ⟨wa, wc, la, lc, xa, xc, rfl, B0, q⟩
theorem BlkB.kept {w w' : World} {S : Nat → Prop} {b : Sy.Bl} {cs : Array Value} (h : BlkB w S b cs) (q : Qw w w') : BlkB w' S b cs := h.go fun b hS hb => ⟨q.block b hb, hS⟩
theorem awake6 (w : World) (hT : Tn w) (hO : Ow w) (hB : Tb w) : Calls Tryz.prog 14 #[] w fun e w' => e = .returned (.bool true) ∧ Qw w w' := by
  have c1 : ∀ w1, Qw w w1 → _ := fun w1 q => lineW (s := ⟨#[78, 49, 48, 71, 48, 49, 88, 45, 91, 35, 49, 43, 50, 42, 51, 93]⟩) (by decide) Sy.aw_line w1 (hT.kept q) (hO.kept q)
  have c2 : ∀ w1, Qw w w1 → _ := fun w1 q => lineW (s := ⟨#[110]⟩) (by decide) Sy.aw_n w1 (hT.kept q) (hO.kept q)
  have c3 : ∀ (w1 : World) (wa : Option Addr) (wc : Nat) (la : Option Addr) (lc : Nat) (xa : Option Addr) (xc : Nat) (S : Nat → Prop), Qw w w1 → BlkB w1 S Sy.awB (bcs Sy.awB wa wc la lc xa xc) → Calls Tryz.prog 31 #[.agg #[.int .i64 Sy.awB.kind, .int .i64 Sy.awB.label, .bool Sy.awB.skip, .slice wa Sy.awB.words.length wc, .int .i64 Sy.awB.left.op, .int .i64 Sy.awB.left.n, .slice la Sy.awB.left.ks.length lc, .int .i64 Sy.awB.x.op, .int .i64 Sy.awB.x.n, .slice xa Sy.awB.x.ks.length xc, .int .i64 Sy.awB.n]] w1 fun e w' => e = .returned (.string ⟨#[78, 49, 48, 32, 71, 49, 32, 88, 91, 45, 91, 35, 49, 32, 43, 32, 91, 50, 32, 42, 32, 51, 93, 93, 93]⟩) ∧ Qw w1 w' := fun w1 wa wc la lc xa xc S q hb => by
    have := sx_format Sy.awB _ S w1 (hO.kept q) (hB.kept q) hb
    rw [Sy.aw_fmt] at this
    exact this
  have C1 := Lib.hid c1
  have C2 := Lib.hid c2
  have C3 := Lib.hid c3
  clear c1 c2 c3 hT hO hB
  generalize Sy.awB = aw at *
  generalize Sy.zb = zb at *
  have q0 : Hid (Qw w w) := Lib.hid (Qw.refl w)
  go_enter Tryz.func14, Tryz.ntmps14
  go_wp2_with (first
    | (go_at_call 35; ((with_reducible refine (C1.out _ (by repeat (first | exact q0.out | exact Qw.refl _ | refine Qw.al ?_ _ | refine Qw.dr ?_ | refine Qw.dn ?_ _ | refine Qw.sc ?_ (by first | (simp; done) | omega | (have := q0.out.size; first | omega | (simp; omega))) _))).mono ?_); rintro e w' ⟨wa, wc, la, lc, xa, xc, rfl, hb, q⟩; have HB := Lib.hid hb; have X0 : Bx (w'.alloc (.cells #[.int .i64 aw.kind, .int .i64 aw.label, .bool aw.skip, .slice wa aw.words.length wc, .int .i64 aw.left.op, .int .i64 aw.left.n, .slice la aw.left.ks.length lc, .int .i64 aw.x.op, .int .i64 aw.x.n, .slice xa aw.x.ks.length xc, .int .i64 aw.n] 36)) w'.heap.size _ _ := Bx.new _ _ _; have X := Lib.hid X0; clear X0 hb; replace q0 : Hid (Qw w w') := Lib.hid (Qw.trans (by repeat (first | exact q0.out | exact Qw.refl _ | refine Qw.al ?_ _ | refine Qw.dr ?_ | refine Qw.dn ?_ _ | refine Qw.sc ?_ (by first | (simp; done) | omega | (have := q0.out.size; first | omega | (simp; omega))) _)) q); clear q; clear C1))
    | (go_at_call 35; ((with_reducible refine (C2.out _ (by repeat (first | exact q0.out | exact Qw.refl _ | refine Qw.al ?_ _ | refine Qw.dr ?_ | refine Qw.dn ?_ _ | refine Qw.sc ?_ (by first | (simp; done) | omega | (have := q0.out.size; first | omega | (simp; omega))) _))).mono ?_); rintro e w' ⟨ya, yc, yb, yd, ye, yf, rfl, hb, q⟩; clear hb; replace X := Lib.hid (Bx.kept X.out q); replace HB := Lib.hid (BlkB.kept HB.out (Qw.trans (by unfold Qw; exact (Below.refl _ _).alloc (Nat.le_refl _) _) q)); have xn := Nat.ne_of_lt X.out.lt; have xl := X.out.lt; have x0 := X.out.cell' 0 _ rfl; have x1 := X.out.cell' 1 _ rfl; have x2 := X.out.cell' 2 _ rfl; have x3 := X.out.cell' 3 _ rfl; have x4 := X.out.cell' 4 _ rfl; have x5 := X.out.cell' 5 _ rfl; have x6 := X.out.cell' 6 _ rfl; have x7 := X.out.cell' 7 _ rfl; have x8 := X.out.cell' 8 _ rfl; have x9 := X.out.cell' 9 _ rfl; have x10 := X.out.cell' 10 _ rfl; replace q0 : Hid (Qw w w') := Lib.hid (Qw.trans (by repeat (first | exact q0.out | exact Qw.refl _ | refine Qw.al ?_ _ | refine Qw.dr ?_ | refine Qw.dn ?_ _ | refine Qw.sc ?_ (by first | (simp; done) | omega | (have := q0.out.size; first | omega | (simp; omega))) _)) q); clear q))
    | (go_at_call 31; ((with_reducible refine (C3.out _ _ _ _ _ _ _ _ (by repeat (first | exact q0.out | exact Qw.refl _ | refine Qw.al ?_ _ | refine Qw.dr ?_ | refine Qw.dn ?_ _ | refine Qw.sc ?_ (by first | (simp; done) | omega | (have := q0.out.size; first | omega | (simp; omega))) _)) (BlkB.kept HB.out (by unfold Qw; repeat (first | exact Below.refl _ _ | refine Below.alloc ?_ (Nat.le_refl _) _ | refine Below.drew ?_)))).mono ?_); rintro e w' ⟨rfl, q⟩; replace q0 : Hid (Qw w w') := Lib.hid (Qw.trans (by repeat (first | exact q0.out | exact Qw.refl _ | refine Qw.al ?_ _ | refine Qw.dr ?_ | refine Qw.dn ?_ _ | refine Qw.sc ?_ (by first | (simp; done) | omega | (have := q0.out.size; first | omega | (simp; omega))) _)) q); clear q)))
  go_ret
  exact ⟨rfl, q0.out⟩
end Go.Proofs.YthfcimfoinidbaaGreatDoor
set_option linter.unusedVariables false
set_option linter.unusedSimpArgs false
namespace Go.Proofs.YthfcimfoinidbaaGreatDoor
open Go.RowKit
theorem KidsB.at {w : World} {S : Nat → Prop} {a : Option Addr} {cap : Nat} {ks : List Sy.Ex} (h : KidsB w S a cap ks) (i : Nat) (hi : i < ks.length) : ∃ (b off : Nat) (ad : Option Addr) (cc : Nat), a = some ⟨b, off, none⟩ ∧ S b ∧ b < w.heap.size ∧
    w.cell? ⟨b, off + i * 3, none⟩ = some (.int .i64 ks[i].op) ∧ w.cell? ⟨b, off + i * 3 + 1, none⟩ = some (.int .i64 ks[i].n) ∧ w.cell? ⟨b, off + i * 3 + 2, none⟩ = some (.slice ad ks[i].ks.length cc) ∧ KidsB w S ad cc ks[i].ks := by
  cases h with
  | nl => simp at hi
  | mk b off cap ks ad cc hS h1 h2 hc hkk =>
    obtain ⟨z0, z1, z2⟩ := hc i hi
    exact ⟨b, off, ad i, cc i, rfl, hS, cell_lt z0, z0, z1, z2, hkk i hi⟩
set_option maxRecDepth 100000 in
set_option maxHeartbeats 4000000 in
theorem sx_sameExpr (x : Sy.Ex) : ∀ (a a' : Option Addr) (cap cap' : Nat) (S S' : Nat → Prop) (w : World), KidsB w S a cap x.ks → KidsB w S' a' cap' x.ks →
    Calls Tryz.prog 39 #[.agg #[.int .i64 x.op, .int .i64 x.n, .slice a x.ks.length cap], .agg #[.int .i64 x.op, .int .i64 x.n, .slice a' x.ks.length cap']] w fun e w' => e = .returned (.bool true) ∧ Qw w w' := by
  induction x using Sy.Ex.ind with
  | h op n ks ih =>
    intro a a' cap cap' S S' w hk hk'
    show Calls Tryz.prog 39 #[.agg #[.int .i64 op, .int .i64 n, .slice a ks.length cap], .agg #[.int .i64 op, .int .i64 n, .slice a' ks.length cap']] w _
    replace hk : KidsB w S a cap ks := hk
    replace hk' : KidsB w S' a' cap' ks := hk'
    obtain ⟨l1, l2⟩ := hk.cap
    obtain ⟨l1', l2'⟩ := hk'.cap
    have HK := Lib.hid hk
    have HK' := Lib.hid hk'
    have IH := Lib.hid ih
    clear hk hk' ih
    go_enter Tryz.func39, Tryz.ntmps39
    go_wp2_with fail
    refine code_of (fun w2 => Hid (Bx w2 w.heap.size #[.int .i64 op, .int .i64 n, .slice a ks.length cap] 34) ∧ Hid (Bx w2 (w.heap.size + 1) #[.int .i64 op, .int .i64 n, .slice a' ks.length cap'] 34) ∧ Hid (Qw w w2)) ⟨Lib.hid (by repeat (first | exact Bx.new _ _ _ | refine Bx.alloc ?_ _ | refine Bx.drew ?_)), Lib.hid (by have := Bx.new (w.alloc (.cells #[.int .i64 op, .int .i64 n, .slice a ks.length cap] 34)) #[.int .i64 op, .int .i64 n, .slice a' ks.length cap'] 34; simpa using this), Lib.hid (by unfold Qw; repeat (first | exact Below.refl _ _ | refine Below.alloc ?_ (by simp) _ | refine Below.drew ?_))⟩ ?_
    rintro w2 ⟨B0, B1, Q0⟩
    go_loopw [5] (fun iv wr => ∃ i : Nat, iv = .int .i64 (i : Int) ∧ i ≤ ks.length ∧ Hid (Bx wr w.heap.size #[.int .i64 op, .int .i64 n, .slice a ks.length cap] 34) ∧ Hid (Bx wr (w.heap.size + 1) #[.int .i64 op, .int .i64 n, .slice a' ks.length cap'] 34) ∧ Hid (Qw w wr)) (fun iv _ => ks.length - (intOf iv).toNat)
    case atStart => exact ⟨0, rfl, Nat.zero_le _, B0, B1, Q0⟩
    case round =>
      clear B0 B1 Q0
      obtain ⟨i, rfl, hi, B0, B1, Q0⟩ := hrel
      have x2 : wr.cell? ⟨w.heap.size, 2, none⟩ = some (.slice a ks.length cap) := B0.out.cell' 2 _ rfl
      have y2 : wr.cell? ⟨w.heap.size + 1, 2, none⟩ = some (.slice a' ks.length cap') := B1.out.cell' 2 _ rfl
      by_cases hlt : i < ks.length
      · obtain ⟨b, off, ad, cc, rfl, hS, bl, z0, z1, z2, KK⟩ := HK.out.at i hlt
        obtain ⟨b', off', ad', cc', rfl, hS', bl', z0', z1', z2', KK'⟩ := HK'.out.at i hlt
        have hi2 : (i : Int) < (ks.length : Int) := by omega
        have cr : ∀ w1, Qw w w1 → _ := fun w1 q => IH.out ks[i] (List.getElem_mem hlt) ad ad' cc cc' S S' w1 (KK.kept q) (KK'.kept q)
        have D1 : Hid (∀ p : Kept wr, Calls Tryz.prog 39 #[.agg #[.int .i64 ks[i].op, .int .i64 ks[i].n, .slice ad ks[i].ks.length cc], .agg #[.int .i64 ks[i].op, .int .i64 ks[i].n, .slice ad' ks[i].ks.length cc']] p.v fun e w' => e = .returned (.bool true) ∧ Qw p.v w') := Lib.hid fun p => cr p.v (Q0.out.trans p.h)
        have kx := B0.out.kcell 2 _ rfl
        have ky := B1.out.kcell 2 _ rfl
        have k0 : ∀ p : Kept wr, p.v.cell? ⟨b, off + i * 3, none⟩ = some (.int .i64 ks[i].op) := fun p => (World.cell?_of_block (w := w) ((Q0.out.trans p.h).block _ bl)).trans z0
        have k1 : ∀ p : Kept wr, p.v.cell? ⟨b, off + i * 3 + 1, none⟩ = some (.int .i64 ks[i].n) := fun p => (World.cell?_of_block (w := w) ((Q0.out.trans p.h).block _ bl)).trans z1
        have k2 : ∀ p : Kept wr, p.v.cell? ⟨b, off + i * 3 + 2, none⟩ = some (.slice ad ks[i].ks.length cc) := fun p => (World.cell?_of_block (w := w) ((Q0.out.trans p.h).block _ bl)).trans z2
        have k0' : ∀ p : Kept wr, p.v.cell? ⟨b', off' + i * 3, none⟩ = some (.int .i64 ks[i].op) := fun p => (World.cell?_of_block (w := w) ((Q0.out.trans p.h).block _ bl')).trans z0'
        have k1' : ∀ p : Kept wr, p.v.cell? ⟨b', off' + i * 3 + 1, none⟩ = some (.int .i64 ks[i].n) := fun p => (World.cell?_of_block (w := w) ((Q0.out.trans p.h).block _ bl')).trans z1'
        have k2' : ∀ p : Kept wr, p.v.cell? ⟨b', off' + i * 3 + 2, none⟩ = some (.slice ad' ks[i].ks.length cc') := fun p => (World.cell?_of_block (w := w) ((Q0.out.trans p.h).block _ bl')).trans z2'
        clear cr z0 z1 z2 z0' z1' z2' KK KK' IH HK HK'
        generalize ks[i].ks.length = kl at *
        generalize ks[i].op = ko at *
        generalize ks[i].n = kn at *
        go_upto_region 6 with fail
        refine region_kept (by kernel_rfl) (by kernel_rfl) ?_
        repeat (go_big_quiet_step (first | (go_at_call 39; with_reducible exact Kept.call (D1.out _))))
        refine wpQuiet_nil ?_
        intro w3 q
        replace B0 := Lib.hid (B0.out.kept q)
        replace B1 := Lib.hid (B1.out.kept q)
        replace Q0 := Lib.hid (Q0.out.trans q)
        clear kx ky k0 k1 k2 k0' k1' k2' q x2 y2 D1
        go_wp2_with fail
        go_roundw
        case measure => simp [intOf]; omega
        case rel => exact ⟨i + 1, by go_num, by omega, B0, B1, Q0⟩
      · obtain rfl : i = ks.length := by omega
        have hb : ¬ ((ks.length : Nat) : Int) < (ks.length : Int) := by omega
        go_wp2_with fail
        go_ret
        exact ⟨rfl, Q0.out⟩
end Go.Proofs.YthfcimfoinidbaaGreatDoor
set_option linter.unusedVariables false
set_option linter.unusedSimpArgs false
namespace Go.Proofs.YthfcimfoinidbaaGreatDoor
open Go.RowKit
theorem WordsB.at {w : World} {S : Nat → Prop} {a : Option Addr} {cap : Nat} {ws : List (Int × Sy.Ex)} (h : WordsB w S a cap ws) (i : Nat) (hi : i < ws.length) : ∃ (b off : Nat) (ad : Option Addr) (cc : Nat), a = some ⟨b, off, none⟩ ∧ b < w.heap.size ∧
    w.cell? ⟨b, off + i * 4, none⟩ = some (.int .i64 ws[i].1) ∧ w.cell? ⟨b, off + i * 4 + 1, none⟩ = some (.int .i64 ws[i].2.op) ∧ w.cell? ⟨b, off + i * 4 + 2, none⟩ = some (.int .i64 ws[i].2.n) ∧ w.cell? ⟨b, off + i * 4 + 3, none⟩ = some (.slice ad ws[i].2.ks.length cc) ∧ KidsB w S ad cc ws[i].2.ks := by
  rcases h.2.2 with rfl | ⟨b, off, ad, cc, rfl, hS, hc⟩
  · simp at hi
  · obtain ⟨h1, h2, h3, h4, h5⟩ := hc i hi
    exact ⟨b, off, ad i, cc i, rfl, cell_lt h1, h1, h2, h3, h4, h5⟩
end Go.Proofs.YthfcimfoinidbaaGreatDoor
set_option linter.unusedVariables false
set_option linter.unusedSimpArgs false
namespace Go.Proofs.YthfcimfoinidbaaGreatDoor
open Go.RowKit
def TpB (w : World) (B : Nat) (v : Value) (zs : List Int) : Prop := ∃ k, TapeAt w B v zs k
theorem TpB.lt {w : World} {B : Nat} {v : Value} {zs : List Int} (h : TpB w B v zs) : B < w.heap.size := by
  obtain ⟨k, h⟩ := h; exact lt_of_block h.1
theorem TpB.kept {w w' : World} {B : Nat} {v : Value} {zs : List Int} (h : TpB w B v zs) (q : Qw w w') : TpB w' B v zs := by
  obtain ⟨k, h⟩ := h; exact ⟨k, h.kept q⟩
theorem TpB.other {w : World} {B : Nat} {v : Value} {zs : List Int} (h : TpB w B v zs) {b : Nat} (hb : B < b) (o : Nat) (u : Value) : TpB (w.setCell ⟨b, o, none⟩ u) B v zs := by
  obtain ⟨k, h1, h2, h3⟩ := h
  exact ⟨k, (Below.heap_setCell _ _ _ _ (by show B ≠ b; omega)).trans h1, h2.kept (C := b) ((Below.refl b w).setCell (p := ⟨b, o, none⟩) (Nat.le_refl _) u) (by omega), h3⟩
theorem px_grown {B : Nat} {w w' : World} (h : w.grownBy w' (some B)) : Px B w w' := ⟨h.os, h.tape, h.output, h.size, fun k hk hB => h.block k hk (by simp; omega)⟩
theorem nextA {B : Nat} {v : Value} {zs : List Int} (n : Int) (n1 : 1 ≤ n) (n2 : n ≤ 9223372036854775807) (w : World) (h : TpB w B v zs) :
    Calls Tryz.prog 21 #[.pointer (some ⟨B, 0, none⟩), .int .i64 n] w fun e w' => ∃ r, e = .returned (.int .i64 r) ∧ 0 ≤ r ∧ r < n ∧ TpB w' B v zs ∧ Px B w w' := by
  obtain ⟨k, h⟩ := h
  refine (nextG B v zs k n n1 n2 w h).mono ?_
  rintro e w' ⟨rfl, t, g⟩
  obtain ⟨b0, b1⟩ := nxt_bd zs k n n1
  exact ⟨_, rfl, b0, b1, ⟨_, t⟩, px_grown g⟩
set_option maxRecDepth 100000 in
set_option maxHeartbeats 4000000 in
theorem rangeA {B : Nat} {v : Value} {zs : List Int} (lo hi : Int) (l0 : 0 ≤ lo) (l1 : lo ≤ hi) (l2 : hi ≤ 1000000) (w : World) (h : TpB w B v zs) :
    Calls Tryz.prog 46 #[.pointer (some ⟨B, 0, none⟩), .int .i64 lo, .int .i64 hi] w fun e w' => ∃ r, e = .returned (.int .i64 r) ∧ lo ≤ r ∧ r ≤ hi ∧ TpB w' B v zs ∧ Px B w w' := by
  have C1 := Lib.hid (nextA (hi - lo + 1) (by omega) (by omega) w h)
  clear h
  go_enter Tryz.func46, Tryz.ntmps46
  go_wp2_with (go_at_call 21; ((with_reducible refine C1.out.mono ?_); rintro e w' ⟨r, rfl, r0, r1, tp, q⟩; have TP := Lib.hid tp; have Q1 := Lib.hid q; clear tp q))
  go_ret
  exact ⟨_, rfl, by omega, by omega, TP.out, Q1.out⟩
set_option maxRecDepth 100000 in
set_option maxHeartbeats 4000000 in
theorem numberA {B : Nat} {v : Value} {zs : List Int} (w : World) (h : TpB w B v zs) :
    Calls Tryz.prog 52 #[.pointer (some ⟨B, 0, none⟩)] w fun e w' => ∃ r, e = .returned (.int .i64 r) ∧ 0 ≤ r ∧ r < 1000000000000000 ∧ TpB w' B v zs ∧ Px B w w' := by
  have c := fun n n1 n2 w h => nextA (B := B) (v := v) (zs := zs) n n1 n2 w h
  have TP := Lib.hid h
  have C := Lib.hid c
  clear h c
  have q0 : Hid (Px B w w) := Lib.hid (Px.refl B w)
  go_enter Tryz.func52, Tryz.ntmps52
  go_wp2_with (go_at_call 21; ((with_reducible refine (C.out _ (by decide) (by decide) _ TP.out).mono ?_); rintro e w' ⟨r, rfl, r0, r1, tp, q⟩; replace TP := Lib.hid tp; replace q0 : Hid (Px B w w') := Lib.hid (Px.trans q0.out q); clear tp q))
  all_goals go_ret
  all_goals exact ⟨_, rfl, by omega, by omega, TP.out, q0.out⟩
set_option maxRecDepth 100000 in
set_option maxHeartbeats 4000000 in
theorem variableA {B : Nat} {v : Value} {zs : List Int} (w : World) (h : TpB w B v zs) :
    Calls Tryz.prog 47 #[.pointer (some ⟨B, 0, none⟩)] w fun e w' => ∃ r, e = .returned (.int .i64 r) ∧ 0 ≤ r ∧ r ≤ 10000 ∧ TpB w' B v zs ∧ Px B w w' := by
  have c := fun n n1 n2 w h => nextA (B := B) (v := v) (zs := zs) n n1 n2 w h
  have d := fun lo hi l0 l1 l2 w h => rangeA (B := B) (v := v) (zs := zs) lo hi l0 l1 l2 w h
  have TP := Lib.hid h
  have C := Lib.hid c
  have D := Lib.hid d
  clear h c d
  have q0 : Hid (Px B w w) := Lib.hid (Px.refl B w)
  go_enter Tryz.func47, Tryz.ntmps47
  go_wp2_with (first
    | (go_at_call 21; ((with_reducible refine (C.out _ (by decide) (by decide) _ TP.out).mono ?_); rintro e w' ⟨r, rfl, r0, r1, tp, q⟩; replace TP := Lib.hid tp; replace q0 : Hid (Px B w w') := Lib.hid (Px.trans q0.out q); clear tp q))
    | (go_at_call 46; ((with_reducible refine (D.out _ _ (by decide) (by decide) (by decide) _ TP.out).mono ?_); rintro e w' ⟨r, rfl, r0, r1, tp, q⟩; replace TP := Lib.hid tp; replace q0 : Hid (Px B w w') := Lib.hid (Px.trans q0.out q); clear tp q)))
  all_goals go_ret
  all_goals exact ⟨_, rfl, by omega, by omega, TP.out, q0.out⟩
end Go.Proofs.YthfcimfoinidbaaGreatDoor
set_option linter.unusedVariables false
set_option linter.unusedSimpArgs false
namespace Go.Proofs.YthfcimfoinidbaaGreatDoor
open Go.RowKit
def ExA (B : Nat) (v : Value) (zs : List Int) (d : Nat) (w : World) (e : Ending) (w' : World) : Prop :=
  ∃ (x : Sy.Ex) (ka : Option Addr) (kc : Nat), e = .returned (.agg #[.int .i64 x.op, .int .i64 x.n, .slice ka x.ks.length kc]) ∧ Sy.okx x = true ∧ Sy.dpt x ≤ d ∧ KidsB w' (fun b => w.heap.size ≤ b) ka kc x.ks ∧ TpB w' B v zs ∧ Px B w w'
theorem exaEnd {B : Nat} {v : Value} {zs : List Int} {d : Nat} {w w' : World} {fn : Func} {s : Nat} {act : Act} (hr : fn.results = #[.cell s 34]) (hs : act.tmps[s]?.getD undef = .pointer (some ⟨w.heap.size, 0, none⟩)) (hd : act.defers = [])
    {x : Sy.Ex} {ka : Option Addr} {kc : Nat} {o n : Int} {l : Nat} (xo : x.op = o) (xn : x.n = n) (xl : x.ks.length = l) (ok : Sy.okx x = true) (dp : Sy.dpt x ≤ d) (hB : B < w.heap.size)
    (R : Bx w' w.heap.size exZ 34) (K : KidsB w' (fun b => w.heap.size < b) ka kc x.ks) (T : TpB w' B v zs) (q : Px B w w') :
    bodyPost Tryz.prog fn (ExA B v zs d w) .ret act (((w'.setCell ⟨w.heap.size, 0, none⟩ (.int .i64 o)).setCell ⟨w.heap.size, 1, none⟩ (.int .i64 n)).setCell ⟨w.heap.size, 2, none⟩ (.slice ka l kc)) := by
  subst xo xn xl
  have n : ¬ w.heap.size < w.heap.size := Nat.lt_irrefl _
  refine bodyPost_ret (ret_ex hr hs (((R.set 0 _).set 1 _).set 2 _)) hd ⟨x, ka, kc, rfl, ok, dp, KidsB.mono (((K.set n _).set n _).set n _) (fun b hb => Nat.le_of_lt hb), ((T.other hB _ _).other hB _ _).other hB _ _, ((q.setNew (Nat.le_refl _) _).setNew (Nat.le_refl _) _).setNew (Nat.le_refl _) _⟩
theorem exaEnd2 {B : Nat} {v : Value} {zs : List Int} {d : Nat} {w w' : World} {fn : Func} {s : Nat} {act : Act} (hr : fn.results = #[.cell s 34]) (hs : act.tmps[s]?.getD undef = .pointer (some ⟨w.heap.size, 0, none⟩)) (hd : act.defers = [])
    {x : Sy.Ex} {ka : Option Addr} {kc : Nat} {o n : Int} {l : Nat} (xo : x.op = o) (xn : x.n = n) (xl : x.ks.length = l) (ok : Sy.okx x = true) (dp : Sy.dpt x ≤ d) (hB : B < w.heap.size) (ob : Obj)
    (R : Bx w' w.heap.size exZ 34) (K : KidsB (w'.alloc ob) (fun b => w.heap.size < b) ka kc x.ks) (T : TpB w' B v zs) (q : Px B w w') :
    bodyPost Tryz.prog fn (ExA B v zs d w) .ret act ((((w'.setCell ⟨w.heap.size, 0, none⟩ (.int .i64 o)).setCell ⟨w.heap.size, 1, none⟩ (.int .i64 n)).setCell ⟨w.heap.size, 2, none⟩ (.slice ka l kc)).alloc ob) := by
  have k := exaEnd hr hs hd xo xn xl ok dp hB (R.alloc ob) K (T.kept ((Below.refl _ _).alloc (Nat.le_refl _) ob)) (q.alloc ob)
  have hl := R.lt
  rw [World.setCell_alloc_past _ _ _ _ hl, World.setCell_alloc_past _ _ _ _ (by simpa [World.setCell] using hl), World.setCell_alloc_past _ _ _ _ (by simpa [World.setCell] using hl)] at k
  exact k
theorem lit_all {cs : Array Value} (r : Int) (l : List Int) (hc : cs.toList = l.map (fun o => Value.int .i64 o)) (h0 : 0 ≤ r) (h1 : r < l.length) : ∃ o, o ∈ l ∧ ∀ (w : World) (b : Nat) (t : TypeId), Bx w b cs t → w.cell? ⟨b, r.toNat, none⟩ = some (.int .i64 o) := by
  have hr : r.toNat < l.length := by omega
  refine ⟨l[r.toNat], List.getElem_mem hr, fun w b t X => ?_⟩
  rw [X.cell, ← Array.getElem?_toList, hc, List.getElem?_map, List.getElem?_eq_getElem hr]
  rfl
theorem Bx.kept2 {P : Nat} {w w1 w' : World} {b : Nat} {cs : Array Value} {t : TypeId} (h : Bx w b cs t) (q1 : Qw w w1) (q : Px P w1 w') (hb : b ≠ P) : Bx w' b cs t := (h.kept q1).px q hb
def opsU : List Int := [2, 8, 9, 10, 12, 13, 14, 15, 16]
def opsB : List Int := [3, 4, 5, 6, 7, 11, 17, 18, 19, 20, 21, 22, 23, 24, 25, 3, 4, 5]
theorem opsU_ok {o : Int} (h : o ∈ opsU) : (0 ≤ o ∧ o ≤ 25) ∧ Sy.kds o.toNat = 1 := by
  have : ∀ o ∈ opsU, (0 ≤ o ∧ o ≤ 25) ∧ Sy.kds o.toNat = 1 := by decide
  exact this o h
theorem opsB_ok {o : Int} (h : o ∈ opsB) : (0 ≤ o ∧ o ≤ 25) ∧ Sy.kds o.toNat = 2 := by
  have : ∀ o ∈ opsB, (0 ≤ o ∧ o ≤ 25) ∧ Sy.kds o.toNat = 2 := by decide
  exact this o h
set_option maxRecDepth 100000 in
set_option maxHeartbeats 4000000 in
theorem exprA {B : Nat} {v : Value} {zs : List Int} (d : Nat) : ∀ w, 1 ≤ d → d ≤ 6 → TpB w B v zs → Calls Tryz.prog 26 #[.pointer (some ⟨B, 0, none⟩), .int .i64 (d : Int)] w (ExA B v zs d w) := by
  induction d with
  | zero => intro w h; omega
  | succ d ih =>
    intro w _ hd6 hT
    have hB := hT.lt
    have k1 : ((d + 1 : Nat) : Int) = (d : Int) + 1 := by omega
    rw [k1]
    have c := fun n n1 n2 w h => nextA (B := B) (v := v) (zs := zs) n n1 n2 w h
    have cn := fun w h => numberA (B := B) (v := v) (zs := zs) w h
    have cv := fun w h => variableA (B := B) (v := v) (zs := zs) w h
    have TP := Lib.hid hT
    have C := Lib.hid c
    have CN := Lib.hid cn
    have CV := Lib.hid cv
    have IH := Lib.hid ih
    clear hT c cn cv ih k1
    have R : Hid (Bx (w.alloc (.cells exZ 34)) w.heap.size exZ 34) := Lib.hid (Bx.new w _ _)
    have q0 : Hid (Px B w w) := Lib.hid (Px.refl B w)
    go_enter Tryz.func26, Tryz.ntmps26
    go_upto_region 2 with (first | (go_at_call 21; ((with_reducible refine (C.out _ (by decide) (by decide) _ (TP.out.kept (by unfold Qw; repeat (first | exact Below.refl _ _ | refine Below.setCell ?_ (by first | (simp; done) | (simp; omega)) _ | refine Below.alloc ?_ (by first | (simp; done) | (simp; omega)) _ | refine bel_drewN ?_ _ | refine Below.drew ?_)))).mono ?_); rintro e w' ⟨r, rfl, r0, r1, tp, q⟩; replace TP := Lib.hid tp; replace R : Hid (Bx w' w.heap.size exZ 34) := Lib.hid (Bx.px (by repeat (first | exact R.out | refine Bx.alloc ?_ _ | refine Bx.drew ?_)) q (by omega)); have rl := R.out.lt; have s0 := R.out.free 0; have s1 := R.out.free 1; have s2 := R.out.free 2; have u0 := R.out.cell' 0 _ rfl; have u1 := R.out.cell' 1 _ rfl; have u2 := R.out.cell' 2 _ rfl; replace q0 : Hid (Px B w w') := Lib.hid (Px.trans (by repeat (first | exact q0.out | exact Px.of q0.out | exact Px.refl _ _ | refine Px.setP ?_ _ _ | refine Px.alloc ?_ _ | refine Px.drewN ?_ _ | refine Px.drew ?_ | refine Px.setNew ?_ (by first | (simp; done) | omega | (have := q0.out.size; first | omega | (simp; omega))) _)) q); clear tp q)))
    by_cases ha : d = 0 ∨ r < 3
    · have num : ∀ m : Int, 0 ≤ m → m < 1000000000000000 → Sy.okx (Sy.num m) = true ∧ Sy.dpt (Sy.num m) ≤ d + 1 := fun m h0 h1 => ⟨Sy.okx_num' h0 h1, by rw [Sy.dpt_num]; omega⟩
      have NUM := Lib.hid num
      clear num IH
      by_cases hd : d = 0
      · subst hd
        go_wp2_with (go_at_call 52; ((with_reducible refine (CN.out _ TP.out).mono ?_); rintro e w' ⟨m, rfl, m0, m1, tp, q⟩; replace TP := Lib.hid tp; replace R : Hid (Bx w' w.heap.size exZ 34) := Lib.hid (Bx.px (by repeat (first | exact R.out | refine Bx.alloc ?_ _ | refine Bx.drew ?_)) q (by omega)); have rl := R.out.lt; have s0 := R.out.free 0; have s1 := R.out.free 1; have s2 := R.out.free 2; have u0 := R.out.cell' 0 _ rfl; have u1 := R.out.cell' 1 _ rfl; have u2 := R.out.cell' 2 _ rfl; replace q0 : Hid (Px B w w') := Lib.hid (Px.trans (by repeat (first | exact q0.out | exact Px.of q0.out | exact Px.refl _ _ | refine Px.setP ?_ _ _ | refine Px.alloc ?_ _ | refine Px.drewN ?_ _ | refine Px.drew ?_ | refine Px.setNew ?_ (by first | (simp; done) | omega | (have := q0.out.size; first | omega | (simp; omega))) _)) q); clear tp q))
        obtain ⟨ok, dp⟩ := NUM.out m m0 m1
        exact exaEnd (x := Sy.num m) Tryz.results26 rfl rfl rfl rfl rfl ok dp hB R.out (KidsB.nl none 0 (by decide)) TP.out q0.out
      · have hd2 : ¬ (d : Int) + 1 < 2 := by omega
        have hr3 : r < 3 := by omega
        go_wp2_with (go_at_call 52; ((with_reducible refine (CN.out _ TP.out).mono ?_); rintro e w' ⟨m, rfl, m0, m1, tp, q⟩; replace TP := Lib.hid tp; replace R : Hid (Bx w' w.heap.size exZ 34) := Lib.hid (Bx.px (by repeat (first | exact R.out | refine Bx.alloc ?_ _ | refine Bx.drew ?_)) q (by omega)); have rl := R.out.lt; have s0 := R.out.free 0; have s1 := R.out.free 1; have s2 := R.out.free 2; have u0 := R.out.cell' 0 _ rfl; have u1 := R.out.cell' 1 _ rfl; have u2 := R.out.cell' 2 _ rfl; replace q0 : Hid (Px B w w') := Lib.hid (Px.trans (by repeat (first | exact q0.out | exact Px.of q0.out | exact Px.refl _ _ | refine Px.setP ?_ _ _ | refine Px.alloc ?_ _ | refine Px.drewN ?_ _ | refine Px.drew ?_ | refine Px.setNew ?_ (by first | (simp; done) | omega | (have := q0.out.size; first | omega | (simp; omega))) _)) q); clear tp q))
        obtain ⟨ok, dp⟩ := NUM.out m m0 m1
        exact exaEnd (x := Sy.num m) Tryz.results26 rfl rfl rfl rfl rfl ok dp hB R.out (KidsB.nl none 0 (by decide)) TP.out q0.out
    · obtain ⟨hd0, hr3⟩ : ¬ d = 0 ∧ ¬ r < 3 := ⟨fun h => ha (.inl h), fun h => ha (.inr h)⟩
      have hd2 : ¬ (d : Int) + 1 < 2 := by omega
      clear ha CN
      by_cases h5 : r < 5
      · go_upto_region 8 with (first
          | (go_at_call 47; ((with_reducible refine (CV.out _ TP.out).mono ?_); rintro e w6 ⟨m, rfl, m0, m1, tp, q⟩; replace TP := Lib.hid tp; replace R : Hid (Bx w6 w.heap.size exZ 34) := Lib.hid (Bx.px (by repeat (first | exact R.out | refine Bx.alloc ?_ _ | refine Bx.drew ?_)) q (by omega)); replace q0 : Hid (Px B w w6) := Lib.hid (Px.trans (by repeat (first | exact q0.out | exact Px.of q0.out | exact Px.refl _ _ | refine Px.setP ?_ _ _ | refine Px.alloc ?_ _ | refine Px.drewN ?_ _ | refine Px.drew ?_ | refine Px.setNew ?_ (by first | (simp; done) | omega | (have := q0.out.size; first | omega | (simp; omega))) _)) q); have X : Hid (Bx (w6.alloc (.cells #[.int .i64 0, .int .i64 (m * 1000000), .slice none 0 0] 34)) w6.heap.size #[.int .i64 0, .int .i64 (m * 1000000), .slice none 0 0] 34) := Lib.hid (Bx.new _ _ _); have xB : B < w6.heap.size := TP.out.lt; have xr : w.heap.size < w6.heap.size := R.out.lt; clear tp q))
          | (go_at_call 21; ((with_reducible refine (C.out _ (by decide) (by decide) _ (TP.out.kept (by unfold Qw; repeat (first | exact Below.refl _ _ | refine Below.setCell ?_ (by first | (simp; done) | (simp; omega)) _ | refine Below.alloc ?_ (by first | (simp; done) | (simp; omega)) _ | refine bel_drewN ?_ _ | refine Below.drew ?_)))).mono ?_); rintro e w' ⟨r2, rfl, r20, r21, tp, q⟩; replace TP := Lib.hid tp; replace R : Hid (Bx w' w.heap.size exZ 34) := Lib.hid (Bx.px (by repeat (first | exact R.out | refine Bx.alloc ?_ _ | refine Bx.drew ?_)) q (by omega)); have rl := R.out.lt; have s0 := R.out.free 0; have s1 := R.out.free 1; have s2 := R.out.free 2; have u0 := R.out.cell' 0 _ rfl; have u1 := R.out.cell' 1 _ rfl; have u2 := R.out.cell' 2 _ rfl; replace X := Lib.hid (Bx.px (by repeat (first | exact X.out | refine Bx.alloc ?_ _ | refine Bx.drew ?_)) q (by omega)); replace q0 : Hid (Px B w w') := Lib.hid (Px.trans (by repeat (first | exact q0.out | exact Px.of q0.out | exact Px.refl _ _ | refine Px.setP ?_ _ _ | refine Px.alloc ?_ _ | refine Px.drewN ?_ _ | refine Px.drew ?_ | refine Px.setNew ?_ (by first | (simp; done) | omega | (have := q0.out.size; first | omega | (simp; omega))) _)) q); clear tp q; have xl := X.out.lt; have x0 := X.out.cell' 0 _ rfl; have x1 := X.out.cell' 1 _ rfl; have x2 := X.out.cell' 2 _ rfl; have t0 := X.out.free 0; have t1 := X.out.free 1; have t2 := X.out.free 2))
          | (go_at_call 26; ((with_reducible refine (IH.out _ (by omega) (by omega) TP.out).mono ?_); rintro e w' ⟨y, ka, kc, rfl, ok, dp, K, tp, q⟩; have KH : Hid (KidsB w' (fun b => w.heap.size < b ∧ b ≠ w6.heap.size) ka kc y.ks) := Lib.hid (K.mono fun b hb => ⟨by omega, by omega⟩); replace TP := Lib.hid tp; replace R : Hid (Bx w' w.heap.size exZ 34) := Lib.hid (Bx.px (by repeat (first | exact R.out | refine Bx.alloc ?_ _ | refine Bx.drew ?_)) q (by omega)); have rl := R.out.lt; have s0 := R.out.free 0; have s1 := R.out.free 1; have s2 := R.out.free 2; have u0 := R.out.cell' 0 _ rfl; have u1 := R.out.cell' 1 _ rfl; have u2 := R.out.cell' 2 _ rfl; replace X := Lib.hid (Bx.px (by repeat (first | exact X.out | refine Bx.alloc ?_ _ | refine Bx.drew ?_)) q (by omega)); have xl := X.out.lt; have x0 := X.out.cell' 0 _ rfl; have x1 := X.out.cell' 1 _ rfl; have x2 := X.out.cell' 2 _ rfl; have t0 := X.out.free 0; have t1 := X.out.free 1; have t2 := X.out.free 2; replace q0 : Hid (Px B w w') := Lib.hid (Px.trans (by repeat (first | exact q0.out | exact Px.of q0.out | exact Px.refl _ _ | refine Px.setP ?_ _ _ | refine Px.alloc ?_ _ | refine Px.drewN ?_ _ | refine Px.drew ?_ | refine Px.setNew ?_ (by first | (simp; done) | omega | (have := q0.out.size; first | omega | (simp; omega))) _)) q); clear tp q K)))
        · refine code_of (fun w2 => Hid (Bx w2 w.heap.size exZ 34) ∧ Hid (Bx w2 w6.heap.size #[.int .i64 y.op, .int .i64 y.n, .slice ka y.ks.length kc] 34) ∧ Hid (KidsB w2 (fun b => w.heap.size < b ∧ b ≠ w6.heap.size) ka kc y.ks) ∧ Hid (TpB w2 B v zs) ∧ Hid (Px B w w2))
            ⟨Lib.hid (((R.out.other (by show w.heap.size ≠ w6.heap.size; omega) _).other (by show w.heap.size ≠ w6.heap.size; omega) _).other (by show w.heap.size ≠ w6.heap.size; omega) _), Lib.hid (((X.out.set 0 _).set 1 _).set 2 _), Lib.hid (((KH.out.set (fun h => h.2 rfl) _).set (fun h => h.2 rfl) _).set (fun h => h.2 rfl) _), Lib.hid (((TP.out.other xB _ _).other xB _ _).other xB _ _), Lib.hid (((q0.out.setNew (by show w.heap.size ≤ w6.heap.size; omega) _).setNew (by show w.heap.size ≤ w6.heap.size; omega) _).setNew (by show w.heap.size ≤ w6.heap.size; omega) _)⟩ ?_
          clear R X KH TP q0 x0 x1 x2 u0 u1 u2 s0 s1 s2 t0 t1 t2 rl xl
          rintro w2 ⟨R, X, K, TP, q0⟩
          have rl := R.out.lt
          have s0 := R.out.free 0
          have s1 := R.out.free 1
          have s2 := R.out.free 2
          have u0 := R.out.cell' 0 _ rfl
          have u1 := R.out.cell' 1 _ rfl
          have u2 := R.out.cell' 2 _ rfl
          have xl := X.out.lt
          have x0 := X.out.cell' 0 _ rfl
          have x1 := X.out.cell' 1 _ rfl
          have x2 := X.out.cell' 2 _ rfl
          have t0 := X.out.free 0
          have t1 := X.out.free 1
          have t2 := X.out.free 2
          have xr2 := X.out.lt
          go_wp2_with fail
          exact exaEnd2 (d := d + 1) (x := Sy.un 1 y) Tryz.results26 rfl rfl rfl rfl rfl (Sy.okx_un' (by decide) rfl ok) (by rw [Sy.dpt_un]; omega) hB _ R.out (KidsB.one (x := y) (Bx.new _ _ _) (by show w.heap.size < w2.heap.size; omega) ((K.out.alloc _).mono fun b hb => hb.1)) TP.out q0.out
        · have K : Hid (KidsB w' (fun b => w.heap.size < b ∧ b ≠ w6.heap.size) none 0 (Sy.num (m * 1000000)).ks) := Lib.hid (KidsB.nl none 0 (by decide))
          have ok : Sy.okx (Sy.num (m * 1000000)) = true := Sy.okx_num' (by omega) (by omega)
          have dp : Sy.dpt (Sy.num (m * 1000000)) ≤ d := by rw [Sy.dpt_num]; omega
          have xr2 := X.out.lt
          go_wp2_with fail
          exact exaEnd2 (d := d + 1) (x := Sy.un 1 (Sy.num (m * 1000000))) Tryz.results26 rfl rfl rfl rfl rfl (Sy.okx_un' (by decide) rfl ok) (by rw [Sy.dpt_un]; omega) hB _ R.out (KidsB.one (x := (Sy.num (m * 1000000))) (Bx.new _ _ _) (by show w.heap.size < w'.heap.size; omega) ((K.out.alloc _).mono fun b hb => hb.1)) TP.out q0.out
      · by_cases h6 : r < 6
        · go_upto_region 11 with fail
          refine code_of (fun w2 => Hid (Bx w2 w.heap.size exZ 34) ∧ (∃ T, Hid (Bx w2 w'.heap.size #[.int .i64 2, .int .i64 8, .int .i64 9, .int .i64 10, .int .i64 12, .int .i64 13, .int .i64 14, .int .i64 15, .int .i64 16] T)) ∧ Hid (TpB w2 B v zs) ∧ Hid (Px B w w2)) ⟨Lib.hid (R.out.alloc _), ⟨_, Lib.hid (Bx.new _ _ _)⟩, Lib.hid (TP.out.kept ((Below.refl _ _).alloc (Nat.le_refl _) _)), Lib.hid (q0.out.alloc _)⟩ ?_
          have lB : B < w'.heap.size := TP.out.lt
          clear R TP q0 u0 u1 u2 s0 s1 s2 rl
          rintro w2 ⟨R, ⟨T, L⟩, TP, q0⟩
          have rl := R.out.lt
          have s0 := R.out.free 0
          have s1 := R.out.free 1
          have s2 := R.out.free 2
          have u0 := R.out.cell' 0 _ rfl
          have u1 := R.out.cell' 1 _ rfl
          have u2 := R.out.cell' 2 _ rfl
          have hwd : IntKind.i64.wrap (d : Int) = (d : Int) := IntWalk.i64_in _ (by omega)
          go_region_law ((try go_simp); go_wp2_with (first
            | (go_at_call 21; ((with_reducible refine (C.out _ (by decide) (by decide) _ (TP.out.kept (show Qw _ _ by repeat (first | exact Qw.refl _ | refine Qw.al ?_ _ | refine Qw.dr ?_ | refine Qw.dn ?_ _)))).mono ?_); rintro e w' ⟨r2, rfl, r20, r21, tp, q⟩; replace TP := Lib.hid tp; replace R : Hid (Bx w' w.heap.size exZ 34) := Lib.hid (Bx.kept2 R.out (show Qw _ _ by repeat (first | exact Qw.refl _ | refine Qw.al ?_ _ | refine Qw.dr ?_ | refine Qw.dn ?_ _)) q (by omega)); have rl := R.out.lt; have s0 := R.out.free 0; have s1 := R.out.free 1; have s2 := R.out.free 2; have u0 := R.out.cell' 0 _ rfl; have u1 := R.out.cell' 1 _ rfl; have u2 := R.out.cell' 2 _ rfl; replace L := Lib.hid (Bx.kept2 L.out (show Qw _ _ by repeat (first | exact Qw.refl _ | refine Qw.al ?_ _ | refine Qw.dr ?_ | refine Qw.dn ?_ _)) q (by omega)); obtain ⟨o, hm, hl⟩ := lit_all (cs := #[.int .i64 2, .int .i64 8, .int .i64 9, .int .i64 10, .int .i64 12, .int .i64 13, .int .i64 14, .int .i64 15, .int .i64 16]) r2 opsU rfl r20 r21; have ho := hl _ _ _ L.out; have HL := Lib.hid hl; replace q0 : Hid (Px B w w') := Lib.hid (Px.trans (Px.trans q0.out (Px.of (show Qw _ _ by repeat (first | exact Qw.refl _ | refine Qw.al ?_ _ | refine Qw.dr ?_ | refine Qw.dn ?_ _)))) q); clear tp q hl))
            | (go_at_call 26; ((with_reducible refine (IH.out _ (by omega) (by omega) (TP.out.kept (show Qw _ _ by repeat (first | exact Qw.refl _ | refine Qw.al ?_ _ | refine Qw.dr ?_ | refine Qw.dn ?_ _)))).mono ?_); rintro e w' ⟨y, ka, kc, rfl, ok, dp, K, tp, q⟩; have KH : Hid (KidsB w' (fun b => w.heap.size < b) ka kc y.ks) := Lib.hid (K.mono fun b hb => Nat.lt_of_lt_of_le R.out.lt hb); replace TP := Lib.hid tp; replace R : Hid (Bx w' w.heap.size exZ 34) := Lib.hid (Bx.kept2 R.out (show Qw _ _ by repeat (first | exact Qw.refl _ | refine Qw.al ?_ _ | refine Qw.dr ?_ | refine Qw.dn ?_ _)) q (by omega)); have rl := R.out.lt; have s0 := R.out.free 0; have s1 := R.out.free 1; have s2 := R.out.free 2; have u0 := R.out.cell' 0 _ rfl; have u1 := R.out.cell' 1 _ rfl; have u2 := R.out.cell' 2 _ rfl; replace L := Lib.hid (Bx.kept2 L.out (show Qw _ _ by repeat (first | exact Qw.refl _ | refine Qw.al ?_ _ | refine Qw.dr ?_ | refine Qw.dn ?_ _)) q (by omega)); have ho := HL.out _ _ _ L.out; have Ll := L.out.lt; have Ln := Nat.ne_of_lt Ll; replace q0 : Hid (Px B w w') := Lib.hid (Px.trans (Px.trans q0.out (Px.of (show Qw _ _ by repeat (first | exact Qw.refl _ | refine Qw.al ?_ _ | refine Qw.dr ?_ | refine Qw.dn ?_ _)))) q); clear tp q K))))
          all_goals go_wp2_with fail
          all_goals exact exaEnd2 (d := d + 1) (x := Sy.un o y) Tryz.results26 rfl rfl rfl rfl rfl (Sy.okx_un' (opsU_ok hm).1 (opsU_ok hm).2 ok) (by rw [Sy.dpt_un]; omega) hB _ R.out (KidsB.one (x := y) (Bx.new _ _ _) R.out.lt (KH.out.alloc _)) TP.out q0.out
        · go_upto_region 15 with (first
            | (go_at_call 21; ((with_reducible refine (C.out _ (by decide) (by decide) _ (TP.out.kept (show Qw _ _ by repeat (first | exact Qw.refl _ | refine Qw.al ?_ _ | refine Qw.dr ?_ | refine Qw.dn ?_ _)))).mono ?_); rintro e w5 ⟨r2, rfl, r20, r21, tp, q⟩; obtain ⟨o, hm, hl⟩ := lit_all (cs := #[.int .i64 3, .int .i64 4, .int .i64 5, .int .i64 6, .int .i64 7, .int .i64 11, .int .i64 17, .int .i64 18, .int .i64 19, .int .i64 20, .int .i64 21, .int .i64 22, .int .i64 23, .int .i64 24, .int .i64 25, .int .i64 3, .int .i64 4, .int .i64 5]) r2 opsB rfl r20 r21; have ho := hl _ _ _ (Bx.kept2 (Bx.new _ _ _) (show Qw _ _ by repeat (first | exact Qw.refl _ | refine Qw.al ?_ _ | refine Qw.dr ?_ | refine Qw.dn ?_ _)) q (Nat.ne_of_gt TP.out.lt)); replace TP := Lib.hid tp; replace R : Hid (Bx w5 w.heap.size exZ 34) := Lib.hid (Bx.kept2 R.out (show Qw _ _ by repeat (first | exact Qw.refl _ | refine Qw.al ?_ _ | refine Qw.dr ?_ | refine Qw.dn ?_ _)) q (by omega)); have rl := R.out.lt; have s0 := R.out.free 0; have s1 := R.out.free 1; have s2 := R.out.free 2; have u0 := R.out.cell' 0 _ rfl; have u1 := R.out.cell' 1 _ rfl; have u2 := R.out.cell' 2 _ rfl; replace q0 : Hid (Px B w w5) := Lib.hid (Px.trans (Px.trans q0.out (Px.of (show Qw _ _ by repeat (first | exact Qw.refl _ | refine Qw.al ?_ _ | refine Qw.dr ?_ | refine Qw.dn ?_ _)))) q); clear tp q hl))
            | (go_at_call 26; ((with_reducible refine (IH.out _ (by omega) (by omega) (TP.out.kept (show Qw _ _ by repeat (first | exact Qw.refl _ | refine Qw.al ?_ _ | refine Qw.dr ?_ | refine Qw.dn ?_ _)))).mono ?_); rintro e w6 ⟨y, ka, kc, rfl, ok, dp, K, tp, q⟩; have KH : Hid (KidsB w6 (fun b => w.heap.size < b) ka kc y.ks) := Lib.hid (K.mono fun b hb => Nat.lt_of_lt_of_le R.out.lt hb); replace TP := Lib.hid tp; replace R : Hid (Bx w6 w.heap.size exZ 34) := Lib.hid (Bx.kept2 R.out (show Qw _ _ by repeat (first | exact Qw.refl _ | refine Qw.al ?_ _ | refine Qw.dr ?_ | refine Qw.dn ?_ _)) q (by omega)); have rl := R.out.lt; have s0 := R.out.free 0; have s1 := R.out.free 1; have s2 := R.out.free 2; have u0 := R.out.cell' 0 _ rfl; have u1 := R.out.cell' 1 _ rfl; have u2 := R.out.cell' 2 _ rfl; replace q0 : Hid (Px B w w6) := Lib.hid (Px.trans (Px.trans q0.out (Px.of (show Qw _ _ by repeat (first | exact Qw.refl _ | refine Qw.al ?_ _ | refine Qw.dr ?_ | refine Qw.dn ?_ _)))) q); clear tp q K)))
          have lB : B < w6.heap.size := TP.out.lt
          refine code_of (fun w2 => Hid (Bx w2 w.heap.size exZ 34) ∧ Hid (Bx w2 w6.heap.size #[.int .i64 y.op, .int .i64 y.n, .slice ka y.ks.length kc] 34) ∧ Hid (KidsB w2 (fun b => w.heap.size < b) ka kc y.ks) ∧ Hid (TpB w2 B v zs) ∧ Hid (Px B w w2)) ⟨Lib.hid (R.out.alloc _), Lib.hid (Bx.new _ _ _), Lib.hid (KH.out.alloc _), Lib.hid (TP.out.kept ((Below.refl _ _).alloc (Nat.le_refl _) _)), Lib.hid (q0.out.alloc _)⟩ ?_
          clear R TP q0 KH u0 u1 u2 s0 s1 s2 rl
          rintro w2 ⟨R, X, KH, TP, q0⟩
          have rl := R.out.lt
          have s0 := R.out.free 0
          have s1 := R.out.free 1
          have s2 := R.out.free 2
          have u0 := R.out.cell' 0 _ rfl
          have u1 := R.out.cell' 1 _ rfl
          have u2 := R.out.cell' 2 _ rfl
          have xl := X.out.lt
          have x0 := X.out.cell' 0 _ rfl
          have x1 := X.out.cell' 1 _ rfl
          have x2 := X.out.cell' 2 _ rfl
          have hwd : IntKind.i64.wrap (d : Int) = (d : Int) := IntWalk.i64_in _ (by omega)
          go_region_law (go_simp; go_wp2_with (go_at_call 26; ((with_reducible refine (IH.out _ (by omega) (by omega) (TP.out.kept (show Qw _ _ by repeat (first | exact Qw.refl _ | refine Qw.al ?_ _ | refine Qw.dr ?_ | refine Qw.dn ?_ _)))).mono ?_); rintro e w' ⟨z, kb, kd, rfl, ok2, dp2, K, tp, q⟩; have KH2 : Hid (KidsB w' (fun b => w.heap.size < b) kb kd z.ks) := Lib.hid (K.mono fun b hb => Nat.lt_of_lt_of_le R.out.lt hb); replace KH : Hid (KidsB w' (fun b => w.heap.size < b) ka kc y.ks) := Lib.hid ((KH.out.kept (show Qw _ _ by repeat (first | exact Qw.refl _ | refine Qw.al ?_ _ | refine Qw.dr ?_ | refine Qw.dn ?_ _))).px (fun b hb => by omega) q); replace TP := Lib.hid tp; replace R : Hid (Bx w' w.heap.size exZ 34) := Lib.hid (Bx.kept2 R.out (show Qw _ _ by repeat (first | exact Qw.refl _ | refine Qw.al ?_ _ | refine Qw.dr ?_ | refine Qw.dn ?_ _)) q (by omega)); have rl := R.out.lt; have s0 := R.out.free 0; have s1 := R.out.free 1; have s2 := R.out.free 2; have u0 := R.out.cell' 0 _ rfl; have u1 := R.out.cell' 1 _ rfl; have u2 := R.out.cell' 2 _ rfl; replace X := Lib.hid (Bx.kept2 X.out (show Qw _ _ by repeat (first | exact Qw.refl _ | refine Qw.al ?_ _ | refine Qw.dr ?_ | refine Qw.dn ?_ _)) q (by omega)); have xl := X.out.lt; have x0 := X.out.cell' 0 _ rfl; have x1 := X.out.cell' 1 _ rfl; have x2 := X.out.cell' 2 _ rfl; replace q0 : Hid (Px B w w') := Lib.hid (Px.trans (Px.trans q0.out (Px.of (show Qw _ _ by repeat (first | exact Qw.refl _ | refine Qw.al ?_ _ | refine Qw.dr ?_ | refine Qw.dn ?_ _)))) q); clear tp q K)))
          all_goals go_wp2_with fail
          all_goals exact exaEnd2 (d := d + 1) (x := Sy.bin o y z) Tryz.results26 rfl rfl rfl rfl rfl (Sy.okx_bin' (opsB_ok hm).1 (opsB_ok hm).2 ok ok2) (by rw [Sy.dpt_bin]; omega) hB _ R.out (KidsB.two (x := y) (y := z) (Bx.new _ _ _) R.out.lt (KH.out.alloc _) (KH2.out.alloc _)) TP.out q0.out
end Go.Proofs.YthfcimfoinidbaaGreatDoor

