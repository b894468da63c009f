import Derived.Test.YthfcimfoinidbaaGreatDoorZb27
import Derived.Test.YthfcimfoinidbaaGreatDoorZb29
set_option linter.unusedVariables false
set_option linter.unusedSimpArgs false
namespace Go.Proofs.YthfcimfoinidbaaGreatDoor
open Go.RowKit
namespace Sy
open Lx
theorem sz_le (x : Ex) : okx x = true → sz x + 1 ≤ 2 ^ dpt x := by
  induction x using Ex.ind with
  | h op n ks ih =>
    intro hok
    have hF := form hok
    cases hF with
    | num n h0 h1 =>
      have d : 2 ≤ 2 ^ dpt (.mk 0 n []) := two_le (a := 1) (by rw [dpt_mk]; omega)
      rw [sz_mk]; simp; omega
    | un o x hx ho =>
      have ihx := ih x (by simp) hx
      have d : dpt (.mk (o : Int) 0 [x]) = dpt x + 1 := by rw [dpt_mk]; simp [dmx]; omega
      rw [sz_mk, d, Nat.pow_succ]; simp; omega
    | bin o x y hx hy ho =>
      have ihx := ih x (by simp) hx
      have ihy := ih y (by simp) hy
      have d : dpt (.mk (o : Int) 0 [x, y]) = max (dpt x) (dpt y) + 1 := by rw [dpt_mk]; simp [dmx]; omega
      have a : 2 ^ dpt x ≤ 2 ^ max (dpt x) (dpt y) := two_le (by omega)
      have b : 2 ^ dpt y ≤ 2 ^ max (dpt x) (dpt y) := two_le (by omega)
      rw [sz_mk, d, Nat.pow_succ]; simp; omega
theorem dep_le {x : Ex} {d : Nat} (h : dpt x ≤ d) (hd : d ≤ 16) : depB x = true := decide_eq_true (by omega)
theorem dep_zx : depB zx = true := dpt_zx
theorem len4 {x : Ex} (h : okx x = true) (d : dpt x ≤ 4) : (bpr x).length ≤ 300 ∧ (bva x).length ≤ 300 ∧ (bce x).length ≤ 300 := by
  have s := sz_le x h
  have t : 2 ^ dpt x ≤ 16 := two_le (b := 4) d
  have l := blz x h
  have l2 := bva_len h
  have l3 := bce_len h
  unfold Lz at l
  omega
end Sy
end Go.Proofs.YthfcimfoinidbaaGreatDoor
set_option linter.unusedVariables false
set_option linter.unusedSimpArgs false
namespace Go.Proofs.YthfcimfoinidbaaGreatDoor
open Go.RowKit
namespace Sy
open Lx
def bks (x : Ex) : Nat → List UInt8
  | 0 => binb x
  | n + 1 => [91, 43] ++ bks x n ++ [93]
def bkT (x : Ex) : Nat → List Tr
  | 0 => inbT x
  | n + 1 => [sgn 91, sgn 43] ++ bkT x n ++ [sgn 93]
theorem bks_len (x : Ex) : ∀ n, (bks x n).length = (bpr x).length + 2 + 3 * n
  | 0 => by simp [bks, binb]
  | n + 1 => by rw [bks, List.length_append, List.length_append, bks_len x n]; simp; omega
theorem bkT_pos (x : Ex) : ∀ n, ∃ us, bkT x n = sgn 91 :: us
  | 0 => ⟨_, rfl⟩
  | n + 1 => ⟨[sgn 43] ++ bkT x n ++ [sgn 93], by simp [bkT]⟩
theorem bks_pos (x : Ex) : ∀ n, ∃ us, bks x n = 91 :: us
  | 0 => ⟨_, rfl⟩
  | n + 1 => ⟨[43] ++ bks x n ++ [93], by simp [bks]⟩
theorem lx0_bks {x : Ex} (h : Lxd (bpr x) (tpr x)) : ∀ n, Lx0 (bks x n) (bkT x n)
  | 0 => lx0_inb h
  | n + 1 => Lx0.app (Lx0.app (show Lx0 ([91] ++ [43]) ([sgn 91] ++ [sgn 43]) from Lx0.app (lx0_sgn 91 (by decide)) (lx0_sgn 43 (by decide))) (lx0_bks h n)) (lx0_sgn 93 (by decide))
theorem pB_bks {x : Ex} (hx : okx x = true) {ts : List Lx.Tok} : ∀ (n i : Nat), i ≤ ts.length → Has ts i (bkT x n) → ∀ f, 16 * (ts.length - i) + 1 ≤ f → pB ts f i = .ok x (i + (bkT x n).length)
  | 0, i, hi, hh, f, hf => by
    have := (back x hx).b hi hh f hf
    rw [this]
    congr 1
    simp [bkT, inbT]; omega
  | n + 1, i, hi, hh, f, hf => by
    obtain ⟨g, rfl⟩ : ∃ g, f = g + 1 := ⟨f - 1, by omega⟩
    have e : bkT x (n + 1) = sgn 91 :: (sgn 43 :: (bkT x n ++ [sgn 93])) := by simp [bkT]
    rw [e] at hh ⊢
    have h0 := hh.head
    have h1 := hh.tail.head
    have t2 := hh.tail.tail
    have l2 := t2.left
    have r2 := t2.right
    have hr := r2.head
    obtain ⟨us, eu⟩ := bkT_pos x n
    have h2 := (show Has ts (i + 1 + 1) (sgn 91 :: us) from eu ▸ l2).head
    have i2 : i + 1 + 1 ≤ ts.length := by have := h2.2.2.2; omega
    rw [pB, if_pos (show tx ts i = [91] from h0.2.2.1)]
    have h5 : ∀ f, need ts.length (i + 1) 5 ≤ f → pE ts f 5 (i + 1) = .ok x (i + 1 + 1 + (bkT x n).length) := by
      intro f hf
      unfold need at hf
      obtain ⟨d, rfl⟩ : ∃ d, f = d + 4 := ⟨f - 4, by omega⟩
      have x1 : tx ts (i + 1) = [43] := h1.2.2.1
      have x2 : tx ts (i + 1 + 1) = [91] := h2.2.2.1
      have k2 : kd ts (i + 1 + 1) = 4 := h2.1
      rw [show d + 4 = (d + 3) + 1 from rfl, pE, if_pos rfl, if_neg (by rw [x1]; decide), if_pos x1]
      rw [show d + 3 = (d + 2) + 1 from rfl, pE_5 (by rw [x2]; decide) (by rw [x2]; decide), show d + 2 = (d + 1) + 1 from rfl, pP_cell (.inr (.inr x2)), pC, if_neg (by rw [k2]; decide), if_neg (by rw [x2]; decide)]
      exact pB_bks hx n (i + 1 + 1) i2 l2 d (by omega)
    have hn : Noop ts 0 (i + 1 + 1 + (bkT x n).length) := noop_sgn93 r2
    rw [lift h5 0 (by decide) hn g (by unfold need; omega)]
    unfold shut
    simp only
    rw [if_pos (show tx ts (i + 1 + 1 + (bkT x n).length) = [93] from hr.2.2.1)]
    congr 1
    simp; omega
theorem pLn_bks {x : Ex} (hx : okx x = true) (n : Nat) {ts : List Lx.Tok} (hm : ts.map tri = let1 88 :: bkT x n) : pLn ts = .ok ⟨0, 0, false, [(88, x)], zx, zx, 0⟩ ts.length := by
  have hh : Has ts 0 (let1 88 :: bkT x n) := has_all hm
  have hlen : ts.length = (bkT x n).length + 1 := by have := congrArg List.length hm; simpa using this
  have h0 := hh.head
  have k0 : kd ts 0 = 1 := h0.1
  have n0 : tn ts 0 = 88 := h0.2.1
  have x0 : tx ts 0 = [] := h0.2.2.1
  obtain ⟨us, eu⟩ := bkT_pos x n
  have h1 := (show Has ts (0 + 1) (sgn 91 :: us) from eu ▸ hh.tail).head
  have x1 : tx ts (0 + 1) = [91] := h1.2.2.1
  have k1 : kd ts (0 + 1) = 4 := h1.1
  have hv : pV ts (0 + 1) = .ok x ts.length := by
    unfold pV
    rw [if_neg (by rw [x1]; decide), if_neg (by rw [x1]; decide)]
    obtain ⟨g, hg⟩ : ∃ g, fuel ts = g + 1 := ⟨fuel ts - 1, by unfold fuel; omega⟩
    rw [hg, pC, if_neg (by rw [k1]; decide), if_neg (by rw [x1]; decide), pB_bks hx n (0 + 1) (by omega) hh.tail g (by unfold fuel at hg; omega)]
    congr 1; omega
  have hw : pW ts (ts.length + 1) [] 0 = .ok [(88, x)] ts.length := by
    rw [pW, if_pos ⟨k0, by rw [n0]; decide⟩, hv]
    simp only [n0, List.nil_append]
    obtain ⟨g, hg⟩ : ∃ g, ts.length = g + 1 := ⟨ts.length - 1, by omega⟩
    have hk := (kd_end ts).1
    have hk' : kd ts (g + 1) = 0 := by rw [← hg]; exact hk
    conv => lhs; rw [hg]
    rw [pW, if_neg (by rw [hk']; simp), hg]
  unfold pLn
  simp only [x0]
  rw [if_neg (by decide : ¬ (([] : List UInt8) = [47])), if_neg (by rw [k0, n0]; decide)]
  unfold pCt
  simp only [x0, k0, n0]
  rw [hw]
  simp [wrapC, pEnd, blk]
theorem lnR_bks {x : Ex} (hx : okx x = true) (d : dpt x ≤ 4) (n : Nat) (hn : n < 30) : lnR (88 :: bks x n) = (⟨0, 0, false, [(88, x)], zx, zx, 0⟩, (88 :: bks x n).length, 0) := by
  have hN : Nu (bks x n) := by obtain ⟨us, e⟩ := bks_pos x n; exact ⟨91, us, e, by decide⟩
  have L : Lxd (88 :: bks x n) (let1 88 :: bkT x n) := lxd_let (c := 88) (by decide) hN (lx0_bks (lxs x hx).p n).d
  obtain ⟨ts, e, m⟩ := L [] 0 (.inl rfl)
  rw [List.append_nil, lx_nil] at e
  have e' : lx (88 :: bks x n) 0 = .ok ts := by rw [e]; simp [Res.pre]
  have hl := (len4 hx d).1
  have hlen : (88 :: bks x n).length ≤ 65536 := by rw [List.length_cons, bks_len]; omega
  have hv : vldb ⟨0, 0, false, [(88, x)], zx, zx, 0⟩ = true := by
    have d1 := dep_le d (by decide)
    have i1 : isw 88 = true := by decide
    simp only [vldb, okb, limb, noneB_zx, dep_zx]
    simp [hx, d1, i1]
  unfold lnR
  rw [if_neg (by omega), e']
  simp only [pLn_bks hx n m, hv, if_true]
end Sy
end Go.Proofs.YthfcimfoinidbaaGreatDoor
set_option linter.unusedVariables false
set_option linter.unusedSimpArgs false
namespace Go.Proofs.YthfcimfoinidbaaGreatDoor
open Go.RowKit
theorem exprB4 (B : Nat) (v : Value) (zs : List Int) (k : Nat) {w : World} (hT : TapeAt w B v zs k) : Calls Tryz.prog 26 #[.pointer (some ⟨B, 0, none⟩), .int .i64 4] w fun e w' => ∃ (x : Sy.Ex) (ka : Option Addr) (kc : Nat),
    e = .returned (.agg #[.int .i64 x.op, .int .i64 x.n, .slice ka x.ks.length kc]) ∧ Sy.okx x = true ∧ Sy.dpt x ≤ 4 ∧ KidsB w' (fun k => w.heap.size ≤ k) ka kc x.ks ∧ Below B w w' := by
  have hB : B < w.heap.size := TpB.lt ⟨k, hT⟩
  refine (exprA 4 w (by decide) (by decide) ⟨k, hT⟩).mono ?_
  rintro e w' ⟨x, ka, kc, rfl, ok, dp, K, _, q⟩
  exact ⟨x, ka, kc, rfl, ok, dp, K, q.below (Nat.le_of_lt hB)⟩
theorem lineX {x : Sy.Ex} (hx : Sy.okx x = true) (d : Sy.dpt x ≤ 4) (n : Nat) (hn : n < 30) (w : World) (hT : Tn w) (hO : Ow w) :
    Calls Tryz.prog 35 #[.string ((⟨#[88]⟩ : ByteArray) ++ bs (Sy.bks x n))] w fun e w' => ∃ (g off wc : Nat) (la : Option Addr) (lc : Nat) (xa : Option Addr) (xc : Nat) (ad : Option Addr) (cc m : Nat),
      e = .returned (.tuple #[.agg #[.int .i64 0, .int .i64 0, .bool false, .slice (some ⟨g, off, none⟩) 1 wc, .int .i64 0, .int .i64 0, .slice la 0 lc, .int .i64 0, .int .i64 0, .slice xa 0 xc, .int .i64 0], .int .i64 (m : Int), .int .i64 0]) ∧ g < w'.heap.size ∧
      w'.cell? ⟨g, off, none⟩ = some (.int .i64 88) ∧ w'.cell? ⟨g, off + 1, none⟩ = some (.int .i64 x.op) ∧ w'.cell? ⟨g, off + 2, none⟩ = some (.int .i64 x.n) ∧ w'.cell? ⟨g, off + 3, none⟩ = some (.slice ad x.ks.length cc) ∧ KidsB w' (fun b => w.heap.size ≤ b) ad cc x.ks ∧ Qw w w' := by
  have e1 : (⟨#[88]⟩ : ByteArray) ++ bs (Sy.bks x n) = bs (88 :: Sy.bks x n) := show bs [88] ++ bs (Sy.bks x n) = _ by rw [bs_app]; rfl
  have hl := (Sy.len4 hx d).1
  rw [e1]
  refine (lineW (s := bs (88 :: Sy.bks x n)) (by rw [bs_size, List.length_cons, Sy.bks_len]; omega) (Sy.lnR_bks hx d n hn) w hT hO).mono ?_
  rintro e w' ⟨wa, wc, la, lc, xa, xc, rfl, hb, q⟩
  obtain ⟨wa', wc', la', lc', xa', xc', ec, hW, _, _⟩ := hb
  have e3 := congrArg (fun a : Array Value => a[3]?) ec
  simp [bcs] at e3
  obtain ⟨rfl, rfl⟩ := e3
  obtain ⟨g, off, ad, cc, rfl, gl, z0, z1, z2, z3, KK⟩ := hW.at 0 (by show 0 < 1; decide)
  simp only [Nat.zero_mul, Nat.add_zero] at z0 z1 z2 z3
  exact ⟨g, off, wc, la, lc, xa, xc, ad, cc, _, rfl, gl, z0, z1, z2, z3, KK, q⟩
end Go.Proofs.YthfcimfoinidbaaGreatDoor

