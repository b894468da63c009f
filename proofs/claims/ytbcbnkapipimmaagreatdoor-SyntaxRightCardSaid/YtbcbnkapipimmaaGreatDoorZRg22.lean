import Derived.Test.YtbcbnkapipimmaaGreatDoorZRg6
import Derived.Test.YtbcbnkapipimmaaGreatDoorZRg7
import Derived.Test.YtbcbnkapipimmaaGreatDoorZRg21
set_option linter.unusedVariables false
set_option linter.unusedSimpArgs false
namespace Go.Proofs.YtbcbnkapipimmaaGreatDoor
open Go.RowKit
def bcs (b : Sy.Bl) (wa : Option Addr) (wc : Nat) (la : Option Addr) (lc : Nat) (xa : Option Addr) (xc : Nat) : Array Value := #[.int .i64 b.kind, .int .i64 b.label, .bool b.skip, .slice wa b.words.length wc, .int .i64 b.left.op, .int .i64 b.left.n, .slice la b.left.ks.length lc, .int .i64 b.x.op, .int .i64 b.x.n, .slice xa b.x.ks.length xc, .int .i64 b.n]
theorem lineW {s : ByteArray} {b : Sy.Bl} {n : Nat} {er : Int} (hs : s.size ≤ 1000000) (e : Sy.lnR s.data.toList = (b, n, er)) (w : World) (hT : Tn w) (hO : Ow w) :
    Calls Tryz.prog 14 #[.string s] w fun e w' => ∃ wa wc la lc xa xc, e = .returned (.tuple #[.agg #[.int .i64 b.kind, .int .i64 b.label, .bool b.skip, .slice wa b.words.length wc, .int .i64 b.left.op, .int .i64 b.left.n, .slice la b.left.ks.length lc, .int .i64 b.x.op, .int .i64 b.x.n, .slice xa b.x.ks.length xc, .int .i64 b.n], .int .i64 (n : Int), .int .i64 er]) ∧ BlkB w' (fun b => w.heap.size ≤ b) b (bcs b wa wc la lc xa xc) ∧ Qw w w' := by
  have h := sz_line s hs w hT hO
  rw [e] at h
  refine h.mono ?_
  rintro e w' ⟨⟨cs, rfl, B⟩, q⟩
  have B0 := B
  obtain ⟨wa, wc, la, lc, xa, xc, rfl, _, _, _⟩ := B
  exact ⟨wa, wc, la, lc, xa, xc, rfl, B0, q⟩
theorem BlkB.kept {w w' : World} {S : Nat → Prop} {b : Sy.Bl} {cs : Array Value} (h : BlkB w S b cs) (q : Qw w w') : BlkB w' S b cs := h.go fun b hS hb => ⟨q.block b hb, hS⟩
theorem awake6 (w : World) (hT : Tn w) (hO : Ow w) (hB : Tb w) : Calls Tryz.prog 15 #[] w fun e w' => e = .returned (.bool true) ∧ Qw w w' := by
  have c1 : ∀ w1, Qw w w1 → _ := fun w1 q => lineW (s := ⟨#[78, 49, 48, 71, 48, 49, 88, 45, 91, 35, 49, 43, 50, 42, 51, 93]⟩) (by decide) Sy.aw_line w1 (hT.kept q) (hO.kept q)
  have c2 : ∀ w1, Qw w w1 → _ := fun w1 q => lineW (s := ⟨#[110]⟩) (by decide) Sy.aw_n w1 (hT.kept q) (hO.kept q)
  have c3 : ∀ (w1 : World) (wa : Option Addr) (wc : Nat) (la : Option Addr) (lc : Nat) (xa : Option Addr) (xc : Nat) (S : Nat → Prop), Qw w w1 → BlkB w1 S Sy.awB (bcs Sy.awB wa wc la lc xa xc) → Calls Tryz.prog 26 #[.agg #[.int .i64 Sy.awB.kind, .int .i64 Sy.awB.label, .bool Sy.awB.skip, .slice wa Sy.awB.words.length wc, .int .i64 Sy.awB.left.op, .int .i64 Sy.awB.left.n, .slice la Sy.awB.left.ks.length lc, .int .i64 Sy.awB.x.op, .int .i64 Sy.awB.x.n, .slice xa Sy.awB.x.ks.length xc, .int .i64 Sy.awB.n]] w1 fun e w' => e = .returned (.string ⟨#[78, 49, 48, 32, 71, 49, 32, 88, 91, 45, 91, 35, 49, 32, 43, 32, 91, 50, 32, 42, 32, 51, 93, 93, 93]⟩) ∧ Qw w1 w' := fun w1 wa wc la lc xa xc S q hb => by
    have := sx_format Sy.awB _ S w1 (hO.kept q) (hB.kept q) hb
    rw [Sy.aw_fmt] at this
    exact this
  have C1 := Lib.hid c1
  have C2 := Lib.hid c2
  have C3 := Lib.hid c3
  clear c1 c2 c3 hT hO hB
  generalize Sy.awB = aw at *
  generalize Sy.zb = zb at *
  have q0 : Hid (Qw w w) := Lib.hid (Qw.refl w)
  go_enter Tryz.func15, Tryz.ntmps15
  go_wp2_with (first
    | (go_at_call 14; ((with_reducible refine (C1.out _ Qz).mono ?_); rintro e w' ⟨wa, wc, la, lc, xa, xc, rfl, hb, q⟩; have HB := Lib.hid hb; have X0 : Bx (w'.alloc (.cells #[.int .i64 aw.kind, .int .i64 aw.label, .bool aw.skip, .slice wa aw.words.length wc, .int .i64 aw.left.op, .int .i64 aw.left.n, .slice la aw.left.ks.length lc, .int .i64 aw.x.op, .int .i64 aw.x.n, .slice xa aw.x.ks.length xc, .int .i64 aw.n] 32)) w'.heap.size _ _ := Bx.new _ _ _; have X := Lib.hid X0; clear X0 hb; replace q0 : Hid (Qw w w') := Lib.hid (Qw.trans Qz q); clear q; clear C1))
    | (go_at_call 14; ((with_reducible refine (C2.out _ Qz).mono ?_); rintro e w' ⟨ya, yc, yb, yd, ye, yf, rfl, hb, q⟩; clear hb; replace X := Lib.hid (Bx.kept X.out q); replace HB := Lib.hid (BlkB.kept HB.out (Qw.trans (by unfold Qw; exact (Below.refl _ _).alloc (Nat.le_refl _) _) q)); have xn := Nat.ne_of_lt X.out.lt; have xl := X.out.lt; have x0 := X.out.cell' 0 _ rfl; have x1 := X.out.cell' 1 _ rfl; have x2 := X.out.cell' 2 _ rfl; have x3 := X.out.cell' 3 _ rfl; have x4 := X.out.cell' 4 _ rfl; have x5 := X.out.cell' 5 _ rfl; have x6 := X.out.cell' 6 _ rfl; have x7 := X.out.cell' 7 _ rfl; have x8 := X.out.cell' 8 _ rfl; have x9 := X.out.cell' 9 _ rfl; have x10 := X.out.cell' 10 _ rfl; replace q0 : Hid (Qw w w') := Lib.hid (Qw.trans Qz q); clear q))
    | (go_at_call 26; ((with_reducible refine (C3.out _ _ _ _ _ _ _ _ Qz (BlkB.kept HB.out (by unfold Qw; repeat (first | exact Below.refl _ _ | refine Below.alloc ?_ (Nat.le_refl _) _ | refine Below.drew ?_)))).mono ?_); rintro e w' ⟨rfl, q⟩; replace q0 : Hid (Qw w w') := Lib.hid (Qw.trans Qz q); clear q)))
  go_ret
  exact ⟨rfl, q0.out⟩
end Go.Proofs.YtbcbnkapipimmaaGreatDoor
set_option linter.unusedVariables false
set_option linter.unusedSimpArgs false
namespace Go.Proofs.YtbcbnkapipimmaaGreatDoor
open Go.RowKit
theorem KidsB.at {w : World} {S : Nat → Prop} {a : Option Addr} {cap : Nat} {ks : List Sy.Ex} (h : KidsB w S a cap ks) (i : Nat) (hi : i < ks.length) : ∃ (b off : Nat) (ad : Option Addr) (cc : Nat), a = some ⟨b, off, none⟩ ∧ S b ∧ b < w.heap.size ∧
    w.cell? ⟨b, off + i * 3, none⟩ = some (.int .i64 ks[i].op) ∧ w.cell? ⟨b, off + i * 3 + 1, none⟩ = some (.int .i64 ks[i].n) ∧ w.cell? ⟨b, off + i * 3 + 2, none⟩ = some (.slice ad ks[i].ks.length cc) ∧ KidsB w S ad cc ks[i].ks := by
  cases h with
  | nl => simp at hi
  | mk b off cap ks ad cc hS h1 h2 hc hkk =>
    obtain ⟨z0, z1, z2⟩ := hc i hi
    exact ⟨b, off, ad i, cc i, rfl, hS, cell_lt z0, z0, z1, z2, hkk i hi⟩
end Go.Proofs.YtbcbnkapipimmaaGreatDoor
set_option linter.unusedVariables false
set_option linter.unusedSimpArgs false
namespace Go.Proofs.YtbcbnkapipimmaaGreatDoor
open Go.RowKit
theorem WordsB.at {w : World} {S : Nat → Prop} {a : Option Addr} {cap : Nat} {ws : List (Int × Sy.Ex)} (h : WordsB w S a cap ws) (i : Nat) (hi : i < ws.length) : ∃ (b off : Nat) (ad : Option Addr) (cc : Nat), a = some ⟨b, off, none⟩ ∧ b < w.heap.size ∧
    w.cell? ⟨b, off + i * 4, none⟩ = some (.int .i64 ws[i].1) ∧ w.cell? ⟨b, off + i * 4 + 1, none⟩ = some (.int .i64 ws[i].2.op) ∧ w.cell? ⟨b, off + i * 4 + 2, none⟩ = some (.int .i64 ws[i].2.n) ∧ w.cell? ⟨b, off + i * 4 + 3, none⟩ = some (.slice ad ws[i].2.ks.length cc) ∧ KidsB w S ad cc ws[i].2.ks := by
  rcases h.2.2 with rfl | ⟨b, off, ad, cc, rfl, hS, hc⟩
  · simp at hi
  · obtain ⟨h1, h2, h3, h4, h5⟩ := hc i hi
    exact ⟨b, off, ad i, cc i, rfl, cell_lt h1, h1, h2, h3, h4, h5⟩
end Go.Proofs.YtbcbnkapipimmaaGreatDoor
set_option linter.unusedVariables false
set_option linter.unusedSimpArgs false
namespace Go.Proofs.YtbcbnkapipimmaaGreatDoor
open Go.RowKit
theorem rw_kids0 {op : Int} (h : op = 0) (w : World) : Calls Tryz.prog 72 #[.int .i64 op] w fun e w' => e = .returned (.int .i64 0) ∧ w = w' := by
  subst h
  go_enter Tryz.func72, Tryz.ntmps72
  go_wp2_with fail
  go_ret
  exact ⟨rfl, rfl⟩
theorem rw_kids1 {op : Int} (h : op = 11) (w : World) : Calls Tryz.prog 72 #[.int .i64 op] w fun e w' => e = .returned (.int .i64 2) ∧ w = w' := by
  subst h
  go_enter Tryz.func72, Tryz.ntmps72
  go_wp2_with fail
  go_ret
  exact ⟨rfl, rfl⟩
theorem rw_kids2 {op : Int} (h : op = 1) (w : World) : Calls Tryz.prog 72 #[.int .i64 op] w fun e w' => e = .returned (.int .i64 1) ∧ w = w' := by
  subst h
  go_enter Tryz.func72, Tryz.ntmps72
  go_wp2_with fail
  go_ret
  exact ⟨rfl, rfl⟩
theorem rw_kids3 {op : Int} (h : op = 2) (w : World) : Calls Tryz.prog 72 #[.int .i64 op] w fun e w' => e = .returned (.int .i64 1) ∧ w = w' := by
  subst h
  go_enter Tryz.func72, Tryz.ntmps72
  go_wp2_with fail
  go_ret
  exact ⟨rfl, rfl⟩
theorem rw_kids4 {op : Int} (h : 3 ≤ op ∧ op ≤ 7) (w : World) : Calls Tryz.prog 72 #[.int .i64 op] w fun e w' => e = .returned (.int .i64 2) ∧ w = w' := by
  obtain ⟨h1, h2⟩ := h
  have b0 : (op == 0) = false := beq_eq_false_iff_ne.2 (by omega)
  go_enter Tryz.func72, Tryz.ntmps72
  go_wp2_with fail
  go_ret
  exact ⟨rfl, rfl⟩
theorem rw_kids5 {op : Int} (h : 17 ≤ op ∧ op ≤ 25) (w : World) : Calls Tryz.prog 72 #[.int .i64 op] w fun e w' => e = .returned (.int .i64 2) ∧ w = w' := by
  obtain ⟨h1, h2⟩ := h
  have b0 : (op == 0) = false := beq_eq_false_iff_ne.2 (by omega)
  have b1 : (op == 11) = false := beq_eq_false_iff_ne.2 (by omega)
  have h3 : (3 : Int) ≤ op := by omega
  have h4 : ¬ op ≤ 7 := by omega
  go_enter Tryz.func72, Tryz.ntmps72
  go_wp2_with fail
  go_ret
  exact ⟨rfl, rfl⟩
theorem rw_kids6 {op : Int} (h : 8 ≤ op ∧ op ≤ 10) (w : World) : Calls Tryz.prog 72 #[.int .i64 op] w fun e w' => e = .returned (.int .i64 1) ∧ w = w' := by
  obtain ⟨h1, h2⟩ := h
  have b0 : (op == 0) = false := beq_eq_false_iff_ne.2 (by omega)
  have b1 : (op == 11) = false := beq_eq_false_iff_ne.2 (by omega)
  have h3 : (3 : Int) ≤ op := by omega
  have h4 : ¬ op ≤ 7 := by omega
  have h5 : ¬ (17 : Int) ≤ op := by omega
  go_enter Tryz.func72, Tryz.ntmps72
  go_wp2_with fail
  go_ret
  exact ⟨rfl, rfl⟩
theorem rw_kids7 {op : Int} (h : 12 ≤ op ∧ op ≤ 16) (w : World) : Calls Tryz.prog 72 #[.int .i64 op] w fun e w' => e = .returned (.int .i64 1) ∧ w = w' := by
  obtain ⟨h1, h2⟩ := h
  have b0 : (op == 0) = false := beq_eq_false_iff_ne.2 (by omega)
  have b1 : (op == 11) = false := beq_eq_false_iff_ne.2 (by omega)
  have h3 : (3 : Int) ≤ op := by omega
  have h4 : ¬ op ≤ 7 := by omega
  have h5 : ¬ (17 : Int) ≤ op := by omega
  go_enter Tryz.func72, Tryz.ntmps72
  go_wp2_with fail
  go_ret
  exact ⟨rfl, rfl⟩
theorem rw_kids (o : Nat) (ho : o < 26) (w : World) : Calls Tryz.prog 72 #[.int .i64 (o : Int)] w fun e w' => e = .returned (.int .i64 (Sy.kds o : Nat)) ∧ w = w' := by
  rcases Sy.kds_le o ho with k | k | k
  · have := Sy.kds_0 o ho k
    rw [k]; exact rw_kids0 (by omega) w
  · rw [k]
    rcases Sy.kds_1 o ho k with h | h | h | h
    · exact rw_kids2 (by omega) w
    · exact rw_kids3 (by omega) w
    · exact rw_kids6 (by omega) w
    · exact rw_kids7 (by omega) w
  · rw [k]
    rcases Sy.kds_2 o ho k with h | h | h
    · exact rw_kids4 (by omega) w
    · exact rw_kids1 (by omega) w
    · exact rw_kids5 (by omega) w
end Go.Proofs.YtbcbnkapipimmaaGreatDoor
set_option linter.unusedVariables false
set_option linter.unusedSimpArgs false
namespace Go.Proofs.YtbcbnkapipimmaaGreatDoor
open Go.RowKit
theorem ret_int5 {a b : Int} (h : a = b) : Ending.returned (.int .i64 a) = .returned (.int .i64 b) := by rw [h]
theorem all_takeL {α : Type} (ks : List α) (f : α → Bool) {i : Nat} (h : i < ks.length) : (f ks[i] = false → ks.all f = false) ∧ ((ks.take i).all f = true → f ks[i] = true → (ks.take (i + 1)).all f = true) := by
  refine ⟨fun e => ?_, fun e1 e2 => ?_⟩
  · rw [List.all_eq_false]
    exact ⟨ks[i], List.getElem_mem h, by rw [e]; decide⟩
  · rw [List.take_add_one, List.getElem?_eq_getElem h, List.all_append, e1]
    simp [e2]
set_option maxRecDepth 100000 in
set_option maxHeartbeats 4000000 in
theorem rw_depthW (k : Nat) : ∀ (op n : Int) (ks : List Sy.Ex) (a : Option Addr) (cap : Nat) (S : Nat → Prop) (w : World), 1 ≤ k → k ≤ 17 → KidsB w S a cap ks →
    Calls Tryz.prog 82 #[.agg #[.int .i64 op, .int .i64 n, .slice a ks.length cap], .int .i64 (k : Int)] w fun e w' => e = .returned (.int .i64 ((min (Sy.dpt (.mk op n ks)) k : Nat) : Int)) ∧ Qw w w' := by
  induction k with
  | zero => intro op n ks a cap S w h; omega
  | succ k ih =>
    intro op n ks a cap S w _ hk17 hk
    obtain ⟨l1, l2⟩ := hk.cap
    have k1 : ((k + 1 : Nat) : Int) = (k : Int) + 1 := by omega
    rw [k1]
    have HK := Lib.hid hk
    have IH := Lib.hid ih
    clear hk ih k1
    go_enter Tryz.func82, Tryz.ntmps82
    go_wp2_with fail
    have QS : Hid (Qw w (w.alloc (.cells #[.int .i64 op, .int .i64 n, .slice a ks.length cap] 27))) := Lib.hid Qz
    have B0 := Lib.hid (Bx.new w #[.int .i64 op, .int .i64 n, .slice a ks.length cap] 27)
    go_loopg [5, 6] ks.length (fun g dv iv wr => ∃ (i d : Nat), i ≤ ks.length ∧ g = ks.length - i ∧ dv = .int .i64 (d : Int) ∧ d + 1 = Sy.dw k ks i ∧ iv = .int .i64 (i : Int) ∧ Hid (Bx wr w.heap.size #[.int .i64 op, .int .i64 n, .slice a ks.length cap] 27) ∧ Qw w wr)
    case atStart => exact ⟨0, 0, Nat.zero_le _, rfl, rfl, by rw [Sy.dw_zero], rfl, B0, QS.out⟩
    case round =>
      obtain ⟨i, d, hi, rfl, rfl, hd, rfl, B, hQ⟩ := hrel
      have x2 : wr.cell? ⟨w.heap.size, 2, none⟩ = some (.slice a ks.length cap) := B.out.cell' 2 _ rfl
      have q0 := Lib.hid hQ
      have dl := Sy.dw_le k ks i
      by_cases hlt : i < ks.length
      · by_cases hk0 : 1 ≤ k
        · have hKr := HK.out.kept hQ
          clear hQ QS B0
          cases hKr with
          | nl => simp at hlt
          | mk b off cap ks ad cc hS h1 h2 hc hkk =>
            obtain ⟨z0, z1, z2⟩ := hc i hlt
            have KK := Lib.hid (hkk i hlt)
            have hi2 : (i : Int) < (ks.length : Int) := by omega
            have hd2 : (1 : Int) < (k : Int) + 1 := by omega
            have ek : IntKind.i64.wrap ((k : Int) + 1 - 1) = k := (IntWalk.i64_in _ (by omega)).trans (by omega)
            have cr := fun w1 (h : KidsB w1 S (ad i) (cc i) ks[i].ks) => IH.out ks[i].op ks[i].n ks[i].ks (ad i) (cc i) S w1 (by omega) (by omega) h
            have eX : Sy.dpt (.mk ks[i].op ks[i].n ks[i].ks) = Sy.dpt ks[i] := by cases ks[i]; rfl
            rw [eX] at cr
            have eS := Sy.dw_succ k ks hlt
            have bl := cell_lt z0
            have hne : b ≠ wr.heap.size := by omega
            have hm : min (Sy.dpt ks[i]) k ≤ 17 := by omega
            generalize min (Sy.dpt ks[i]) k = m at cr eS hm
            have CR := Lib.hid cr
            have ED := Lib.hid hd
            have ES := Lib.hid eS
            have hd17 : d ≤ 17 := by omega
            clear cr eX hc hkk hd eS dl
            go_wp2_with (go_at_call 82; ((with_reducible refine (CR.out _ (KidsB.kept KK.out Qz)).mono ?_); rintro e w' ⟨rfl, q⟩; replace B := Lib.hid (B.out.kept q); replace q0 : Hid (Qw w w') := Lib.hid (Qw.trans Qz q); clear q))
            go_roundg (ks.length - (i + 1))
            case measure => omega
            case rel => exact ⟨i + 1, max d m, by omega, rfl, by congr 1; omega, by have := ED.out; have := ES.out; omega, by go_num, B, q0.out⟩
        · obtain rfl : k = 0 := by omega
          have hi2 : (i : Int) < (ks.length : Int) := by omega
          have eF := Sy.dw_stop 0 op n ks (i := i) (by omega)
          have ED := Lib.hid (hd.trans eF)
          have hd17 : d ≤ 17 := by omega
          clear hQ QS B0 eF hd dl
          go_wp2_with fail
          go_ret
          exact ⟨ret_int5 (by have := ED.out; omega), q0.out⟩
      · obtain rfl : i = ks.length := by omega
        clear hQ QS B0
        have hb : ¬ (ks.length : Int) < (ks.length : Int) := by omega
        have eF := Sy.dw_full k op n ks
        have ED := Lib.hid (hd.trans eF)
        have hd17 : d ≤ 17 := by omega
        clear eF hd dl
        go_wp2_with fail
        go_ret
        exact ⟨ret_int5 (by have := ED.out; omega), q0.out⟩
theorem rw_depth (op n : Int) (ks : List Sy.Ex) (a : Option Addr) (cap : Nat) (S : Nat → Prop) (w : World) (hk : KidsB w S a cap ks) :
    Calls Tryz.prog 45 #[.agg #[.int .i64 op, .int .i64 n, .slice a ks.length cap]] w fun e w' => e = .returned (.int .i64 ((min (Sy.dpt (.mk op n ks)) 17 : Nat) : Int)) ∧ Qw w w' := by
  have c1 : ∀ w, KidsB w S a cap ks → Calls Tryz.prog 82 #[.agg #[.int .i64 op, .int .i64 n, .slice a ks.length cap], .int .i64 17] w fun e w' => e = .returned (.int .i64 ((min (Sy.dpt (.mk op n ks)) 17 : Nat) : Int)) ∧ Qw w w' := fun w h1 =>
    rw_depthW 17 op n ks a cap S w (by decide) (Nat.le_refl _) h1
  have HK := Lib.hid hk
  generalize min (Sy.dpt (.mk op n ks)) 17 = m at *
  have C1 := Lib.hid c1
  clear c1 hk
  have q0 : Hid (Qw w w) := Lib.hid (Qw.refl w)
  go_enter Tryz.func45, Tryz.ntmps45
  go_wp2_with (go_at_call 82; ((with_reducible refine (C1.out _ (KidsB.kept HK.out Qz)).mono ?_); rintro e w' ⟨rfl, q⟩; replace q0 : Hid (Qw w w') := Lib.hid (Qw.trans Qz q); clear q))
  go_ret
  exact ⟨rfl, q0.out⟩
namespace Sy
def lgt : Nat → Ex → Bool
  | 0, x => decide (x.ks.length = 0)
  | k + 1, x => if 3 < x.ks.length then false else x.ks.all (lgt k)
end Sy
set_option maxRecDepth 100000 in
set_option maxHeartbeats 4000000 in
theorem sx_light (k : Nat) : ∀ (op n : Int) (ks : List Sy.Ex) (a : Option Addr) (cap : Nat) (S : Nat → Prop) (w : World), k ≤ 17 → KidsB w S a cap ks →
    Calls Tryz.prog 17 #[.agg #[.int .i64 op, .int .i64 n, .slice a ks.length cap], .int .i64 (k : Int)] w fun e w' => e = .returned (.bool (Sy.lgt k (.mk op n ks))) ∧ Qw w w' := by
  induction k with
  | zero =>
    intro op n ks a cap S w _ hk
    obtain ⟨l1, l2⟩ := hk.cap
    have e : Sy.lgt 0 (.mk op n ks) = decide (ks.length = 0) := rfl
    rw [e]
    by_cases h0 : ks.length = 0
    · have d0 : ((ks.length : Int) == 0) = true := beq_iff_eq.2 (by omega)
      have d3 : ¬ (3 : Int) < (ks.length : Int) := by omega
      rw [decide_eq_true h0]
      clear h0 hk e
      go_enter Tryz.func17, Tryz.ntmps17
      go_wp2_with fail
      go_ret
      exact ⟨rfl, (by unfold Qw; repeat (first | exact Below.refl _ _ | refine Below.setCell ?_ (by first | (simp; done) | (simp; omega)) _ | refine Below.alloc ?_ (by first | (simp; done) | (simp; omega)) _ | refine bel_drewN ?_ _ | refine Below.drew ?_))⟩
    · have d0 : ((ks.length : Int) == 0) = false := beq_eq_false_iff_ne.2 (by omega)
      rw [decide_eq_false h0]
      clear h0 hk e
      by_cases h3 : (3 : Int) < (ks.length : Int)
      · go_enter Tryz.func17, Tryz.ntmps17
        go_wp2_with fail
        go_ret
        exact ⟨rfl, (by unfold Qw; repeat (first | exact Below.refl _ _ | refine Below.setCell ?_ (by first | (simp; done) | (simp; omega)) _ | refine Below.alloc ?_ (by first | (simp; done) | (simp; omega)) _ | refine bel_drewN ?_ _ | refine Below.drew ?_))⟩
      · go_enter Tryz.func17, Tryz.ntmps17
        go_wp2_with fail
        go_ret
        exact ⟨rfl, (by unfold Qw; repeat (first | exact Below.refl _ _ | refine Below.setCell ?_ (by first | (simp; done) | (simp; omega)) _ | refine Below.alloc ?_ (by first | (simp; done) | (simp; omega)) _ | refine bel_drewN ?_ _ | refine Below.drew ?_))⟩
  | succ k ih =>
    intro op n ks a cap S w hk17 hk
    obtain ⟨l1, l2⟩ := hk.cap
    have k1 : ((k + 1 : Nat) : Int) = (k : Int) + 1 := by omega
    rw [k1]
    by_cases h3 : (3 : Int) < (ks.length : Int)
    · have e : Sy.lgt (k + 1) (.mk op n ks) = false := if_pos (by show 3 < ks.length; omega)
      rw [e]
      have d0 : ((ks.length : Int) == 0) = false := beq_eq_false_iff_ne.2 (by omega)
      clear e hk ih k1
      go_enter Tryz.func17, Tryz.ntmps17
      go_wp2_with fail
      go_ret
      exact ⟨rfl, (by unfold Qw; repeat (first | exact Below.refl _ _ | refine Below.setCell ?_ (by first | (simp; done) | (simp; omega)) _ | refine Below.alloc ?_ (by first | (simp; done) | (simp; omega)) _ | refine bel_drewN ?_ _ | refine Below.drew ?_))⟩
    · have e : Sy.lgt (k + 1) (.mk op n ks) = ks.all (Sy.lgt k) := if_neg (by show ¬ 3 < ks.length; omega)
      rw [e]
      have kz : ((k : Int) + 1 == 0) = false := beq_eq_false_iff_ne.2 (by omega)
      have HK := Lib.hid hk
      have IH := Lib.hid ih
      clear hk ih k1 e
      go_enter Tryz.func17, Tryz.ntmps17
      go_wp2_with fail
      have QS : Hid (Qw w (w.alloc (.cells #[.int .i64 op, .int .i64 n, .slice a ks.length cap] 27))) := Lib.hid Qz
      have B0 := Lib.hid (Bx.new w #[.int .i64 op, .int .i64 n, .slice a ks.length cap] 27)
      go_loopg [5] ks.length (fun g iv wr => ∃ i : Nat, i ≤ ks.length ∧ g = ks.length - i ∧ iv = .int .i64 (i : Int) ∧ Hid ((ks.take i).all (Sy.lgt k) = true) ∧ Hid (Bx wr w.heap.size #[.int .i64 op, .int .i64 n, .slice a ks.length cap] 27) ∧ Qw w wr)
      case atStart => exact ⟨0, Nat.zero_le _, rfl, rfl, Lib.hid rfl, B0, QS.out⟩
      case round =>
        obtain ⟨i, hi, rfl, rfl, HT, B, hQ⟩ := hrel
        have x2 : wr.cell? ⟨w.heap.size, 2, none⟩ = some (.slice a ks.length cap) := B.out.cell' 2 _ rfl
        have q0 := Lib.hid hQ
        by_cases hlt : i < ks.length
        · have hKr := HK.out.kept hQ
          clear hQ QS B0
          cases hKr with
          | nl => simp at hlt
          | mk b off cap ks ad cc hS h1 h2 hc hkk =>
            obtain ⟨z0, z1, z2⟩ := hc i hlt
            have KK := Lib.hid (hkk i hlt)
            have hi2 : (i : Int) < (ks.length : Int) := by omega
            have ek : IntKind.i64.wrap ((k : Int) + 1 - 1) = k := (IntWalk.i64_in _ (by omega)).trans (by omega)
            have cr := fun w1 (h : KidsB w1 S (ad i) (cc i) ks[i].ks) => IH.out ks[i].op ks[i].n ks[i].ks (ad i) (cc i) S w1 (by omega) h
            have eX : Sy.lgt k (.mk ks[i].op ks[i].n ks[i].ks) = Sy.lgt k ks[i] := by cases ks[i]; rfl
            rw [eX] at cr
            have eA := all_takeL ks (Sy.lgt k) hlt
            have bl := cell_lt z0
            have hne : b ≠ wr.heap.size := by omega
            cases hv : Sy.lgt k ks[i] with
            | false =>
              rw [hv] at cr eA
              have CR := Lib.hid cr
              have EA := Lib.hid eA.1
              clear cr eX hc hkk eA hv
              go_wp2_with (go_at_call 17; ((with_reducible refine (CR.out _ (KidsB.kept KK.out Qz)).mono ?_); rintro e w' ⟨rfl, q⟩; replace B := Lib.hid (B.out.kept q); replace q0 : Hid (Qw w w') := Lib.hid (Qw.trans Qz q); clear q))
              go_ret
              exact ⟨ret_bool5 (EA.out (by trivial)).symm, q0.out⟩
            | true =>
              rw [hv] at cr eA
              have CR := Lib.hid cr
              have EA := Lib.hid (eA.2 HT.out rfl)
              clear cr eX hc hkk eA hv
              go_wp2_with (go_at_call 17; ((with_reducible refine (CR.out _ (KidsB.kept KK.out Qz)).mono ?_); rintro e w' ⟨rfl, q⟩; replace B := Lib.hid (B.out.kept q); replace q0 : Hid (Qw w w') := Lib.hid (Qw.trans Qz q); clear q))
              go_roundg (ks.length - (i + 1))
              case measure => omega
              case rel => exact ⟨i + 1, by omega, rfl, by go_num, EA, B, q0.out⟩
        · obtain rfl : i = ks.length := by omega
          clear hQ QS B0
          have hb : ¬ (ks.length : Int) < (ks.length : Int) := by omega
          go_wp2_with fail
          go_ret
          exact ⟨ret_bool5 (by have := HT.out; rw [List.take_length] at this; exact this.symm), q0.out⟩
end Go.Proofs.YtbcbnkapipimmaaGreatDoor
set_option linter.unusedVariables false
set_option linter.unusedSimpArgs false
namespace Go.Proofs.YtbcbnkapipimmaaGreatDoor
open Go.RowKit
set_option maxRecDepth 100000 in
set_option maxHeartbeats 4000000 in
theorem rw_rightWithin (k : Nat) : ∀ (op n : Int) (ks : List Sy.Ex) (a : Option Addr) (cap : Nat) (S : Nat → Prop) (w : World), k ≤ 16 → KidsB w S a cap ks →
    Calls Tryz.prog 70 #[.agg #[.int .i64 op, .int .i64 n, .slice a ks.length cap], .int .i64 (k : Int)] w fun e w' => e = .returned (.bool (Sy.rgw k (.mk op n ks))) ∧ Qw w w' := by
  induction k with
  | zero =>
    intro op n ks a cap S w _ hk
    obtain ⟨l1, l2⟩ := hk.cap
    have KD : Hid (∀ w : World, Calls Tryz.prog 72 #[.int .i64 0] w fun e w' => e = .returned (.int .i64 0) ∧ w = w') := Lib.hid fun w => rw_kids0 rfl w
    clear hk
    go_enter Tryz.func70, Tryz.ntmps70
    go_wp2_with fail
    refine region_deep (by kernel_rfl) (by as_aux_lemma => kernel_rfl) ?_
    repeat (go_big_quiet_step ((go_at_call 72; exact Calls.quiet_of_same ((KD.out _).mono fun _ _ ⟨h1, h2⟩ => ⟨h1, h2.symm⟩))))
    refine wpQuiet_nil ?_
    intro _ hw'
    obtain ⟨nq, hw''⟩ := hw'
    subst hw''
    go_wp2_with fail
    go_ret
    exact ⟨rfl, Qz⟩
  | succ k ih =>
    intro op n ks a cap S w hk16 hk
    obtain ⟨l1, l2⟩ := hk.cap
    have k1 : ((k + 1 : Nat) : Int) = (k : Int) + 1 := by omega
    rw [k1]
    have b0 : decide ((k : Int) + 1 < 1) = false := decide_eq_false (by omega)
    by_cases c1 : op < 0
    · have e : Sy.rgw (k + 1) (.mk op n ks) = false := by rw [Sy.rgw]; show (Sy.nodeB op n ks.length && _) = _; rw [node_no (.inl c1)]; rfl
      rw [e]
      have d1 : decide (op < 0) = true := decide_eq_true c1
      have KD : Hid (∀ w : World, Calls Tryz.prog 72 #[.int .i64 0] w fun e w' => e = .returned (.int .i64 0) ∧ w = w') := Lib.hid fun w => rw_kids0 rfl w
      clear e hk ih k1
      go_enter Tryz.func70, Tryz.ntmps70
      go_wp2_with fail
      refine region_deep (by kernel_rfl) (by as_aux_lemma => kernel_rfl) ?_
      repeat (go_big_quiet_step ((go_at_call 72; exact Calls.quiet_of_same ((KD.out _).mono fun _ _ ⟨h1, h2⟩ => ⟨h1, h2.symm⟩))))
      refine wpQuiet_nil ?_
      intro _ hw'
      obtain ⟨nq, hw''⟩ := hw'
      subst hw''
      go_wp2_with fail
      go_ret
      exact ⟨rfl, Qz⟩
    · have d1 : decide (op < 0) = false := decide_eq_false c1
      by_cases c2 : 25 < op
      · have e : Sy.rgw (k + 1) (.mk op n ks) = false := by rw [Sy.rgw]; show (Sy.nodeB op n ks.length && _) = _; rw [node_no (.inr (by omega))]; rfl
        rw [e]
        have d2 : decide (25 < op) = true := decide_eq_true c2
        have KD : Hid (∀ w : World, Calls Tryz.prog 72 #[.int .i64 0] w fun e w' => e = .returned (.int .i64 0) ∧ w = w') := Lib.hid fun w => rw_kids0 rfl w
        clear e hk ih k1
        go_enter Tryz.func70, Tryz.ntmps70
        go_wp2_with fail
        refine region_deep (by kernel_rfl) (by as_aux_lemma => kernel_rfl) ?_
        repeat (go_big_quiet_step ((go_at_call 72; exact Calls.quiet_of_same ((KD.out _).mono fun _ _ ⟨h1, h2⟩ => ⟨h1, h2.symm⟩))))
        refine wpQuiet_nil ?_
        intro _ hw'
        obtain ⟨nq, hw''⟩ := hw'
        subst hw''
        go_wp2_with fail
        go_ret
        exact ⟨rfl, Qz⟩
      · have d2 : decide (25 < op) = false := decide_eq_false c2
        obtain ⟨o, rfl⟩ : ∃ o : Nat, op = (o : Int) := ⟨op.toNat, by omega⟩
        have ho : o < 26 := by omega
        have KD : Hid (∀ w : World, Calls Tryz.prog 72 #[.int .i64 (o : Int)] w fun e w' => e = .returned (.int .i64 (Sy.kds o : Nat)) ∧ w = w') := Lib.hid fun w => rw_kids o ho w
        clear c1 c2
        by_cases c3 : ks.length = Sy.kds o
        · have d3 : ((ks.length : Int) != (Sy.kds o : Nat)) = false := by rw [c3]; simp
          by_cases cn : n < 0
          · by_cases c5 : o = 0
            · have f0 : ((o : Int) != 0) = false := by rw [c5]; rfl
              have f2 : decide (n < 0) = true := decide_eq_true cn
              have e : Sy.rgw (k + 1) (.mk (o : Int) n ks) = false := by rw [Sy.rgw]; show (Sy.nodeB (o : Int) n ks.length && _) = _; rw [node_num (by omega) (.inr (.inl cn))]; rfl
              rw [e]
              clear e hk ih k1 c5 c3
              go_enter Tryz.func70, Tryz.ntmps70
              go_wp2_with fail
              refine region_deep (by kernel_rfl) (by as_aux_lemma => kernel_rfl) ?_
              repeat (go_big_quiet_step ((go_at_call 72; exact Calls.quiet_of_same ((KD.out _).mono fun _ _ ⟨h1, h2⟩ => ⟨h1, h2.symm⟩))))
              refine wpQuiet_nil ?_
              intro _ hw'
              obtain ⟨nq, hw''⟩ := hw'
              subst hw''
              go_wp2_with fail
              go_ret
              exact ⟨rfl, Qz⟩
            · have f0 : ((o : Int) != 0) = true := by simpa using c5
              have f1 : (n != 0) = true := by simp; omega
              have e : Sy.rgw (k + 1) (.mk (o : Int) n ks) = false := by rw [Sy.rgw]; show (Sy.nodeB (o : Int) n ks.length && _) = _; rw [node_num (by omega) (.inr (.inl cn))]; rfl
              rw [e]
              clear e hk ih k1 c5 c3
              go_enter Tryz.func70, Tryz.ntmps70
              go_wp2_with fail
              refine region_deep (by kernel_rfl) (by as_aux_lemma => kernel_rfl) ?_
              repeat (go_big_quiet_step ((go_at_call 72; exact Calls.quiet_of_same ((KD.out _).mono fun _ _ ⟨h1, h2⟩ => ⟨h1, h2.symm⟩))))
              refine wpQuiet_nil ?_
              intro _ hw'
              obtain ⟨nq, hw''⟩ := hw'
              subst hw''
              go_wp2_with fail
              go_ret
              exact ⟨rfl, Qz⟩
          · have f2 : decide (n < 0) = false := decide_eq_false cn
            by_cases c7 : 1000000000000000 ≤ n
            · have f3 : decide (1000000000000000 ≤ n) = true := decide_eq_true c7
              have e : Sy.rgw (k + 1) (.mk (o : Int) n ks) = false := by rw [Sy.rgw]; show (Sy.nodeB (o : Int) n ks.length && _) = _; rw [node_num (by omega) (.inr (.inr c7))]; rfl
              rw [e]
              by_cases c5 : o = 0
              · have f0 : ((o : Int) != 0) = false := by rw [c5]; rfl
                clear e hk ih k1 c5 c3
                go_enter Tryz.func70, Tryz.ntmps70
                go_wp2_with fail
                refine region_deep (by kernel_rfl) (by as_aux_lemma => kernel_rfl) ?_
                repeat (go_big_quiet_step ((go_at_call 72; exact Calls.quiet_of_same ((KD.out _).mono fun _ _ ⟨h1, h2⟩ => ⟨h1, h2.symm⟩))))
                refine wpQuiet_nil ?_
                intro _ hw'
                obtain ⟨nq, hw''⟩ := hw'
                subst hw''
                go_wp2_with fail
                go_ret
                exact ⟨rfl, Qz⟩
              · have f0 : ((o : Int) != 0) = true := by simpa using c5
                have f1 : (n != 0) = true := by simp; omega
                clear e hk ih k1 c5 c3
                go_enter Tryz.func70, Tryz.ntmps70
                go_wp2_with fail
                refine region_deep (by kernel_rfl) (by as_aux_lemma => kernel_rfl) ?_
                repeat (go_big_quiet_step ((go_at_call 72; exact Calls.quiet_of_same ((KD.out _).mono fun _ _ ⟨h1, h2⟩ => ⟨h1, h2.symm⟩))))
                refine wpQuiet_nil ?_
                intro _ hw'
                obtain ⟨nq, hw''⟩ := hw'
                subst hw''
                go_wp2_with fail
                go_ret
                exact ⟨rfl, Qz⟩
            · have f3 : decide (1000000000000000 ≤ n) = false := decide_eq_false c7
              by_cases cz : o ≠ 0 ∧ n ≠ 0
              · obtain ⟨c5, c4⟩ := cz
                have f0 : ((o : Int) != 0) = true := by simpa using c5
                have f1 : (n != 0) = true := by simpa using c4
                have e : Sy.rgw (k + 1) (.mk (o : Int) n ks) = false := by rw [Sy.rgw]; show (Sy.nodeB (o : Int) n ks.length && _) = _; rw [node_num c4 (.inl c5)]; rfl
                rw [e]
                clear e hk ih k1 c5 c4 c3
                go_enter Tryz.func70, Tryz.ntmps70
                go_wp2_with fail
                refine region_deep (by kernel_rfl) (by as_aux_lemma => kernel_rfl) ?_
                repeat (go_big_quiet_step ((go_at_call 72; exact Calls.quiet_of_same ((KD.out _).mono fun _ _ ⟨h1, h2⟩ => ⟨h1, h2.symm⟩))))
                refine wpQuiet_nil ?_
                intro _ hw'
                obtain ⟨nq, hw''⟩ := hw'
                subst hw''
                go_wp2_with fail
                go_ret
                exact ⟨rfl, Qz⟩
              · have hn : Sy.nodeB (o : Int) n ks.length = true := node_yes ho c3 (by
                  rcases Nat.decEq o 0 with h | h
                  · exact .inl (Classical.byContradiction fun h2 => cz ⟨h, h2⟩)
                  · by_cases h2 : n = 0
                    · exact .inl h2
                    · exact .inr ⟨h, by omega, by omega⟩)
                have hR : Sy.rgw (k + 1) (.mk (o : Int) n ks) = ks.all (Sy.rgw k) := by rw [Sy.rgw]; show (Sy.nodeB (o : Int) n ks.length && _) = _; rw [hn]; rfl
                rw [hR]
                have HK := Lib.hid hk
                have IH := Lib.hid ih
                have fz : ((o : Int) != 0) = false ∨ (((o : Int) != 0) = true ∧ (n != 0) = false) := by
                  by_cases h : o = 0
                  · exact .inl (by rw [h]; rfl)
                  · refine .inr ⟨by simpa using h, ?_⟩
                    have : n = 0 := Classical.byContradiction fun h2 => cz ⟨h, h2⟩
                    rw [this]; rfl
                clear hR hn hk ih k1 c3 cz
                rcases fz with f0 | ⟨f0, f1⟩
                all_goals
                  go_enter Tryz.func70, Tryz.ntmps70
                  go_wp2_with fail
                  refine region_deep (by kernel_rfl) (by as_aux_lemma => kernel_rfl) ?_
                  repeat (go_big_quiet_step ((go_at_call 72; exact Calls.quiet_of_same ((KD.out _).mono fun _ _ ⟨h1, h2⟩ => ⟨h1, h2.symm⟩))))
                  refine wpQuiet_nil ?_
                  intro _ hw'
                  obtain ⟨nq, hw''⟩ := hw'
                  subst hw''
                  go_wp2_with fail
                  have QS : Hid (Qw w ((w.alloc (.cells #[.int .i64 (o : Int), .int .i64 n, .slice a ks.length cap] 27)).drewN nq)) := Lib.hid (bel_drewN ((Below.refl _ _).alloc (Nat.le_refl _) _) _)
                  have XS : Hid (Bx ((w.alloc (.cells #[.int .i64 (o : Int), .int .i64 n, .slice a ks.length cap] 27)).drewN nq) w.heap.size #[.int .i64 (o : Int), .int .i64 n, .slice a ks.length cap] 27) := Lib.hid (Bx.new w _ _)
                  go_loopg [5] ks.length (fun g iv wr => ∃ i : Nat, i ≤ ks.length ∧ g = ks.length - i ∧ iv = .int .i64 (i : Int) ∧ Hid ((ks.take i).all (Sy.rgw k) = true) ∧ Hid (Bx wr w.heap.size #[.int .i64 (o : Int), .int .i64 n, .slice a ks.length cap] 27) ∧ Qw w wr)
                  case atStart => exact ⟨0, Nat.zero_le _, rfl, rfl, Lib.hid (by simp), XS, QS.out⟩
                  case round =>
                    clear XS QS
                    obtain ⟨i, hi, rfl, rfl, hT, X, hQ⟩ := hrel
                    have q0 := Lib.hid hQ
                    have xc := X.out.cell' 2 _ rfl
                    by_cases hlt : i < ks.length
                    · have hKr := HK.out.kept hQ
                      clear hQ
                      cases hKr with
                      | nl => simp at hlt
                      | mk b off cap ks ad cc hS h1 h2 hc hkk =>
                        obtain ⟨z0, z1, z2⟩ := hc i hlt
                        have KK := Lib.hid (hkk i hlt)
                        have hi2 : (i : Int) < (ks.length : Int) := by omega
                        have cr := fun w1 (h : KidsB w1 S (ad i) (cc i) ks[i].ks) => IH.out ks[i].op ks[i].n ks[i].ks (ad i) (cc i) S w1 (by omega) h
                        have eX : Sy.rgw k (.mk ks[i].op ks[i].n ks[i].ks) = Sy.rgw k ks[i] := by cases ks[i]; rfl
                        rw [eX] at cr
                        have bl := cell_lt z0
                        cases eR : Sy.rgw k ks[i] with
                        | false =>
                          rw [eR] at cr
                          have eA : Hid (ks.all (Sy.rgw k) = false) := Lib.hid (by rw [List.all_eq_false]; exact ⟨ks[i], List.getElem_mem hlt, by rw [eR]; decide⟩)
                          have CR := Lib.hid cr
                          clear cr eX eR hc hkk
                          go_wp2_with (go_at_call 70; ((with_reducible refine (CR.out _ (KidsB.kept KK.out Qz)).mono ?_); rintro e w' ⟨rfl, q⟩; replace q0 : Hid (Qw w w') := Lib.hid (Qw.trans Qz q); clear q))
                          go_ret
                          exact ⟨ret_bool5 eA.out.symm, q0.out⟩
                        | true =>
                          rw [eR] at cr
                          have hT' : Hid ((ks.take (i + 1)).all (Sy.rgw k) = true) := Lib.hid (by rw [List.take_succ_eq_append_getElem hlt, List.all_append, hT.out]; simp [eR])
                          have CR := Lib.hid cr
                          clear cr eX eR hc hkk hT
                          go_wp2_with (go_at_call 70; ((with_reducible refine (CR.out _ (KidsB.kept KK.out Qz)).mono ?_); rintro e w' ⟨rfl, q⟩; replace X := Lib.hid (Bx.kept X.out q); replace q0 : Hid (Qw w w') := Lib.hid (Qw.trans Qz q); clear q))
                          go_roundg (ks.length - (i + 1))
                          case measure => omega
                          case rel => exact ⟨i + 1, by omega, rfl, by go_num, hT', X, q0.out⟩
                    · obtain rfl : i = ks.length := by omega
                      clear hQ
                      have hb : ¬ (ks.length : Int) < (ks.length : Int) := by omega
                      go_wp2_with fail
                      go_ret
                      exact ⟨ret_bool5 (by have := hT.out; rw [List.take_length] at this; exact this.symm), q0.out⟩
        · have d3 : ((ks.length : Int) != (Sy.kds o : Nat)) = true := by simp; omega
          have e : Sy.rgw (k + 1) (.mk (o : Int) n ks) = false := by rw [Sy.rgw]; show (Sy.nodeB (o : Int) n ks.length && _) = _; rw [node_len c3]; rfl
          rw [e]
          clear e hk ih k1 c3
          go_enter Tryz.func70, Tryz.ntmps70
          go_wp2_with fail
          refine region_deep (by kernel_rfl) (by as_aux_lemma => kernel_rfl) ?_
          repeat (go_big_quiet_step ((go_at_call 72; exact Calls.quiet_of_same ((KD.out _).mono fun _ _ ⟨h1, h2⟩ => ⟨h1, h2.symm⟩))))
          refine wpQuiet_nil ?_
          intro _ hw'
          obtain ⟨nq, hw''⟩ := hw'
          subst hw''
          go_wp2_with fail
          go_ret
          exact ⟨rfl, Qz⟩
theorem rw_right (op n : Int) (ks : List Sy.Ex) (a : Option Addr) (cap : Nat) (S : Nat → Prop) (w : World) (hk : KidsB w S a cap ks) :
    Calls Tryz.prog 37 #[.agg #[.int .i64 op, .int .i64 n, .slice a ks.length cap]] w fun e w' => e = .returned (.bool (Sy.rgt (.mk op n ks))) ∧ Qw w w' := by
  have c := fun w1 (h : KidsB w1 S a cap ks) => rw_rightWithin 16 op n ks a cap S w1 (Nat.le_refl _) h
  rw [Sy.rgt_eq] at c
  generalize Sy.rgt (.mk op n ks) = b at *
  have HK := Lib.hid hk
  have C1 : Hid (∀ w1, KidsB w1 S a cap ks → Calls Tryz.prog 70 #[.agg #[.int .i64 op, .int .i64 n, .slice a ks.length cap], .int .i64 16] w1 fun e w' => e = .returned (.bool b) ∧ Qw w1 w') := Lib.hid c
  clear c hk
  have q0 : Hid (Qw w w) := Lib.hid (Qw.refl w)
  go_enter Tryz.func37, Tryz.ntmps37
  go_wp2_with (go_at_call 70; ((with_reducible refine (C1.out _ (KidsB.kept HK.out Qz)).mono ?_); rintro e w' ⟨rfl, q⟩; replace q0 : Hid (Qw w w') := Lib.hid (Qw.trans Qz q); clear q))
  go_ret
  exact ⟨rfl, q0.out⟩
end Go.Proofs.YtbcbnkapipimmaaGreatDoor

