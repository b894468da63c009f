/- SyntaxLevels of layer 6: which operators bind stronger, and that operators of a level are left-associative.
   Conditions: the five listed tables lie as the program's own text lays them (the card ties them); every input. -/
import Derived.Test.YtbcbnkapipimmaaGreatDoorZLv4
import Derived.Test.YtbcbnkapipimmaaGreatDoorZLv17
import Derived.Test.YtbcbnkapipimmaaGreatDoorZLv23
import Derived.Test.YtbcbnkapipimmaaGreatDoorZLv27
import Derived.Deep.Cut
import Derived.OrdersHeld

set_option linter.unusedVariables false
set_option linter.unusedSimpArgs false
namespace Go.Proofs.YtbcbnkapipimmaaGreatDoor
open Go.ChangeShapes Go.WideShapes Go.ChangeAt Go.RowKit
section
variable {P : Program} {ops : Array Oper} {Q : Exit → Act → World → Prop} {md : Region.Mode} {S : World → Prop}
/-- One alone may come up. -/
theorem wpAnyH_one {i : Nat} {oi : Oper} {fuel : Nat} {listed : Array Bool} {a : Act} {w : World} (hi : ops[i]? = some oi) (hr : Region.ready md ops listed = [i]) (hg : oi.guard = none)
    (h : ∀ K : Act → World → Prop, (∀ a' w', S w' → wpAnyH P md ops Q S fuel (listed.setIfInBounds i true) a' w' → K a' w') → oi.wp P a w K Q) : wpAnyH P md ops Q S (fuel + 1) listed a w := by
  refine ⟨fun h0 => (by rw [h0] at hr; cases hr), fun j hj => ?_⟩
  rw [hr] at hj
  obtain rfl : j = i := by simpa using hj
  unfold wpOp
  rw [hi]
  simp only
  rw [if_pos (by simp [Region.wanted, hg])]
  exact .inl (h _ fun a' w' hS H => ⟨hS, H⟩)
/-- One of two may come up. -/
theorem wpAnyH_two {i j : Nat} {oi oj : Oper} {fuel : Nat} {listed : Array Bool} {a : Act} {w : World} (hi : ops[i]? = some oi) (hj : ops[j]? = some oj) (hr : Region.ready md ops listed = [i, j]) (hg : oi.guard = none) (hgj : oj.guard = none)
    (h : ∀ K : Act → World → Prop, (∀ a' w', S w' → wpAnyH P md ops Q S fuel (listed.setIfInBounds i true) a' w' → K a' w') → oi.wp P a w K Q)
    (h2 : ∀ K : Act → World → Prop, (∀ a' w', S w' → wpAnyH P md ops Q S fuel (listed.setIfInBounds j true) a' w' → K a' w') → oj.wp P a w K Q) : wpAnyH P md ops Q S (fuel + 1) listed a w := by
  refine ⟨fun h0 => (by rw [h0] at hr; cases hr), fun k hk => ?_⟩
  rw [hr] at hk
  have hk2 : k = i ∨ k = j := by simpa using hk
  rcases hk2 with rfl | rfl
  · unfold wpOp
    rw [hi]
    simp only
    rw [if_pos (by simp [Region.wanted, hg])]
    exact .inl (h _ fun a' w' hS H => ⟨hS, H⟩)
  · unfold wpOp
    rw [hj]
    simp only
    rw [if_pos (by simp [Region.wanted, hgj])]
    exact .inl (h2 _ fun a' w' hS H => ⟨hS, H⟩)
end
/-- What region 10 and region 12 read. -/
structure Lvw (w : World) (B1 P0 P1 P2 : Nat) (X Y Z : Int) : Prop where
  o : Bx w B1 opsA 3
  x : Bx w P0 #[.int .i64 0, .int .i64 X, .slice none 0 0] 27
  y : Bx w P1 #[.int .i64 0, .int .i64 Y, .slice none 0 0] 27
  z : Bx w P2 #[.int .i64 0, .int .i64 Z, .slice none 0 0] 27
section
variable {w : World} {B1 P0 P1 P2 : Nat} {X Y Z : Int}
theorem Lvw.al (h : Lvw w B1 P0 P1 P2 X Y Z) (o : Obj) : Lvw (w.alloc o) B1 P0 P1 P2 X Y Z := ⟨h.o.alloc _, h.x.alloc _, h.y.alloc _, h.z.alloc _⟩
theorem Lvw.dr (h : Lvw w B1 P0 P1 P2 X Y Z) : Lvw w.drew B1 P0 P1 P2 X Y Z := ⟨h.o, h.x, h.y, h.z⟩
theorem Lvw.sc (h : Lvw w B1 P0 P1 P2 X Y Z) {p : Addr} (h1 : B1 ≠ p.block) (h2 : P0 ≠ p.block) (h3 : P1 ≠ p.block) (h4 : P2 ≠ p.block) (u : Value) : Lvw (w.setCell p u) B1 P0 P1 P2 X Y Z :=
  ⟨(Below.heap_setCell _ _ _ _ h1).trans h.o, (Below.heap_setCell _ _ _ _ h2).trans h.x, (Below.heap_setCell _ _ _ _ h3).trans h.y, (Below.heap_setCell _ _ _ _ h4).trans h.z⟩
theorem Lvw.kept {w' : World} (h : Lvw w B1 P0 P1 P2 X Y Z) (q : Qw w w') : Lvw w' B1 P0 P1 P2 X Y Z := ⟨h.o.kept q, h.x.kept q, h.y.kept q, h.z.kept q⟩
theorem Lvw.cells (h : Lvw w B1 P0 P1 P2 X Y Z) {i k : Nat} (hi : i < 10) (hk : k < 10) :
    w.cell? ⟨B1, i, none⟩ = some (.int .i64 (Sy.opN i : Nat)) ∧ w.cell? ⟨B1, k, none⟩ = some (.int .i64 (Sy.opN k : Nat)) ∧
    (w.cell? ⟨P0, 0, none⟩ = some (.int .i64 0) ∧ w.cell? ⟨P0, 1, none⟩ = some (.int .i64 X) ∧ w.cell? ⟨P0, 2, none⟩ = some (.slice none 0 0)) ∧
    (w.cell? ⟨P1, 0, none⟩ = some (.int .i64 0) ∧ w.cell? ⟨P1, 1, none⟩ = some (.int .i64 Y) ∧ w.cell? ⟨P1, 2, none⟩ = some (.slice none 0 0)) ∧
    (w.cell? ⟨P2, 0, none⟩ = some (.int .i64 0) ∧ w.cell? ⟨P2, 1, none⟩ = some (.int .i64 Z) ∧ w.cell? ⟨P2, 2, none⟩ = some (.slice none 0 0)) :=
  ⟨h.o.cell' _ _ (ops_at i hi), h.o.cell' _ _ (ops_at k hk), ⟨h.x.cell' 0 _ rfl, h.x.cell' 1 _ rfl, h.x.cell' 2 _ rfl⟩, ⟨h.y.cell' 0 _ rfl, h.y.cell' 1 _ rfl, h.y.cell' 2 _ rfl⟩, ⟨h.z.cell' 0 _ rfl, h.z.cell' 1 _ rfl, h.z.cell' 2 _ rfl⟩⟩
theorem levc (h : Bx w B1 levA 3) {i k : Nat} (hi : i < 10) (hk : k < 10) : w.cell? ⟨B1, i, none⟩ = some (.int .i64 (Sy.lvN i : Nat)) ∧ w.cell? ⟨B1, k, none⟩ = some (.int .i64 (Sy.lvN k : Nat)) := ⟨h.cell' _ _ (lev_at i hi), h.cell' _ _ (lev_at k hk)⟩
end
theorem k_of {K : Act → World → Prop} {a : Act} {W : World} (P : World → Prop) (h : P W) (h2 : ∀ w', P w' → K a w') : K a W := h2 W h
theorem blk_x {w : World} {S : Nat → Prop} {b : Sy.Bl} {q0 : Option Addr} {q1 : Nat} {q2 : Option Addr} {q3 : Nat} {q4 : Option Addr} {q5 : Nat} (h : BlkB w S b (bcs b q0 q1 q2 q3 q4 q5)) : KidsB w S q4 q5 b.x.ks := by
  obtain ⟨wa, wc, la, lc, xa, xc, e, _, _, h⟩ := h
  unfold bcs at e
  simp only [Array.mk.injEq, List.cons.injEq, Value.slice.injEq, true_and, and_true] at e
  obtain ⟨_, _, e1, e2⟩ := e
  rw [e1, e2]
  exact h
set_option maxRecDepth 100000 in
set_option maxHeartbeats 4000000 in
theorem walk_syntaxLevels (a0 : Int) (x0 : -9223372036854775808 ≤ a0) (y0 : a0 ≤ 9223372036854775807) (a1 : Int) (x1 : -9223372036854775808 ≤ a1) (y1 : a1 ≤ 9223372036854775807) (a2 : Int) (x2 : -9223372036854775808 ≤ a2) (y2 : a2 ≤ 9223372036854775807) (a3 : Int) (x3 : -9223372036854775808 ≤ a3) (y3 : a3 ≤ 9223372036854775807) (a4 : Int) (x4 : -9223372036854775808 ≤ a4) (y4 : a4 ≤ 9223372036854775807) (w : World) (hb : Tb w) (ht : Tn w) (ho : Ow w) :
    Calls Tryz.prog 3 #[.int .i64 a0, .int .i64 a1, .int .i64 a2, .int .i64 a3, .int .i64 a4] w fun e w' => e = .returned (.bool true) ∧ Qw w w' := by
  have aw : ∀ w1, Qw w w1 → _ := fun w1 q => awake6 w1 (ht.kept q) (ho.kept q) (hb.kept q)
  have AW := Lib.hid aw
  have HN := Lib.hid ht
  have HO := Lib.hid ho
  have HB := Lib.hid hb
  have m1 := fun w => modW a0 10 x0 y0 (by decide) (by decide) w
  have m2 := fun w => modW a1 10 x1 y1 (by decide) (by decide) w
  obtain ⟨i, hi0⟩ : ∃ n : Nat, a0 % 10 = n := ⟨(a0 % 10).toNat, by omega⟩
  obtain ⟨k, hk0⟩ : ∃ n : Nat, a1 % 10 = n := ⟨(a1 % 10).toNat, by omega⟩
  have hi : i < 10 := by omega
  have hk : k < 10 := by omega
  rw [hi0] at m1
  rw [hk0] at m2
  have n1 := fun w => numW a2 x2 y2 _ rfl w
  have n2 := fun w => numW a3 x3 y3 _ rfl w
  have n3 := fun w => numW a4 x4 y4 _ rfl w
  obtain ⟨X, hX⟩ : ∃ X : Int, a2 % 1000 * 1000000 = X := ⟨_, rfl⟩
  obtain ⟨Y, hY⟩ : ∃ X : Int, a3 % 1000 * 1000000 = X := ⟨_, rfl⟩
  obtain ⟨Z, hZ⟩ : ∃ X : Int, a4 % 1000 * 1000000 = X := ⟨_, rfl⟩
  have X0 : 0 ≤ X ∧ X < 1000000000000000 := by omega
  have Y0 : 0 ≤ Y ∧ Y < 1000000000000000 := by omega
  have Z0 : 0 ≤ Z ∧ Z < 1000000000000000 := by omega
  rw [hX] at n1
  rw [hY] at n2
  rw [hZ] at n3
  have M1 := Lib.hid m1
  have M2 := Lib.hid m2
  have N1 := Lib.hid n1
  have N2 := Lib.hid n2
  have N3 := Lib.hid n3
  have hln := Sy.lev_ln X0.1 X0.2 Y0.1 Y0.2 Z0.1 Z0.2 i k hi hk
  have hwk := Sy.want_ok X0.1 X0.2 Y0.1 Y0.2 Z0.1 Z0.2 i k hi hk
  obtain ⟨oi1, _, _⟩ := Sy.opN_ok i hi
  obtain ⟨ok1, _, _⟩ := Sy.opN_ok k hk
  have hlen := Sy.levT_len X0.1 X0.2 Y0.1 Y0.2 Z0.1 Z0.2 oi1 ok1
  have p1 : ∀ w1, Qw w w1 → _ := fun w1 q => printNum X0.1 X0.2 w1 (HO.out.kept q) (HB.out.kept q)
  have p2 : ∀ w1, Qw w w1 → _ := fun w1 q => printNum Y0.1 Y0.2 w1 (HO.out.kept q) (HB.out.kept q)
  have p3 : ∀ w1, Qw w w1 → _ := fun w1 q => printNum Z0.1 Z0.2 w1 (HO.out.kept q) (HB.out.kept q)
  have sA := fmtp_size X0.1 X0.2
  have sB := fmtp_size Y0.1 Y0.2
  have sC := fmtp_size Z0.1 Z0.2
  have sU := onm_size oi1
  have sV := onm_size ok1
  have eT : bs [35, 49, 61] ++ bs (fmtp X) ++ bs [32] ++ bs (Sy.onm (Sy.opN i)) ++ bs [32] ++ bs (fmtp Y) ++ bs [32] ++ bs (Sy.onm (Sy.opN k)) ++ bs [32] ++ bs (fmtp Z) = bs (Sy.levT X Y Z (Sy.opN i) (Sy.opN k)) := by simp only [bs_app, Sy.levT, List.append_assoc, List.cons_append, List.nil_append]
  have sgi := sig_at i hi
  have sgk := sig_at k hk
  have c1 : ∃ (b : Sy.Bl) (m : Nat) (er : Int), ((Sy.lvN i = 2 ∧ Sy.lvN k = 2 → er = 2) ∧ (¬ (Sy.lvN i = 2 ∧ Sy.lvN k = 2) → er = 0 ∧ b = ⟨1, 0, false, [], Sy.num 1000000, Sy.want i k X Y Z, 0⟩)) ∧ Sy.lnR (Sy.levT X Y Z (Sy.opN i) (Sy.opN k)) = (b, m, er) := by
    by_cases h : Sy.lvN i = 2 ∧ Sy.lvN k = 2
    · obtain ⟨m, e⟩ := hln.1 h
      exact ⟨_, m, 2, ⟨fun _ => rfl, fun h2 => absurd h h2⟩, e⟩
    · exact ⟨_, _, 0, ⟨fun h2 => absurd h2 h, fun _ => ⟨rfl, rfl⟩⟩, hln.2 h⟩
  obtain ⟨b, m, er, hcs, e1⟩ := c1
  have cl : ∀ w1, Qw w w1 → _ := fun w1 q => lineW (s := bs (Sy.levT X Y Z (Sy.opN i) (Sy.opN k))) (by rw [bs_size]; omega) e1 w1 (HN.out.kept q) (HO.out.kept q)
  rw [← eT] at cl
  have P1' := Lib.hid p1
  have P2' := Lib.hid p2
  have P3' := Lib.hid p3
  have SGI := Lib.hid sgi
  have SGK := Lib.hid sgk
  have CL0 := Lib.hid cl
  have HCS := Lib.hid hcs
  have HWK := Lib.hid hwk
  have QQ := Lib.hid (Qw.refl w)
  have hi2 : (i : Int) < 10 := by omega
  have hk2 : (k : Int) < 10 := by omega
  clear ht ho hb aw m1 m2 hi0 hk0 n1 n2 n3 hX hY hZ hln hwk hlen p1 p2 p3 eT sgi sgk hcs cl e1 X0 Y0 Z0
  generalize hA : bs (fmtp X) = A at *
  generalize hB2 : bs (fmtp Y) = B at *
  generalize hC : bs (fmtp Z) = C at *
  generalize hU : bs (Sy.onm (Sy.opN i)) = U at *
  generalize hV : bs (Sy.onm (Sy.opN k)) = V at *
  clear hA hB2 hC hU hV
  have CL : Hid (∀ w1, Qw w w1 → Calls Tryz.prog 14 #[.string ((((((((((⟨#[35, 49, 61]⟩ : ByteArray) ++ A) ++ ⟨#[32]⟩) ++ U) ++ ⟨#[32]⟩) ++ B) ++ ⟨#[32]⟩) ++ V) ++ ⟨#[32]⟩) ++ C)] w1 fun e w' => ∃ q0 q1 q2 q3 q4 q5, e = .returned (.tuple #[.agg #[.int .i64 b.kind, .int .i64 b.label, .bool b.skip, .slice q0 b.words.length q1, .int .i64 b.left.op, .int .i64 b.left.n, .slice q2 b.left.ks.length q3, .int .i64 b.x.op, .int .i64 b.x.n, .slice q4 b.x.ks.length q5, .int .i64 b.n], .int .i64 (m : Int), .int .i64 er]) ∧ BlkB w' (fun b => w1.heap.size ≤ b) b (bcs b q0 q1 q2 q3 q4 q5) ∧ Qw w1 w') := Lib.hid CL0.out
  clear CL0
  have hz0 : ¬ 9223372036854775807 < 3 + A.size := by omega
  have hz1 : ¬ 9223372036854775807 < 3 + A.size + 1 := by omega
  have hz2 : ¬ 9223372036854775807 < 3 + A.size + 1 + U.size := by omega
  have hz3 : ¬ 9223372036854775807 < 3 + A.size + 1 + U.size + 1 := by omega
  have hz4 : ¬ 9223372036854775807 < 3 + A.size + 1 + U.size + 1 + B.size := by omega
  have hz5 : ¬ 9223372036854775807 < 3 + A.size + 1 + U.size + 1 + B.size + 1 := by omega
  have hz6 : ¬ 9223372036854775807 < 3 + A.size + 1 + U.size + 1 + B.size + 1 + V.size := by omega
  have hz7 : ¬ 9223372036854775807 < 3 + A.size + 1 + U.size + 1 + B.size + 1 + V.size + 1 := by omega
  have hz8 : ¬ 9223372036854775807 < 3 + A.size + 1 + U.size + 1 + B.size + 1 + V.size + 1 + C.size := by omega
  clear sA sB sC sU sV
  go_enter Tryz.func3, Tryz.ntmps3
  go_upto_region 4 with fail
  refine code_of (fun w2 => Hid (Bx w2 w.heap.size sigA 9) ∧ Hid (Bx w2 (w.heap.size + 1) opsA 3) ∧ Hid (Bx w2 (w.heap.size + 1 + 1) levA 3) ∧ Hid (Qw w w2)) ⟨Lib.hid (((Bx.new w _ _).alloc _).alloc _), Lib.hid (Bx.alloc (by have h := Bx.new (w.alloc (.cells sigA 9)) opsA 3; rw [show (w.alloc (.cells sigA 9)).heap.size = w.heap.size + 1 by simp] at h; exact h) _), Lib.hid (by have h := Bx.new ((w.alloc (.cells sigA 9)).alloc (.cells opsA 3)) levA 3; rw [show ((w.alloc (.cells sigA 9)).alloc (.cells opsA 3)).heap.size = w.heap.size + 1 + 1 by simp] at h; exact h), Lib.hid (by repeat (first | exact Qw.refl _ | refine Qw.al ?_ _ | refine Qw.dr ?_))⟩ ?_
  clear QQ
  generalize w.heap.size + 1 + 1 = B2
  generalize w.heap.size + 1 = B1
  generalize w.heap.size = B0
  rintro w2 ⟨S0, S1, S2, QQ⟩
  go_upto_region 6 with (first
    | (go_at_call 11; ((with_reducible refine (M1.out _).mono ?_); rintro e w' ⟨rfl, rfl⟩))
    | (go_at_call 11; ((with_reducible refine (M2.out _).mono ?_); rintro e w' ⟨rfl, rfl⟩))
    | (go_at_call 12; ((with_reducible refine (N1.out _).mono ?_); rintro e w' ⟨rfl, q⟩; replace S0 := Lib.hid (Bx.kept S0.out q); replace S1 := Lib.hid (Bx.kept S1.out q); replace S2 := Lib.hid (Bx.kept S2.out q); replace QQ := Lib.hid (Qw.trans QQ.out q); clear q))
    | (go_at_call 12; ((with_reducible refine (N2.out _).mono ?_); rintro e w' ⟨rfl, q⟩; replace S0 := Lib.hid (Bx.kept S0.out q); replace S1 := Lib.hid (Bx.kept S1.out q); replace S2 := Lib.hid (Bx.kept S2.out q); replace QQ := Lib.hid (Qw.trans QQ.out q); clear q))
    | (go_at_call 12; ((with_reducible refine (N3.out _).mono ?_); rintro e w' ⟨rfl, q⟩; replace S0 := Lib.hid (Bx.kept S0.out q); replace S1 := Lib.hid (Bx.kept S1.out q); replace S2 := Lib.hid (Bx.kept S2.out q); replace QQ := Lib.hid (Qw.trans QQ.out q); clear q)))
  refine code_of (fun w3 => Hid (Bx w3 B0 sigA 9) ∧ Hid (Bx w3 B1 opsA 3) ∧ Hid (Bx w3 B2 levA 3) ∧ Hid (Bx w3 w'.heap.size #[.int .i64 0, .int .i64 X, .slice none 0 0] 27) ∧ Hid (Bx w3 (w'.heap.size + 1) #[.int .i64 0, .int .i64 Y, .slice none 0 0] 27) ∧ Hid (Bx w3 (w'.heap.size + 1 + 1) #[.int .i64 0, .int .i64 Z, .slice none 0 0] 27) ∧ Hid (Qw w w3)) ⟨Lib.hid (((S0.out.alloc _).alloc _).alloc _), Lib.hid (((S1.out.alloc _).alloc _).alloc _), Lib.hid (((S2.out.alloc _).alloc _).alloc _), Lib.hid (((Bx.new w' _ _).alloc _).alloc _),
    Lib.hid (Bx.alloc (by have h := Bx.new (w'.alloc (.cells #[.int .i64 0, .int .i64 X, .slice none 0 0] 27)) #[.int .i64 0, .int .i64 Y, .slice none 0 0] 27; rw [show (w'.alloc (.cells #[.int .i64 0, .int .i64 X, .slice none 0 0] 27)).heap.size = w'.heap.size + 1 by simp] at h; exact h) _),
    Lib.hid (by have h := Bx.new ((w'.alloc (.cells #[.int .i64 0, .int .i64 X, .slice none 0 0] 27)).alloc (.cells #[.int .i64 0, .int .i64 Y, .slice none 0 0] 27)) #[.int .i64 0, .int .i64 Z, .slice none 0 0] 27; rw [show ((w'.alloc (.cells #[.int .i64 0, .int .i64 X, .slice none 0 0] 27)).alloc (.cells #[.int .i64 0, .int .i64 Y, .slice none 0 0] 27)).heap.size = w'.heap.size + 1 + 1 by simp] at h; exact h), Lib.hid (Qw.trans QQ.out (by repeat (first | exact Qw.refl _ | refine Qw.al ?_ _ | refine Qw.dr ?_)))⟩ ?_
  clear S0 S1 S2 QQ
  generalize w'.heap.size + 1 + 1 = P2
  generalize w'.heap.size + 1 = P1
  generalize w'.heap.size = P0
  rintro w3 ⟨S0, S1, S2, X0, X1, X2, QQ⟩
  have D1 : Hid (∀ p : Kept w3, Calls Tryz.prog 13 #[.agg #[.int .i64 0, .int .i64 X, .slice none 0 0]] p.v fun e w' => e = .returned (.string A) ∧ Qw p.v w') := Lib.hid fun p => P1'.out p.v (QQ.out.trans p.h)
  have D2 : Hid (∀ p : Kept w3, Calls Tryz.prog 13 #[.agg #[.int .i64 0, .int .i64 Y, .slice none 0 0]] p.v fun e w' => e = .returned (.string B) ∧ Qw p.v w') := Lib.hid fun p => P2'.out p.v (QQ.out.trans p.h)
  have D3 : Hid (∀ p : Kept w3, Calls Tryz.prog 13 #[.agg #[.int .i64 0, .int .i64 Z, .slice none 0 0]] p.v fun e w' => e = .returned (.string C) ∧ Qw p.v w') := Lib.hid fun p => P3'.out p.v (QQ.out.trans p.h)
  have xk0 := X0.out.kcell 0 _ rfl
  have xk1 := X0.out.kcell 1 _ rfl
  have xk2 := X0.out.kcell 2 _ rfl
  have yk0 := X1.out.kcell 0 _ rfl
  have yk1 := X1.out.kcell 1 _ rfl
  have yk2 := X1.out.kcell 2 _ rfl
  have zk0 := X2.out.kcell 0 _ rfl
  have zk1 := X2.out.kcell 1 _ rfl
  have zk2 := X2.out.kcell 2 _ rfl
  have si := S0.out.kcell i _ SGI.out
  have sk := S0.out.kcell k _ SGK.out
  refine region_kept (by kernel_rfl) (by kernel_rfl) ?_
  repeat (go_big_quiet_step (first
    | (go_at_call 13; with_reducible exact Kept.call (D1.out _))
    | (go_at_call 13; with_reducible exact Kept.call (D2.out _))
    | (go_at_call 13; with_reducible exact Kept.call (D3.out _))))
  refine wpQuiet_nil ?_
  intro w4 q
  clear xk0 xk1 xk2 yk0 yk1 yk2 zk0 zk1 zk2 si sk D1 D2 D3 S0
  replace S1 := Lib.hid (Bx.kept S1.out q)
  replace S2 := Lib.hid (Bx.kept S2.out q)
  replace X0 := Lib.hid (Bx.kept X0.out q)
  replace X1 := Lib.hid (Bx.kept X1.out q)
  replace X2 := Lib.hid (Bx.kept X2.out q)
  replace QQ := Lib.hid (Qw.trans QQ.out q)
  clear q
  go_upto_region 8 with (go_at_call 14; ((with_reducible refine (CL.out _ QQ.out).mono ?_); rintro e w' ⟨q0, q1, q2, q3, q4, q5, rfl, hb, q⟩; replace S1 := Lib.hid (Bx.kept S1.out q); replace S2 := Lib.hid (Bx.kept S2.out q); replace X0 := Lib.hid (Bx.kept X0.out q); replace X1 := Lib.hid (Bx.kept X1.out q); replace X2 := Lib.hid (Bx.kept X2.out q); replace QQ := Lib.hid (Qw.trans QQ.out q); have HBk := Lib.hid hb; clear hb q))
  refine code_of (fun w5 => Hid (Bx w5 B1 opsA 3) ∧ Hid (Bx w5 B2 levA 3) ∧ Hid (Bx w5 P0 #[.int .i64 0, .int .i64 X, .slice none 0 0] 27) ∧ Hid (Bx w5 P1 #[.int .i64 0, .int .i64 Y, .slice none 0 0] 27) ∧ Hid (Bx w5 P2 #[.int .i64 0, .int .i64 Z, .slice none 0 0] 27) ∧ Hid (Bx w5 w'.heap.size #[.int .i64 b.kind, .int .i64 b.label, .bool b.skip, .slice q0 b.words.length q1, .int .i64 b.left.op, .int .i64 b.left.n, .slice q2 b.left.ks.length q3, .int .i64 b.x.op, .int .i64 b.x.n, .slice q4 b.x.ks.length q5, .int .i64 b.n] 32) ∧ Hid (BlkB w5 (fun _ => True) b (bcs b q0 q1 q2 q3 q4 q5)) ∧ Hid (Qw w w5)) ⟨Lib.hid (S1.out.alloc _), Lib.hid (S2.out.alloc _), Lib.hid (X0.out.alloc _), Lib.hid (X1.out.alloc _), Lib.hid (X2.out.alloc _), Lib.hid (Bx.new _ _ _), Lib.hid ((BlkB.kept HBk.out (by repeat (first | exact Qw.refl _ | refine Qw.al ?_ _ | refine Qw.dr ?_))).go fun b _ _ => ⟨rfl, trivial⟩), Lib.hid (Qw.trans QQ.out (by repeat (first | exact Qw.refl _ | refine Qw.al ?_ _ | refine Qw.dr ?_)))⟩ ?_
  clear S1 S2 X0 X1 X2 QQ HBk
  generalize w'.heap.size = PB
  rintro w5 ⟨S1, S2, X0, X1, X2, XB, HBk, QQ⟩
  by_cases hB : Sy.lvN i = 2 ∧ Sy.lvN k = 2
  · have her := HCS.out.1 hB
    subst her
    have ci : w5.cell? ⟨B2, i, none⟩ = some (.int .i64 2) := by have := S2.out.cell' i _ (lev_at i hi); rw [hB.1] at this; exact this
    have ck : w5.cell? ⟨B2, k, none⟩ = some (.int .i64 2) := by have := S2.out.cell' k _ (lev_at k hk); rw [hB.2] at this; exact this
    clear hB
    go_wp2_with (go_at_call 15; ((with_reducible refine (AW.out _ (Qw.trans QQ.out (by repeat (first | exact Qw.refl _ | refine Qw.al ?_ _ | refine Qw.dr ?_)))).mono ?_); rintro e w' ⟨rfl, q⟩; replace QQ := Lib.hid (Qw.trans (Qw.trans QQ.out (by repeat (first | exact Qw.refl _ | refine Qw.al ?_ _ | refine Qw.dr ?_))) q); clear q))
    go_ret
    exact ⟨rfl, QQ.out⟩
  · obtain ⟨rfl, rfl⟩ := HCS.out.2 hB
    have ci0 := S2.out.cell' i _ (lev_at i hi)
    have ck0 := S2.out.cell' k _ (lev_at k hk)
    have fz : (((Sy.lvN i : Nat) : Int) == 2) = false ∨ ((((Sy.lvN i : Nat) : Int) == 2) = true ∧ (((Sy.lvN k : Nat) : Int) == 2) = false) := by
      by_cases h : Sy.lvN i = 2
      · exact .inr ⟨by rw [h]; rfl, beq_eq_false_iff_ne.2 (by omega)⟩
      · exact .inl (beq_eq_false_iff_ne.2 (by omega))
    have hlt : Sy.lvN i < Sy.lvN k ∨ ¬ Sy.lvN i < Sy.lvN k := Classical.em _
    have LVI : Hid (∃ li lk : Nat, Sy.lvN i = li ∧ Sy.lvN k = lk) := Lib.hid ⟨_, _, rfl, rfl⟩
    have o1 := S1.out.cell' i _ (ops_at i hi)
    have o2 := S1.out.cell' k _ (ops_at k hk)
    have xc0 := X0.out.cell' 0 _ rfl
    have xc1 := X0.out.cell' 1 _ rfl
    have xc2 := X0.out.cell' 2 _ rfl
    have yc0 := X1.out.cell' 0 _ rfl
    have yc1 := X1.out.cell' 1 _ rfl
    have yc2 := X1.out.cell' 2 _ rfl
    have zc0 := X2.out.cell' 0 _ rfl
    have zc1 := X2.out.cell' 1 _ rfl
    have zc2 := X2.out.cell' 2 _ rfl
    have lB := S1.out.lt
    have l0 := X0.out.lt
    have l1 := X1.out.lt
    have l2 := X2.out.lt
    have nB : B1 ≠ w5.heap.size := Nat.ne_of_lt lB
    have nB' : B1 ≠ w5.heap.size + 1 := by omega
    have n0 : P0 ≠ w5.heap.size := Nat.ne_of_lt l0
    have n1 : P1 ≠ w5.heap.size := Nat.ne_of_lt l1
    have n2 : P2 ≠ w5.heap.size := Nat.ne_of_lt l2
    have n2' : P2 ≠ w5.heap.size + 1 := by omega
    obtain ⟨li, hli⟩ : ∃ l, Sy.lvN i = l := ⟨_, rfl⟩
    obtain ⟨lk, hlk⟩ : ∃ l, Sy.lvN k = l := ⟨_, rfl⟩
    rw [hli] at ci0 fz
    rw [hlk] at ck0 fz
    have XBO := XB
    rcases fz with e1 | ⟨e1, e2⟩
    · go_upto_region 10 with fail
      clear ci0 ck0 e1
      obtain ⟨S, hS⟩ : ∃ S : World → Prop, ∀ w', S w' ↔ Lvw w' B1 P0 P1 P2 X Y Z := ⟨_, fun _ => Iff.rfl⟩
      have F := Lib.hid (fun w' (q : S w') => Lvw.cells ((hS w').1 q) hi hk)
      have HS := Lib.hid hS
      have LV : Hid (Lvw w5 B1 P0 P1 P2 X Y Z) := Lib.hid ⟨S1.out, X0.out, X1.out, X2.out⟩
      obtain ⟨W, hW⟩ : ∃ W, Sy.want i k X Y Z = W := ⟨_, rfl⟩
      rw [hW] at XB HBk
      have KX := Lib.hid (blk_x HBk.out)
      clear hS o1 o2 xc0 xc1 xc2 yc0 yc1 yc2 zc0 zc1 zc2 lB l0 l1 l2 nB nB' n0 n1 n2 n2' XBO
      obtain ⟨oi, hoi⟩ : ∃ o, Sy.opN i = o := ⟨_, rfl⟩
      obtain ⟨ok, hok⟩ : ∃ o, Sy.opN k = o := ⟨_, rfl⟩
      rw [hoi, hok] at F
      have Qw5 : Hid (Qw w5 w5) := Lib.hid (Qw.refl w5)
      refine wp_region_held (S := S) (by kernel_rfl) ?_
      change wpAnyH _ _ _ _ _ _ _ _ (World.drew w5)
      have hSS : S (World.drew w5) := (HS.out _).2 (Lvw.dr LV.out)
      refine wpAnyH_take (i := 0) (v := ?_) rfl (by kernel_rfl) (by kernel_rfl) (by kernel_rfl) (fun _ _ _ h => h) (Or.inl ⟨by rfl, ?_⟩) hSS ?_
      rotate_left 1
      · intro wS hwS
        go_simp
        try with_reducible rfl
      simp only [List.getElem_toArray, List.getElem_cons_succ, List.getElem_cons_zero, Act.put, List.setIfInBounds_toArray, List.set_cons_zero, List.set_cons_succ]
      refine wpAnyH_take (i := 1) (v := ?_) rfl (by kernel_rfl) (by kernel_rfl) (by kernel_rfl) (fun _ _ _ h => h) (Or.inl ⟨by rfl, ?_⟩) hSS ?_
      rotate_left 1
      · intro wS hwS
        go_simp
        try with_reducible rfl
      simp only [List.getElem_toArray, List.getElem_cons_succ, List.getElem_cons_zero, Act.put, List.setIfInBounds_toArray, List.set_cons_zero, List.set_cons_succ]
      refine wpAnyH_take (i := 2) (v := ?_) rfl (by kernel_rfl) (by kernel_rfl) (by kernel_rfl) (fun _ _ _ h => h) (Or.inl ⟨by rfl, ?_⟩) hSS ?_
      rotate_left 1
      · intro wS hwS
        go_simp
        try with_reducible rfl
      simp only [List.getElem_toArray, List.getElem_cons_succ, List.getElem_cons_zero, Act.put, List.setIfInBounds_toArray, List.set_cons_zero, List.set_cons_succ]
      refine wpAnyH_take (i := 3) (v := ?_) rfl (by kernel_rfl) (by kernel_rfl) (by kernel_rfl) (fun _ _ _ h => h) (Or.inl ⟨by rfl, ?_⟩) hSS ?_
      rotate_left 1
      · intro wS hwS
        obtain ⟨f0, f1, ⟨f2, f3, f4⟩, ⟨f5, f6, f7⟩, f8, f9, f10⟩ := F.out wS hwS; go_simp
        try with_reducible rfl
      simp only [List.getElem_toArray, List.getElem_cons_succ, List.getElem_cons_zero, Act.put, List.setIfInBounds_toArray, List.set_cons_zero, List.set_cons_succ]
      refine wpAnyH_take (i := 4) (v := ?_) rfl (by kernel_rfl) (by kernel_rfl) (by kernel_rfl) (fun _ _ _ h => h) (Or.inl ⟨by rfl, ?_⟩) hSS ?_
      rotate_left 1
      · intro wS hwS
        go_simp
        try with_reducible rfl
      simp only [List.getElem_toArray, List.getElem_cons_succ, List.getElem_cons_zero, Act.put, List.setIfInBounds_toArray, List.set_cons_zero, List.set_cons_succ]
      refine wpAnyH_take (i := 5) (v := ?_) rfl (by kernel_rfl) (by kernel_rfl) (by kernel_rfl) (fun _ _ _ h => h) (Or.inl ⟨by rfl, ?_⟩) hSS ?_
      rotate_left 1
      · intro wS hwS
        go_simp
        try with_reducible rfl
      simp only [List.getElem_toArray, List.getElem_cons_succ, List.getElem_cons_zero, Act.put, List.setIfInBounds_toArray, List.set_cons_zero, List.set_cons_succ]
      refine wpAnyH_take (i := 6) (v := ?_) rfl (by kernel_rfl) (by kernel_rfl) (by kernel_rfl) (fun _ _ _ h => h) (Or.inl ⟨by rfl, ?_⟩) hSS ?_
      rotate_left 1
      · intro wS hwS
        go_simp
        try with_reducible rfl
      simp only [List.getElem_toArray, List.getElem_cons_succ, List.getElem_cons_zero, Act.put, List.setIfInBounds_toArray, List.set_cons_zero, List.set_cons_succ]
      refine wpAnyH_take (i := 7) (v := ?_) rfl (by kernel_rfl) (by kernel_rfl) (by kernel_rfl) (fun _ _ _ h => h) (Or.inl ⟨by rfl, ?_⟩) hSS ?_
      rotate_left 1
      · intro wS hwS
        obtain ⟨f0, f1, ⟨f2, f3, f4⟩, ⟨f5, f6, f7⟩, f8, f9, f10⟩ := F.out wS hwS; go_simp
        try with_reducible rfl
      simp only [List.getElem_toArray, List.getElem_cons_succ, List.getElem_cons_zero, Act.put, List.setIfInBounds_toArray, List.set_cons_zero, List.set_cons_succ]
      refine wpAnyH_take (i := 8) (v := ?_) rfl (by kernel_rfl) (by kernel_rfl) (by kernel_rfl) (fun _ _ _ h => h) (Or.inl ⟨by rfl, ?_⟩) hSS ?_
      rotate_left 1
      · intro wS hwS
        obtain ⟨f0, f1, ⟨f2, f3, f4⟩, ⟨f5, f6, f7⟩, f8, f9, f10⟩ := F.out wS hwS; go_simp
        try with_reducible rfl
      simp only [List.getElem_toArray, List.getElem_cons_succ, List.getElem_cons_zero, Act.put, List.setIfInBounds_toArray, List.set_cons_zero, List.set_cons_succ]
      refine wpAnyH_take (i := 9) (v := ?_) rfl (by kernel_rfl) (by kernel_rfl) (by kernel_rfl) (fun _ _ _ h => h) (Or.inl ⟨by rfl, ?_⟩) hSS ?_
      rotate_left 1
      · intro wS hwS
        obtain ⟨f0, f1, ⟨f2, f3, f4⟩, ⟨f5, f6, f7⟩, f8, f9, f10⟩ := F.out wS hwS; go_simp
        try with_reducible rfl
      simp only [List.getElem_toArray, List.getElem_cons_succ, List.getElem_cons_zero, Act.put, List.setIfInBounds_toArray, List.set_cons_zero, List.set_cons_succ]
      refine wpAnyH_take (i := 12) (v := ?_) rfl (by kernel_rfl) (by kernel_rfl) (by kernel_rfl) (fun _ _ _ h => h) (Or.inl ⟨by rfl, ?_⟩) hSS ?_
      rotate_left 1
      · intro wS hwS
        obtain ⟨f0, f1, ⟨f2, f3, f4⟩, ⟨f5, f6, f7⟩, f8, f9, f10⟩ := F.out wS hwS; go_simp
        try with_reducible rfl
      simp only [List.getElem_toArray, List.getElem_cons_succ, List.getElem_cons_zero, Act.put, List.setIfInBounds_toArray, List.set_cons_zero, List.set_cons_succ]
      refine wpAnyH_two (i := 10) (j := 15) rfl rfl (by kernel_rfl) rfl rfl (fun K hK => ?_) (fun K hK => ?_)
      · go_simp
        refine k_of (fun wz => Bx wz w5.heap.size (#[.int .i64 0, .int .i64 X, .slice none 0 0, .int .i64 0, .int .i64 Y, .slice none 0 0]) 27 ∧ Qw w5 wz) ⟨Bx.drew (Bx.new w5 _ _), Qw.dr (Qw.al (Qw.refl w5) _)⟩ ?_
        rintro wa ⟨r, q⟩
        obtain ⟨G1, hG1⟩ : ∃ G, G = w5.heap.size := ⟨_, rfl⟩
        rw [← hG1] at r ⊢
        have R1 := Lib.hid r
        have Qwa : Hid (Qw w5 wa) := Lib.hid (Qw.trans Qw5.out q)
        have Uwa : Hid (Qw w5 wa) := Lib.hid q
        have LG1 : Hid (G1 = w5.heap.size) := Lib.hid hG1
        clear r q hG1
        have hSS := (HS.out wa).2 (LV.out.kept Qwa.out)
        refine hK _ _ hSS ?_
        clear hK K
        try simp only [List.getElem_toArray, List.getElem_cons_succ, List.getElem_cons_zero, Act.put, List.setIfInBounds_toArray, List.set_cons_zero, List.set_cons_succ]
        refine wpAnyH_take (i := 11) (v := ?_) rfl (by kernel_rfl) (by kernel_rfl) (by kernel_rfl) (fun _ _ _ h => h) (Or.inl ⟨by rfl, ?_⟩) hSS ?_
        rotate_left 1
        · intro wS hwS
          go_simp
          try with_reducible rfl
        simp only [List.getElem_toArray, List.getElem_cons_succ, List.getElem_cons_zero, Act.put, List.setIfInBounds_toArray, List.set_cons_zero, List.set_cons_succ]
        have M1 : Hid (w5.heap.size < wa.heap.size) := Lib.hid (by have := R1.out.lt; have := LG1.out; omega)
        refine wpAnyH_two (i := 13) (j := 15) rfl rfl (by kernel_rfl) rfl rfl (fun K hK => ?_) (fun K hK => ?_)
        · go_simp
          refine k_of (fun wz => Bx wz wa.heap.size (#[.int .i64 (oi : Nat), .int .i64 0, .slice (some ⟨G1, 0, none⟩) 2 2, .int .i64 0, .int .i64 Z, .slice none 0 0]) 27 ∧ Qw wa wz) ⟨Bx.new wa _ _, Qw.al (Qw.refl wa) _⟩ ?_
          rintro wb ⟨r, q⟩
          obtain ⟨G2, hG2⟩ : ∃ G, G = wa.heap.size := ⟨_, rfl⟩
          rw [← hG2] at r ⊢
          have R2 := Lib.hid r
          have Qwb : Hid (Qw w5 wb) := Lib.hid (Qw.trans Qwa.out q)
          have Uwb : Hid (Qw wa wb) := Lib.hid q
          have LG2 : Hid (G2 = wa.heap.size) := Lib.hid hG2
          clear r q hG2
          have hSS := (HS.out wb).2 (LV.out.kept Qwb.out)
          refine hK _ _ hSS ?_
          clear hK K
          try simp only [List.getElem_toArray, List.getElem_cons_succ, List.getElem_cons_zero, Act.put, List.setIfInBounds_toArray, List.set_cons_zero, List.set_cons_succ]
          replace R1 := Lib.hid (R1.out.kept Uwb.out)
          refine wpAnyH_take (i := 14) (v := ?_) rfl (by kernel_rfl) (by kernel_rfl) (by kernel_rfl) (fun _ _ _ h => h) (Or.inl ⟨by rfl, ?_⟩) hSS ?_
          rotate_left 1
          · intro wS hwS
            go_simp
            try with_reducible rfl
          simp only [List.getElem_toArray, List.getElem_cons_succ, List.getElem_cons_zero, Act.put, List.setIfInBounds_toArray, List.set_cons_zero, List.set_cons_succ]
          have M2 : Hid (wa.heap.size < wb.heap.size) := Lib.hid (by have := R2.out.lt; have := LG2.out; omega)
          refine wpAnyH_one (i := 15) rfl (by kernel_rfl) rfl (fun K hK => ?_)
          go_simp
          refine k_of (fun wz => Bx wz wb.heap.size (#[.int .i64 0, .int .i64 0, .slice none 0 0]) 27 ∧ Qw wb wz) ⟨Bx.new wb _ _, Qw.al (Qw.refl wb) _⟩ ?_
          rintro wc ⟨r, q⟩
          obtain ⟨G3, hG3⟩ : ∃ G, G = wb.heap.size := ⟨_, rfl⟩
          rw [← hG3] at r ⊢
          have R3 := Lib.hid r
          have Qwc : Hid (Qw w5 wc) := Lib.hid (Qw.trans Qwb.out q)
          have Uwc : Hid (Qw wb wc) := Lib.hid q
          have LG3 : Hid (G3 = wb.heap.size) := Lib.hid hG3
          clear r q hG3
          have hSS := (HS.out wc).2 (LV.out.kept Qwc.out)
          refine hK _ _ hSS ?_
          clear hK K
          try simp only [List.getElem_toArray, List.getElem_cons_succ, List.getElem_cons_zero, Act.put, List.setIfInBounds_toArray, List.set_cons_zero, List.set_cons_succ]
          replace R1 := Lib.hid (R1.out.kept Uwc.out)
          replace R2 := Lib.hid (R2.out.kept Uwc.out)
          have GE3 : Hid (w5.heap.size ≤ G3) := Lib.hid (by have := LG3.out; have := Qwa.out.size; have := Qwb.out.size; omega)
          have s1 := R1.out.lt
          have s2 := R2.out.lt
          have s3 := R3.out.lt
          have ne1 : G1 ≠ G3 := by have e1 := LG1.out; have e2 := LG3.out; have := M1.out; have := M2.out; omega
          have ne2 : G2 ≠ G3 := by have e1 := LG2.out; have e2 := LG3.out; have := M1.out; have := M2.out; omega
          refine wpAnyH_one (i := 16) rfl (by kernel_rfl) rfl (fun K hK => ?_)
          have zc0 := R3.out.cell' 0 _ rfl
          have zf0 := R3.out.free 0
          have zc1 := R3.out.cell' 1 _ rfl
          have zf1 := R3.out.free 1
          have zc2 := R3.out.cell' 2 _ rfl
          have zf2 := R3.out.free 2
          go_simp
          refine k_of (fun wz => Bx wz G1 (#[.int .i64 0, .int .i64 X, .slice none 0 0, .int .i64 0, .int .i64 Y, .slice none 0 0]) 27 ∧ Bx wz G2 (#[.int .i64 (oi : Nat), .int .i64 0, .slice (some ⟨G1, 0, none⟩) 2 2, .int .i64 0, .int .i64 Z, .slice none 0 0]) 27 ∧ Bx wz G3 (#[.int .i64 (ok : Nat), .int .i64 0, .slice (some ⟨G2, 0, none⟩) 2 2]) 27 ∧ Qw w5 wz) ⟨((R1.out.other ne1 _).other ne1 _).other ne1 _, ((R2.out.other ne2 _).other ne2 _).other ne2 _, ((R3.out.set 0 _).set 1 _).set 2 _, Qw.sc (Qw.sc (Qw.sc Qwc.out GE3.out _) GE3.out _) GE3.out _⟩ ?_
          clear zc0 zc1 zc2 zf0 zf1 zf2
          rintro wd ⟨r_R1, r_R2, r3, q⟩
          replace R1 := Lib.hid r_R1
          replace R2 := Lib.hid r_R2
          replace R3 := Lib.hid r3
          have Qwd := Lib.hid q
          clear r3 q r_R1 r_R2
          have hSS := (HS.out wd).2 (LV.out.kept Qwd.out)
          refine hK _ _ hSS ?_
          clear hK K
          try simp only [List.getElem_toArray, List.getElem_cons_succ, List.getElem_cons_zero, Act.put, List.setIfInBounds_toArray, List.set_cons_zero, List.set_cons_succ]
          refine wpAnyH_done (by kernel_rfl) ?_ _
          have G3D : Hid (G3 < wd.heap.size) := Lib.hid R3.out.lt
          clear HS F s1 s2 s3 ne1 ne2 Qwa Qwb Qwc Uwa Uwb Uwc M1 M2 LG1 LG2 LG3
          clear hSS
          go_upto_region 11 with fail
          obtain ⟨S, hS⟩ : ∃ S : World → Prop, ∀ w', S w' ↔ Bx w' B2 levA 3 := ⟨_, fun _ => Iff.rfl⟩
          have F2 := Lib.hid (fun w' (q : S w') => levc ((hS w').1 q) hi hk)
          have HS2 := Lib.hid hS
          rw [hli, hlk] at F2
          clear hS
          refine wp_region_held (S := S) (by kernel_rfl) ?_
          change wpAnyH _ _ _ _ _ _ _ _ (World.drew wd)
          have hSS : S (World.drew wd) := (HS2.out _).2 (Bx.drew (S2.out.kept Qwd.out))
          by_cases hlk2 : li < lk
          · have dl : (li : Int) < (lk : Int) := by omega
            have WL : Hid (W = Sy.bin (oi : Nat) (Sy.num X) (Sy.bin (ok : Nat) (Sy.num Y) (Sy.num Z))) := Lib.hid (by rw [← hW, ← hoi, ← hok]; unfold Sy.want; rw [if_pos (by rw [hli, hlk]; exact hlk2)])
            clear hlk2
            refine wpAnyH_take (i := 0) (v := ?_) rfl (by kernel_rfl) (by kernel_rfl) (by kernel_rfl) (fun _ _ _ h => h) (Or.inl ⟨by rfl, ?_⟩) hSS ?_
            rotate_left 1
            · intro wS hwS
              go_simp
              try with_reducible rfl
            simp only [List.getElem_toArray, List.getElem_cons_succ, List.getElem_cons_zero, Act.put, List.setIfInBounds_toArray, List.set_cons_zero, List.set_cons_succ]
            refine wpAnyH_take (i := 1) (v := ?_) rfl (by kernel_rfl) (by kernel_rfl) (by kernel_rfl) (fun _ _ _ h => h) (Or.inl ⟨by rfl, ?_⟩) hSS ?_
            rotate_left 1
            · intro wS hwS
              go_simp
              try with_reducible rfl
            simp only [List.getElem_toArray, List.getElem_cons_succ, List.getElem_cons_zero, Act.put, List.setIfInBounds_toArray, List.set_cons_zero, List.set_cons_succ]
            refine wpAnyH_take (i := 2) (v := ?_) rfl (by kernel_rfl) (by kernel_rfl) (by kernel_rfl) (fun _ _ _ h => h) (Or.inl ⟨by rfl, ?_⟩) hSS ?_
            rotate_left 1
            · intro wS hwS
              go_simp
              try with_reducible rfl
            simp only [List.getElem_toArray, List.getElem_cons_succ, List.getElem_cons_zero, Act.put, List.setIfInBounds_toArray, List.set_cons_zero, List.set_cons_succ]
            refine wpAnyH_take (i := 3) (v := ?_) rfl (by kernel_rfl) (by kernel_rfl) (by kernel_rfl) (fun _ _ _ h => h) (Or.inl ⟨by rfl, ?_⟩) hSS ?_
            rotate_left 1
            · intro wS hwS
              obtain ⟨f0, f1⟩ := F2.out wS hwS; go_simp
              try with_reducible rfl
            simp only [List.getElem_toArray, List.getElem_cons_succ, List.getElem_cons_zero, Act.put, List.setIfInBounds_toArray, List.set_cons_zero, List.set_cons_succ]
            refine wpAnyH_take (i := 4) (v := ?_) rfl (by kernel_rfl) (by kernel_rfl) (by kernel_rfl) (fun _ _ _ h => h) (Or.inl ⟨by rfl, ?_⟩) hSS ?_
            rotate_left 1
            · intro wS hwS
              go_simp
              try with_reducible rfl
            simp only [List.getElem_toArray, List.getElem_cons_succ, List.getElem_cons_zero, Act.put, List.setIfInBounds_toArray, List.set_cons_zero, List.set_cons_succ]
            refine wpAnyH_take (i := 5) (v := ?_) rfl (by kernel_rfl) (by kernel_rfl) (by kernel_rfl) (fun _ _ _ h => h) (Or.inl ⟨by rfl, ?_⟩) hSS ?_
            rotate_left 1
            · intro wS hwS
              go_simp
              try with_reducible rfl
            simp only [List.getElem_toArray, List.getElem_cons_succ, List.getElem_cons_zero, Act.put, List.setIfInBounds_toArray, List.set_cons_zero, List.set_cons_succ]
            refine wpAnyH_take (i := 6) (v := ?_) rfl (by kernel_rfl) (by kernel_rfl) (by kernel_rfl) (fun _ _ _ h => h) (Or.inl ⟨by rfl, ?_⟩) hSS ?_
            rotate_left 1
            · intro wS hwS
              go_simp
              try with_reducible rfl
            simp only [List.getElem_toArray, List.getElem_cons_succ, List.getElem_cons_zero, Act.put, List.setIfInBounds_toArray, List.set_cons_zero, List.set_cons_succ]
            refine wpAnyH_take (i := 7) (v := ?_) rfl (by kernel_rfl) (by kernel_rfl) (by kernel_rfl) (fun _ _ _ h => h) (Or.inl ⟨by rfl, ?_⟩) hSS ?_
            rotate_left 1
            · intro wS hwS
              obtain ⟨f0, f1⟩ := F2.out wS hwS; go_simp
              try with_reducible rfl
            simp only [List.getElem_toArray, List.getElem_cons_succ, List.getElem_cons_zero, Act.put, List.setIfInBounds_toArray, List.set_cons_zero, List.set_cons_succ]
            refine wpAnyH_take (i := 8) (v := ?_) rfl (by kernel_rfl) (by kernel_rfl) (by kernel_rfl) (fun _ _ _ h => h) (Or.inl ⟨by rfl, ?_⟩) hSS ?_
            rotate_left 1
            · intro wS hwS
              go_simp
              try with_reducible rfl
            simp only [List.getElem_toArray, List.getElem_cons_succ, List.getElem_cons_zero, Act.put, List.setIfInBounds_toArray, List.set_cons_zero, List.set_cons_succ]
            refine wpAnyH_done (by kernel_rfl) ?_ _
            clear hSS HS2 F2
            go_upto_region 12 with fail
            clear dl
            obtain ⟨S, hS⟩ : ∃ S : World → Prop, ∀ w', S w' ↔ Lvw w' B1 P0 P1 P2 X Y Z := ⟨_, fun _ => Iff.rfl⟩
            have F := Lib.hid (fun w' (q : S w') => Lvw.cells ((hS w').1 q) hi hk)
            rw [hoi, hok] at F
            have HS := Lib.hid hS
            clear hS
            refine wp_region_held (S := S) (by kernel_rfl) ?_
            change wpAnyH _ _ _ _ _ _ _ _ (World.drew _)
            have hSS := (HS.out (World.drew (World.drew wd))).2 (Lvw.dr (Lvw.dr (LV.out.kept Qwd.out)))
            refine wpAnyH_take (i := 0) (v := ?_) rfl (by kernel_rfl) (by kernel_rfl) (by kernel_rfl) (fun _ _ _ h => h) (Or.inl ⟨by rfl, ?_⟩) hSS ?_
            rotate_left 1
            · intro wS hwS
              go_simp
              try with_reducible rfl
            simp only [List.getElem_toArray, List.getElem_cons_succ, List.getElem_cons_zero, Act.put, List.setIfInBounds_toArray, List.set_cons_zero, List.set_cons_succ]
            refine wpAnyH_take (i := 1) (v := ?_) rfl (by kernel_rfl) (by kernel_rfl) (by kernel_rfl) (fun _ _ _ h => h) (Or.inl ⟨by rfl, ?_⟩) hSS ?_
            rotate_left 1
            · intro wS hwS
              go_simp
              try with_reducible rfl
            simp only [List.getElem_toArray, List.getElem_cons_succ, List.getElem_cons_zero, Act.put, List.setIfInBounds_toArray, List.set_cons_zero, List.set_cons_succ]
            refine wpAnyH_take (i := 2) (v := ?_) rfl (by kernel_rfl) (by kernel_rfl) (by kernel_rfl) (fun _ _ _ h => h) (Or.inl ⟨by rfl, ?_⟩) hSS ?_
            rotate_left 1
            · intro wS hwS
              go_simp
              try with_reducible rfl
            simp only [List.getElem_toArray, List.getElem_cons_succ, List.getElem_cons_zero, Act.put, List.setIfInBounds_toArray, List.set_cons_zero, List.set_cons_succ]
            refine wpAnyH_take (i := 3) (v := ?_) rfl (by kernel_rfl) (by kernel_rfl) (by kernel_rfl) (fun _ _ _ h => h) (Or.inl ⟨by rfl, ?_⟩) hSS ?_
            rotate_left 1
            · intro wS hwS
              obtain ⟨f0, f1, ⟨f2, f3, f4⟩, ⟨f5, f6, f7⟩, f8, f9, f10⟩ := F.out wS hwS; go_simp
              try with_reducible rfl
            simp only [List.getElem_toArray, List.getElem_cons_succ, List.getElem_cons_zero, Act.put, List.setIfInBounds_toArray, List.set_cons_zero, List.set_cons_succ]
            refine wpAnyH_take (i := 4) (v := ?_) rfl (by kernel_rfl) (by kernel_rfl) (by kernel_rfl) (fun _ _ _ h => h) (Or.inl ⟨by rfl, ?_⟩) hSS ?_
            rotate_left 1
            · intro wS hwS
              obtain ⟨f0, f1, ⟨f2, f3, f4⟩, ⟨f5, f6, f7⟩, f8, f9, f10⟩ := F.out wS hwS; go_simp
              try with_reducible rfl
            simp only [List.getElem_toArray, List.getElem_cons_succ, List.getElem_cons_zero, Act.put, List.setIfInBounds_toArray, List.set_cons_zero, List.set_cons_succ]
            refine wpAnyH_take (i := 5) (v := ?_) rfl (by kernel_rfl) (by kernel_rfl) (by kernel_rfl) (fun _ _ _ h => h) (Or.inl ⟨by rfl, ?_⟩) hSS ?_
            rotate_left 1
            · intro wS hwS
              go_simp
              try with_reducible rfl
            simp only [List.getElem_toArray, List.getElem_cons_succ, List.getElem_cons_zero, Act.put, List.setIfInBounds_toArray, List.set_cons_zero, List.set_cons_succ]
            refine wpAnyH_take (i := 6) (v := ?_) rfl (by kernel_rfl) (by kernel_rfl) (by kernel_rfl) (fun _ _ _ h => h) (Or.inl ⟨by rfl, ?_⟩) hSS ?_
            rotate_left 1
            · intro wS hwS
              go_simp
              try with_reducible rfl
            simp only [List.getElem_toArray, List.getElem_cons_succ, List.getElem_cons_zero, Act.put, List.setIfInBounds_toArray, List.set_cons_zero, List.set_cons_succ]
            refine wpAnyH_take (i := 7) (v := ?_) rfl (by kernel_rfl) (by kernel_rfl) (by kernel_rfl) (fun _ _ _ h => h) (Or.inl ⟨by rfl, ?_⟩) hSS ?_
            rotate_left 1
            · intro wS hwS
              go_simp
              try with_reducible rfl
            simp only [List.getElem_toArray, List.getElem_cons_succ, List.getElem_cons_zero, Act.put, List.setIfInBounds_toArray, List.set_cons_zero, List.set_cons_succ]
            refine wpAnyH_take (i := 8) (v := ?_) rfl (by kernel_rfl) (by kernel_rfl) (by kernel_rfl) (fun _ _ _ h => h) (Or.inl ⟨by rfl, ?_⟩) hSS ?_
            rotate_left 1
            · intro wS hwS
              obtain ⟨f0, f1, ⟨f2, f3, f4⟩, ⟨f5, f6, f7⟩, f8, f9, f10⟩ := F.out wS hwS; go_simp
              try with_reducible rfl
            simp only [List.getElem_toArray, List.getElem_cons_succ, List.getElem_cons_zero, Act.put, List.setIfInBounds_toArray, List.set_cons_zero, List.set_cons_succ]
            refine wpAnyH_take (i := 9) (v := ?_) rfl (by kernel_rfl) (by kernel_rfl) (by kernel_rfl) (fun _ _ _ h => h) (Or.inl ⟨by rfl, ?_⟩) hSS ?_
            rotate_left 1
            · intro wS hwS
              obtain ⟨f0, f1, ⟨f2, f3, f4⟩, ⟨f5, f6, f7⟩, f8, f9, f10⟩ := F.out wS hwS; go_simp
              try with_reducible rfl
            simp only [List.getElem_toArray, List.getElem_cons_succ, List.getElem_cons_zero, Act.put, List.setIfInBounds_toArray, List.set_cons_zero, List.set_cons_succ]
            refine wpAnyH_take (i := 10) (v := ?_) rfl (by kernel_rfl) (by kernel_rfl) (by kernel_rfl) (fun _ _ _ h => h) (Or.inl ⟨by rfl, ?_⟩) hSS ?_
            rotate_left 1
            · intro wS hwS
              obtain ⟨f0, f1, ⟨f2, f3, f4⟩, ⟨f5, f6, f7⟩, f8, f9, f10⟩ := F.out wS hwS; go_simp
              try with_reducible rfl
            simp only [List.getElem_toArray, List.getElem_cons_succ, List.getElem_cons_zero, Act.put, List.setIfInBounds_toArray, List.set_cons_zero, List.set_cons_succ]
            refine wpAnyH_one (i := 11) rfl (by kernel_rfl) rfl (fun K hK => ?_)
            go_simp
            refine k_of (fun wz => Bx wz wd.heap.size (#[.int .i64 0, .int .i64 Y, .slice none 0 0, .int .i64 0, .int .i64 Z, .slice none 0 0]) 27 ∧ Qw wd wz) ⟨Bx.drew (Bx.drew (Bx.new wd _ _)), Qw.dr (Qw.dr (Qw.al (Qw.refl wd) _))⟩ ?_
            rintro we ⟨r, q⟩
            obtain ⟨G4, hG4⟩ : ∃ G, G = wd.heap.size := ⟨_, rfl⟩
            rw [← hG4] at r ⊢
            have R4 := Lib.hid r
            have Qwe : Hid (Qw w5 we) := Lib.hid (Qw.trans Qwd.out q)
            have Uwe : Hid (Qw wd we) := Lib.hid q
            have LG4 : Hid (G4 = wd.heap.size) := Lib.hid hG4
            clear r q hG4
            have hSS := (HS.out we).2 (LV.out.kept Qwe.out)
            refine hK _ _ hSS ?_
            clear hK K
            try simp only [List.getElem_toArray, List.getElem_cons_succ, List.getElem_cons_zero, Act.put, List.setIfInBounds_toArray, List.set_cons_zero, List.set_cons_succ]
            replace R3 := Lib.hid (R3.out.kept Uwe.out)
            refine wpAnyH_take (i := 12) (v := ?_) rfl (by kernel_rfl) (by kernel_rfl) (by kernel_rfl) (fun _ _ _ h => h) (Or.inl ⟨by rfl, ?_⟩) hSS ?_
            rotate_left 1
            · intro wS hwS
              go_simp
              try with_reducible rfl
            simp only [List.getElem_toArray, List.getElem_cons_succ, List.getElem_cons_zero, Act.put, List.setIfInBounds_toArray, List.set_cons_zero, List.set_cons_succ]
            refine wpAnyH_one (i := 13) rfl (by kernel_rfl) rfl (fun K hK => ?_)
            go_simp
            refine k_of (fun wz => Bx wz we.heap.size (#[.int .i64 0, .int .i64 X, .slice none 0 0, .int .i64 (ok : Nat), .int .i64 0, .slice (some ⟨G4, 0, none⟩) 2 2]) 27 ∧ Qw we wz) ⟨Bx.new we _ _, Qw.al (Qw.refl we) _⟩ ?_
            rintro wf5 ⟨r, q⟩
            obtain ⟨G5, hG5⟩ : ∃ G, G = we.heap.size := ⟨_, rfl⟩
            rw [← hG5] at r ⊢
            have R5 := Lib.hid r
            have Qwf5 : Hid (Qw w5 wf5) := Lib.hid (Qw.trans Qwe.out q)
            have Uwf5 : Hid (Qw we wf5) := Lib.hid q
            have LG5 : Hid (G5 = we.heap.size) := Lib.hid hG5
            clear r q hG5
            have hSS := (HS.out wf5).2 (LV.out.kept Qwf5.out)
            refine hK _ _ hSS ?_
            clear hK K
            try simp only [List.getElem_toArray, List.getElem_cons_succ, List.getElem_cons_zero, Act.put, List.setIfInBounds_toArray, List.set_cons_zero, List.set_cons_succ]
            replace R4 := Lib.hid (R4.out.kept Uwf5.out)
            replace R3 := Lib.hid (R3.out.kept Uwf5.out)
            refine wpAnyH_take (i := 14) (v := ?_) rfl (by kernel_rfl) (by kernel_rfl) (by kernel_rfl) (fun _ _ _ h => h) (Or.inl ⟨by rfl, ?_⟩) hSS ?_
            rotate_left 1
            · intro wS hwS
              go_simp
              try with_reducible rfl
            simp only [List.getElem_toArray, List.getElem_cons_succ, List.getElem_cons_zero, Act.put, List.setIfInBounds_toArray, List.set_cons_zero, List.set_cons_succ]
            have ne4 : G4 ≠ G3 := by have := LG4.out; have := G3D.out; omega
            have ne5 : G5 ≠ G3 := by have := LG5.out; have := Uwe.out.size; have := G3D.out; omega
            refine wpAnyH_one (i := 15) rfl (by kernel_rfl) rfl (fun K hK => ?_)
            have zc0 := R3.out.cell' 0 _ rfl
            have zf0 := R3.out.free 0
            have zc1 := R3.out.cell' 1 _ rfl
            have zf1 := R3.out.free 1
            have zc2 := R3.out.cell' 2 _ rfl
            have zf2 := R3.out.free 2
            go_simp
            refine k_of (fun wz => Bx wz G4 (#[.int .i64 0, .int .i64 Y, .slice none 0 0, .int .i64 0, .int .i64 Z, .slice none 0 0]) 27 ∧ Bx wz G5 (#[.int .i64 0, .int .i64 X, .slice none 0 0, .int .i64 (ok : Nat), .int .i64 0, .slice (some ⟨G4, 0, none⟩) 2 2]) 27 ∧ Bx wz G3 (#[.int .i64 (oi : Nat), .int .i64 0, .slice (some ⟨G5, 0, none⟩) 2 2]) 27 ∧ Qw w5 wz) ⟨((R4.out.other ne4 _).other ne4 _).other ne4 _, ((R5.out.other ne5 _).other ne5 _).other ne5 _, ((R3.out.set 0 _).set 1 _).set 2 _, Qw.sc (Qw.sc (Qw.sc Qwf5.out GE3.out _) GE3.out _) GE3.out _⟩ ?_
            clear zc0 zc1 zc2 zf0 zf1 zf2
            rintro wg5 ⟨r_R4, r_R5, r3, q⟩
            replace R4 := Lib.hid r_R4
            replace R5 := Lib.hid r_R5
            replace R3 := Lib.hid r3
            have Qwg5 := Lib.hid q
            clear r3 q r_R4 r_R5
            have hSS := (HS.out wg5).2 (LV.out.kept Qwg5.out)
            refine hK _ _ hSS ?_
            clear hK K
            try simp only [List.getElem_toArray, List.getElem_cons_succ, List.getElem_cons_zero, Act.put, List.setIfInBounds_toArray, List.set_cons_zero, List.set_cons_succ]
            refine wpAnyH_done (by kernel_rfl) ?_ _
            have KZ : Hid (KidsB wg5 (fun _ => True) (some ⟨G5, 0, none⟩) 2 W.ks) := Lib.hid (by rw [WL.out]; exact KidsB.two (x := Sy.num X) (y := Sy.bin (ok : Nat) (Sy.num Y) (Sy.num Z)) R5.out trivial (KidsB.nl _ _ (by decide)) (KidsB.two (x := Sy.num Y) (y := Sy.num Z) R4.out trivial (KidsB.nl _ _ (by decide)) (KidsB.nl _ _ (by decide))))
            have CE : Hid (∀ wf, Qw wg5 wf → Calls Tryz.prog 16 #[.agg #[.int .i64 W.op, .int .i64 W.n, .slice q4 W.ks.length q5], .agg #[.int .i64 (oi : Nat), .int .i64 0, .slice (some ⟨G5, 0, none⟩) 2 2]] wf fun e w' => e = .returned (.bool true) ∧ Qw wf w') := Lib.hid (fun wf q => by have h := sx_sameExpr W q4 (some ⟨G5, 0, none⟩) q5 2 _ (fun _ => True) wf (KX.out.kept (Qw.trans Qwg5.out q)) (KZ.out.kept q); rw [WL.out] at h ⊢; exact h)
            have XB0 := XB
            clear LV S1 S2 HBk KX KZ WL HS F
            go_wp2_with (first
              | (go_at_call 15; ((with_reducible refine (AW.out _ (Qw.trans QQ.out Qwg5.out)).mono ?_); rintro e wf ⟨rfl, qf⟩; have pb := XB0.out.kept (Qw.trans Qwg5.out qf); have p0 : wf.cell? ⟨PB, 0, none⟩ = some (.int .i64 1) := pb.cell' 0 _ rfl; have p7 : wf.cell? ⟨PB, 7, none⟩ = some (.int .i64 W.op) := pb.cell' 7 _ rfl; have p8 : wf.cell? ⟨PB, 8, none⟩ = some (.int .i64 W.n) := pb.cell' 8 _ rfl; have p9 : wf.cell? ⟨PB, 9, none⟩ = some (.slice q4 W.ks.length q5) := pb.cell' 9 _ rfl; have pz := R3.out.kept qf; have z0 := pz.cell' 0 _ rfl; have z1 := pz.cell' 1 _ rfl; have z2 := pz.cell' 2 _ rfl; have QF := Lib.hid qf; clear pb pz qf))
              | (go_at_call 16; ((with_reducible refine (CE.out _ QF.out).mono ?_); rintro e wg ⟨rfl, qg⟩; have QG := Lib.hid qg; clear qg)))
            go_ret
            exact ⟨rfl, Qw.trans (Qw.trans (Qw.trans QQ.out Qwg5.out) QF.out) QG.out⟩
          · have dl : ¬ (li : Int) < (lk : Int) := by omega
            have WL : Hid (W = Sy.bin (ok : Nat) (Sy.bin (oi : Nat) (Sy.num X) (Sy.num Y)) (Sy.num Z)) := Lib.hid (by rw [← hW, ← hoi, ← hok]; unfold Sy.want; rw [if_neg (by rw [hli, hlk]; exact hlk2)])
            clear hlk2
            refine wpAnyH_take (i := 0) (v := ?_) rfl (by kernel_rfl) (by kernel_rfl) (by kernel_rfl) (fun _ _ _ h => h) (Or.inl ⟨by rfl, ?_⟩) hSS ?_
            rotate_left 1
            · intro wS hwS
              go_simp
              try with_reducible rfl
            simp only [List.getElem_toArray, List.getElem_cons_succ, List.getElem_cons_zero, Act.put, List.setIfInBounds_toArray, List.set_cons_zero, List.set_cons_succ]
            refine wpAnyH_take (i := 1) (v := ?_) rfl (by kernel_rfl) (by kernel_rfl) (by kernel_rfl) (fun _ _ _ h => h) (Or.inl ⟨by rfl, ?_⟩) hSS ?_
            rotate_left 1
            · intro wS hwS
              go_simp
              try with_reducible rfl
            simp only [List.getElem_toArray, List.getElem_cons_succ, List.getElem_cons_zero, Act.put, List.setIfInBounds_toArray, List.set_cons_zero, List.set_cons_succ]
            refine wpAnyH_take (i := 2) (v := ?_) rfl (by kernel_rfl) (by kernel_rfl) (by kernel_rfl) (fun _ _ _ h => h) (Or.inl ⟨by rfl, ?_⟩) hSS ?_
            rotate_left 1
            · intro wS hwS
              go_simp
              try with_reducible rfl
            simp only [List.getElem_toArray, List.getElem_cons_succ, List.getElem_cons_zero, Act.put, List.setIfInBounds_toArray, List.set_cons_zero, List.set_cons_succ]
            refine wpAnyH_take (i := 3) (v := ?_) rfl (by kernel_rfl) (by kernel_rfl) (by kernel_rfl) (fun _ _ _ h => h) (Or.inl ⟨by rfl, ?_⟩) hSS ?_
            rotate_left 1
            · intro wS hwS
              obtain ⟨f0, f1⟩ := F2.out wS hwS; go_simp
              try with_reducible rfl
            simp only [List.getElem_toArray, List.getElem_cons_succ, List.getElem_cons_zero, Act.put, List.setIfInBounds_toArray, List.set_cons_zero, List.set_cons_succ]
            refine wpAnyH_take (i := 4) (v := ?_) rfl (by kernel_rfl) (by kernel_rfl) (by kernel_rfl) (fun _ _ _ h => h) (Or.inl ⟨by rfl, ?_⟩) hSS ?_
            rotate_left 1
            · intro wS hwS
              go_simp
              try with_reducible rfl
            simp only [List.getElem_toArray, List.getElem_cons_succ, List.getElem_cons_zero, Act.put, List.setIfInBounds_toArray, List.set_cons_zero, List.set_cons_succ]
            refine wpAnyH_take (i := 5) (v := ?_) rfl (by kernel_rfl) (by kernel_rfl) (by kernel_rfl) (fun _ _ _ h => h) (Or.inl ⟨by rfl, ?_⟩) hSS ?_
            rotate_left 1
            · intro wS hwS
              go_simp
              try with_reducible rfl
            simp only [List.getElem_toArray, List.getElem_cons_succ, List.getElem_cons_zero, Act.put, List.setIfInBounds_toArray, List.set_cons_zero, List.set_cons_succ]
            refine wpAnyH_take (i := 6) (v := ?_) rfl (by kernel_rfl) (by kernel_rfl) (by kernel_rfl) (fun _ _ _ h => h) (Or.inl ⟨by rfl, ?_⟩) hSS ?_
            rotate_left 1
            · intro wS hwS
              go_simp
              try with_reducible rfl
            simp only [List.getElem_toArray, List.getElem_cons_succ, List.getElem_cons_zero, Act.put, List.setIfInBounds_toArray, List.set_cons_zero, List.set_cons_succ]
            refine wpAnyH_take (i := 7) (v := ?_) rfl (by kernel_rfl) (by kernel_rfl) (by kernel_rfl) (fun _ _ _ h => h) (Or.inl ⟨by rfl, ?_⟩) hSS ?_
            rotate_left 1
            · intro wS hwS
              obtain ⟨f0, f1⟩ := F2.out wS hwS; go_simp
              try with_reducible rfl
            simp only [List.getElem_toArray, List.getElem_cons_succ, List.getElem_cons_zero, Act.put, List.setIfInBounds_toArray, List.set_cons_zero, List.set_cons_succ]
            refine wpAnyH_take (i := 8) (v := ?_) rfl (by kernel_rfl) (by kernel_rfl) (by kernel_rfl) (fun _ _ _ h => h) (Or.inl ⟨by rfl, ?_⟩) hSS ?_
            rotate_left 1
            · intro wS hwS
              go_simp
              try with_reducible rfl
            simp only [List.getElem_toArray, List.getElem_cons_succ, List.getElem_cons_zero, Act.put, List.setIfInBounds_toArray, List.set_cons_zero, List.set_cons_succ]
            refine wpAnyH_done (by kernel_rfl) ?_ _
            clear hSS HS2 F2
            have KZ : Hid (KidsB wd (fun _ => True) (some ⟨G2, 0, none⟩) 2 W.ks) := Lib.hid (by rw [WL.out]; exact KidsB.two (x := Sy.bin (oi : Nat) (Sy.num X) (Sy.num Y)) (y := Sy.num Z) R2.out trivial (KidsB.two (x := Sy.num X) (y := Sy.num Y) R1.out trivial (KidsB.nl _ _ (by decide)) (KidsB.nl _ _ (by decide))) (KidsB.nl _ _ (by decide)))
            have CE : Hid (∀ wf, Qw wd wf → Calls Tryz.prog 16 #[.agg #[.int .i64 W.op, .int .i64 W.n, .slice q4 W.ks.length q5], .agg #[.int .i64 (ok : Nat), .int .i64 0, .slice (some ⟨G2, 0, none⟩) 2 2]] wf fun e w' => e = .returned (.bool true) ∧ Qw wf w') := Lib.hid (fun wf q => by have h := sx_sameExpr W q4 (some ⟨G2, 0, none⟩) q5 2 _ (fun _ => True) wf (KX.out.kept (Qw.trans Qwd.out q)) (KZ.out.kept q); rw [WL.out] at h ⊢; exact h)
            have XB0 := XB
            clear LV S1 S2 HBk KX KZ WL
            go_wp2_with (first
              | (go_at_call 15; ((with_reducible refine (AW.out _ (Qw.trans QQ.out (Qw.dr Qwd.out))).mono ?_); rintro e wf ⟨rfl, qf0⟩; have qf := Qw.trans (Qw.dr (Qw.refl wd)) qf0; clear qf0; have pb := XB0.out.kept (Qw.trans Qwd.out qf); have p0 : wf.cell? ⟨PB, 0, none⟩ = some (.int .i64 1) := pb.cell' 0 _ rfl; have p7 : wf.cell? ⟨PB, 7, none⟩ = some (.int .i64 W.op) := pb.cell' 7 _ rfl; have p8 : wf.cell? ⟨PB, 8, none⟩ = some (.int .i64 W.n) := pb.cell' 8 _ rfl; have p9 : wf.cell? ⟨PB, 9, none⟩ = some (.slice q4 W.ks.length q5) := pb.cell' 9 _ rfl; have pz := R3.out.kept qf; have z0 := pz.cell' 0 _ rfl; have z1 := pz.cell' 1 _ rfl; have z2 := pz.cell' 2 _ rfl; have QF := Lib.hid qf; clear pb pz qf))
              | (go_at_call 16; ((with_reducible refine (CE.out _ QF.out).mono ?_); rintro e wg ⟨rfl, qg⟩; have QG := Lib.hid qg; clear qg)))
            go_ret
            exact ⟨rfl, Qw.trans (Qw.trans (Qw.trans QQ.out Qwd.out) QF.out) QG.out⟩
        · go_simp
          refine k_of (fun wz => Bx wz wa.heap.size (#[.int .i64 0, .int .i64 0, .slice none 0 0]) 27 ∧ Qw wa wz) ⟨Bx.new wa _ _, Qw.al (Qw.refl wa) _⟩ ?_
          rintro wb ⟨r, q⟩
          obtain ⟨G3, hG3⟩ : ∃ G, G = wa.heap.size := ⟨_, rfl⟩
          rw [← hG3] at r ⊢
          have R3 := Lib.hid r
          have Qwb : Hid (Qw w5 wb) := Lib.hid (Qw.trans Qwa.out q)
          have Uwb : Hid (Qw wa wb) := Lib.hid q
          have LG3 : Hid (G3 = wa.heap.size) := Lib.hid hG3
          clear r q hG3
          have hSS := (HS.out wb).2 (LV.out.kept Qwb.out)
          refine hK _ _ hSS ?_
          clear hK K
          try simp only [List.getElem_toArray, List.getElem_cons_succ, List.getElem_cons_zero, Act.put, List.setIfInBounds_toArray, List.set_cons_zero, List.set_cons_succ]
          replace R1 := Lib.hid (R1.out.kept Uwb.out)
          have M2 : Hid (wa.heap.size < wb.heap.size) := Lib.hid (by have := R3.out.lt; have := LG3.out; omega)
          refine wpAnyH_one (i := 13) rfl (by kernel_rfl) rfl (fun K hK => ?_)
          go_simp
          refine k_of (fun wz => Bx wz wb.heap.size (#[.int .i64 (oi : Nat), .int .i64 0, .slice (some ⟨G1, 0, none⟩) 2 2, .int .i64 0, .int .i64 Z, .slice none 0 0]) 27 ∧ Qw wb wz) ⟨Bx.new wb _ _, Qw.al (Qw.refl wb) _⟩ ?_
          rintro wc ⟨r, q⟩
          obtain ⟨G2, hG2⟩ : ∃ G, G = wb.heap.size := ⟨_, rfl⟩
          rw [← hG2] at r ⊢
          have R2 := Lib.hid r
          have Qwc : Hid (Qw w5 wc) := Lib.hid (Qw.trans Qwb.out q)
          have Uwc : Hid (Qw wb wc) := Lib.hid q
          have LG2 : Hid (G2 = wb.heap.size) := Lib.hid hG2
          clear r q hG2
          have hSS := (HS.out wc).2 (LV.out.kept Qwc.out)
          refine hK _ _ hSS ?_
          clear hK K
          try simp only [List.getElem_toArray, List.getElem_cons_succ, List.getElem_cons_zero, Act.put, List.setIfInBounds_toArray, List.set_cons_zero, List.set_cons_succ]
          replace R1 := Lib.hid (R1.out.kept Uwc.out)
          replace R3 := Lib.hid (R3.out.kept Uwc.out)
          refine wpAnyH_take (i := 14) (v := ?_) rfl (by kernel_rfl) (by kernel_rfl) (by kernel_rfl) (fun _ _ _ h => h) (Or.inl ⟨by rfl, ?_⟩) hSS ?_
          rotate_left 1
          · intro wS hwS
            go_simp
            try with_reducible rfl
          simp only [List.getElem_toArray, List.getElem_cons_succ, List.getElem_cons_zero, Act.put, List.setIfInBounds_toArray, List.set_cons_zero, List.set_cons_succ]
          have GE3 : Hid (w5.heap.size ≤ G3) := Lib.hid (by have := LG3.out; have := Qwa.out.size; have := Qwb.out.size; omega)
          have s1 := R1.out.lt
          have s2 := R2.out.lt
          have s3 := R3.out.lt
          have ne1 : G1 ≠ G3 := by have e1 := LG1.out; have e2 := LG3.out; have := M1.out; have := M2.out; omega
          have ne2 : G2 ≠ G3 := by have e1 := LG2.out; have e2 := LG3.out; have := M1.out; have := M2.out; omega
          refine wpAnyH_one (i := 16) rfl (by kernel_rfl) rfl (fun K hK => ?_)
          have zc0 := R3.out.cell' 0 _ rfl
          have zf0 := R3.out.free 0
          have zc1 := R3.out.cell' 1 _ rfl
          have zf1 := R3.out.free 1
          have zc2 := R3.out.cell' 2 _ rfl
          have zf2 := R3.out.free 2
          go_simp
          refine k_of (fun wz => Bx wz G1 (#[.int .i64 0, .int .i64 X, .slice none 0 0, .int .i64 0, .int .i64 Y, .slice none 0 0]) 27 ∧ Bx wz G2 (#[.int .i64 (oi : Nat), .int .i64 0, .slice (some ⟨G1, 0, none⟩) 2 2, .int .i64 0, .int .i64 Z, .slice none 0 0]) 27 ∧ Bx wz G3 (#[.int .i64 (ok : Nat), .int .i64 0, .slice (some ⟨G2, 0, none⟩) 2 2]) 27 ∧ Qw w5 wz) ⟨((R1.out.other ne1 _).other ne1 _).other ne1 _, ((R2.out.other ne2 _).other ne2 _).other ne2 _, ((R3.out.set 0 _).set 1 _).set 2 _, Qw.sc (Qw.sc (Qw.sc Qwc.out GE3.out _) GE3.out _) GE3.out _⟩ ?_
          clear zc0 zc1 zc2 zf0 zf1 zf2
          rintro wd ⟨r_R1, r_R2, r3, q⟩
          replace R1 := Lib.hid r_R1
          replace R2 := Lib.hid r_R2
          replace R3 := Lib.hid r3
          have Qwd := Lib.hid q
          clear r3 q r_R1 r_R2
          have hSS := (HS.out wd).2 (LV.out.kept Qwd.out)
          refine hK _ _ hSS ?_
          clear hK K
          try simp only [List.getElem_toArray, List.getElem_cons_succ, List.getElem_cons_zero, Act.put, List.setIfInBounds_toArray, List.set_cons_zero, List.set_cons_succ]
          refine wpAnyH_done (by kernel_rfl) ?_ _
          have G3D : Hid (G3 < wd.heap.size) := Lib.hid R3.out.lt
          clear HS F s1 s2 s3 ne1 ne2 Qwa Qwb Qwc Uwa Uwb Uwc M1 M2 LG1 LG2 LG3
          clear hSS
          go_upto_region 11 with fail
          obtain ⟨S, hS⟩ : ∃ S : World → Prop, ∀ w', S w' ↔ Bx w' B2 levA 3 := ⟨_, fun _ => Iff.rfl⟩
          have F2 := Lib.hid (fun w' (q : S w') => levc ((hS w').1 q) hi hk)
          have HS2 := Lib.hid hS
          rw [hli, hlk] at F2
          clear hS
          refine wp_region_held (S := S) (by kernel_rfl) ?_
          change wpAnyH _ _ _ _ _ _ _ _ (World.drew wd)
          have hSS : S (World.drew wd) := (HS2.out _).2 (Bx.drew (S2.out.kept Qwd.out))
          by_cases hlk2 : li < lk
          · have dl : (li : Int) < (lk : Int) := by omega
            have WL : Hid (W = Sy.bin (oi : Nat) (Sy.num X) (Sy.bin (ok : Nat) (Sy.num Y) (Sy.num Z))) := Lib.hid (by rw [← hW, ← hoi, ← hok]; unfold Sy.want; rw [if_pos (by rw [hli, hlk]; exact hlk2)])
            clear hlk2
            refine wpAnyH_take (i := 0) (v := ?_) rfl (by kernel_rfl) (by kernel_rfl) (by kernel_rfl) (fun _ _ _ h => h) (Or.inl ⟨by rfl, ?_⟩) hSS ?_
            rotate_left 1
            · intro wS hwS
              go_simp
              try with_reducible rfl
            simp only [List.getElem_toArray, List.getElem_cons_succ, List.getElem_cons_zero, Act.put, List.setIfInBounds_toArray, List.set_cons_zero, List.set_cons_succ]
            refine wpAnyH_take (i := 1) (v := ?_) rfl (by kernel_rfl) (by kernel_rfl) (by kernel_rfl) (fun _ _ _ h => h) (Or.inl ⟨by rfl, ?_⟩) hSS ?_
            rotate_left 1
            · intro wS hwS
              go_simp
              try with_reducible rfl
            simp only [List.getElem_toArray, List.getElem_cons_succ, List.getElem_cons_zero, Act.put, List.setIfInBounds_toArray, List.set_cons_zero, List.set_cons_succ]
            refine wpAnyH_take (i := 2) (v := ?_) rfl (by kernel_rfl) (by kernel_rfl) (by kernel_rfl) (fun _ _ _ h => h) (Or.inl ⟨by rfl, ?_⟩) hSS ?_
            rotate_left 1
            · intro wS hwS
              go_simp
              try with_reducible rfl
            simp only [List.getElem_toArray, List.getElem_cons_succ, List.getElem_cons_zero, Act.put, List.setIfInBounds_toArray, List.set_cons_zero, List.set_cons_succ]
            refine wpAnyH_take (i := 3) (v := ?_) rfl (by kernel_rfl) (by kernel_rfl) (by kernel_rfl) (fun _ _ _ h => h) (Or.inl ⟨by rfl, ?_⟩) hSS ?_
            rotate_left 1
            · intro wS hwS
              obtain ⟨f0, f1⟩ := F2.out wS hwS; go_simp
              try with_reducible rfl
            simp only [List.getElem_toArray, List.getElem_cons_succ, List.getElem_cons_zero, Act.put, List.setIfInBounds_toArray, List.set_cons_zero, List.set_cons_succ]
            refine wpAnyH_take (i := 4) (v := ?_) rfl (by kernel_rfl) (by kernel_rfl) (by kernel_rfl) (fun _ _ _ h => h) (Or.inl ⟨by rfl, ?_⟩) hSS ?_
            rotate_left 1
            · intro wS hwS
              go_simp
              try with_reducible rfl
            simp only [List.getElem_toArray, List.getElem_cons_succ, List.getElem_cons_zero, Act.put, List.setIfInBounds_toArray, List.set_cons_zero, List.set_cons_succ]
            refine wpAnyH_take (i := 5) (v := ?_) rfl (by kernel_rfl) (by kernel_rfl) (by kernel_rfl) (fun _ _ _ h => h) (Or.inl ⟨by rfl, ?_⟩) hSS ?_
            rotate_left 1
            · intro wS hwS
              go_simp
              try with_reducible rfl
            simp only [List.getElem_toArray, List.getElem_cons_succ, List.getElem_cons_zero, Act.put, List.setIfInBounds_toArray, List.set_cons_zero, List.set_cons_succ]
            refine wpAnyH_take (i := 6) (v := ?_) rfl (by kernel_rfl) (by kernel_rfl) (by kernel_rfl) (fun _ _ _ h => h) (Or.inl ⟨by rfl, ?_⟩) hSS ?_
            rotate_left 1
            · intro wS hwS
              go_simp
              try with_reducible rfl
            simp only [List.getElem_toArray, List.getElem_cons_succ, List.getElem_cons_zero, Act.put, List.setIfInBounds_toArray, List.set_cons_zero, List.set_cons_succ]
            refine wpAnyH_take (i := 7) (v := ?_) rfl (by kernel_rfl) (by kernel_rfl) (by kernel_rfl) (fun _ _ _ h => h) (Or.inl ⟨by rfl, ?_⟩) hSS ?_
            rotate_left 1
            · intro wS hwS
              obtain ⟨f0, f1⟩ := F2.out wS hwS; go_simp
              try with_reducible rfl
            simp only [List.getElem_toArray, List.getElem_cons_succ, List.getElem_cons_zero, Act.put, List.setIfInBounds_toArray, List.set_cons_zero, List.set_cons_succ]
            refine wpAnyH_take (i := 8) (v := ?_) rfl (by kernel_rfl) (by kernel_rfl) (by kernel_rfl) (fun _ _ _ h => h) (Or.inl ⟨by rfl, ?_⟩) hSS ?_
            rotate_left 1
            · intro wS hwS
              go_simp
              try with_reducible rfl
            simp only [List.getElem_toArray, List.getElem_cons_succ, List.getElem_cons_zero, Act.put, List.setIfInBounds_toArray, List.set_cons_zero, List.set_cons_succ]
            refine wpAnyH_done (by kernel_rfl) ?_ _
            clear hSS HS2 F2
            go_upto_region 12 with fail
            clear dl
            obtain ⟨S, hS⟩ : ∃ S : World → Prop, ∀ w', S w' ↔ Lvw w' B1 P0 P1 P2 X Y Z := ⟨_, fun _ => Iff.rfl⟩
            have F := Lib.hid (fun w' (q : S w') => Lvw.cells ((hS w').1 q) hi hk)
            rw [hoi, hok] at F
            have HS := Lib.hid hS
            clear hS
            refine wp_region_held (S := S) (by kernel_rfl) ?_
            change wpAnyH _ _ _ _ _ _ _ _ (World.drew _)
            have hSS := (HS.out (World.drew (World.drew wd))).2 (Lvw.dr (Lvw.dr (LV.out.kept Qwd.out)))
            refine wpAnyH_take (i := 0) (v := ?_) rfl (by kernel_rfl) (by kernel_rfl) (by kernel_rfl) (fun _ _ _ h => h) (Or.inl ⟨by rfl, ?_⟩) hSS ?_
            rotate_left 1
            · intro wS hwS
              go_simp
              try with_reducible rfl
            simp only [List.getElem_toArray, List.getElem_cons_succ, List.getElem_cons_zero, Act.put, List.setIfInBounds_toArray, List.set_cons_zero, List.set_cons_succ]
            refine wpAnyH_take (i := 1) (v := ?_) rfl (by kernel_rfl) (by kernel_rfl) (by kernel_rfl) (fun _ _ _ h => h) (Or.inl ⟨by rfl, ?_⟩) hSS ?_
            rotate_left 1
            · intro wS hwS
              go_simp
              try with_reducible rfl
            simp only [List.getElem_toArray, List.getElem_cons_succ, List.getElem_cons_zero, Act.put, List.setIfInBounds_toArray, List.set_cons_zero, List.set_cons_succ]
            refine wpAnyH_take (i := 2) (v := ?_) rfl (by kernel_rfl) (by kernel_rfl) (by kernel_rfl) (fun _ _ _ h => h) (Or.inl ⟨by rfl, ?_⟩) hSS ?_
            rotate_left 1
            · intro wS hwS
              go_simp
              try with_reducible rfl
            simp only [List.getElem_toArray, List.getElem_cons_succ, List.getElem_cons_zero, Act.put, List.setIfInBounds_toArray, List.set_cons_zero, List.set_cons_succ]
            refine wpAnyH_take (i := 3) (v := ?_) rfl (by kernel_rfl) (by kernel_rfl) (by kernel_rfl) (fun _ _ _ h => h) (Or.inl ⟨by rfl, ?_⟩) hSS ?_
            rotate_left 1
            · intro wS hwS
              obtain ⟨f0, f1, ⟨f2, f3, f4⟩, ⟨f5, f6, f7⟩, f8, f9, f10⟩ := F.out wS hwS; go_simp
              try with_reducible rfl
            simp only [List.getElem_toArray, List.getElem_cons_succ, List.getElem_cons_zero, Act.put, List.setIfInBounds_toArray, List.set_cons_zero, List.set_cons_succ]
            refine wpAnyH_take (i := 4) (v := ?_) rfl (by kernel_rfl) (by kernel_rfl) (by kernel_rfl) (fun _ _ _ h => h) (Or.inl ⟨by rfl, ?_⟩) hSS ?_
            rotate_left 1
            · intro wS hwS
              obtain ⟨f0, f1, ⟨f2, f3, f4⟩, ⟨f5, f6, f7⟩, f8, f9, f10⟩ := F.out wS hwS; go_simp
              try with_reducible rfl
            simp only [List.getElem_toArray, List.getElem_cons_succ, List.getElem_cons_zero, Act.put, List.setIfInBounds_toArray, List.set_cons_zero, List.set_cons_succ]
            refine wpAnyH_take (i := 5) (v := ?_) rfl (by kernel_rfl) (by kernel_rfl) (by kernel_rfl) (fun _ _ _ h => h) (Or.inl ⟨by rfl, ?_⟩) hSS ?_
            rotate_left 1
            · intro wS hwS
              go_simp
              try with_reducible rfl
            simp only [List.getElem_toArray, List.getElem_cons_succ, List.getElem_cons_zero, Act.put, List.setIfInBounds_toArray, List.set_cons_zero, List.set_cons_succ]
            refine wpAnyH_take (i := 6) (v := ?_) rfl (by kernel_rfl) (by kernel_rfl) (by kernel_rfl) (fun _ _ _ h => h) (Or.inl ⟨by rfl, ?_⟩) hSS ?_
            rotate_left 1
            · intro wS hwS
              go_simp
              try with_reducible rfl
            simp only [List.getElem_toArray, List.getElem_cons_succ, List.getElem_cons_zero, Act.put, List.setIfInBounds_toArray, List.set_cons_zero, List.set_cons_succ]
            refine wpAnyH_take (i := 7) (v := ?_) rfl (by kernel_rfl) (by kernel_rfl) (by kernel_rfl) (fun _ _ _ h => h) (Or.inl ⟨by rfl, ?_⟩) hSS ?_
            rotate_left 1
            · intro wS hwS
              go_simp
              try with_reducible rfl
            simp only [List.getElem_toArray, List.getElem_cons_succ, List.getElem_cons_zero, Act.put, List.setIfInBounds_toArray, List.set_cons_zero, List.set_cons_succ]
            refine wpAnyH_take (i := 8) (v := ?_) rfl (by kernel_rfl) (by kernel_rfl) (by kernel_rfl) (fun _ _ _ h => h) (Or.inl ⟨by rfl, ?_⟩) hSS ?_
            rotate_left 1
            · intro wS hwS
              obtain ⟨f0, f1, ⟨f2, f3, f4⟩, ⟨f5, f6, f7⟩, f8, f9, f10⟩ := F.out wS hwS; go_simp
              try with_reducible rfl
            simp only [List.getElem_toArray, List.getElem_cons_succ, List.getElem_cons_zero, Act.put, List.setIfInBounds_toArray, List.set_cons_zero, List.set_cons_succ]
            refine wpAnyH_take (i := 9) (v := ?_) rfl (by kernel_rfl) (by kernel_rfl) (by kernel_rfl) (fun _ _ _ h => h) (Or.inl ⟨by rfl, ?_⟩) hSS ?_
            rotate_left 1
            · intro wS hwS
              obtain ⟨f0, f1, ⟨f2, f3, f4⟩, ⟨f5, f6, f7⟩, f8, f9, f10⟩ := F.out wS hwS; go_simp
              try with_reducible rfl
            simp only [List.getElem_toArray, List.getElem_cons_succ, List.getElem_cons_zero, Act.put, List.setIfInBounds_toArray, List.set_cons_zero, List.set_cons_succ]
            refine wpAnyH_take (i := 10) (v := ?_) rfl (by kernel_rfl) (by kernel_rfl) (by kernel_rfl) (fun _ _ _ h => h) (Or.inl ⟨by rfl, ?_⟩) hSS ?_
            rotate_left 1
            · intro wS hwS
              obtain ⟨f0, f1, ⟨f2, f3, f4⟩, ⟨f5, f6, f7⟩, f8, f9, f10⟩ := F.out wS hwS; go_simp
              try with_reducible rfl
            simp only [List.getElem_toArray, List.getElem_cons_succ, List.getElem_cons_zero, Act.put, List.setIfInBounds_toArray, List.set_cons_zero, List.set_cons_succ]
            refine wpAnyH_one (i := 11) rfl (by kernel_rfl) rfl (fun K hK => ?_)
            go_simp
            refine k_of (fun wz => Bx wz wd.heap.size (#[.int .i64 0, .int .i64 Y, .slice none 0 0, .int .i64 0, .int .i64 Z, .slice none 0 0]) 27 ∧ Qw wd wz) ⟨Bx.drew (Bx.drew (Bx.new wd _ _)), Qw.dr (Qw.dr (Qw.al (Qw.refl wd) _))⟩ ?_
            rintro we ⟨r, q⟩
            obtain ⟨G4, hG4⟩ : ∃ G, G = wd.heap.size := ⟨_, rfl⟩
            rw [← hG4] at r ⊢
            have R4 := Lib.hid r
            have Qwe : Hid (Qw w5 we) := Lib.hid (Qw.trans Qwd.out q)
            have Uwe : Hid (Qw wd we) := Lib.hid q
            have LG4 : Hid (G4 = wd.heap.size) := Lib.hid hG4
            clear r q hG4
            have hSS := (HS.out we).2 (LV.out.kept Qwe.out)
            refine hK _ _ hSS ?_
            clear hK K
            try simp only [List.getElem_toArray, List.getElem_cons_succ, List.getElem_cons_zero, Act.put, List.setIfInBounds_toArray, List.set_cons_zero, List.set_cons_succ]
            replace R3 := Lib.hid (R3.out.kept Uwe.out)
            refine wpAnyH_take (i := 12) (v := ?_) rfl (by kernel_rfl) (by kernel_rfl) (by kernel_rfl) (fun _ _ _ h => h) (Or.inl ⟨by rfl, ?_⟩) hSS ?_
            rotate_left 1
            · intro wS hwS
              go_simp
              try with_reducible rfl
            simp only [List.getElem_toArray, List.getElem_cons_succ, List.getElem_cons_zero, Act.put, List.setIfInBounds_toArray, List.set_cons_zero, List.set_cons_succ]
            refine wpAnyH_one (i := 13) rfl (by kernel_rfl) rfl (fun K hK => ?_)
            go_simp
            refine k_of (fun wz => Bx wz we.heap.size (#[.int .i64 0, .int .i64 X, .slice none 0 0, .int .i64 (ok : Nat), .int .i64 0, .slice (some ⟨G4, 0, none⟩) 2 2]) 27 ∧ Qw we wz) ⟨Bx.new we _ _, Qw.al (Qw.refl we) _⟩ ?_
            rintro wf5 ⟨r, q⟩
            obtain ⟨G5, hG5⟩ : ∃ G, G = we.heap.size := ⟨_, rfl⟩
            rw [← hG5] at r ⊢
            have R5 := Lib.hid r
            have Qwf5 : Hid (Qw w5 wf5) := Lib.hid (Qw.trans Qwe.out q)
            have Uwf5 : Hid (Qw we wf5) := Lib.hid q
            have LG5 : Hid (G5 = we.heap.size) := Lib.hid hG5
            clear r q hG5
            have hSS := (HS.out wf5).2 (LV.out.kept Qwf5.out)
            refine hK _ _ hSS ?_
            clear hK K
            try simp only [List.getElem_toArray, List.getElem_cons_succ, List.getElem_cons_zero, Act.put, List.setIfInBounds_toArray, List.set_cons_zero, List.set_cons_succ]
            replace R4 := Lib.hid (R4.out.kept Uwf5.out)
            replace R3 := Lib.hid (R3.out.kept Uwf5.out)
            refine wpAnyH_take (i := 14) (v := ?_) rfl (by kernel_rfl) (by kernel_rfl) (by kernel_rfl) (fun _ _ _ h => h) (Or.inl ⟨by rfl, ?_⟩) hSS ?_
            rotate_left 1
            · intro wS hwS
              go_simp
              try with_reducible rfl
            simp only [List.getElem_toArray, List.getElem_cons_succ, List.getElem_cons_zero, Act.put, List.setIfInBounds_toArray, List.set_cons_zero, List.set_cons_succ]
            have ne4 : G4 ≠ G3 := by have := LG4.out; have := G3D.out; omega
            have ne5 : G5 ≠ G3 := by have := LG5.out; have := Uwe.out.size; have := G3D.out; omega
            refine wpAnyH_one (i := 15) rfl (by kernel_rfl) rfl (fun K hK => ?_)
            have zc0 := R3.out.cell' 0 _ rfl
            have zf0 := R3.out.free 0
            have zc1 := R3.out.cell' 1 _ rfl
            have zf1 := R3.out.free 1
            have zc2 := R3.out.cell' 2 _ rfl
            have zf2 := R3.out.free 2
            go_simp
            refine k_of (fun wz => Bx wz G4 (#[.int .i64 0, .int .i64 Y, .slice none 0 0, .int .i64 0, .int .i64 Z, .slice none 0 0]) 27 ∧ Bx wz G5 (#[.int .i64 0, .int .i64 X, .slice none 0 0, .int .i64 (ok : Nat), .int .i64 0, .slice (some ⟨G4, 0, none⟩) 2 2]) 27 ∧ Bx wz G3 (#[.int .i64 (oi : Nat), .int .i64 0, .slice (some ⟨G5, 0, none⟩) 2 2]) 27 ∧ Qw w5 wz) ⟨((R4.out.other ne4 _).other ne4 _).other ne4 _, ((R5.out.other ne5 _).other ne5 _).other ne5 _, ((R3.out.set 0 _).set 1 _).set 2 _, Qw.sc (Qw.sc (Qw.sc Qwf5.out GE3.out _) GE3.out _) GE3.out _⟩ ?_
            clear zc0 zc1 zc2 zf0 zf1 zf2
            rintro wg5 ⟨r_R4, r_R5, r3, q⟩
            replace R4 := Lib.hid r_R4
            replace R5 := Lib.hid r_R5
            replace R3 := Lib.hid r3
            have Qwg5 := Lib.hid q
            clear r3 q r_R4 r_R5
            have hSS := (HS.out wg5).2 (LV.out.kept Qwg5.out)
            refine hK _ _ hSS ?_
            clear hK K
            try simp only [List.getElem_toArray, List.getElem_cons_succ, List.getElem_cons_zero, Act.put, List.setIfInBounds_toArray, List.set_cons_zero, List.set_cons_succ]
            refine wpAnyH_done (by kernel_rfl) ?_ _
            have KZ : Hid (KidsB wg5 (fun _ => True) (some ⟨G5, 0, none⟩) 2 W.ks) := Lib.hid (by rw [WL.out]; exact KidsB.two (x := Sy.num X) (y := Sy.bin (ok : Nat) (Sy.num Y) (Sy.num Z)) R5.out trivial (KidsB.nl _ _ (by decide)) (KidsB.two (x := Sy.num Y) (y := Sy.num Z) R4.out trivial (KidsB.nl _ _ (by decide)) (KidsB.nl _ _ (by decide))))
            have CE : Hid (∀ wf, Qw wg5 wf → Calls Tryz.prog 16 #[.agg #[.int .i64 W.op, .int .i64 W.n, .slice q4 W.ks.length q5], .agg #[.int .i64 (oi : Nat), .int .i64 0, .slice (some ⟨G5, 0, none⟩) 2 2]] wf fun e w' => e = .returned (.bool true) ∧ Qw wf w') := Lib.hid (fun wf q => by have h := sx_sameExpr W q4 (some ⟨G5, 0, none⟩) q5 2 _ (fun _ => True) wf (KX.out.kept (Qw.trans Qwg5.out q)) (KZ.out.kept q); rw [WL.out] at h ⊢; exact h)
            have XB0 := XB
            clear LV S1 S2 HBk KX KZ WL HS F
            go_wp2_with (first
              | (go_at_call 15; ((with_reducible refine (AW.out _ (Qw.trans QQ.out Qwg5.out)).mono ?_); rintro e wf ⟨rfl, qf⟩; have pb := XB0.out.kept (Qw.trans Qwg5.out qf); have p0 : wf.cell? ⟨PB, 0, none⟩ = some (.int .i64 1) := pb.cell' 0 _ rfl; have p7 : wf.cell? ⟨PB, 7, none⟩ = some (.int .i64 W.op) := pb.cell' 7 _ rfl; have p8 : wf.cell? ⟨PB, 8, none⟩ = some (.int .i64 W.n) := pb.cell' 8 _ rfl; have p9 : wf.cell? ⟨PB, 9, none⟩ = some (.slice q4 W.ks.length q5) := pb.cell' 9 _ rfl; have pz := R3.out.kept qf; have z0 := pz.cell' 0 _ rfl; have z1 := pz.cell' 1 _ rfl; have z2 := pz.cell' 2 _ rfl; have QF := Lib.hid qf; clear pb pz qf))
              | (go_at_call 16; ((with_reducible refine (CE.out _ QF.out).mono ?_); rintro e wg ⟨rfl, qg⟩; have QG := Lib.hid qg; clear qg)))
            go_ret
            exact ⟨rfl, Qw.trans (Qw.trans (Qw.trans QQ.out Qwg5.out) QF.out) QG.out⟩
          · have dl : ¬ (li : Int) < (lk : Int) := by omega
            have WL : Hid (W = Sy.bin (ok : Nat) (Sy.bin (oi : Nat) (Sy.num X) (Sy.num Y)) (Sy.num Z)) := Lib.hid (by rw [← hW, ← hoi, ← hok]; unfold Sy.want; rw [if_neg (by rw [hli, hlk]; exact hlk2)])
            clear hlk2
            refine wpAnyH_take (i := 0) (v := ?_) rfl (by kernel_rfl) (by kernel_rfl) (by kernel_rfl) (fun _ _ _ h => h) (Or.inl ⟨by rfl, ?_⟩) hSS ?_
            rotate_left 1
            · intro wS hwS
              go_simp
              try with_reducible rfl
            simp only [List.getElem_toArray, List.getElem_cons_succ, List.getElem_cons_zero, Act.put, List.setIfInBounds_toArray, List.set_cons_zero, List.set_cons_succ]
            refine wpAnyH_take (i := 1) (v := ?_) rfl (by kernel_rfl) (by kernel_rfl) (by kernel_rfl) (fun _ _ _ h => h) (Or.inl ⟨by rfl, ?_⟩) hSS ?_
            rotate_left 1
            · intro wS hwS
              go_simp
              try with_reducible rfl
            simp only [List.getElem_toArray, List.getElem_cons_succ, List.getElem_cons_zero, Act.put, List.setIfInBounds_toArray, List.set_cons_zero, List.set_cons_succ]
            refine wpAnyH_take (i := 2) (v := ?_) rfl (by kernel_rfl) (by kernel_rfl) (by kernel_rfl) (fun _ _ _ h => h) (Or.inl ⟨by rfl, ?_⟩) hSS ?_
            rotate_left 1
            · intro wS hwS
              go_simp
              try with_reducible rfl
            simp only [List.getElem_toArray, List.getElem_cons_succ, List.getElem_cons_zero, Act.put, List.setIfInBounds_toArray, List.set_cons_zero, List.set_cons_succ]
            refine wpAnyH_take (i := 3) (v := ?_) rfl (by kernel_rfl) (by kernel_rfl) (by kernel_rfl) (fun _ _ _ h => h) (Or.inl ⟨by rfl, ?_⟩) hSS ?_
            rotate_left 1
            · intro wS hwS
              obtain ⟨f0, f1⟩ := F2.out wS hwS; go_simp
              try with_reducible rfl
            simp only [List.getElem_toArray, List.getElem_cons_succ, List.getElem_cons_zero, Act.put, List.setIfInBounds_toArray, List.set_cons_zero, List.set_cons_succ]
            refine wpAnyH_take (i := 4) (v := ?_) rfl (by kernel_rfl) (by kernel_rfl) (by kernel_rfl) (fun _ _ _ h => h) (Or.inl ⟨by rfl, ?_⟩) hSS ?_
            rotate_left 1
            · intro wS hwS
              go_simp
              try with_reducible rfl
            simp only [List.getElem_toArray, List.getElem_cons_succ, List.getElem_cons_zero, Act.put, List.setIfInBounds_toArray, List.set_cons_zero, List.set_cons_succ]
            refine wpAnyH_take (i := 5) (v := ?_) rfl (by kernel_rfl) (by kernel_rfl) (by kernel_rfl) (fun _ _ _ h => h) (Or.inl ⟨by rfl, ?_⟩) hSS ?_
            rotate_left 1
            · intro wS hwS
              go_simp
              try with_reducible rfl
            simp only [List.getElem_toArray, List.getElem_cons_succ, List.getElem_cons_zero, Act.put, List.setIfInBounds_toArray, List.set_cons_zero, List.set_cons_succ]
            refine wpAnyH_take (i := 6) (v := ?_) rfl (by kernel_rfl) (by kernel_rfl) (by kernel_rfl) (fun _ _ _ h => h) (Or.inl ⟨by rfl, ?_⟩) hSS ?_
            rotate_left 1
            · intro wS hwS
              go_simp
              try with_reducible rfl
            simp only [List.getElem_toArray, List.getElem_cons_succ, List.getElem_cons_zero, Act.put, List.setIfInBounds_toArray, List.set_cons_zero, List.set_cons_succ]
            refine wpAnyH_take (i := 7) (v := ?_) rfl (by kernel_rfl) (by kernel_rfl) (by kernel_rfl) (fun _ _ _ h => h) (Or.inl ⟨by rfl, ?_⟩) hSS ?_
            rotate_left 1
            · intro wS hwS
              obtain ⟨f0, f1⟩ := F2.out wS hwS; go_simp
              try with_reducible rfl
            simp only [List.getElem_toArray, List.getElem_cons_succ, List.getElem_cons_zero, Act.put, List.setIfInBounds_toArray, List.set_cons_zero, List.set_cons_succ]
            refine wpAnyH_take (i := 8) (v := ?_) rfl (by kernel_rfl) (by kernel_rfl) (by kernel_rfl) (fun _ _ _ h => h) (Or.inl ⟨by rfl, ?_⟩) hSS ?_
            rotate_left 1
            · intro wS hwS
              go_simp
              try with_reducible rfl
            simp only [List.getElem_toArray, List.getElem_cons_succ, List.getElem_cons_zero, Act.put, List.setIfInBounds_toArray, List.set_cons_zero, List.set_cons_succ]
            refine wpAnyH_done (by kernel_rfl) ?_ _
            clear hSS HS2 F2
            have KZ : Hid (KidsB wd (fun _ => True) (some ⟨G2, 0, none⟩) 2 W.ks) := Lib.hid (by rw [WL.out]; exact KidsB.two (x := Sy.bin (oi : Nat) (Sy.num X) (Sy.num Y)) (y := Sy.num Z) R2.out trivial (KidsB.two (x := Sy.num X) (y := Sy.num Y) R1.out trivial (KidsB.nl _ _ (by decide)) (KidsB.nl _ _ (by decide))) (KidsB.nl _ _ (by decide)))
            have CE : Hid (∀ wf, Qw wd wf → Calls Tryz.prog 16 #[.agg #[.int .i64 W.op, .int .i64 W.n, .slice q4 W.ks.length q5], .agg #[.int .i64 (ok : Nat), .int .i64 0, .slice (some ⟨G2, 0, none⟩) 2 2]] wf fun e w' => e = .returned (.bool true) ∧ Qw wf w') := Lib.hid (fun wf q => by have h := sx_sameExpr W q4 (some ⟨G2, 0, none⟩) q5 2 _ (fun _ => True) wf (KX.out.kept (Qw.trans Qwd.out q)) (KZ.out.kept q); rw [WL.out] at h ⊢; exact h)
            have XB0 := XB
            clear LV S1 S2 HBk KX KZ WL
            go_wp2_with (first
              | (go_at_call 15; ((with_reducible refine (AW.out _ (Qw.trans QQ.out (Qw.dr Qwd.out))).mono ?_); rintro e wf ⟨rfl, qf0⟩; have qf := Qw.trans (Qw.dr (Qw.refl wd)) qf0; clear qf0; have pb := XB0.out.kept (Qw.trans Qwd.out qf); have p0 : wf.cell? ⟨PB, 0, none⟩ = some (.int .i64 1) := pb.cell' 0 _ rfl; have p7 : wf.cell? ⟨PB, 7, none⟩ = some (.int .i64 W.op) := pb.cell' 7 _ rfl; have p8 : wf.cell? ⟨PB, 8, none⟩ = some (.int .i64 W.n) := pb.cell' 8 _ rfl; have p9 : wf.cell? ⟨PB, 9, none⟩ = some (.slice q4 W.ks.length q5) := pb.cell' 9 _ rfl; have pz := R3.out.kept qf; have z0 := pz.cell' 0 _ rfl; have z1 := pz.cell' 1 _ rfl; have z2 := pz.cell' 2 _ rfl; have QF := Lib.hid qf; clear pb pz qf))
              | (go_at_call 16; ((with_reducible refine (CE.out _ QF.out).mono ?_); rintro e wg ⟨rfl, qg⟩; have QG := Lib.hid qg; clear qg)))
            go_ret
            exact ⟨rfl, Qw.trans (Qw.trans (Qw.trans QQ.out Qwd.out) QF.out) QG.out⟩
      · go_simp
        refine k_of (fun wz => Bx wz w5.heap.size (#[.int .i64 0, .int .i64 0, .slice none 0 0]) 27 ∧ Qw w5 wz) ⟨Bx.drew (Bx.new w5 _ _), Qw.dr (Qw.al (Qw.refl w5) _)⟩ ?_
        rintro wa ⟨r, q⟩
        obtain ⟨G3, hG3⟩ : ∃ G, G = w5.heap.size := ⟨_, rfl⟩
        rw [← hG3] at r ⊢
        have R3 := Lib.hid r
        have Qwa : Hid (Qw w5 wa) := Lib.hid (Qw.trans Qw5.out q)
        have Uwa : Hid (Qw w5 wa) := Lib.hid q
        have LG3 : Hid (G3 = w5.heap.size) := Lib.hid hG3
        clear r q hG3
        have hSS := (HS.out wa).2 (LV.out.kept Qwa.out)
        refine hK _ _ hSS ?_
        clear hK K
        try simp only [List.getElem_toArray, List.getElem_cons_succ, List.getElem_cons_zero, Act.put, List.setIfInBounds_toArray, List.set_cons_zero, List.set_cons_succ]
        have M1 : Hid (w5.heap.size < wa.heap.size) := Lib.hid (by have := R3.out.lt; have := LG3.out; omega)
        refine wpAnyH_one (i := 10) rfl (by kernel_rfl) rfl (fun K hK => ?_)
        go_simp
        refine k_of (fun wz => Bx wz wa.heap.size (#[.int .i64 0, .int .i64 X, .slice none 0 0, .int .i64 0, .int .i64 Y, .slice none 0 0]) 27 ∧ Qw wa wz) ⟨Bx.new wa _ _, Qw.al (Qw.refl wa) _⟩ ?_
        rintro wb ⟨r, q⟩
        obtain ⟨G1, hG1⟩ : ∃ G, G = wa.heap.size := ⟨_, rfl⟩
        rw [← hG1] at r ⊢
        have R1 := Lib.hid r
        have Qwb : Hid (Qw w5 wb) := Lib.hid (Qw.trans Qwa.out q)
        have Uwb : Hid (Qw wa wb) := Lib.hid q
        have LG1 : Hid (G1 = wa.heap.size) := Lib.hid hG1
        clear r q hG1
        have hSS := (HS.out wb).2 (LV.out.kept Qwb.out)
        refine hK _ _ hSS ?_
        clear hK K
        try simp only [List.getElem_toArray, List.getElem_cons_succ, List.getElem_cons_zero, Act.put, List.setIfInBounds_toArray, List.set_cons_zero, List.set_cons_succ]
        replace R3 := Lib.hid (R3.out.kept Uwb.out)
        refine wpAnyH_take (i := 11) (v := ?_) rfl (by kernel_rfl) (by kernel_rfl) (by kernel_rfl) (fun _ _ _ h => h) (Or.inl ⟨by rfl, ?_⟩) hSS ?_
        rotate_left 1
        · intro wS hwS
          go_simp
          try with_reducible rfl
        simp only [List.getElem_toArray, List.getElem_cons_succ, List.getElem_cons_zero, Act.put, List.setIfInBounds_toArray, List.set_cons_zero, List.set_cons_succ]
        have M2 : Hid (wa.heap.size < wb.heap.size) := Lib.hid (by have := R1.out.lt; have := LG1.out; omega)
        refine wpAnyH_one (i := 13) rfl (by kernel_rfl) rfl (fun K hK => ?_)
        go_simp
        refine k_of (fun wz => Bx wz wb.heap.size (#[.int .i64 (oi : Nat), .int .i64 0, .slice (some ⟨G1, 0, none⟩) 2 2, .int .i64 0, .int .i64 Z, .slice none 0 0]) 27 ∧ Qw wb wz) ⟨Bx.new wb _ _, Qw.al (Qw.refl wb) _⟩ ?_
        rintro wc ⟨r, q⟩
        obtain ⟨G2, hG2⟩ : ∃ G, G = wb.heap.size := ⟨_, rfl⟩
        rw [← hG2] at r ⊢
        have R2 := Lib.hid r
        have Qwc : Hid (Qw w5 wc) := Lib.hid (Qw.trans Qwb.out q)
        have Uwc : Hid (Qw wb wc) := Lib.hid q
        have LG2 : Hid (G2 = wb.heap.size) := Lib.hid hG2
        clear r q hG2
        have hSS := (HS.out wc).2 (LV.out.kept Qwc.out)
        refine hK _ _ hSS ?_
        clear hK K
        try simp only [List.getElem_toArray, List.getElem_cons_succ, List.getElem_cons_zero, Act.put, List.setIfInBounds_toArray, List.set_cons_zero, List.set_cons_succ]
        replace R1 := Lib.hid (R1.out.kept Uwc.out)
        replace R3 := Lib.hid (R3.out.kept Uwc.out)
        refine wpAnyH_take (i := 14) (v := ?_) rfl (by kernel_rfl) (by kernel_rfl) (by kernel_rfl) (fun _ _ _ h => h) (Or.inl ⟨by rfl, ?_⟩) hSS ?_
        rotate_left 1
        · intro wS hwS
          go_simp
          try with_reducible rfl
        simp only [List.getElem_toArray, List.getElem_cons_succ, List.getElem_cons_zero, Act.put, List.setIfInBounds_toArray, List.set_cons_zero, List.set_cons_succ]
        have GE3 : Hid (w5.heap.size ≤ G3) := Lib.hid (by have := LG3.out; have := Qwa.out.size; have := Qwb.out.size; omega)
        have s1 := R1.out.lt
        have s2 := R2.out.lt
        have s3 := R3.out.lt
        have ne1 : G1 ≠ G3 := by have e1 := LG1.out; have e2 := LG3.out; have := M1.out; have := M2.out; omega
        have ne2 : G2 ≠ G3 := by have e1 := LG2.out; have e2 := LG3.out; have := M1.out; have := M2.out; omega
        refine wpAnyH_one (i := 16) rfl (by kernel_rfl) rfl (fun K hK => ?_)
        have zc0 := R3.out.cell' 0 _ rfl
        have zf0 := R3.out.free 0
        have zc1 := R3.out.cell' 1 _ rfl
        have zf1 := R3.out.free 1
        have zc2 := R3.out.cell' 2 _ rfl
        have zf2 := R3.out.free 2
        go_simp
        refine k_of (fun wz => Bx wz G1 (#[.int .i64 0, .int .i64 X, .slice none 0 0, .int .i64 0, .int .i64 Y, .slice none 0 0]) 27 ∧ Bx wz G2 (#[.int .i64 (oi : Nat), .int .i64 0, .slice (some ⟨G1, 0, none⟩) 2 2, .int .i64 0, .int .i64 Z, .slice none 0 0]) 27 ∧ Bx wz G3 (#[.int .i64 (ok : Nat), .int .i64 0, .slice (some ⟨G2, 0, none⟩) 2 2]) 27 ∧ Qw w5 wz) ⟨((R1.out.other ne1 _).other ne1 _).other ne1 _, ((R2.out.other ne2 _).other ne2 _).other ne2 _, ((R3.out.set 0 _).set 1 _).set 2 _, Qw.sc (Qw.sc (Qw.sc Qwc.out GE3.out _) GE3.out _) GE3.out _⟩ ?_
        clear zc0 zc1 zc2 zf0 zf1 zf2
        rintro wd ⟨r_R1, r_R2, r3, q⟩
        replace R1 := Lib.hid r_R1
        replace R2 := Lib.hid r_R2
        replace R3 := Lib.hid r3
        have Qwd := Lib.hid q
        clear r3 q r_R1 r_R2
        have hSS := (HS.out wd).2 (LV.out.kept Qwd.out)
        refine hK _ _ hSS ?_
        clear hK K
        try simp only [List.getElem_toArray, List.getElem_cons_succ, List.getElem_cons_zero, Act.put, List.setIfInBounds_toArray, List.set_cons_zero, List.set_cons_succ]
        refine wpAnyH_done (by kernel_rfl) ?_ _
        have G3D : Hid (G3 < wd.heap.size) := Lib.hid R3.out.lt
        clear HS F s1 s2 s3 ne1 ne2 Qwa Qwb Qwc Uwa Uwb Uwc M1 M2 LG1 LG2 LG3
        clear hSS
        go_upto_region 11 with fail
        obtain ⟨S, hS⟩ : ∃ S : World → Prop, ∀ w', S w' ↔ Bx w' B2 levA 3 := ⟨_, fun _ => Iff.rfl⟩
        have F2 := Lib.hid (fun w' (q : S w') => levc ((hS w').1 q) hi hk)
        have HS2 := Lib.hid hS
        rw [hli, hlk] at F2
        clear hS
        refine wp_region_held (S := S) (by kernel_rfl) ?_
        change wpAnyH _ _ _ _ _ _ _ _ (World.drew wd)
        have hSS : S (World.drew wd) := (HS2.out _).2 (Bx.drew (S2.out.kept Qwd.out))
        by_cases hlk2 : li < lk
        · have dl : (li : Int) < (lk : Int) := by omega
          have WL : Hid (W = Sy.bin (oi : Nat) (Sy.num X) (Sy.bin (ok : Nat) (Sy.num Y) (Sy.num Z))) := Lib.hid (by rw [← hW, ← hoi, ← hok]; unfold Sy.want; rw [if_pos (by rw [hli, hlk]; exact hlk2)])
          clear hlk2
          refine wpAnyH_take (i := 0) (v := ?_) rfl (by kernel_rfl) (by kernel_rfl) (by kernel_rfl) (fun _ _ _ h => h) (Or.inl ⟨by rfl, ?_⟩) hSS ?_
          rotate_left 1
          · intro wS hwS
            go_simp
            try with_reducible rfl
          simp only [List.getElem_toArray, List.getElem_cons_succ, List.getElem_cons_zero, Act.put, List.setIfInBounds_toArray, List.set_cons_zero, List.set_cons_succ]
          refine wpAnyH_take (i := 1) (v := ?_) rfl (by kernel_rfl) (by kernel_rfl) (by kernel_rfl) (fun _ _ _ h => h) (Or.inl ⟨by rfl, ?_⟩) hSS ?_
          rotate_left 1
          · intro wS hwS
            go_simp
            try with_reducible rfl
          simp only [List.getElem_toArray, List.getElem_cons_succ, List.getElem_cons_zero, Act.put, List.setIfInBounds_toArray, List.set_cons_zero, List.set_cons_succ]
          refine wpAnyH_take (i := 2) (v := ?_) rfl (by kernel_rfl) (by kernel_rfl) (by kernel_rfl) (fun _ _ _ h => h) (Or.inl ⟨by rfl, ?_⟩) hSS ?_
          rotate_left 1
          · intro wS hwS
            go_simp
            try with_reducible rfl
          simp only [List.getElem_toArray, List.getElem_cons_succ, List.getElem_cons_zero, Act.put, List.setIfInBounds_toArray, List.set_cons_zero, List.set_cons_succ]
          refine wpAnyH_take (i := 3) (v := ?_) rfl (by kernel_rfl) (by kernel_rfl) (by kernel_rfl) (fun _ _ _ h => h) (Or.inl ⟨by rfl, ?_⟩) hSS ?_
          rotate_left 1
          · intro wS hwS
            obtain ⟨f0, f1⟩ := F2.out wS hwS; go_simp
            try with_reducible rfl
          simp only [List.getElem_toArray, List.getElem_cons_succ, List.getElem_cons_zero, Act.put, List.setIfInBounds_toArray, List.set_cons_zero, List.set_cons_succ]
          refine wpAnyH_take (i := 4) (v := ?_) rfl (by kernel_rfl) (by kernel_rfl) (by kernel_rfl) (fun _ _ _ h => h) (Or.inl ⟨by rfl, ?_⟩) hSS ?_
          rotate_left 1
          · intro wS hwS
            go_simp
            try with_reducible rfl
          simp only [List.getElem_toArray, List.getElem_cons_succ, List.getElem_cons_zero, Act.put, List.setIfInBounds_toArray, List.set_cons_zero, List.set_cons_succ]
          refine wpAnyH_take (i := 5) (v := ?_) rfl (by kernel_rfl) (by kernel_rfl) (by kernel_rfl) (fun _ _ _ h => h) (Or.inl ⟨by rfl, ?_⟩) hSS ?_
          rotate_left 1
          · intro wS hwS
            go_simp
            try with_reducible rfl
          simp only [List.getElem_toArray, List.getElem_cons_succ, List.getElem_cons_zero, Act.put, List.setIfInBounds_toArray, List.set_cons_zero, List.set_cons_succ]
          refine wpAnyH_take (i := 6) (v := ?_) rfl (by kernel_rfl) (by kernel_rfl) (by kernel_rfl) (fun _ _ _ h => h) (Or.inl ⟨by rfl, ?_⟩) hSS ?_
          rotate_left 1
          · intro wS hwS
            go_simp
            try with_reducible rfl
          simp only [List.getElem_toArray, List.getElem_cons_succ, List.getElem_cons_zero, Act.put, List.setIfInBounds_toArray, List.set_cons_zero, List.set_cons_succ]
          refine wpAnyH_take (i := 7) (v := ?_) rfl (by kernel_rfl) (by kernel_rfl) (by kernel_rfl) (fun _ _ _ h => h) (Or.inl ⟨by rfl, ?_⟩) hSS ?_
          rotate_left 1
          · intro wS hwS
            obtain ⟨f0, f1⟩ := F2.out wS hwS; go_simp
            try with_reducible rfl
          simp only [List.getElem_toArray, List.getElem_cons_succ, List.getElem_cons_zero, Act.put, List.setIfInBounds_toArray, List.set_cons_zero, List.set_cons_succ]
          refine wpAnyH_take (i := 8) (v := ?_) rfl (by kernel_rfl) (by kernel_rfl) (by kernel_rfl) (fun _ _ _ h => h) (Or.inl ⟨by rfl, ?_⟩) hSS ?_
          rotate_left 1
          · intro wS hwS
            go_simp
            try with_reducible rfl
          simp only [List.getElem_toArray, List.getElem_cons_succ, List.getElem_cons_zero, Act.put, List.setIfInBounds_toArray, List.set_cons_zero, List.set_cons_succ]
          refine wpAnyH_done (by kernel_rfl) ?_ _
          clear hSS HS2 F2
          go_upto_region 12 with fail
          clear dl
          obtain ⟨S, hS⟩ : ∃ S : World → Prop, ∀ w', S w' ↔ Lvw w' B1 P0 P1 P2 X Y Z := ⟨_, fun _ => Iff.rfl⟩
          have F := Lib.hid (fun w' (q : S w') => Lvw.cells ((hS w').1 q) hi hk)
          rw [hoi, hok] at F
          have HS := Lib.hid hS
          clear hS
          refine wp_region_held (S := S) (by kernel_rfl) ?_
          change wpAnyH _ _ _ _ _ _ _ _ (World.drew _)
          have hSS := (HS.out (World.drew (World.drew wd))).2 (Lvw.dr (Lvw.dr (LV.out.kept Qwd.out)))
          refine wpAnyH_take (i := 0) (v := ?_) rfl (by kernel_rfl) (by kernel_rfl) (by kernel_rfl) (fun _ _ _ h => h) (Or.inl ⟨by rfl, ?_⟩) hSS ?_
          rotate_left 1
          · intro wS hwS
            go_simp
            try with_reducible rfl
          simp only [List.getElem_toArray, List.getElem_cons_succ, List.getElem_cons_zero, Act.put, List.setIfInBounds_toArray, List.set_cons_zero, List.set_cons_succ]
          refine wpAnyH_take (i := 1) (v := ?_) rfl (by kernel_rfl) (by kernel_rfl) (by kernel_rfl) (fun _ _ _ h => h) (Or.inl ⟨by rfl, ?_⟩) hSS ?_
          rotate_left 1
          · intro wS hwS
            go_simp
            try with_reducible rfl
          simp only [List.getElem_toArray, List.getElem_cons_succ, List.getElem_cons_zero, Act.put, List.setIfInBounds_toArray, List.set_cons_zero, List.set_cons_succ]
          refine wpAnyH_take (i := 2) (v := ?_) rfl (by kernel_rfl) (by kernel_rfl) (by kernel_rfl) (fun _ _ _ h => h) (Or.inl ⟨by rfl, ?_⟩) hSS ?_
          rotate_left 1
          · intro wS hwS
            go_simp
            try with_reducible rfl
          simp only [List.getElem_toArray, List.getElem_cons_succ, List.getElem_cons_zero, Act.put, List.setIfInBounds_toArray, List.set_cons_zero, List.set_cons_succ]
          refine wpAnyH_take (i := 3) (v := ?_) rfl (by kernel_rfl) (by kernel_rfl) (by kernel_rfl) (fun _ _ _ h => h) (Or.inl ⟨by rfl, ?_⟩) hSS ?_
          rotate_left 1
          · intro wS hwS
            obtain ⟨f0, f1, ⟨f2, f3, f4⟩, ⟨f5, f6, f7⟩, f8, f9, f10⟩ := F.out wS hwS; go_simp
            try with_reducible rfl
          simp only [List.getElem_toArray, List.getElem_cons_succ, List.getElem_cons_zero, Act.put, List.setIfInBounds_toArray, List.set_cons_zero, List.set_cons_succ]
          refine wpAnyH_take (i := 4) (v := ?_) rfl (by kernel_rfl) (by kernel_rfl) (by kernel_rfl) (fun _ _ _ h => h) (Or.inl ⟨by rfl, ?_⟩) hSS ?_
          rotate_left 1
          · intro wS hwS
            obtain ⟨f0, f1, ⟨f2, f3, f4⟩, ⟨f5, f6, f7⟩, f8, f9, f10⟩ := F.out wS hwS; go_simp
            try with_reducible rfl
          simp only [List.getElem_toArray, List.getElem_cons_succ, List.getElem_cons_zero, Act.put, List.setIfInBounds_toArray, List.set_cons_zero, List.set_cons_succ]
          refine wpAnyH_take (i := 5) (v := ?_) rfl (by kernel_rfl) (by kernel_rfl) (by kernel_rfl) (fun _ _ _ h => h) (Or.inl ⟨by rfl, ?_⟩) hSS ?_
          rotate_left 1
          · intro wS hwS
            go_simp
            try with_reducible rfl
          simp only [List.getElem_toArray, List.getElem_cons_succ, List.getElem_cons_zero, Act.put, List.setIfInBounds_toArray, List.set_cons_zero, List.set_cons_succ]
          refine wpAnyH_take (i := 6) (v := ?_) rfl (by kernel_rfl) (by kernel_rfl) (by kernel_rfl) (fun _ _ _ h => h) (Or.inl ⟨by rfl, ?_⟩) hSS ?_
          rotate_left 1
          · intro wS hwS
            go_simp
            try with_reducible rfl
          simp only [List.getElem_toArray, List.getElem_cons_succ, List.getElem_cons_zero, Act.put, List.setIfInBounds_toArray, List.set_cons_zero, List.set_cons_succ]
          refine wpAnyH_take (i := 7) (v := ?_) rfl (by kernel_rfl) (by kernel_rfl) (by kernel_rfl) (fun _ _ _ h => h) (Or.inl ⟨by rfl, ?_⟩) hSS ?_
          rotate_left 1
          · intro wS hwS
            go_simp
            try with_reducible rfl
          simp only [List.getElem_toArray, List.getElem_cons_succ, List.getElem_cons_zero, Act.put, List.setIfInBounds_toArray, List.set_cons_zero, List.set_cons_succ]
          refine wpAnyH_take (i := 8) (v := ?_) rfl (by kernel_rfl) (by kernel_rfl) (by kernel_rfl) (fun _ _ _ h => h) (Or.inl ⟨by rfl, ?_⟩) hSS ?_
          rotate_left 1
          · intro wS hwS
            obtain ⟨f0, f1, ⟨f2, f3, f4⟩, ⟨f5, f6, f7⟩, f8, f9, f10⟩ := F.out wS hwS; go_simp
            try with_reducible rfl
          simp only [List.getElem_toArray, List.getElem_cons_succ, List.getElem_cons_zero, Act.put, List.setIfInBounds_toArray, List.set_cons_zero, List.set_cons_succ]
          refine wpAnyH_take (i := 9) (v := ?_) rfl (by kernel_rfl) (by kernel_rfl) (by kernel_rfl) (fun _ _ _ h => h) (Or.inl ⟨by rfl, ?_⟩) hSS ?_
          rotate_left 1
          · intro wS hwS
            obtain ⟨f0, f1, ⟨f2, f3, f4⟩, ⟨f5, f6, f7⟩, f8, f9, f10⟩ := F.out wS hwS; go_simp
            try with_reducible rfl
          simp only [List.getElem_toArray, List.getElem_cons_succ, List.getElem_cons_zero, Act.put, List.setIfInBounds_toArray, List.set_cons_zero, List.set_cons_succ]
          refine wpAnyH_take (i := 10) (v := ?_) rfl (by kernel_rfl) (by kernel_rfl) (by kernel_rfl) (fun _ _ _ h => h) (Or.inl ⟨by rfl, ?_⟩) hSS ?_
          rotate_left 1
          · intro wS hwS
            obtain ⟨f0, f1, ⟨f2, f3, f4⟩, ⟨f5, f6, f7⟩, f8, f9, f10⟩ := F.out wS hwS; go_simp
            try with_reducible rfl
          simp only [List.getElem_toArray, List.getElem_cons_succ, List.getElem_cons_zero, Act.put, List.setIfInBounds_toArray, List.set_cons_zero, List.set_cons_succ]
          refine wpAnyH_one (i := 11) rfl (by kernel_rfl) rfl (fun K hK => ?_)
          go_simp
          refine k_of (fun wz => Bx wz wd.heap.size (#[.int .i64 0, .int .i64 Y, .slice none 0 0, .int .i64 0, .int .i64 Z, .slice none 0 0]) 27 ∧ Qw wd wz) ⟨Bx.drew (Bx.drew (Bx.new wd _ _)), Qw.dr (Qw.dr (Qw.al (Qw.refl wd) _))⟩ ?_
          rintro we ⟨r, q⟩
          obtain ⟨G4, hG4⟩ : ∃ G, G = wd.heap.size := ⟨_, rfl⟩
          rw [← hG4] at r ⊢
          have R4 := Lib.hid r
          have Qwe : Hid (Qw w5 we) := Lib.hid (Qw.trans Qwd.out q)
          have Uwe : Hid (Qw wd we) := Lib.hid q
          have LG4 : Hid (G4 = wd.heap.size) := Lib.hid hG4
          clear r q hG4
          have hSS := (HS.out we).2 (LV.out.kept Qwe.out)
          refine hK _ _ hSS ?_
          clear hK K
          try simp only [List.getElem_toArray, List.getElem_cons_succ, List.getElem_cons_zero, Act.put, List.setIfInBounds_toArray, List.set_cons_zero, List.set_cons_succ]
          replace R3 := Lib.hid (R3.out.kept Uwe.out)
          refine wpAnyH_take (i := 12) (v := ?_) rfl (by kernel_rfl) (by kernel_rfl) (by kernel_rfl) (fun _ _ _ h => h) (Or.inl ⟨by rfl, ?_⟩) hSS ?_
          rotate_left 1
          · intro wS hwS
            go_simp
            try with_reducible rfl
          simp only [List.getElem_toArray, List.getElem_cons_succ, List.getElem_cons_zero, Act.put, List.setIfInBounds_toArray, List.set_cons_zero, List.set_cons_succ]
          refine wpAnyH_one (i := 13) rfl (by kernel_rfl) rfl (fun K hK => ?_)
          go_simp
          refine k_of (fun wz => Bx wz we.heap.size (#[.int .i64 0, .int .i64 X, .slice none 0 0, .int .i64 (ok : Nat), .int .i64 0, .slice (some ⟨G4, 0, none⟩) 2 2]) 27 ∧ Qw we wz) ⟨Bx.new we _ _, Qw.al (Qw.refl we) _⟩ ?_
          rintro wf5 ⟨r, q⟩
          obtain ⟨G5, hG5⟩ : ∃ G, G = we.heap.size := ⟨_, rfl⟩
          rw [← hG5] at r ⊢
          have R5 := Lib.hid r
          have Qwf5 : Hid (Qw w5 wf5) := Lib.hid (Qw.trans Qwe.out q)
          have Uwf5 : Hid (Qw we wf5) := Lib.hid q
          have LG5 : Hid (G5 = we.heap.size) := Lib.hid hG5
          clear r q hG5
          have hSS := (HS.out wf5).2 (LV.out.kept Qwf5.out)
          refine hK _ _ hSS ?_
          clear hK K
          try simp only [List.getElem_toArray, List.getElem_cons_succ, List.getElem_cons_zero, Act.put, List.setIfInBounds_toArray, List.set_cons_zero, List.set_cons_succ]
          replace R4 := Lib.hid (R4.out.kept Uwf5.out)
          replace R3 := Lib.hid (R3.out.kept Uwf5.out)
          refine wpAnyH_take (i := 14) (v := ?_) rfl (by kernel_rfl) (by kernel_rfl) (by kernel_rfl) (fun _ _ _ h => h) (Or.inl ⟨by rfl, ?_⟩) hSS ?_
          rotate_left 1
          · intro wS hwS
            go_simp
            try with_reducible rfl
          simp only [List.getElem_toArray, List.getElem_cons_succ, List.getElem_cons_zero, Act.put, List.setIfInBounds_toArray, List.set_cons_zero, List.set_cons_succ]
          have ne4 : G4 ≠ G3 := by have := LG4.out; have := G3D.out; omega
          have ne5 : G5 ≠ G3 := by have := LG5.out; have := Uwe.out.size; have := G3D.out; omega
          refine wpAnyH_one (i := 15) rfl (by kernel_rfl) rfl (fun K hK => ?_)
          have zc0 := R3.out.cell' 0 _ rfl
          have zf0 := R3.out.free 0
          have zc1 := R3.out.cell' 1 _ rfl
          have zf1 := R3.out.free 1
          have zc2 := R3.out.cell' 2 _ rfl
          have zf2 := R3.out.free 2
          go_simp
          refine k_of (fun wz => Bx wz G4 (#[.int .i64 0, .int .i64 Y, .slice none 0 0, .int .i64 0, .int .i64 Z, .slice none 0 0]) 27 ∧ Bx wz G5 (#[.int .i64 0, .int .i64 X, .slice none 0 0, .int .i64 (ok : Nat), .int .i64 0, .slice (some ⟨G4, 0, none⟩) 2 2]) 27 ∧ Bx wz G3 (#[.int .i64 (oi : Nat), .int .i64 0, .slice (some ⟨G5, 0, none⟩) 2 2]) 27 ∧ Qw w5 wz) ⟨((R4.out.other ne4 _).other ne4 _).other ne4 _, ((R5.out.other ne5 _).other ne5 _).other ne5 _, ((R3.out.set 0 _).set 1 _).set 2 _, Qw.sc (Qw.sc (Qw.sc Qwf5.out GE3.out _) GE3.out _) GE3.out _⟩ ?_
          clear zc0 zc1 zc2 zf0 zf1 zf2
          rintro wg5 ⟨r_R4, r_R5, r3, q⟩
          replace R4 := Lib.hid r_R4
          replace R5 := Lib.hid r_R5
          replace R3 := Lib.hid r3
          have Qwg5 := Lib.hid q
          clear r3 q r_R4 r_R5
          have hSS := (HS.out wg5).2 (LV.out.kept Qwg5.out)
          refine hK _ _ hSS ?_
          clear hK K
          try simp only [List.getElem_toArray, List.getElem_cons_succ, List.getElem_cons_zero, Act.put, List.setIfInBounds_toArray, List.set_cons_zero, List.set_cons_succ]
          refine wpAnyH_done (by kernel_rfl) ?_ _
          have KZ : Hid (KidsB wg5 (fun _ => True) (some ⟨G5, 0, none⟩) 2 W.ks) := Lib.hid (by rw [WL.out]; exact KidsB.two (x := Sy.num X) (y := Sy.bin (ok : Nat) (Sy.num Y) (Sy.num Z)) R5.out trivial (KidsB.nl _ _ (by decide)) (KidsB.two (x := Sy.num Y) (y := Sy.num Z) R4.out trivial (KidsB.nl _ _ (by decide)) (KidsB.nl _ _ (by decide))))
          have CE : Hid (∀ wf, Qw wg5 wf → Calls Tryz.prog 16 #[.agg #[.int .i64 W.op, .int .i64 W.n, .slice q4 W.ks.length q5], .agg #[.int .i64 (oi : Nat), .int .i64 0, .slice (some ⟨G5, 0, none⟩) 2 2]] wf fun e w' => e = .returned (.bool true) ∧ Qw wf w') := Lib.hid (fun wf q => by have h := sx_sameExpr W q4 (some ⟨G5, 0, none⟩) q5 2 _ (fun _ => True) wf (KX.out.kept (Qw.trans Qwg5.out q)) (KZ.out.kept q); rw [WL.out] at h ⊢; exact h)
          have XB0 := XB
          clear LV S1 S2 HBk KX KZ WL HS F
          go_wp2_with (first
            | (go_at_call 15; ((with_reducible refine (AW.out _ (Qw.trans QQ.out Qwg5.out)).mono ?_); rintro e wf ⟨rfl, qf⟩; have pb := XB0.out.kept (Qw.trans Qwg5.out qf); have p0 : wf.cell? ⟨PB, 0, none⟩ = some (.int .i64 1) := pb.cell' 0 _ rfl; have p7 : wf.cell? ⟨PB, 7, none⟩ = some (.int .i64 W.op) := pb.cell' 7 _ rfl; have p8 : wf.cell? ⟨PB, 8, none⟩ = some (.int .i64 W.n) := pb.cell' 8 _ rfl; have p9 : wf.cell? ⟨PB, 9, none⟩ = some (.slice q4 W.ks.length q5) := pb.cell' 9 _ rfl; have pz := R3.out.kept qf; have z0 := pz.cell' 0 _ rfl; have z1 := pz.cell' 1 _ rfl; have z2 := pz.cell' 2 _ rfl; have QF := Lib.hid qf; clear pb pz qf))
            | (go_at_call 16; ((with_reducible refine (CE.out _ QF.out).mono ?_); rintro e wg ⟨rfl, qg⟩; have QG := Lib.hid qg; clear qg)))
          go_ret
          exact ⟨rfl, Qw.trans (Qw.trans (Qw.trans QQ.out Qwg5.out) QF.out) QG.out⟩
        · have dl : ¬ (li : Int) < (lk : Int) := by omega
          have WL : Hid (W = Sy.bin (ok : Nat) (Sy.bin (oi : Nat) (Sy.num X) (Sy.num Y)) (Sy.num Z)) := Lib.hid (by rw [← hW, ← hoi, ← hok]; unfold Sy.want; rw [if_neg (by rw [hli, hlk]; exact hlk2)])
          clear hlk2
          refine wpAnyH_take (i := 0) (v := ?_) rfl (by kernel_rfl) (by kernel_rfl) (by kernel_rfl) (fun _ _ _ h => h) (Or.inl ⟨by rfl, ?_⟩) hSS ?_
          rotate_left 1
          · intro wS hwS
            go_simp
            try with_reducible rfl
          simp only [List.getElem_toArray, List.getElem_cons_succ, List.getElem_cons_zero, Act.put, List.setIfInBounds_toArray, List.set_cons_zero, List.set_cons_succ]
          refine wpAnyH_take (i := 1) (v := ?_) rfl (by kernel_rfl) (by kernel_rfl) (by kernel_rfl) (fun _ _ _ h => h) (Or.inl ⟨by rfl, ?_⟩) hSS ?_
          rotate_left 1
          · intro wS hwS
            go_simp
            try with_reducible rfl
          simp only [List.getElem_toArray, List.getElem_cons_succ, List.getElem_cons_zero, Act.put, List.setIfInBounds_toArray, List.set_cons_zero, List.set_cons_succ]
          refine wpAnyH_take (i := 2) (v := ?_) rfl (by kernel_rfl) (by kernel_rfl) (by kernel_rfl) (fun _ _ _ h => h) (Or.inl ⟨by rfl, ?_⟩) hSS ?_
          rotate_left 1
          · intro wS hwS
            go_simp
            try with_reducible rfl
          simp only [List.getElem_toArray, List.getElem_cons_succ, List.getElem_cons_zero, Act.put, List.setIfInBounds_toArray, List.set_cons_zero, List.set_cons_succ]
          refine wpAnyH_take (i := 3) (v := ?_) rfl (by kernel_rfl) (by kernel_rfl) (by kernel_rfl) (fun _ _ _ h => h) (Or.inl ⟨by rfl, ?_⟩) hSS ?_
          rotate_left 1
          · intro wS hwS
            obtain ⟨f0, f1⟩ := F2.out wS hwS; go_simp
            try with_reducible rfl
          simp only [List.getElem_toArray, List.getElem_cons_succ, List.getElem_cons_zero, Act.put, List.setIfInBounds_toArray, List.set_cons_zero, List.set_cons_succ]
          refine wpAnyH_take (i := 4) (v := ?_) rfl (by kernel_rfl) (by kernel_rfl) (by kernel_rfl) (fun _ _ _ h => h) (Or.inl ⟨by rfl, ?_⟩) hSS ?_
          rotate_left 1
          · intro wS hwS
            go_simp
            try with_reducible rfl
          simp only [List.getElem_toArray, List.getElem_cons_succ, List.getElem_cons_zero, Act.put, List.setIfInBounds_toArray, List.set_cons_zero, List.set_cons_succ]
          refine wpAnyH_take (i := 5) (v := ?_) rfl (by kernel_rfl) (by kernel_rfl) (by kernel_rfl) (fun _ _ _ h => h) (Or.inl ⟨by rfl, ?_⟩) hSS ?_
          rotate_left 1
          · intro wS hwS
            go_simp
            try with_reducible rfl
          simp only [List.getElem_toArray, List.getElem_cons_succ, List.getElem_cons_zero, Act.put, List.setIfInBounds_toArray, List.set_cons_zero, List.set_cons_succ]
          refine wpAnyH_take (i := 6) (v := ?_) rfl (by kernel_rfl) (by kernel_rfl) (by kernel_rfl) (fun _ _ _ h => h) (Or.inl ⟨by rfl, ?_⟩) hSS ?_
          rotate_left 1
          · intro wS hwS
            go_simp
            try with_reducible rfl
          simp only [List.getElem_toArray, List.getElem_cons_succ, List.getElem_cons_zero, Act.put, List.setIfInBounds_toArray, List.set_cons_zero, List.set_cons_succ]
          refine wpAnyH_take (i := 7) (v := ?_) rfl (by kernel_rfl) (by kernel_rfl) (by kernel_rfl) (fun _ _ _ h => h) (Or.inl ⟨by rfl, ?_⟩) hSS ?_
          rotate_left 1
          · intro wS hwS
            obtain ⟨f0, f1⟩ := F2.out wS hwS; go_simp
            try with_reducible rfl
          simp only [List.getElem_toArray, List.getElem_cons_succ, List.getElem_cons_zero, Act.put, List.setIfInBounds_toArray, List.set_cons_zero, List.set_cons_succ]
          refine wpAnyH_take (i := 8) (v := ?_) rfl (by kernel_rfl) (by kernel_rfl) (by kernel_rfl) (fun _ _ _ h => h) (Or.inl ⟨by rfl, ?_⟩) hSS ?_
          rotate_left 1
          · intro wS hwS
            go_simp
            try with_reducible rfl
          simp only [List.getElem_toArray, List.getElem_cons_succ, List.getElem_cons_zero, Act.put, List.setIfInBounds_toArray, List.set_cons_zero, List.set_cons_succ]
          refine wpAnyH_done (by kernel_rfl) ?_ _
          clear hSS HS2 F2
          have KZ : Hid (KidsB wd (fun _ => True) (some ⟨G2, 0, none⟩) 2 W.ks) := Lib.hid (by rw [WL.out]; exact KidsB.two (x := Sy.bin (oi : Nat) (Sy.num X) (Sy.num Y)) (y := Sy.num Z) R2.out trivial (KidsB.two (x := Sy.num X) (y := Sy.num Y) R1.out trivial (KidsB.nl _ _ (by decide)) (KidsB.nl _ _ (by decide))) (KidsB.nl _ _ (by decide)))
          have CE : Hid (∀ wf, Qw wd wf → Calls Tryz.prog 16 #[.agg #[.int .i64 W.op, .int .i64 W.n, .slice q4 W.ks.length q5], .agg #[.int .i64 (ok : Nat), .int .i64 0, .slice (some ⟨G2, 0, none⟩) 2 2]] wf fun e w' => e = .returned (.bool true) ∧ Qw wf w') := Lib.hid (fun wf q => by have h := sx_sameExpr W q4 (some ⟨G2, 0, none⟩) q5 2 _ (fun _ => True) wf (KX.out.kept (Qw.trans Qwd.out q)) (KZ.out.kept q); rw [WL.out] at h ⊢; exact h)
          have XB0 := XB
          clear LV S1 S2 HBk KX KZ WL
          go_wp2_with (first
            | (go_at_call 15; ((with_reducible refine (AW.out _ (Qw.trans QQ.out (Qw.dr Qwd.out))).mono ?_); rintro e wf ⟨rfl, qf0⟩; have qf := Qw.trans (Qw.dr (Qw.refl wd)) qf0; clear qf0; have pb := XB0.out.kept (Qw.trans Qwd.out qf); have p0 : wf.cell? ⟨PB, 0, none⟩ = some (.int .i64 1) := pb.cell' 0 _ rfl; have p7 : wf.cell? ⟨PB, 7, none⟩ = some (.int .i64 W.op) := pb.cell' 7 _ rfl; have p8 : wf.cell? ⟨PB, 8, none⟩ = some (.int .i64 W.n) := pb.cell' 8 _ rfl; have p9 : wf.cell? ⟨PB, 9, none⟩ = some (.slice q4 W.ks.length q5) := pb.cell' 9 _ rfl; have pz := R3.out.kept qf; have z0 := pz.cell' 0 _ rfl; have z1 := pz.cell' 1 _ rfl; have z2 := pz.cell' 2 _ rfl; have QF := Lib.hid qf; clear pb pz qf))
            | (go_at_call 16; ((with_reducible refine (CE.out _ QF.out).mono ?_); rintro e wg ⟨rfl, qg⟩; have QG := Lib.hid qg; clear qg)))
          go_ret
          exact ⟨rfl, Qw.trans (Qw.trans (Qw.trans QQ.out Qwd.out) QF.out) QG.out⟩
    · go_upto_region 10 with fail
      clear ci0 ck0 e1 e2
      obtain ⟨S, hS⟩ : ∃ S : World → Prop, ∀ w', S w' ↔ Lvw w' B1 P0 P1 P2 X Y Z := ⟨_, fun _ => Iff.rfl⟩
      have F := Lib.hid (fun w' (q : S w') => Lvw.cells ((hS w').1 q) hi hk)
      have HS := Lib.hid hS
      have LV : Hid (Lvw w5 B1 P0 P1 P2 X Y Z) := Lib.hid ⟨S1.out, X0.out, X1.out, X2.out⟩
      obtain ⟨W, hW⟩ : ∃ W, Sy.want i k X Y Z = W := ⟨_, rfl⟩
      rw [hW] at XB HBk
      have KX := Lib.hid (blk_x HBk.out)
      clear hS o1 o2 xc0 xc1 xc2 yc0 yc1 yc2 zc0 zc1 zc2 lB l0 l1 l2 nB nB' n0 n1 n2 n2' XBO
      obtain ⟨oi, hoi⟩ : ∃ o, Sy.opN i = o := ⟨_, rfl⟩
      obtain ⟨ok, hok⟩ : ∃ o, Sy.opN k = o := ⟨_, rfl⟩
      rw [hoi, hok] at F
      have Qw5 : Hid (Qw w5 w5) := Lib.hid (Qw.refl w5)
      refine wp_region_held (S := S) (by kernel_rfl) ?_
      change wpAnyH _ _ _ _ _ _ _ _ (World.drew w5)
      have hSS : S (World.drew w5) := (HS.out _).2 (Lvw.dr LV.out)
      refine wpAnyH_take (i := 0) (v := ?_) rfl (by kernel_rfl) (by kernel_rfl) (by kernel_rfl) (fun _ _ _ h => h) (Or.inl ⟨by rfl, ?_⟩) hSS ?_
      rotate_left 1
      · intro wS hwS
        go_simp
        try with_reducible rfl
      simp only [List.getElem_toArray, List.getElem_cons_succ, List.getElem_cons_zero, Act.put, List.setIfInBounds_toArray, List.set_cons_zero, List.set_cons_succ]
      refine wpAnyH_take (i := 1) (v := ?_) rfl (by kernel_rfl) (by kernel_rfl) (by kernel_rfl) (fun _ _ _ h => h) (Or.inl ⟨by rfl, ?_⟩) hSS ?_
      rotate_left 1
      · intro wS hwS
        go_simp
        try with_reducible rfl
      simp only [List.getElem_toArray, List.getElem_cons_succ, List.getElem_cons_zero, Act.put, List.setIfInBounds_toArray, List.set_cons_zero, List.set_cons_succ]
      refine wpAnyH_take (i := 2) (v := ?_) rfl (by kernel_rfl) (by kernel_rfl) (by kernel_rfl) (fun _ _ _ h => h) (Or.inl ⟨by rfl, ?_⟩) hSS ?_
      rotate_left 1
      · intro wS hwS
        go_simp
        try with_reducible rfl
      simp only [List.getElem_toArray, List.getElem_cons_succ, List.getElem_cons_zero, Act.put, List.setIfInBounds_toArray, List.set_cons_zero, List.set_cons_succ]
      refine wpAnyH_take (i := 3) (v := ?_) rfl (by kernel_rfl) (by kernel_rfl) (by kernel_rfl) (fun _ _ _ h => h) (Or.inl ⟨by rfl, ?_⟩) hSS ?_
      rotate_left 1
      · intro wS hwS
        obtain ⟨f0, f1, ⟨f2, f3, f4⟩, ⟨f5, f6, f7⟩, f8, f9, f10⟩ := F.out wS hwS; go_simp
        try with_reducible rfl
      simp only [List.getElem_toArray, List.getElem_cons_succ, List.getElem_cons_zero, Act.put, List.setIfInBounds_toArray, List.set_cons_zero, List.set_cons_succ]
      refine wpAnyH_take (i := 4) (v := ?_) rfl (by kernel_rfl) (by kernel_rfl) (by kernel_rfl) (fun _ _ _ h => h) (Or.inl ⟨by rfl, ?_⟩) hSS ?_
      rotate_left 1
      · intro wS hwS
        go_simp
        try with_reducible rfl
      simp only [List.getElem_toArray, List.getElem_cons_succ, List.getElem_cons_zero, Act.put, List.setIfInBounds_toArray, List.set_cons_zero, List.set_cons_succ]
      refine wpAnyH_take (i := 5) (v := ?_) rfl (by kernel_rfl) (by kernel_rfl) (by kernel_rfl) (fun _ _ _ h => h) (Or.inl ⟨by rfl, ?_⟩) hSS ?_
      rotate_left 1
      · intro wS hwS
        go_simp
        try with_reducible rfl
      simp only [List.getElem_toArray, List.getElem_cons_succ, List.getElem_cons_zero, Act.put, List.setIfInBounds_toArray, List.set_cons_zero, List.set_cons_succ]
      refine wpAnyH_take (i := 6) (v := ?_) rfl (by kernel_rfl) (by kernel_rfl) (by kernel_rfl) (fun _ _ _ h => h) (Or.inl ⟨by rfl, ?_⟩) hSS ?_
      rotate_left 1
      · intro wS hwS
        go_simp
        try with_reducible rfl
      simp only [List.getElem_toArray, List.getElem_cons_succ, List.getElem_cons_zero, Act.put, List.setIfInBounds_toArray, List.set_cons_zero, List.set_cons_succ]
      refine wpAnyH_take (i := 7) (v := ?_) rfl (by kernel_rfl) (by kernel_rfl) (by kernel_rfl) (fun _ _ _ h => h) (Or.inl ⟨by rfl, ?_⟩) hSS ?_
      rotate_left 1
      · intro wS hwS
        obtain ⟨f0, f1, ⟨f2, f3, f4⟩, ⟨f5, f6, f7⟩, f8, f9, f10⟩ := F.out wS hwS; go_simp
        try with_reducible rfl
      simp only [List.getElem_toArray, List.getElem_cons_succ, List.getElem_cons_zero, Act.put, List.setIfInBounds_toArray, List.set_cons_zero, List.set_cons_succ]
      refine wpAnyH_take (i := 8) (v := ?_) rfl (by kernel_rfl) (by kernel_rfl) (by kernel_rfl) (fun _ _ _ h => h) (Or.inl ⟨by rfl, ?_⟩) hSS ?_
      rotate_left 1
      · intro wS hwS
        obtain ⟨f0, f1, ⟨f2, f3, f4⟩, ⟨f5, f6, f7⟩, f8, f9, f10⟩ := F.out wS hwS; go_simp
        try with_reducible rfl
      simp only [List.getElem_toArray, List.getElem_cons_succ, List.getElem_cons_zero, Act.put, List.setIfInBounds_toArray, List.set_cons_zero, List.set_cons_succ]
      refine wpAnyH_take (i := 9) (v := ?_) rfl (by kernel_rfl) (by kernel_rfl) (by kernel_rfl) (fun _ _ _ h => h) (Or.inl ⟨by rfl, ?_⟩) hSS ?_
      rotate_left 1
      · intro wS hwS
        obtain ⟨f0, f1, ⟨f2, f3, f4⟩, ⟨f5, f6, f7⟩, f8, f9, f10⟩ := F.out wS hwS; go_simp
        try with_reducible rfl
      simp only [List.getElem_toArray, List.getElem_cons_succ, List.getElem_cons_zero, Act.put, List.setIfInBounds_toArray, List.set_cons_zero, List.set_cons_succ]
      refine wpAnyH_take (i := 12) (v := ?_) rfl (by kernel_rfl) (by kernel_rfl) (by kernel_rfl) (fun _ _ _ h => h) (Or.inl ⟨by rfl, ?_⟩) hSS ?_
      rotate_left 1
      · intro wS hwS
        obtain ⟨f0, f1, ⟨f2, f3, f4⟩, ⟨f5, f6, f7⟩, f8, f9, f10⟩ := F.out wS hwS; go_simp
        try with_reducible rfl
      simp only [List.getElem_toArray, List.getElem_cons_succ, List.getElem_cons_zero, Act.put, List.setIfInBounds_toArray, List.set_cons_zero, List.set_cons_succ]
      refine wpAnyH_two (i := 10) (j := 15) rfl rfl (by kernel_rfl) rfl rfl (fun K hK => ?_) (fun K hK => ?_)
      · go_simp
        refine k_of (fun wz => Bx wz w5.heap.size (#[.int .i64 0, .int .i64 X, .slice none 0 0, .int .i64 0, .int .i64 Y, .slice none 0 0]) 27 ∧ Qw w5 wz) ⟨Bx.drew (Bx.new w5 _ _), Qw.dr (Qw.al (Qw.refl w5) _)⟩ ?_
        rintro wa ⟨r, q⟩
        obtain ⟨G1, hG1⟩ : ∃ G, G = w5.heap.size := ⟨_, rfl⟩
        rw [← hG1] at r ⊢
        have R1 := Lib.hid r
        have Qwa : Hid (Qw w5 wa) := Lib.hid (Qw.trans Qw5.out q)
        have Uwa : Hid (Qw w5 wa) := Lib.hid q
        have LG1 : Hid (G1 = w5.heap.size) := Lib.hid hG1
        clear r q hG1
        have hSS := (HS.out wa).2 (LV.out.kept Qwa.out)
        refine hK _ _ hSS ?_
        clear hK K
        try simp only [List.getElem_toArray, List.getElem_cons_succ, List.getElem_cons_zero, Act.put, List.setIfInBounds_toArray, List.set_cons_zero, List.set_cons_succ]
        refine wpAnyH_take (i := 11) (v := ?_) rfl (by kernel_rfl) (by kernel_rfl) (by kernel_rfl) (fun _ _ _ h => h) (Or.inl ⟨by rfl, ?_⟩) hSS ?_
        rotate_left 1
        · intro wS hwS
          go_simp
          try with_reducible rfl
        simp only [List.getElem_toArray, List.getElem_cons_succ, List.getElem_cons_zero, Act.put, List.setIfInBounds_toArray, List.set_cons_zero, List.set_cons_succ]
        have M1 : Hid (w5.heap.size < wa.heap.size) := Lib.hid (by have := R1.out.lt; have := LG1.out; omega)
        refine wpAnyH_two (i := 13) (j := 15) rfl rfl (by kernel_rfl) rfl rfl (fun K hK => ?_) (fun K hK => ?_)
        · go_simp
          refine k_of (fun wz => Bx wz wa.heap.size (#[.int .i64 (oi : Nat), .int .i64 0, .slice (some ⟨G1, 0, none⟩) 2 2, .int .i64 0, .int .i64 Z, .slice none 0 0]) 27 ∧ Qw wa wz) ⟨Bx.new wa _ _, Qw.al (Qw.refl wa) _⟩ ?_
          rintro wb ⟨r, q⟩
          obtain ⟨G2, hG2⟩ : ∃ G, G = wa.heap.size := ⟨_, rfl⟩
          rw [← hG2] at r ⊢
          have R2 := Lib.hid r
          have Qwb : Hid (Qw w5 wb) := Lib.hid (Qw.trans Qwa.out q)
          have Uwb : Hid (Qw wa wb) := Lib.hid q
          have LG2 : Hid (G2 = wa.heap.size) := Lib.hid hG2
          clear r q hG2
          have hSS := (HS.out wb).2 (LV.out.kept Qwb.out)
          refine hK _ _ hSS ?_
          clear hK K
          try simp only [List.getElem_toArray, List.getElem_cons_succ, List.getElem_cons_zero, Act.put, List.setIfInBounds_toArray, List.set_cons_zero, List.set_cons_succ]
          replace R1 := Lib.hid (R1.out.kept Uwb.out)
          refine wpAnyH_take (i := 14) (v := ?_) rfl (by kernel_rfl) (by kernel_rfl) (by kernel_rfl) (fun _ _ _ h => h) (Or.inl ⟨by rfl, ?_⟩) hSS ?_
          rotate_left 1
          · intro wS hwS
            go_simp
            try with_reducible rfl
          simp only [List.getElem_toArray, List.getElem_cons_succ, List.getElem_cons_zero, Act.put, List.setIfInBounds_toArray, List.set_cons_zero, List.set_cons_succ]
          have M2 : Hid (wa.heap.size < wb.heap.size) := Lib.hid (by have := R2.out.lt; have := LG2.out; omega)
          refine wpAnyH_one (i := 15) rfl (by kernel_rfl) rfl (fun K hK => ?_)
          go_simp
          refine k_of (fun wz => Bx wz wb.heap.size (#[.int .i64 0, .int .i64 0, .slice none 0 0]) 27 ∧ Qw wb wz) ⟨Bx.new wb _ _, Qw.al (Qw.refl wb) _⟩ ?_
          rintro wc ⟨r, q⟩
          obtain ⟨G3, hG3⟩ : ∃ G, G = wb.heap.size := ⟨_, rfl⟩
          rw [← hG3] at r ⊢
          have R3 := Lib.hid r
          have Qwc : Hid (Qw w5 wc) := Lib.hid (Qw.trans Qwb.out q)
          have Uwc : Hid (Qw wb wc) := Lib.hid q
          have LG3 : Hid (G3 = wb.heap.size) := Lib.hid hG3
          clear r q hG3
          have hSS := (HS.out wc).2 (LV.out.kept Qwc.out)
          refine hK _ _ hSS ?_
          clear hK K
          try simp only [List.getElem_toArray, List.getElem_cons_succ, List.getElem_cons_zero, Act.put, List.setIfInBounds_toArray, List.set_cons_zero, List.set_cons_succ]
          replace R1 := Lib.hid (R1.out.kept Uwc.out)
          replace R2 := Lib.hid (R2.out.kept Uwc.out)
          have GE3 : Hid (w5.heap.size ≤ G3) := Lib.hid (by have := LG3.out; have := Qwa.out.size; have := Qwb.out.size; omega)
          have s1 := R1.out.lt
          have s2 := R2.out.lt
          have s3 := R3.out.lt
          have ne1 : G1 ≠ G3 := by have e1 := LG1.out; have e2 := LG3.out; have := M1.out; have := M2.out; omega
          have ne2 : G2 ≠ G3 := by have e1 := LG2.out; have e2 := LG3.out; have := M1.out; have := M2.out; omega
          refine wpAnyH_one (i := 16) rfl (by kernel_rfl) rfl (fun K hK => ?_)
          have zc0 := R3.out.cell' 0 _ rfl
          have zf0 := R3.out.free 0
          have zc1 := R3.out.cell' 1 _ rfl
          have zf1 := R3.out.free 1
          have zc2 := R3.out.cell' 2 _ rfl
          have zf2 := R3.out.free 2
          go_simp
          refine k_of (fun wz => Bx wz G1 (#[.int .i64 0, .int .i64 X, .slice none 0 0, .int .i64 0, .int .i64 Y, .slice none 0 0]) 27 ∧ Bx wz G2 (#[.int .i64 (oi : Nat), .int .i64 0, .slice (some ⟨G1, 0, none⟩) 2 2, .int .i64 0, .int .i64 Z, .slice none 0 0]) 27 ∧ Bx wz G3 (#[.int .i64 (ok : Nat), .int .i64 0, .slice (some ⟨G2, 0, none⟩) 2 2]) 27 ∧ Qw w5 wz) ⟨((R1.out.other ne1 _).other ne1 _).other ne1 _, ((R2.out.other ne2 _).other ne2 _).other ne2 _, ((R3.out.set 0 _).set 1 _).set 2 _, Qw.sc (Qw.sc (Qw.sc Qwc.out GE3.out _) GE3.out _) GE3.out _⟩ ?_
          clear zc0 zc1 zc2 zf0 zf1 zf2
          rintro wd ⟨r_R1, r_R2, r3, q⟩
          replace R1 := Lib.hid r_R1
          replace R2 := Lib.hid r_R2
          replace R3 := Lib.hid r3
          have Qwd := Lib.hid q
          clear r3 q r_R1 r_R2
          have hSS := (HS.out wd).2 (LV.out.kept Qwd.out)
          refine hK _ _ hSS ?_
          clear hK K
          try simp only [List.getElem_toArray, List.getElem_cons_succ, List.getElem_cons_zero, Act.put, List.setIfInBounds_toArray, List.set_cons_zero, List.set_cons_succ]
          refine wpAnyH_done (by kernel_rfl) ?_ _
          have G3D : Hid (G3 < wd.heap.size) := Lib.hid R3.out.lt
          clear HS F s1 s2 s3 ne1 ne2 Qwa Qwb Qwc Uwa Uwb Uwc M1 M2 LG1 LG2 LG3
          clear hSS
          go_upto_region 11 with fail
          obtain ⟨S, hS⟩ : ∃ S : World → Prop, ∀ w', S w' ↔ Bx w' B2 levA 3 := ⟨_, fun _ => Iff.rfl⟩
          have F2 := Lib.hid (fun w' (q : S w') => levc ((hS w').1 q) hi hk)
          have HS2 := Lib.hid hS
          rw [hli, hlk] at F2
          clear hS
          refine wp_region_held (S := S) (by kernel_rfl) ?_
          change wpAnyH _ _ _ _ _ _ _ _ (World.drew wd)
          have hSS : S (World.drew wd) := (HS2.out _).2 (Bx.drew (S2.out.kept Qwd.out))
          by_cases hlk2 : li < lk
          · have dl : (li : Int) < (lk : Int) := by omega
            have WL : Hid (W = Sy.bin (oi : Nat) (Sy.num X) (Sy.bin (ok : Nat) (Sy.num Y) (Sy.num Z))) := Lib.hid (by rw [← hW, ← hoi, ← hok]; unfold Sy.want; rw [if_pos (by rw [hli, hlk]; exact hlk2)])
            clear hlk2
            refine wpAnyH_take (i := 0) (v := ?_) rfl (by kernel_rfl) (by kernel_rfl) (by kernel_rfl) (fun _ _ _ h => h) (Or.inl ⟨by rfl, ?_⟩) hSS ?_
            rotate_left 1
            · intro wS hwS
              go_simp
              try with_reducible rfl
            simp only [List.getElem_toArray, List.getElem_cons_succ, List.getElem_cons_zero, Act.put, List.setIfInBounds_toArray, List.set_cons_zero, List.set_cons_succ]
            refine wpAnyH_take (i := 1) (v := ?_) rfl (by kernel_rfl) (by kernel_rfl) (by kernel_rfl) (fun _ _ _ h => h) (Or.inl ⟨by rfl, ?_⟩) hSS ?_
            rotate_left 1
            · intro wS hwS
              go_simp
              try with_reducible rfl
            simp only [List.getElem_toArray, List.getElem_cons_succ, List.getElem_cons_zero, Act.put, List.setIfInBounds_toArray, List.set_cons_zero, List.set_cons_succ]
            refine wpAnyH_take (i := 2) (v := ?_) rfl (by kernel_rfl) (by kernel_rfl) (by kernel_rfl) (fun _ _ _ h => h) (Or.inl ⟨by rfl, ?_⟩) hSS ?_
            rotate_left 1
            · intro wS hwS
              go_simp
              try with_reducible rfl
            simp only [List.getElem_toArray, List.getElem_cons_succ, List.getElem_cons_zero, Act.put, List.setIfInBounds_toArray, List.set_cons_zero, List.set_cons_succ]
            refine wpAnyH_take (i := 3) (v := ?_) rfl (by kernel_rfl) (by kernel_rfl) (by kernel_rfl) (fun _ _ _ h => h) (Or.inl ⟨by rfl, ?_⟩) hSS ?_
            rotate_left 1
            · intro wS hwS
              obtain ⟨f0, f1⟩ := F2.out wS hwS; go_simp
              try with_reducible rfl
            simp only [List.getElem_toArray, List.getElem_cons_succ, List.getElem_cons_zero, Act.put, List.setIfInBounds_toArray, List.set_cons_zero, List.set_cons_succ]
            refine wpAnyH_take (i := 4) (v := ?_) rfl (by kernel_rfl) (by kernel_rfl) (by kernel_rfl) (fun _ _ _ h => h) (Or.inl ⟨by rfl, ?_⟩) hSS ?_
            rotate_left 1
            · intro wS hwS
              go_simp
              try with_reducible rfl
            simp only [List.getElem_toArray, List.getElem_cons_succ, List.getElem_cons_zero, Act.put, List.setIfInBounds_toArray, List.set_cons_zero, List.set_cons_succ]
            refine wpAnyH_take (i := 5) (v := ?_) rfl (by kernel_rfl) (by kernel_rfl) (by kernel_rfl) (fun _ _ _ h => h) (Or.inl ⟨by rfl, ?_⟩) hSS ?_
            rotate_left 1
            · intro wS hwS
              go_simp
              try with_reducible rfl
            simp only [List.getElem_toArray, List.getElem_cons_succ, List.getElem_cons_zero, Act.put, List.setIfInBounds_toArray, List.set_cons_zero, List.set_cons_succ]
            refine wpAnyH_take (i := 6) (v := ?_) rfl (by kernel_rfl) (by kernel_rfl) (by kernel_rfl) (fun _ _ _ h => h) (Or.inl ⟨by rfl, ?_⟩) hSS ?_
            rotate_left 1
            · intro wS hwS
              go_simp
              try with_reducible rfl
            simp only [List.getElem_toArray, List.getElem_cons_succ, List.getElem_cons_zero, Act.put, List.setIfInBounds_toArray, List.set_cons_zero, List.set_cons_succ]
            refine wpAnyH_take (i := 7) (v := ?_) rfl (by kernel_rfl) (by kernel_rfl) (by kernel_rfl) (fun _ _ _ h => h) (Or.inl ⟨by rfl, ?_⟩) hSS ?_
            rotate_left 1
            · intro wS hwS
              obtain ⟨f0, f1⟩ := F2.out wS hwS; go_simp
              try with_reducible rfl
            simp only [List.getElem_toArray, List.getElem_cons_succ, List.getElem_cons_zero, Act.put, List.setIfInBounds_toArray, List.set_cons_zero, List.set_cons_succ]
            refine wpAnyH_take (i := 8) (v := ?_) rfl (by kernel_rfl) (by kernel_rfl) (by kernel_rfl) (fun _ _ _ h => h) (Or.inl ⟨by rfl, ?_⟩) hSS ?_
            rotate_left 1
            · intro wS hwS
              go_simp
              try with_reducible rfl
            simp only [List.getElem_toArray, List.getElem_cons_succ, List.getElem_cons_zero, Act.put, List.setIfInBounds_toArray, List.set_cons_zero, List.set_cons_succ]
            refine wpAnyH_done (by kernel_rfl) ?_ _
            clear hSS HS2 F2
            go_upto_region 12 with fail
            clear dl
            obtain ⟨S, hS⟩ : ∃ S : World → Prop, ∀ w', S w' ↔ Lvw w' B1 P0 P1 P2 X Y Z := ⟨_, fun _ => Iff.rfl⟩
            have F := Lib.hid (fun w' (q : S w') => Lvw.cells ((hS w').1 q) hi hk)
            rw [hoi, hok] at F
            have HS := Lib.hid hS
            clear hS
            refine wp_region_held (S := S) (by kernel_rfl) ?_
            change wpAnyH _ _ _ _ _ _ _ _ (World.drew _)
            have hSS := (HS.out (World.drew (World.drew wd))).2 (Lvw.dr (Lvw.dr (LV.out.kept Qwd.out)))
            refine wpAnyH_take (i := 0) (v := ?_) rfl (by kernel_rfl) (by kernel_rfl) (by kernel_rfl) (fun _ _ _ h => h) (Or.inl ⟨by rfl, ?_⟩) hSS ?_
            rotate_left 1
            · intro wS hwS
              go_simp
              try with_reducible rfl
            simp only [List.getElem_toArray, List.getElem_cons_succ, List.getElem_cons_zero, Act.put, List.setIfInBounds_toArray, List.set_cons_zero, List.set_cons_succ]
            refine wpAnyH_take (i := 1) (v := ?_) rfl (by kernel_rfl) (by kernel_rfl) (by kernel_rfl) (fun _ _ _ h => h) (Or.inl ⟨by rfl, ?_⟩) hSS ?_
            rotate_left 1
            · intro wS hwS
              go_simp
              try with_reducible rfl
            simp only [List.getElem_toArray, List.getElem_cons_succ, List.getElem_cons_zero, Act.put, List.setIfInBounds_toArray, List.set_cons_zero, List.set_cons_succ]
            refine wpAnyH_take (i := 2) (v := ?_) rfl (by kernel_rfl) (by kernel_rfl) (by kernel_rfl) (fun _ _ _ h => h) (Or.inl ⟨by rfl, ?_⟩) hSS ?_
            rotate_left 1
            · intro wS hwS
              go_simp
              try with_reducible rfl
            simp only [List.getElem_toArray, List.getElem_cons_succ, List.getElem_cons_zero, Act.put, List.setIfInBounds_toArray, List.set_cons_zero, List.set_cons_succ]
            refine wpAnyH_take (i := 3) (v := ?_) rfl (by kernel_rfl) (by kernel_rfl) (by kernel_rfl) (fun _ _ _ h => h) (Or.inl ⟨by rfl, ?_⟩) hSS ?_
            rotate_left 1
            · intro wS hwS
              obtain ⟨f0, f1, ⟨f2, f3, f4⟩, ⟨f5, f6, f7⟩, f8, f9, f10⟩ := F.out wS hwS; go_simp
              try with_reducible rfl
            simp only [List.getElem_toArray, List.getElem_cons_succ, List.getElem_cons_zero, Act.put, List.setIfInBounds_toArray, List.set_cons_zero, List.set_cons_succ]
            refine wpAnyH_take (i := 4) (v := ?_) rfl (by kernel_rfl) (by kernel_rfl) (by kernel_rfl) (fun _ _ _ h => h) (Or.inl ⟨by rfl, ?_⟩) hSS ?_
            rotate_left 1
            · intro wS hwS
              obtain ⟨f0, f1, ⟨f2, f3, f4⟩, ⟨f5, f6, f7⟩, f8, f9, f10⟩ := F.out wS hwS; go_simp
              try with_reducible rfl
            simp only [List.getElem_toArray, List.getElem_cons_succ, List.getElem_cons_zero, Act.put, List.setIfInBounds_toArray, List.set_cons_zero, List.set_cons_succ]
            refine wpAnyH_take (i := 5) (v := ?_) rfl (by kernel_rfl) (by kernel_rfl) (by kernel_rfl) (fun _ _ _ h => h) (Or.inl ⟨by rfl, ?_⟩) hSS ?_
            rotate_left 1
            · intro wS hwS
              go_simp
              try with_reducible rfl
            simp only [List.getElem_toArray, List.getElem_cons_succ, List.getElem_cons_zero, Act.put, List.setIfInBounds_toArray, List.set_cons_zero, List.set_cons_succ]
            refine wpAnyH_take (i := 6) (v := ?_) rfl (by kernel_rfl) (by kernel_rfl) (by kernel_rfl) (fun _ _ _ h => h) (Or.inl ⟨by rfl, ?_⟩) hSS ?_
            rotate_left 1
            · intro wS hwS
              go_simp
              try with_reducible rfl
            simp only [List.getElem_toArray, List.getElem_cons_succ, List.getElem_cons_zero, Act.put, List.setIfInBounds_toArray, List.set_cons_zero, List.set_cons_succ]
            refine wpAnyH_take (i := 7) (v := ?_) rfl (by kernel_rfl) (by kernel_rfl) (by kernel_rfl) (fun _ _ _ h => h) (Or.inl ⟨by rfl, ?_⟩) hSS ?_
            rotate_left 1
            · intro wS hwS
              go_simp
              try with_reducible rfl
            simp only [List.getElem_toArray, List.getElem_cons_succ, List.getElem_cons_zero, Act.put, List.setIfInBounds_toArray, List.set_cons_zero, List.set_cons_succ]
            refine wpAnyH_take (i := 8) (v := ?_) rfl (by kernel_rfl) (by kernel_rfl) (by kernel_rfl) (fun _ _ _ h => h) (Or.inl ⟨by rfl, ?_⟩) hSS ?_
            rotate_left 1
            · intro wS hwS
              obtain ⟨f0, f1, ⟨f2, f3, f4⟩, ⟨f5, f6, f7⟩, f8, f9, f10⟩ := F.out wS hwS; go_simp
              try with_reducible rfl
            simp only [List.getElem_toArray, List.getElem_cons_succ, List.getElem_cons_zero, Act.put, List.setIfInBounds_toArray, List.set_cons_zero, List.set_cons_succ]
            refine wpAnyH_take (i := 9) (v := ?_) rfl (by kernel_rfl) (by kernel_rfl) (by kernel_rfl) (fun _ _ _ h => h) (Or.inl ⟨by rfl, ?_⟩) hSS ?_
            rotate_left 1
            · intro wS hwS
              obtain ⟨f0, f1, ⟨f2, f3, f4⟩, ⟨f5, f6, f7⟩, f8, f9, f10⟩ := F.out wS hwS; go_simp
              try with_reducible rfl
            simp only [List.getElem_toArray, List.getElem_cons_succ, List.getElem_cons_zero, Act.put, List.setIfInBounds_toArray, List.set_cons_zero, List.set_cons_succ]
            refine wpAnyH_take (i := 10) (v := ?_) rfl (by kernel_rfl) (by kernel_rfl) (by kernel_rfl) (fun _ _ _ h => h) (Or.inl ⟨by rfl, ?_⟩) hSS ?_
            rotate_left 1
            · intro wS hwS
              obtain ⟨f0, f1, ⟨f2, f3, f4⟩, ⟨f5, f6, f7⟩, f8, f9, f10⟩ := F.out wS hwS; go_simp
              try with_reducible rfl
            simp only [List.getElem_toArray, List.getElem_cons_succ, List.getElem_cons_zero, Act.put, List.setIfInBounds_toArray, List.set_cons_zero, List.set_cons_succ]
            refine wpAnyH_one (i := 11) rfl (by kernel_rfl) rfl (fun K hK => ?_)
            go_simp
            refine k_of (fun wz => Bx wz wd.heap.size (#[.int .i64 0, .int .i64 Y, .slice none 0 0, .int .i64 0, .int .i64 Z, .slice none 0 0]) 27 ∧ Qw wd wz) ⟨Bx.drew (Bx.drew (Bx.new wd _ _)), Qw.dr (Qw.dr (Qw.al (Qw.refl wd) _))⟩ ?_
            rintro we ⟨r, q⟩
            obtain ⟨G4, hG4⟩ : ∃ G, G = wd.heap.size := ⟨_, rfl⟩
            rw [← hG4] at r ⊢
            have R4 := Lib.hid r
            have Qwe : Hid (Qw w5 we) := Lib.hid (Qw.trans Qwd.out q)
            have Uwe : Hid (Qw wd we) := Lib.hid q
            have LG4 : Hid (G4 = wd.heap.size) := Lib.hid hG4
            clear r q hG4
            have hSS := (HS.out we).2 (LV.out.kept Qwe.out)
            refine hK _ _ hSS ?_
            clear hK K
            try simp only [List.getElem_toArray, List.getElem_cons_succ, List.getElem_cons_zero, Act.put, List.setIfInBounds_toArray, List.set_cons_zero, List.set_cons_succ]
            replace R3 := Lib.hid (R3.out.kept Uwe.out)
            refine wpAnyH_take (i := 12) (v := ?_) rfl (by kernel_rfl) (by kernel_rfl) (by kernel_rfl) (fun _ _ _ h => h) (Or.inl ⟨by rfl, ?_⟩) hSS ?_
            rotate_left 1
            · intro wS hwS
              go_simp
              try with_reducible rfl
            simp only [List.getElem_toArray, List.getElem_cons_succ, List.getElem_cons_zero, Act.put, List.setIfInBounds_toArray, List.set_cons_zero, List.set_cons_succ]
            refine wpAnyH_one (i := 13) rfl (by kernel_rfl) rfl (fun K hK => ?_)
            go_simp
            refine k_of (fun wz => Bx wz we.heap.size (#[.int .i64 0, .int .i64 X, .slice none 0 0, .int .i64 (ok : Nat), .int .i64 0, .slice (some ⟨G4, 0, none⟩) 2 2]) 27 ∧ Qw we wz) ⟨Bx.new we _ _, Qw.al (Qw.refl we) _⟩ ?_
            rintro wf5 ⟨r, q⟩
            obtain ⟨G5, hG5⟩ : ∃ G, G = we.heap.size := ⟨_, rfl⟩
            rw [← hG5] at r ⊢
            have R5 := Lib.hid r
            have Qwf5 : Hid (Qw w5 wf5) := Lib.hid (Qw.trans Qwe.out q)
            have Uwf5 : Hid (Qw we wf5) := Lib.hid q
            have LG5 : Hid (G5 = we.heap.size) := Lib.hid hG5
            clear r q hG5
            have hSS := (HS.out wf5).2 (LV.out.kept Qwf5.out)
            refine hK _ _ hSS ?_
            clear hK K
            try simp only [List.getElem_toArray, List.getElem_cons_succ, List.getElem_cons_zero, Act.put, List.setIfInBounds_toArray, List.set_cons_zero, List.set_cons_succ]
            replace R4 := Lib.hid (R4.out.kept Uwf5.out)
            replace R3 := Lib.hid (R3.out.kept Uwf5.out)
            refine wpAnyH_take (i := 14) (v := ?_) rfl (by kernel_rfl) (by kernel_rfl) (by kernel_rfl) (fun _ _ _ h => h) (Or.inl ⟨by rfl, ?_⟩) hSS ?_
            rotate_left 1
            · intro wS hwS
              go_simp
              try with_reducible rfl
            simp only [List.getElem_toArray, List.getElem_cons_succ, List.getElem_cons_zero, Act.put, List.setIfInBounds_toArray, List.set_cons_zero, List.set_cons_succ]
            have ne4 : G4 ≠ G3 := by have := LG4.out; have := G3D.out; omega
            have ne5 : G5 ≠ G3 := by have := LG5.out; have := Uwe.out.size; have := G3D.out; omega
            refine wpAnyH_one (i := 15) rfl (by kernel_rfl) rfl (fun K hK => ?_)
            have zc0 := R3.out.cell' 0 _ rfl
            have zf0 := R3.out.free 0
            have zc1 := R3.out.cell' 1 _ rfl
            have zf1 := R3.out.free 1
            have zc2 := R3.out.cell' 2 _ rfl
            have zf2 := R3.out.free 2
            go_simp
            refine k_of (fun wz => Bx wz G4 (#[.int .i64 0, .int .i64 Y, .slice none 0 0, .int .i64 0, .int .i64 Z, .slice none 0 0]) 27 ∧ Bx wz G5 (#[.int .i64 0, .int .i64 X, .slice none 0 0, .int .i64 (ok : Nat), .int .i64 0, .slice (some ⟨G4, 0, none⟩) 2 2]) 27 ∧ Bx wz G3 (#[.int .i64 (oi : Nat), .int .i64 0, .slice (some ⟨G5, 0, none⟩) 2 2]) 27 ∧ Qw w5 wz) ⟨((R4.out.other ne4 _).other ne4 _).other ne4 _, ((R5.out.other ne5 _).other ne5 _).other ne5 _, ((R3.out.set 0 _).set 1 _).set 2 _, Qw.sc (Qw.sc (Qw.sc Qwf5.out GE3.out _) GE3.out _) GE3.out _⟩ ?_
            clear zc0 zc1 zc2 zf0 zf1 zf2
            rintro wg5 ⟨r_R4, r_R5, r3, q⟩
            replace R4 := Lib.hid r_R4
            replace R5 := Lib.hid r_R5
            replace R3 := Lib.hid r3
            have Qwg5 := Lib.hid q
            clear r3 q r_R4 r_R5
            have hSS := (HS.out wg5).2 (LV.out.kept Qwg5.out)
            refine hK _ _ hSS ?_
            clear hK K
            try simp only [List.getElem_toArray, List.getElem_cons_succ, List.getElem_cons_zero, Act.put, List.setIfInBounds_toArray, List.set_cons_zero, List.set_cons_succ]
            refine wpAnyH_done (by kernel_rfl) ?_ _
            have KZ : Hid (KidsB wg5 (fun _ => True) (some ⟨G5, 0, none⟩) 2 W.ks) := Lib.hid (by rw [WL.out]; exact KidsB.two (x := Sy.num X) (y := Sy.bin (ok : Nat) (Sy.num Y) (Sy.num Z)) R5.out trivial (KidsB.nl _ _ (by decide)) (KidsB.two (x := Sy.num Y) (y := Sy.num Z) R4.out trivial (KidsB.nl _ _ (by decide)) (KidsB.nl _ _ (by decide))))
            have CE : Hid (∀ wf, Qw wg5 wf → Calls Tryz.prog 16 #[.agg #[.int .i64 W.op, .int .i64 W.n, .slice q4 W.ks.length q5], .agg #[.int .i64 (oi : Nat), .int .i64 0, .slice (some ⟨G5, 0, none⟩) 2 2]] wf fun e w' => e = .returned (.bool true) ∧ Qw wf w') := Lib.hid (fun wf q => by have h := sx_sameExpr W q4 (some ⟨G5, 0, none⟩) q5 2 _ (fun _ => True) wf (KX.out.kept (Qw.trans Qwg5.out q)) (KZ.out.kept q); rw [WL.out] at h ⊢; exact h)
            have XB0 := XB
            clear LV S1 S2 HBk KX KZ WL HS F
            go_wp2_with (first
              | (go_at_call 15; ((with_reducible refine (AW.out _ (Qw.trans QQ.out Qwg5.out)).mono ?_); rintro e wf ⟨rfl, qf⟩; have pb := XB0.out.kept (Qw.trans Qwg5.out qf); have p0 : wf.cell? ⟨PB, 0, none⟩ = some (.int .i64 1) := pb.cell' 0 _ rfl; have p7 : wf.cell? ⟨PB, 7, none⟩ = some (.int .i64 W.op) := pb.cell' 7 _ rfl; have p8 : wf.cell? ⟨PB, 8, none⟩ = some (.int .i64 W.n) := pb.cell' 8 _ rfl; have p9 : wf.cell? ⟨PB, 9, none⟩ = some (.slice q4 W.ks.length q5) := pb.cell' 9 _ rfl; have pz := R3.out.kept qf; have z0 := pz.cell' 0 _ rfl; have z1 := pz.cell' 1 _ rfl; have z2 := pz.cell' 2 _ rfl; have QF := Lib.hid qf; clear pb pz qf))
              | (go_at_call 16; ((with_reducible refine (CE.out _ QF.out).mono ?_); rintro e wg ⟨rfl, qg⟩; have QG := Lib.hid qg; clear qg)))
            go_ret
            exact ⟨rfl, Qw.trans (Qw.trans (Qw.trans QQ.out Qwg5.out) QF.out) QG.out⟩
          · have dl : ¬ (li : Int) < (lk : Int) := by omega
            have WL : Hid (W = Sy.bin (ok : Nat) (Sy.bin (oi : Nat) (Sy.num X) (Sy.num Y)) (Sy.num Z)) := Lib.hid (by rw [← hW, ← hoi, ← hok]; unfold Sy.want; rw [if_neg (by rw [hli, hlk]; exact hlk2)])
            clear hlk2
            refine wpAnyH_take (i := 0) (v := ?_) rfl (by kernel_rfl) (by kernel_rfl) (by kernel_rfl) (fun _ _ _ h => h) (Or.inl ⟨by rfl, ?_⟩) hSS ?_
            rotate_left 1
            · intro wS hwS
              go_simp
              try with_reducible rfl
            simp only [List.getElem_toArray, List.getElem_cons_succ, List.getElem_cons_zero, Act.put, List.setIfInBounds_toArray, List.set_cons_zero, List.set_cons_succ]
            refine wpAnyH_take (i := 1) (v := ?_) rfl (by kernel_rfl) (by kernel_rfl) (by kernel_rfl) (fun _ _ _ h => h) (Or.inl ⟨by rfl, ?_⟩) hSS ?_
            rotate_left 1
            · intro wS hwS
              go_simp
              try with_reducible rfl
            simp only [List.getElem_toArray, List.getElem_cons_succ, List.getElem_cons_zero, Act.put, List.setIfInBounds_toArray, List.set_cons_zero, List.set_cons_succ]
            refine wpAnyH_take (i := 2) (v := ?_) rfl (by kernel_rfl) (by kernel_rfl) (by kernel_rfl) (fun _ _ _ h => h) (Or.inl ⟨by rfl, ?_⟩) hSS ?_
            rotate_left 1
            · intro wS hwS
              go_simp
              try with_reducible rfl
            simp only [List.getElem_toArray, List.getElem_cons_succ, List.getElem_cons_zero, Act.put, List.setIfInBounds_toArray, List.set_cons_zero, List.set_cons_succ]
            refine wpAnyH_take (i := 3) (v := ?_) rfl (by kernel_rfl) (by kernel_rfl) (by kernel_rfl) (fun _ _ _ h => h) (Or.inl ⟨by rfl, ?_⟩) hSS ?_
            rotate_left 1
            · intro wS hwS
              obtain ⟨f0, f1⟩ := F2.out wS hwS; go_simp
              try with_reducible rfl
            simp only [List.getElem_toArray, List.getElem_cons_succ, List.getElem_cons_zero, Act.put, List.setIfInBounds_toArray, List.set_cons_zero, List.set_cons_succ]
            refine wpAnyH_take (i := 4) (v := ?_) rfl (by kernel_rfl) (by kernel_rfl) (by kernel_rfl) (fun _ _ _ h => h) (Or.inl ⟨by rfl, ?_⟩) hSS ?_
            rotate_left 1
            · intro wS hwS
              go_simp
              try with_reducible rfl
            simp only [List.getElem_toArray, List.getElem_cons_succ, List.getElem_cons_zero, Act.put, List.setIfInBounds_toArray, List.set_cons_zero, List.set_cons_succ]
            refine wpAnyH_take (i := 5) (v := ?_) rfl (by kernel_rfl) (by kernel_rfl) (by kernel_rfl) (fun _ _ _ h => h) (Or.inl ⟨by rfl, ?_⟩) hSS ?_
            rotate_left 1
            · intro wS hwS
              go_simp
              try with_reducible rfl
            simp only [List.getElem_toArray, List.getElem_cons_succ, List.getElem_cons_zero, Act.put, List.setIfInBounds_toArray, List.set_cons_zero, List.set_cons_succ]
            refine wpAnyH_take (i := 6) (v := ?_) rfl (by kernel_rfl) (by kernel_rfl) (by kernel_rfl) (fun _ _ _ h => h) (Or.inl ⟨by rfl, ?_⟩) hSS ?_
            rotate_left 1
            · intro wS hwS
              go_simp
              try with_reducible rfl
            simp only [List.getElem_toArray, List.getElem_cons_succ, List.getElem_cons_zero, Act.put, List.setIfInBounds_toArray, List.set_cons_zero, List.set_cons_succ]
            refine wpAnyH_take (i := 7) (v := ?_) rfl (by kernel_rfl) (by kernel_rfl) (by kernel_rfl) (fun _ _ _ h => h) (Or.inl ⟨by rfl, ?_⟩) hSS ?_
            rotate_left 1
            · intro wS hwS
              obtain ⟨f0, f1⟩ := F2.out wS hwS; go_simp
              try with_reducible rfl
            simp only [List.getElem_toArray, List.getElem_cons_succ, List.getElem_cons_zero, Act.put, List.setIfInBounds_toArray, List.set_cons_zero, List.set_cons_succ]
            refine wpAnyH_take (i := 8) (v := ?_) rfl (by kernel_rfl) (by kernel_rfl) (by kernel_rfl) (fun _ _ _ h => h) (Or.inl ⟨by rfl, ?_⟩) hSS ?_
            rotate_left 1
            · intro wS hwS
              go_simp
              try with_reducible rfl
            simp only [List.getElem_toArray, List.getElem_cons_succ, List.getElem_cons_zero, Act.put, List.setIfInBounds_toArray, List.set_cons_zero, List.set_cons_succ]
            refine wpAnyH_done (by kernel_rfl) ?_ _
            clear hSS HS2 F2
            have KZ : Hid (KidsB wd (fun _ => True) (some ⟨G2, 0, none⟩) 2 W.ks) := Lib.hid (by rw [WL.out]; exact KidsB.two (x := Sy.bin (oi : Nat) (Sy.num X) (Sy.num Y)) (y := Sy.num Z) R2.out trivial (KidsB.two (x := Sy.num X) (y := Sy.num Y) R1.out trivial (KidsB.nl _ _ (by decide)) (KidsB.nl _ _ (by decide))) (KidsB.nl _ _ (by decide)))
            have CE : Hid (∀ wf, Qw wd wf → Calls Tryz.prog 16 #[.agg #[.int .i64 W.op, .int .i64 W.n, .slice q4 W.ks.length q5], .agg #[.int .i64 (ok : Nat), .int .i64 0, .slice (some ⟨G2, 0, none⟩) 2 2]] wf fun e w' => e = .returned (.bool true) ∧ Qw wf w') := Lib.hid (fun wf q => by have h := sx_sameExpr W q4 (some ⟨G2, 0, none⟩) q5 2 _ (fun _ => True) wf (KX.out.kept (Qw.trans Qwd.out q)) (KZ.out.kept q); rw [WL.out] at h ⊢; exact h)
            have XB0 := XB
            clear LV S1 S2 HBk KX KZ WL
            go_wp2_with (first
              | (go_at_call 15; ((with_reducible refine (AW.out _ (Qw.trans QQ.out (Qw.dr Qwd.out))).mono ?_); rintro e wf ⟨rfl, qf0⟩; have qf := Qw.trans (Qw.dr (Qw.refl wd)) qf0; clear qf0; have pb := XB0.out.kept (Qw.trans Qwd.out qf); have p0 : wf.cell? ⟨PB, 0, none⟩ = some (.int .i64 1) := pb.cell' 0 _ rfl; have p7 : wf.cell? ⟨PB, 7, none⟩ = some (.int .i64 W.op) := pb.cell' 7 _ rfl; have p8 : wf.cell? ⟨PB, 8, none⟩ = some (.int .i64 W.n) := pb.cell' 8 _ rfl; have p9 : wf.cell? ⟨PB, 9, none⟩ = some (.slice q4 W.ks.length q5) := pb.cell' 9 _ rfl; have pz := R3.out.kept qf; have z0 := pz.cell' 0 _ rfl; have z1 := pz.cell' 1 _ rfl; have z2 := pz.cell' 2 _ rfl; have QF := Lib.hid qf; clear pb pz qf))
              | (go_at_call 16; ((with_reducible refine (CE.out _ QF.out).mono ?_); rintro e wg ⟨rfl, qg⟩; have QG := Lib.hid qg; clear qg)))
            go_ret
            exact ⟨rfl, Qw.trans (Qw.trans (Qw.trans QQ.out Qwd.out) QF.out) QG.out⟩
        · go_simp
          refine k_of (fun wz => Bx wz wa.heap.size (#[.int .i64 0, .int .i64 0, .slice none 0 0]) 27 ∧ Qw wa wz) ⟨Bx.new wa _ _, Qw.al (Qw.refl wa) _⟩ ?_
          rintro wb ⟨r, q⟩
          obtain ⟨G3, hG3⟩ : ∃ G, G = wa.heap.size := ⟨_, rfl⟩
          rw [← hG3] at r ⊢
          have R3 := Lib.hid r
          have Qwb : Hid (Qw w5 wb) := Lib.hid (Qw.trans Qwa.out q)
          have Uwb : Hid (Qw wa wb) := Lib.hid q
          have LG3 : Hid (G3 = wa.heap.size) := Lib.hid hG3
          clear r q hG3
          have hSS := (HS.out wb).2 (LV.out.kept Qwb.out)
          refine hK _ _ hSS ?_
          clear hK K
          try simp only [List.getElem_toArray, List.getElem_cons_succ, List.getElem_cons_zero, Act.put, List.setIfInBounds_toArray, List.set_cons_zero, List.set_cons_succ]
          replace R1 := Lib.hid (R1.out.kept Uwb.out)
          have M2 : Hid (wa.heap.size < wb.heap.size) := Lib.hid (by have := R3.out.lt; have := LG3.out; omega)
          refine wpAnyH_one (i := 13) rfl (by kernel_rfl) rfl (fun K hK => ?_)
          go_simp
          refine k_of (fun wz => Bx wz wb.heap.size (#[.int .i64 (oi : Nat), .int .i64 0, .slice (some ⟨G1, 0, none⟩) 2 2, .int .i64 0, .int .i64 Z, .slice none 0 0]) 27 ∧ Qw wb wz) ⟨Bx.new wb _ _, Qw.al (Qw.refl wb) _⟩ ?_
          rintro wc ⟨r, q⟩
          obtain ⟨G2, hG2⟩ : ∃ G, G = wb.heap.size := ⟨_, rfl⟩
          rw [← hG2] at r ⊢
          have R2 := Lib.hid r
          have Qwc : Hid (Qw w5 wc) := Lib.hid (Qw.trans Qwb.out q)
          have Uwc : Hid (Qw wb wc) := Lib.hid q
          have LG2 : Hid (G2 = wb.heap.size) := Lib.hid hG2
          clear r q hG2
          have hSS := (HS.out wc).2 (LV.out.kept Qwc.out)
          refine hK _ _ hSS ?_
          clear hK K
          try simp only [List.getElem_toArray, List.getElem_cons_succ, List.getElem_cons_zero, Act.put, List.setIfInBounds_toArray, List.set_cons_zero, List.set_cons_succ]
          replace R1 := Lib.hid (R1.out.kept Uwc.out)
          replace R3 := Lib.hid (R3.out.kept Uwc.out)
          refine wpAnyH_take (i := 14) (v := ?_) rfl (by kernel_rfl) (by kernel_rfl) (by kernel_rfl) (fun _ _ _ h => h) (Or.inl ⟨by rfl, ?_⟩) hSS ?_
          rotate_left 1
          · intro wS hwS
            go_simp
            try with_reducible rfl
          simp only [List.getElem_toArray, List.getElem_cons_succ, List.getElem_cons_zero, Act.put, List.setIfInBounds_toArray, List.set_cons_zero, List.set_cons_succ]
          have GE3 : Hid (w5.heap.size ≤ G3) := Lib.hid (by have := LG3.out; have := Qwa.out.size; have := Qwb.out.size; omega)
          have s1 := R1.out.lt
          have s2 := R2.out.lt
          have s3 := R3.out.lt
          have ne1 : G1 ≠ G3 := by have e1 := LG1.out; have e2 := LG3.out; have := M1.out; have := M2.out; omega
          have ne2 : G2 ≠ G3 := by have e1 := LG2.out; have e2 := LG3.out; have := M1.out; have := M2.out; omega
          refine wpAnyH_one (i := 16) rfl (by kernel_rfl) rfl (fun K hK => ?_)
          have zc0 := R3.out.cell' 0 _ rfl
          have zf0 := R3.out.free 0
          have zc1 := R3.out.cell' 1 _ rfl
          have zf1 := R3.out.free 1
          have zc2 := R3.out.cell' 2 _ rfl
          have zf2 := R3.out.free 2
          go_simp
          refine k_of (fun wz => Bx wz G1 (#[.int .i64 0, .int .i64 X, .slice none 0 0, .int .i64 0, .int .i64 Y, .slice none 0 0]) 27 ∧ Bx wz G2 (#[.int .i64 (oi : Nat), .int .i64 0, .slice (some ⟨G1, 0, none⟩) 2 2, .int .i64 0, .int .i64 Z, .slice none 0 0]) 27 ∧ Bx wz G3 (#[.int .i64 (ok : Nat), .int .i64 0, .slice (some ⟨G2, 0, none⟩) 2 2]) 27 ∧ Qw w5 wz) ⟨((R1.out.other ne1 _).other ne1 _).other ne1 _, ((R2.out.other ne2 _).other ne2 _).other ne2 _, ((R3.out.set 0 _).set 1 _).set 2 _, Qw.sc (Qw.sc (Qw.sc Qwc.out GE3.out _) GE3.out _) GE3.out _⟩ ?_
          clear zc0 zc1 zc2 zf0 zf1 zf2
          rintro wd ⟨r_R1, r_R2, r3, q⟩
          replace R1 := Lib.hid r_R1
          replace R2 := Lib.hid r_R2
          replace R3 := Lib.hid r3
          have Qwd := Lib.hid q
          clear r3 q r_R1 r_R2
          have hSS := (HS.out wd).2 (LV.out.kept Qwd.out)
          refine hK _ _ hSS ?_
          clear hK K
          try simp only [List.getElem_toArray, List.getElem_cons_succ, List.getElem_cons_zero, Act.put, List.setIfInBounds_toArray, List.set_cons_zero, List.set_cons_succ]
          refine wpAnyH_done (by kernel_rfl) ?_ _
          have G3D : Hid (G3 < wd.heap.size) := Lib.hid R3.out.lt
          clear HS F s1 s2 s3 ne1 ne2 Qwa Qwb Qwc Uwa Uwb Uwc M1 M2 LG1 LG2 LG3
          clear hSS
          go_upto_region 11 with fail
          obtain ⟨S, hS⟩ : ∃ S : World → Prop, ∀ w', S w' ↔ Bx w' B2 levA 3 := ⟨_, fun _ => Iff.rfl⟩
          have F2 := Lib.hid (fun w' (q : S w') => levc ((hS w').1 q) hi hk)
          have HS2 := Lib.hid hS
          rw [hli, hlk] at F2
          clear hS
          refine wp_region_held (S := S) (by kernel_rfl) ?_
          change wpAnyH _ _ _ _ _ _ _ _ (World.drew wd)
          have hSS : S (World.drew wd) := (HS2.out _).2 (Bx.drew (S2.out.kept Qwd.out))
          by_cases hlk2 : li < lk
          · have dl : (li : Int) < (lk : Int) := by omega
            have WL : Hid (W = Sy.bin (oi : Nat) (Sy.num X) (Sy.bin (ok : Nat) (Sy.num Y) (Sy.num Z))) := Lib.hid (by rw [← hW, ← hoi, ← hok]; unfold Sy.want; rw [if_pos (by rw [hli, hlk]; exact hlk2)])
            clear hlk2
            refine wpAnyH_take (i := 0) (v := ?_) rfl (by kernel_rfl) (by kernel_rfl) (by kernel_rfl) (fun _ _ _ h => h) (Or.inl ⟨by rfl, ?_⟩) hSS ?_
            rotate_left 1
            · intro wS hwS
              go_simp
              try with_reducible rfl
            simp only [List.getElem_toArray, List.getElem_cons_succ, List.getElem_cons_zero, Act.put, List.setIfInBounds_toArray, List.set_cons_zero, List.set_cons_succ]
            refine wpAnyH_take (i := 1) (v := ?_) rfl (by kernel_rfl) (by kernel_rfl) (by kernel_rfl) (fun _ _ _ h => h) (Or.inl ⟨by rfl, ?_⟩) hSS ?_
            rotate_left 1
            · intro wS hwS
              go_simp
              try with_reducible rfl
            simp only [List.getElem_toArray, List.getElem_cons_succ, List.getElem_cons_zero, Act.put, List.setIfInBounds_toArray, List.set_cons_zero, List.set_cons_succ]
            refine wpAnyH_take (i := 2) (v := ?_) rfl (by kernel_rfl) (by kernel_rfl) (by kernel_rfl) (fun _ _ _ h => h) (Or.inl ⟨by rfl, ?_⟩) hSS ?_
            rotate_left 1
            · intro wS hwS
              go_simp
              try with_reducible rfl
            simp only [List.getElem_toArray, List.getElem_cons_succ, List.getElem_cons_zero, Act.put, List.setIfInBounds_toArray, List.set_cons_zero, List.set_cons_succ]
            refine wpAnyH_take (i := 3) (v := ?_) rfl (by kernel_rfl) (by kernel_rfl) (by kernel_rfl) (fun _ _ _ h => h) (Or.inl ⟨by rfl, ?_⟩) hSS ?_
            rotate_left 1
            · intro wS hwS
              obtain ⟨f0, f1⟩ := F2.out wS hwS; go_simp
              try with_reducible rfl
            simp only [List.getElem_toArray, List.getElem_cons_succ, List.getElem_cons_zero, Act.put, List.setIfInBounds_toArray, List.set_cons_zero, List.set_cons_succ]
            refine wpAnyH_take (i := 4) (v := ?_) rfl (by kernel_rfl) (by kernel_rfl) (by kernel_rfl) (fun _ _ _ h => h) (Or.inl ⟨by rfl, ?_⟩) hSS ?_
            rotate_left 1
            · intro wS hwS
              go_simp
              try with_reducible rfl
            simp only [List.getElem_toArray, List.getElem_cons_succ, List.getElem_cons_zero, Act.put, List.setIfInBounds_toArray, List.set_cons_zero, List.set_cons_succ]
            refine wpAnyH_take (i := 5) (v := ?_) rfl (by kernel_rfl) (by kernel_rfl) (by kernel_rfl) (fun _ _ _ h => h) (Or.inl ⟨by rfl, ?_⟩) hSS ?_
            rotate_left 1
            · intro wS hwS
              go_simp
              try with_reducible rfl
            simp only [List.getElem_toArray, List.getElem_cons_succ, List.getElem_cons_zero, Act.put, List.setIfInBounds_toArray, List.set_cons_zero, List.set_cons_succ]
            refine wpAnyH_take (i := 6) (v := ?_) rfl (by kernel_rfl) (by kernel_rfl) (by kernel_rfl) (fun _ _ _ h => h) (Or.inl ⟨by rfl, ?_⟩) hSS ?_
            rotate_left 1
            · intro wS hwS
              go_simp
              try with_reducible rfl
            simp only [List.getElem_toArray, List.getElem_cons_succ, List.getElem_cons_zero, Act.put, List.setIfInBounds_toArray, List.set_cons_zero, List.set_cons_succ]
            refine wpAnyH_take (i := 7) (v := ?_) rfl (by kernel_rfl) (by kernel_rfl) (by kernel_rfl) (fun _ _ _ h => h) (Or.inl ⟨by rfl, ?_⟩) hSS ?_
            rotate_left 1
            · intro wS hwS
              obtain ⟨f0, f1⟩ := F2.out wS hwS; go_simp
              try with_reducible rfl
            simp only [List.getElem_toArray, List.getElem_cons_succ, List.getElem_cons_zero, Act.put, List.setIfInBounds_toArray, List.set_cons_zero, List.set_cons_succ]
            refine wpAnyH_take (i := 8) (v := ?_) rfl (by kernel_rfl) (by kernel_rfl) (by kernel_rfl) (fun _ _ _ h => h) (Or.inl ⟨by rfl, ?_⟩) hSS ?_
            rotate_left 1
            · intro wS hwS
              go_simp
              try with_reducible rfl
            simp only [List.getElem_toArray, List.getElem_cons_succ, List.getElem_cons_zero, Act.put, List.setIfInBounds_toArray, List.set_cons_zero, List.set_cons_succ]
            refine wpAnyH_done (by kernel_rfl) ?_ _
            clear hSS HS2 F2
            go_upto_region 12 with fail
            clear dl
            obtain ⟨S, hS⟩ : ∃ S : World → Prop, ∀ w', S w' ↔ Lvw w' B1 P0 P1 P2 X Y Z := ⟨_, fun _ => Iff.rfl⟩
            have F := Lib.hid (fun w' (q : S w') => Lvw.cells ((hS w').1 q) hi hk)
            rw [hoi, hok] at F
            have HS := Lib.hid hS
            clear hS
            refine wp_region_held (S := S) (by kernel_rfl) ?_
            change wpAnyH _ _ _ _ _ _ _ _ (World.drew _)
            have hSS := (HS.out (World.drew (World.drew wd))).2 (Lvw.dr (Lvw.dr (LV.out.kept Qwd.out)))
            refine wpAnyH_take (i := 0) (v := ?_) rfl (by kernel_rfl) (by kernel_rfl) (by kernel_rfl) (fun _ _ _ h => h) (Or.inl ⟨by rfl, ?_⟩) hSS ?_
            rotate_left 1
            · intro wS hwS
              go_simp
              try with_reducible rfl
            simp only [List.getElem_toArray, List.getElem_cons_succ, List.getElem_cons_zero, Act.put, List.setIfInBounds_toArray, List.set_cons_zero, List.set_cons_succ]
            refine wpAnyH_take (i := 1) (v := ?_) rfl (by kernel_rfl) (by kernel_rfl) (by kernel_rfl) (fun _ _ _ h => h) (Or.inl ⟨by rfl, ?_⟩) hSS ?_
            rotate_left 1
            · intro wS hwS
              go_simp
              try with_reducible rfl
            simp only [List.getElem_toArray, List.getElem_cons_succ, List.getElem_cons_zero, Act.put, List.setIfInBounds_toArray, List.set_cons_zero, List.set_cons_succ]
            refine wpAnyH_take (i := 2) (v := ?_) rfl (by kernel_rfl) (by kernel_rfl) (by kernel_rfl) (fun _ _ _ h => h) (Or.inl ⟨by rfl, ?_⟩) hSS ?_
            rotate_left 1
            · intro wS hwS
              go_simp
              try with_reducible rfl
            simp only [List.getElem_toArray, List.getElem_cons_succ, List.getElem_cons_zero, Act.put, List.setIfInBounds_toArray, List.set_cons_zero, List.set_cons_succ]
            refine wpAnyH_take (i := 3) (v := ?_) rfl (by kernel_rfl) (by kernel_rfl) (by kernel_rfl) (fun _ _ _ h => h) (Or.inl ⟨by rfl, ?_⟩) hSS ?_
            rotate_left 1
            · intro wS hwS
              obtain ⟨f0, f1, ⟨f2, f3, f4⟩, ⟨f5, f6, f7⟩, f8, f9, f10⟩ := F.out wS hwS; go_simp
              try with_reducible rfl
            simp only [List.getElem_toArray, List.getElem_cons_succ, List.getElem_cons_zero, Act.put, List.setIfInBounds_toArray, List.set_cons_zero, List.set_cons_succ]
            refine wpAnyH_take (i := 4) (v := ?_) rfl (by kernel_rfl) (by kernel_rfl) (by kernel_rfl) (fun _ _ _ h => h) (Or.inl ⟨by rfl, ?_⟩) hSS ?_
            rotate_left 1
            · intro wS hwS
              obtain ⟨f0, f1, ⟨f2, f3, f4⟩, ⟨f5, f6, f7⟩, f8, f9, f10⟩ := F.out wS hwS; go_simp
              try with_reducible rfl
            simp only [List.getElem_toArray, List.getElem_cons_succ, List.getElem_cons_zero, Act.put, List.setIfInBounds_toArray, List.set_cons_zero, List.set_cons_succ]
            refine wpAnyH_take (i := 5) (v := ?_) rfl (by kernel_rfl) (by kernel_rfl) (by kernel_rfl) (fun _ _ _ h => h) (Or.inl ⟨by rfl, ?_⟩) hSS ?_
            rotate_left 1
            · intro wS hwS
              go_simp
              try with_reducible rfl
            simp only [List.getElem_toArray, List.getElem_cons_succ, List.getElem_cons_zero, Act.put, List.setIfInBounds_toArray, List.set_cons_zero, List.set_cons_succ]
            refine wpAnyH_take (i := 6) (v := ?_) rfl (by kernel_rfl) (by kernel_rfl) (by kernel_rfl) (fun _ _ _ h => h) (Or.inl ⟨by rfl, ?_⟩) hSS ?_
            rotate_left 1
            · intro wS hwS
              go_simp
              try with_reducible rfl
            simp only [List.getElem_toArray, List.getElem_cons_succ, List.getElem_cons_zero, Act.put, List.setIfInBounds_toArray, List.set_cons_zero, List.set_cons_succ]
            refine wpAnyH_take (i := 7) (v := ?_) rfl (by kernel_rfl) (by kernel_rfl) (by kernel_rfl) (fun _ _ _ h => h) (Or.inl ⟨by rfl, ?_⟩) hSS ?_
            rotate_left 1
            · intro wS hwS
              go_simp
              try with_reducible rfl
            simp only [List.getElem_toArray, List.getElem_cons_succ, List.getElem_cons_zero, Act.put, List.setIfInBounds_toArray, List.set_cons_zero, List.set_cons_succ]
            refine wpAnyH_take (i := 8) (v := ?_) rfl (by kernel_rfl) (by kernel_rfl) (by kernel_rfl) (fun _ _ _ h => h) (Or.inl ⟨by rfl, ?_⟩) hSS ?_
            rotate_left 1
            · intro wS hwS
              obtain ⟨f0, f1, ⟨f2, f3, f4⟩, ⟨f5, f6, f7⟩, f8, f9, f10⟩ := F.out wS hwS; go_simp
              try with_reducible rfl
            simp only [List.getElem_toArray, List.getElem_cons_succ, List.getElem_cons_zero, Act.put, List.setIfInBounds_toArray, List.set_cons_zero, List.set_cons_succ]
            refine wpAnyH_take (i := 9) (v := ?_) rfl (by kernel_rfl) (by kernel_rfl) (by kernel_rfl) (fun _ _ _ h => h) (Or.inl ⟨by rfl, ?_⟩) hSS ?_
            rotate_left 1
            · intro wS hwS
              obtain ⟨f0, f1, ⟨f2, f3, f4⟩, ⟨f5, f6, f7⟩, f8, f9, f10⟩ := F.out wS hwS; go_simp
              try with_reducible rfl
            simp only [List.getElem_toArray, List.getElem_cons_succ, List.getElem_cons_zero, Act.put, List.setIfInBounds_toArray, List.set_cons_zero, List.set_cons_succ]
            refine wpAnyH_take (i := 10) (v := ?_) rfl (by kernel_rfl) (by kernel_rfl) (by kernel_rfl) (fun _ _ _ h => h) (Or.inl ⟨by rfl, ?_⟩) hSS ?_
            rotate_left 1
            · intro wS hwS
              obtain ⟨f0, f1, ⟨f2, f3, f4⟩, ⟨f5, f6, f7⟩, f8, f9, f10⟩ := F.out wS hwS; go_simp
              try with_reducible rfl
            simp only [List.getElem_toArray, List.getElem_cons_succ, List.getElem_cons_zero, Act.put, List.setIfInBounds_toArray, List.set_cons_zero, List.set_cons_succ]
            refine wpAnyH_one (i := 11) rfl (by kernel_rfl) rfl (fun K hK => ?_)
            go_simp
            refine k_of (fun wz => Bx wz wd.heap.size (#[.int .i64 0, .int .i64 Y, .slice none 0 0, .int .i64 0, .int .i64 Z, .slice none 0 0]) 27 ∧ Qw wd wz) ⟨Bx.drew (Bx.drew (Bx.new wd _ _)), Qw.dr (Qw.dr (Qw.al (Qw.refl wd) _))⟩ ?_
            rintro we ⟨r, q⟩
            obtain ⟨G4, hG4⟩ : ∃ G, G = wd.heap.size := ⟨_, rfl⟩
            rw [← hG4] at r ⊢
            have R4 := Lib.hid r
            have Qwe : Hid (Qw w5 we) := Lib.hid (Qw.trans Qwd.out q)
            have Uwe : Hid (Qw wd we) := Lib.hid q
            have LG4 : Hid (G4 = wd.heap.size) := Lib.hid hG4
            clear r q hG4
            have hSS := (HS.out we).2 (LV.out.kept Qwe.out)
            refine hK _ _ hSS ?_
            clear hK K
            try simp only [List.getElem_toArray, List.getElem_cons_succ, List.getElem_cons_zero, Act.put, List.setIfInBounds_toArray, List.set_cons_zero, List.set_cons_succ]
            replace R3 := Lib.hid (R3.out.kept Uwe.out)
            refine wpAnyH_take (i := 12) (v := ?_) rfl (by kernel_rfl) (by kernel_rfl) (by kernel_rfl) (fun _ _ _ h => h) (Or.inl ⟨by rfl, ?_⟩) hSS ?_
            rotate_left 1
            · intro wS hwS
              go_simp
              try with_reducible rfl
            simp only [List.getElem_toArray, List.getElem_cons_succ, List.getElem_cons_zero, Act.put, List.setIfInBounds_toArray, List.set_cons_zero, List.set_cons_succ]
            refine wpAnyH_one (i := 13) rfl (by kernel_rfl) rfl (fun K hK => ?_)
            go_simp
            refine k_of (fun wz => Bx wz we.heap.size (#[.int .i64 0, .int .i64 X, .slice none 0 0, .int .i64 (ok : Nat), .int .i64 0, .slice (some ⟨G4, 0, none⟩) 2 2]) 27 ∧ Qw we wz) ⟨Bx.new we _ _, Qw.al (Qw.refl we) _⟩ ?_
            rintro wf5 ⟨r, q⟩
            obtain ⟨G5, hG5⟩ : ∃ G, G = we.heap.size := ⟨_, rfl⟩
            rw [← hG5] at r ⊢
            have R5 := Lib.hid r
            have Qwf5 : Hid (Qw w5 wf5) := Lib.hid (Qw.trans Qwe.out q)
            have Uwf5 : Hid (Qw we wf5) := Lib.hid q
            have LG5 : Hid (G5 = we.heap.size) := Lib.hid hG5
            clear r q hG5
            have hSS := (HS.out wf5).2 (LV.out.kept Qwf5.out)
            refine hK _ _ hSS ?_
            clear hK K
            try simp only [List.getElem_toArray, List.getElem_cons_succ, List.getElem_cons_zero, Act.put, List.setIfInBounds_toArray, List.set_cons_zero, List.set_cons_succ]
            replace R4 := Lib.hid (R4.out.kept Uwf5.out)
            replace R3 := Lib.hid (R3.out.kept Uwf5.out)
            refine wpAnyH_take (i := 14) (v := ?_) rfl (by kernel_rfl) (by kernel_rfl) (by kernel_rfl) (fun _ _ _ h => h) (Or.inl ⟨by rfl, ?_⟩) hSS ?_
            rotate_left 1
            · intro wS hwS
              go_simp
              try with_reducible rfl
            simp only [List.getElem_toArray, List.getElem_cons_succ, List.getElem_cons_zero, Act.put, List.setIfInBounds_toArray, List.set_cons_zero, List.set_cons_succ]
            have ne4 : G4 ≠ G3 := by have := LG4.out; have := G3D.out; omega
            have ne5 : G5 ≠ G3 := by have := LG5.out; have := Uwe.out.size; have := G3D.out; omega
            refine wpAnyH_one (i := 15) rfl (by kernel_rfl) rfl (fun K hK => ?_)
            have zc0 := R3.out.cell' 0 _ rfl
            have zf0 := R3.out.free 0
            have zc1 := R3.out.cell' 1 _ rfl
            have zf1 := R3.out.free 1
            have zc2 := R3.out.cell' 2 _ rfl
            have zf2 := R3.out.free 2
            go_simp
            refine k_of (fun wz => Bx wz G4 (#[.int .i64 0, .int .i64 Y, .slice none 0 0, .int .i64 0, .int .i64 Z, .slice none 0 0]) 27 ∧ Bx wz G5 (#[.int .i64 0, .int .i64 X, .slice none 0 0, .int .i64 (ok : Nat), .int .i64 0, .slice (some ⟨G4, 0, none⟩) 2 2]) 27 ∧ Bx wz G3 (#[.int .i64 (oi : Nat), .int .i64 0, .slice (some ⟨G5, 0, none⟩) 2 2]) 27 ∧ Qw w5 wz) ⟨((R4.out.other ne4 _).other ne4 _).other ne4 _, ((R5.out.other ne5 _).other ne5 _).other ne5 _, ((R3.out.set 0 _).set 1 _).set 2 _, Qw.sc (Qw.sc (Qw.sc Qwf5.out GE3.out _) GE3.out _) GE3.out _⟩ ?_
            clear zc0 zc1 zc2 zf0 zf1 zf2
            rintro wg5 ⟨r_R4, r_R5, r3, q⟩
            replace R4 := Lib.hid r_R4
            replace R5 := Lib.hid r_R5
            replace R3 := Lib.hid r3
            have Qwg5 := Lib.hid q
            clear r3 q r_R4 r_R5
            have hSS := (HS.out wg5).2 (LV.out.kept Qwg5.out)
            refine hK _ _ hSS ?_
            clear hK K
            try simp only [List.getElem_toArray, List.getElem_cons_succ, List.getElem_cons_zero, Act.put, List.setIfInBounds_toArray, List.set_cons_zero, List.set_cons_succ]
            refine wpAnyH_done (by kernel_rfl) ?_ _
            have KZ : Hid (KidsB wg5 (fun _ => True) (some ⟨G5, 0, none⟩) 2 W.ks) := Lib.hid (by rw [WL.out]; exact KidsB.two (x := Sy.num X) (y := Sy.bin (ok : Nat) (Sy.num Y) (Sy.num Z)) R5.out trivial (KidsB.nl _ _ (by decide)) (KidsB.two (x := Sy.num Y) (y := Sy.num Z) R4.out trivial (KidsB.nl _ _ (by decide)) (KidsB.nl _ _ (by decide))))
            have CE : Hid (∀ wf, Qw wg5 wf → Calls Tryz.prog 16 #[.agg #[.int .i64 W.op, .int .i64 W.n, .slice q4 W.ks.length q5], .agg #[.int .i64 (oi : Nat), .int .i64 0, .slice (some ⟨G5, 0, none⟩) 2 2]] wf fun e w' => e = .returned (.bool true) ∧ Qw wf w') := Lib.hid (fun wf q => by have h := sx_sameExpr W q4 (some ⟨G5, 0, none⟩) q5 2 _ (fun _ => True) wf (KX.out.kept (Qw.trans Qwg5.out q)) (KZ.out.kept q); rw [WL.out] at h ⊢; exact h)
            have XB0 := XB
            clear LV S1 S2 HBk KX KZ WL HS F
            go_wp2_with (first
              | (go_at_call 15; ((with_reducible refine (AW.out _ (Qw.trans QQ.out Qwg5.out)).mono ?_); rintro e wf ⟨rfl, qf⟩; have pb := XB0.out.kept (Qw.trans Qwg5.out qf); have p0 : wf.cell? ⟨PB, 0, none⟩ = some (.int .i64 1) := pb.cell' 0 _ rfl; have p7 : wf.cell? ⟨PB, 7, none⟩ = some (.int .i64 W.op) := pb.cell' 7 _ rfl; have p8 : wf.cell? ⟨PB, 8, none⟩ = some (.int .i64 W.n) := pb.cell' 8 _ rfl; have p9 : wf.cell? ⟨PB, 9, none⟩ = some (.slice q4 W.ks.length q5) := pb.cell' 9 _ rfl; have pz := R3.out.kept qf; have z0 := pz.cell' 0 _ rfl; have z1 := pz.cell' 1 _ rfl; have z2 := pz.cell' 2 _ rfl; have QF := Lib.hid qf; clear pb pz qf))
              | (go_at_call 16; ((with_reducible refine (CE.out _ QF.out).mono ?_); rintro e wg ⟨rfl, qg⟩; have QG := Lib.hid qg; clear qg)))
            go_ret
            exact ⟨rfl, Qw.trans (Qw.trans (Qw.trans QQ.out Qwg5.out) QF.out) QG.out⟩
          · have dl : ¬ (li : Int) < (lk : Int) := by omega
            have WL : Hid (W = Sy.bin (ok : Nat) (Sy.bin (oi : Nat) (Sy.num X) (Sy.num Y)) (Sy.num Z)) := Lib.hid (by rw [← hW, ← hoi, ← hok]; unfold Sy.want; rw [if_neg (by rw [hli, hlk]; exact hlk2)])
            clear hlk2
            refine wpAnyH_take (i := 0) (v := ?_) rfl (by kernel_rfl) (by kernel_rfl) (by kernel_rfl) (fun _ _ _ h => h) (Or.inl ⟨by rfl, ?_⟩) hSS ?_
            rotate_left 1
            · intro wS hwS
              go_simp
              try with_reducible rfl
            simp only [List.getElem_toArray, List.getElem_cons_succ, List.getElem_cons_zero, Act.put, List.setIfInBounds_toArray, List.set_cons_zero, List.set_cons_succ]
            refine wpAnyH_take (i := 1) (v := ?_) rfl (by kernel_rfl) (by kernel_rfl) (by kernel_rfl) (fun _ _ _ h => h) (Or.inl ⟨by rfl, ?_⟩) hSS ?_
            rotate_left 1
            · intro wS hwS
              go_simp
              try with_reducible rfl
            simp only [List.getElem_toArray, List.getElem_cons_succ, List.getElem_cons_zero, Act.put, List.setIfInBounds_toArray, List.set_cons_zero, List.set_cons_succ]
            refine wpAnyH_take (i := 2) (v := ?_) rfl (by kernel_rfl) (by kernel_rfl) (by kernel_rfl) (fun _ _ _ h => h) (Or.inl ⟨by rfl, ?_⟩) hSS ?_
            rotate_left 1
            · intro wS hwS
              go_simp
              try with_reducible rfl
            simp only [List.getElem_toArray, List.getElem_cons_succ, List.getElem_cons_zero, Act.put, List.setIfInBounds_toArray, List.set_cons_zero, List.set_cons_succ]
            refine wpAnyH_take (i := 3) (v := ?_) rfl (by kernel_rfl) (by kernel_rfl) (by kernel_rfl) (fun _ _ _ h => h) (Or.inl ⟨by rfl, ?_⟩) hSS ?_
            rotate_left 1
            · intro wS hwS
              obtain ⟨f0, f1⟩ := F2.out wS hwS; go_simp
              try with_reducible rfl
            simp only [List.getElem_toArray, List.getElem_cons_succ, List.getElem_cons_zero, Act.put, List.setIfInBounds_toArray, List.set_cons_zero, List.set_cons_succ]
            refine wpAnyH_take (i := 4) (v := ?_) rfl (by kernel_rfl) (by kernel_rfl) (by kernel_rfl) (fun _ _ _ h => h) (Or.inl ⟨by rfl, ?_⟩) hSS ?_
            rotate_left 1
            · intro wS hwS
              go_simp
              try with_reducible rfl
            simp only [List.getElem_toArray, List.getElem_cons_succ, List.getElem_cons_zero, Act.put, List.setIfInBounds_toArray, List.set_cons_zero, List.set_cons_succ]
            refine wpAnyH_take (i := 5) (v := ?_) rfl (by kernel_rfl) (by kernel_rfl) (by kernel_rfl) (fun _ _ _ h => h) (Or.inl ⟨by rfl, ?_⟩) hSS ?_
            rotate_left 1
            · intro wS hwS
              go_simp
              try with_reducible rfl
            simp only [List.getElem_toArray, List.getElem_cons_succ, List.getElem_cons_zero, Act.put, List.setIfInBounds_toArray, List.set_cons_zero, List.set_cons_succ]
            refine wpAnyH_take (i := 6) (v := ?_) rfl (by kernel_rfl) (by kernel_rfl) (by kernel_rfl) (fun _ _ _ h => h) (Or.inl ⟨by rfl, ?_⟩) hSS ?_
            rotate_left 1
            · intro wS hwS
              go_simp
              try with_reducible rfl
            simp only [List.getElem_toArray, List.getElem_cons_succ, List.getElem_cons_zero, Act.put, List.setIfInBounds_toArray, List.set_cons_zero, List.set_cons_succ]
            refine wpAnyH_take (i := 7) (v := ?_) rfl (by kernel_rfl) (by kernel_rfl) (by kernel_rfl) (fun _ _ _ h => h) (Or.inl ⟨by rfl, ?_⟩) hSS ?_
            rotate_left 1
            · intro wS hwS
              obtain ⟨f0, f1⟩ := F2.out wS hwS; go_simp
              try with_reducible rfl
            simp only [List.getElem_toArray, List.getElem_cons_succ, List.getElem_cons_zero, Act.put, List.setIfInBounds_toArray, List.set_cons_zero, List.set_cons_succ]
            refine wpAnyH_take (i := 8) (v := ?_) rfl (by kernel_rfl) (by kernel_rfl) (by kernel_rfl) (fun _ _ _ h => h) (Or.inl ⟨by rfl, ?_⟩) hSS ?_
            rotate_left 1
            · intro wS hwS
              go_simp
              try with_reducible rfl
            simp only [List.getElem_toArray, List.getElem_cons_succ, List.getElem_cons_zero, Act.put, List.setIfInBounds_toArray, List.set_cons_zero, List.set_cons_succ]
            refine wpAnyH_done (by kernel_rfl) ?_ _
            clear hSS HS2 F2
            have KZ : Hid (KidsB wd (fun _ => True) (some ⟨G2, 0, none⟩) 2 W.ks) := Lib.hid (by rw [WL.out]; exact KidsB.two (x := Sy.bin (oi : Nat) (Sy.num X) (Sy.num Y)) (y := Sy.num Z) R2.out trivial (KidsB.two (x := Sy.num X) (y := Sy.num Y) R1.out trivial (KidsB.nl _ _ (by decide)) (KidsB.nl _ _ (by decide))) (KidsB.nl _ _ (by decide)))
            have CE : Hid (∀ wf, Qw wd wf → Calls Tryz.prog 16 #[.agg #[.int .i64 W.op, .int .i64 W.n, .slice q4 W.ks.length q5], .agg #[.int .i64 (ok : Nat), .int .i64 0, .slice (some ⟨G2, 0, none⟩) 2 2]] wf fun e w' => e = .returned (.bool true) ∧ Qw wf w') := Lib.hid (fun wf q => by have h := sx_sameExpr W q4 (some ⟨G2, 0, none⟩) q5 2 _ (fun _ => True) wf (KX.out.kept (Qw.trans Qwd.out q)) (KZ.out.kept q); rw [WL.out] at h ⊢; exact h)
            have XB0 := XB
            clear LV S1 S2 HBk KX KZ WL
            go_wp2_with (first
              | (go_at_call 15; ((with_reducible refine (AW.out _ (Qw.trans QQ.out (Qw.dr Qwd.out))).mono ?_); rintro e wf ⟨rfl, qf0⟩; have qf := Qw.trans (Qw.dr (Qw.refl wd)) qf0; clear qf0; have pb := XB0.out.kept (Qw.trans Qwd.out qf); have p0 : wf.cell? ⟨PB, 0, none⟩ = some (.int .i64 1) := pb.cell' 0 _ rfl; have p7 : wf.cell? ⟨PB, 7, none⟩ = some (.int .i64 W.op) := pb.cell' 7 _ rfl; have p8 : wf.cell? ⟨PB, 8, none⟩ = some (.int .i64 W.n) := pb.cell' 8 _ rfl; have p9 : wf.cell? ⟨PB, 9, none⟩ = some (.slice q4 W.ks.length q5) := pb.cell' 9 _ rfl; have pz := R3.out.kept qf; have z0 := pz.cell' 0 _ rfl; have z1 := pz.cell' 1 _ rfl; have z2 := pz.cell' 2 _ rfl; have QF := Lib.hid qf; clear pb pz qf))
              | (go_at_call 16; ((with_reducible refine (CE.out _ QF.out).mono ?_); rintro e wg ⟨rfl, qg⟩; have QG := Lib.hid qg; clear qg)))
            go_ret
            exact ⟨rfl, Qw.trans (Qw.trans (Qw.trans QQ.out Qwd.out) QF.out) QG.out⟩
      · go_simp
        refine k_of (fun wz => Bx wz w5.heap.size (#[.int .i64 0, .int .i64 0, .slice none 0 0]) 27 ∧ Qw w5 wz) ⟨Bx.drew (Bx.new w5 _ _), Qw.dr (Qw.al (Qw.refl w5) _)⟩ ?_
        rintro wa ⟨r, q⟩
        obtain ⟨G3, hG3⟩ : ∃ G, G = w5.heap.size := ⟨_, rfl⟩
        rw [← hG3] at r ⊢
        have R3 := Lib.hid r
        have Qwa : Hid (Qw w5 wa) := Lib.hid (Qw.trans Qw5.out q)
        have Uwa : Hid (Qw w5 wa) := Lib.hid q
        have LG3 : Hid (G3 = w5.heap.size) := Lib.hid hG3
        clear r q hG3
        have hSS := (HS.out wa).2 (LV.out.kept Qwa.out)
        refine hK _ _ hSS ?_
        clear hK K
        try simp only [List.getElem_toArray, List.getElem_cons_succ, List.getElem_cons_zero, Act.put, List.setIfInBounds_toArray, List.set_cons_zero, List.set_cons_succ]
        have M1 : Hid (w5.heap.size < wa.heap.size) := Lib.hid (by have := R3.out.lt; have := LG3.out; omega)
        refine wpAnyH_one (i := 10) rfl (by kernel_rfl) rfl (fun K hK => ?_)
        go_simp
        refine k_of (fun wz => Bx wz wa.heap.size (#[.int .i64 0, .int .i64 X, .slice none 0 0, .int .i64 0, .int .i64 Y, .slice none 0 0]) 27 ∧ Qw wa wz) ⟨Bx.new wa _ _, Qw.al (Qw.refl wa) _⟩ ?_
        rintro wb ⟨r, q⟩
        obtain ⟨G1, hG1⟩ : ∃ G, G = wa.heap.size := ⟨_, rfl⟩
        rw [← hG1] at r ⊢
        have R1 := Lib.hid r
        have Qwb : Hid (Qw w5 wb) := Lib.hid (Qw.trans Qwa.out q)
        have Uwb : Hid (Qw wa wb) := Lib.hid q
        have LG1 : Hid (G1 = wa.heap.size) := Lib.hid hG1
        clear r q hG1
        have hSS := (HS.out wb).2 (LV.out.kept Qwb.out)
        refine hK _ _ hSS ?_
        clear hK K
        try simp only [List.getElem_toArray, List.getElem_cons_succ, List.getElem_cons_zero, Act.put, List.setIfInBounds_toArray, List.set_cons_zero, List.set_cons_succ]
        replace R3 := Lib.hid (R3.out.kept Uwb.out)
        refine wpAnyH_take (i := 11) (v := ?_) rfl (by kernel_rfl) (by kernel_rfl) (by kernel_rfl) (fun _ _ _ h => h) (Or.inl ⟨by rfl, ?_⟩) hSS ?_
        rotate_left 1
        · intro wS hwS
          go_simp
          try with_reducible rfl
        simp only [List.getElem_toArray, List.getElem_cons_succ, List.getElem_cons_zero, Act.put, List.setIfInBounds_toArray, List.set_cons_zero, List.set_cons_succ]
        have M2 : Hid (wa.heap.size < wb.heap.size) := Lib.hid (by have := R1.out.lt; have := LG1.out; omega)
        refine wpAnyH_one (i := 13) rfl (by kernel_rfl) rfl (fun K hK => ?_)
        go_simp
        refine k_of (fun wz => Bx wz wb.heap.size (#[.int .i64 (oi : Nat), .int .i64 0, .slice (some ⟨G1, 0, none⟩) 2 2, .int .i64 0, .int .i64 Z, .slice none 0 0]) 27 ∧ Qw wb wz) ⟨Bx.new wb _ _, Qw.al (Qw.refl wb) _⟩ ?_
        rintro wc ⟨r, q⟩
        obtain ⟨G2, hG2⟩ : ∃ G, G = wb.heap.size := ⟨_, rfl⟩
        rw [← hG2] at r ⊢
        have R2 := Lib.hid r
        have Qwc : Hid (Qw w5 wc) := Lib.hid (Qw.trans Qwb.out q)
        have Uwc : Hid (Qw wb wc) := Lib.hid q
        have LG2 : Hid (G2 = wb.heap.size) := Lib.hid hG2
        clear r q hG2
        have hSS := (HS.out wc).2 (LV.out.kept Qwc.out)
        refine hK _ _ hSS ?_
        clear hK K
        try simp only [List.getElem_toArray, List.getElem_cons_succ, List.getElem_cons_zero, Act.put, List.setIfInBounds_toArray, List.set_cons_zero, List.set_cons_succ]
        replace R1 := Lib.hid (R1.out.kept Uwc.out)
        replace R3 := Lib.hid (R3.out.kept Uwc.out)
        refine wpAnyH_take (i := 14) (v := ?_) rfl (by kernel_rfl) (by kernel_rfl) (by kernel_rfl) (fun _ _ _ h => h) (Or.inl ⟨by rfl, ?_⟩) hSS ?_
        rotate_left 1
        · intro wS hwS
          go_simp
          try with_reducible rfl
        simp only [List.getElem_toArray, List.getElem_cons_succ, List.getElem_cons_zero, Act.put, List.setIfInBounds_toArray, List.set_cons_zero, List.set_cons_succ]
        have GE3 : Hid (w5.heap.size ≤ G3) := Lib.hid (by have := LG3.out; have := Qwa.out.size; have := Qwb.out.size; omega)
        have s1 := R1.out.lt
        have s2 := R2.out.lt
        have s3 := R3.out.lt
        have ne1 : G1 ≠ G3 := by have e1 := LG1.out; have e2 := LG3.out; have := M1.out; have := M2.out; omega
        have ne2 : G2 ≠ G3 := by have e1 := LG2.out; have e2 := LG3.out; have := M1.out; have := M2.out; omega
        refine wpAnyH_one (i := 16) rfl (by kernel_rfl) rfl (fun K hK => ?_)
        have zc0 := R3.out.cell' 0 _ rfl
        have zf0 := R3.out.free 0
        have zc1 := R3.out.cell' 1 _ rfl
        have zf1 := R3.out.free 1
        have zc2 := R3.out.cell' 2 _ rfl
        have zf2 := R3.out.free 2
        go_simp
        refine k_of (fun wz => Bx wz G1 (#[.int .i64 0, .int .i64 X, .slice none 0 0, .int .i64 0, .int .i64 Y, .slice none 0 0]) 27 ∧ Bx wz G2 (#[.int .i64 (oi : Nat), .int .i64 0, .slice (some ⟨G1, 0, none⟩) 2 2, .int .i64 0, .int .i64 Z, .slice none 0 0]) 27 ∧ Bx wz G3 (#[.int .i64 (ok : Nat), .int .i64 0, .slice (some ⟨G2, 0, none⟩) 2 2]) 27 ∧ Qw w5 wz) ⟨((R1.out.other ne1 _).other ne1 _).other ne1 _, ((R2.out.other ne2 _).other ne2 _).other ne2 _, ((R3.out.set 0 _).set 1 _).set 2 _, Qw.sc (Qw.sc (Qw.sc Qwc.out GE3.out _) GE3.out _) GE3.out _⟩ ?_
        clear zc0 zc1 zc2 zf0 zf1 zf2
        rintro wd ⟨r_R1, r_R2, r3, q⟩
        replace R1 := Lib.hid r_R1
        replace R2 := Lib.hid r_R2
        replace R3 := Lib.hid r3
        have Qwd := Lib.hid q
        clear r3 q r_R1 r_R2
        have hSS := (HS.out wd).2 (LV.out.kept Qwd.out)
        refine hK _ _ hSS ?_
        clear hK K
        try simp only [List.getElem_toArray, List.getElem_cons_succ, List.getElem_cons_zero, Act.put, List.setIfInBounds_toArray, List.set_cons_zero, List.set_cons_succ]
        refine wpAnyH_done (by kernel_rfl) ?_ _
        have G3D : Hid (G3 < wd.heap.size) := Lib.hid R3.out.lt
        clear HS F s1 s2 s3 ne1 ne2 Qwa Qwb Qwc Uwa Uwb Uwc M1 M2 LG1 LG2 LG3
        clear hSS
        go_upto_region 11 with fail
        obtain ⟨S, hS⟩ : ∃ S : World → Prop, ∀ w', S w' ↔ Bx w' B2 levA 3 := ⟨_, fun _ => Iff.rfl⟩
        have F2 := Lib.hid (fun w' (q : S w') => levc ((hS w').1 q) hi hk)
        have HS2 := Lib.hid hS
        rw [hli, hlk] at F2
        clear hS
        refine wp_region_held (S := S) (by kernel_rfl) ?_
        change wpAnyH _ _ _ _ _ _ _ _ (World.drew wd)
        have hSS : S (World.drew wd) := (HS2.out _).2 (Bx.drew (S2.out.kept Qwd.out))
        by_cases hlk2 : li < lk
        · have dl : (li : Int) < (lk : Int) := by omega
          have WL : Hid (W = Sy.bin (oi : Nat) (Sy.num X) (Sy.bin (ok : Nat) (Sy.num Y) (Sy.num Z))) := Lib.hid (by rw [← hW, ← hoi, ← hok]; unfold Sy.want; rw [if_pos (by rw [hli, hlk]; exact hlk2)])
          clear hlk2
          refine wpAnyH_take (i := 0) (v := ?_) rfl (by kernel_rfl) (by kernel_rfl) (by kernel_rfl) (fun _ _ _ h => h) (Or.inl ⟨by rfl, ?_⟩) hSS ?_
          rotate_left 1
          · intro wS hwS
            go_simp
            try with_reducible rfl
          simp only [List.getElem_toArray, List.getElem_cons_succ, List.getElem_cons_zero, Act.put, List.setIfInBounds_toArray, List.set_cons_zero, List.set_cons_succ]
          refine wpAnyH_take (i := 1) (v := ?_) rfl (by kernel_rfl) (by kernel_rfl) (by kernel_rfl) (fun _ _ _ h => h) (Or.inl ⟨by rfl, ?_⟩) hSS ?_
          rotate_left 1
          · intro wS hwS
            go_simp
            try with_reducible rfl
          simp only [List.getElem_toArray, List.getElem_cons_succ, List.getElem_cons_zero, Act.put, List.setIfInBounds_toArray, List.set_cons_zero, List.set_cons_succ]
          refine wpAnyH_take (i := 2) (v := ?_) rfl (by kernel_rfl) (by kernel_rfl) (by kernel_rfl) (fun _ _ _ h => h) (Or.inl ⟨by rfl, ?_⟩) hSS ?_
          rotate_left 1
          · intro wS hwS
            go_simp
            try with_reducible rfl
          simp only [List.getElem_toArray, List.getElem_cons_succ, List.getElem_cons_zero, Act.put, List.setIfInBounds_toArray, List.set_cons_zero, List.set_cons_succ]
          refine wpAnyH_take (i := 3) (v := ?_) rfl (by kernel_rfl) (by kernel_rfl) (by kernel_rfl) (fun _ _ _ h => h) (Or.inl ⟨by rfl, ?_⟩) hSS ?_
          rotate_left 1
          · intro wS hwS
            obtain ⟨f0, f1⟩ := F2.out wS hwS; go_simp
            try with_reducible rfl
          simp only [List.getElem_toArray, List.getElem_cons_succ, List.getElem_cons_zero, Act.put, List.setIfInBounds_toArray, List.set_cons_zero, List.set_cons_succ]
          refine wpAnyH_take (i := 4) (v := ?_) rfl (by kernel_rfl) (by kernel_rfl) (by kernel_rfl) (fun _ _ _ h => h) (Or.inl ⟨by rfl, ?_⟩) hSS ?_
          rotate_left 1
          · intro wS hwS
            go_simp
            try with_reducible rfl
          simp only [List.getElem_toArray, List.getElem_cons_succ, List.getElem_cons_zero, Act.put, List.setIfInBounds_toArray, List.set_cons_zero, List.set_cons_succ]
          refine wpAnyH_take (i := 5) (v := ?_) rfl (by kernel_rfl) (by kernel_rfl) (by kernel_rfl) (fun _ _ _ h => h) (Or.inl ⟨by rfl, ?_⟩) hSS ?_
          rotate_left 1
          · intro wS hwS
            go_simp
            try with_reducible rfl
          simp only [List.getElem_toArray, List.getElem_cons_succ, List.getElem_cons_zero, Act.put, List.setIfInBounds_toArray, List.set_cons_zero, List.set_cons_succ]
          refine wpAnyH_take (i := 6) (v := ?_) rfl (by kernel_rfl) (by kernel_rfl) (by kernel_rfl) (fun _ _ _ h => h) (Or.inl ⟨by rfl, ?_⟩) hSS ?_
          rotate_left 1
          · intro wS hwS
            go_simp
            try with_reducible rfl
          simp only [List.getElem_toArray, List.getElem_cons_succ, List.getElem_cons_zero, Act.put, List.setIfInBounds_toArray, List.set_cons_zero, List.set_cons_succ]
          refine wpAnyH_take (i := 7) (v := ?_) rfl (by kernel_rfl) (by kernel_rfl) (by kernel_rfl) (fun _ _ _ h => h) (Or.inl ⟨by rfl, ?_⟩) hSS ?_
          rotate_left 1
          · intro wS hwS
            obtain ⟨f0, f1⟩ := F2.out wS hwS; go_simp
            try with_reducible rfl
          simp only [List.getElem_toArray, List.getElem_cons_succ, List.getElem_cons_zero, Act.put, List.setIfInBounds_toArray, List.set_cons_zero, List.set_cons_succ]
          refine wpAnyH_take (i := 8) (v := ?_) rfl (by kernel_rfl) (by kernel_rfl) (by kernel_rfl) (fun _ _ _ h => h) (Or.inl ⟨by rfl, ?_⟩) hSS ?_
          rotate_left 1
          · intro wS hwS
            go_simp
            try with_reducible rfl
          simp only [List.getElem_toArray, List.getElem_cons_succ, List.getElem_cons_zero, Act.put, List.setIfInBounds_toArray, List.set_cons_zero, List.set_cons_succ]
          refine wpAnyH_done (by kernel_rfl) ?_ _
          clear hSS HS2 F2
          go_upto_region 12 with fail
          clear dl
          obtain ⟨S, hS⟩ : ∃ S : World → Prop, ∀ w', S w' ↔ Lvw w' B1 P0 P1 P2 X Y Z := ⟨_, fun _ => Iff.rfl⟩
          have F := Lib.hid (fun w' (q : S w') => Lvw.cells ((hS w').1 q) hi hk)
          rw [hoi, hok] at F
          have HS := Lib.hid hS
          clear hS
          refine wp_region_held (S := S) (by kernel_rfl) ?_
          change wpAnyH _ _ _ _ _ _ _ _ (World.drew _)
          have hSS := (HS.out (World.drew (World.drew wd))).2 (Lvw.dr (Lvw.dr (LV.out.kept Qwd.out)))
          refine wpAnyH_take (i := 0) (v := ?_) rfl (by kernel_rfl) (by kernel_rfl) (by kernel_rfl) (fun _ _ _ h => h) (Or.inl ⟨by rfl, ?_⟩) hSS ?_
          rotate_left 1
          · intro wS hwS
            go_simp
            try with_reducible rfl
          simp only [List.getElem_toArray, List.getElem_cons_succ, List.getElem_cons_zero, Act.put, List.setIfInBounds_toArray, List.set_cons_zero, List.set_cons_succ]
          refine wpAnyH_take (i := 1) (v := ?_) rfl (by kernel_rfl) (by kernel_rfl) (by kernel_rfl) (fun _ _ _ h => h) (Or.inl ⟨by rfl, ?_⟩) hSS ?_
          rotate_left 1
          · intro wS hwS
            go_simp
            try with_reducible rfl
          simp only [List.getElem_toArray, List.getElem_cons_succ, List.getElem_cons_zero, Act.put, List.setIfInBounds_toArray, List.set_cons_zero, List.set_cons_succ]
          refine wpAnyH_take (i := 2) (v := ?_) rfl (by kernel_rfl) (by kernel_rfl) (by kernel_rfl) (fun _ _ _ h => h) (Or.inl ⟨by rfl, ?_⟩) hSS ?_
          rotate_left 1
          · intro wS hwS
            go_simp
            try with_reducible rfl
          simp only [List.getElem_toArray, List.getElem_cons_succ, List.getElem_cons_zero, Act.put, List.setIfInBounds_toArray, List.set_cons_zero, List.set_cons_succ]
          refine wpAnyH_take (i := 3) (v := ?_) rfl (by kernel_rfl) (by kernel_rfl) (by kernel_rfl) (fun _ _ _ h => h) (Or.inl ⟨by rfl, ?_⟩) hSS ?_
          rotate_left 1
          · intro wS hwS
            obtain ⟨f0, f1, ⟨f2, f3, f4⟩, ⟨f5, f6, f7⟩, f8, f9, f10⟩ := F.out wS hwS; go_simp
            try with_reducible rfl
          simp only [List.getElem_toArray, List.getElem_cons_succ, List.getElem_cons_zero, Act.put, List.setIfInBounds_toArray, List.set_cons_zero, List.set_cons_succ]
          refine wpAnyH_take (i := 4) (v := ?_) rfl (by kernel_rfl) (by kernel_rfl) (by kernel_rfl) (fun _ _ _ h => h) (Or.inl ⟨by rfl, ?_⟩) hSS ?_
          rotate_left 1
          · intro wS hwS
            obtain ⟨f0, f1, ⟨f2, f3, f4⟩, ⟨f5, f6, f7⟩, f8, f9, f10⟩ := F.out wS hwS; go_simp
            try with_reducible rfl
          simp only [List.getElem_toArray, List.getElem_cons_succ, List.getElem_cons_zero, Act.put, List.setIfInBounds_toArray, List.set_cons_zero, List.set_cons_succ]
          refine wpAnyH_take (i := 5) (v := ?_) rfl (by kernel_rfl) (by kernel_rfl) (by kernel_rfl) (fun _ _ _ h => h) (Or.inl ⟨by rfl, ?_⟩) hSS ?_
          rotate_left 1
          · intro wS hwS
            go_simp
            try with_reducible rfl
          simp only [List.getElem_toArray, List.getElem_cons_succ, List.getElem_cons_zero, Act.put, List.setIfInBounds_toArray, List.set_cons_zero, List.set_cons_succ]
          refine wpAnyH_take (i := 6) (v := ?_) rfl (by kernel_rfl) (by kernel_rfl) (by kernel_rfl) (fun _ _ _ h => h) (Or.inl ⟨by rfl, ?_⟩) hSS ?_
          rotate_left 1
          · intro wS hwS
            go_simp
            try with_reducible rfl
          simp only [List.getElem_toArray, List.getElem_cons_succ, List.getElem_cons_zero, Act.put, List.setIfInBounds_toArray, List.set_cons_zero, List.set_cons_succ]
          refine wpAnyH_take (i := 7) (v := ?_) rfl (by kernel_rfl) (by kernel_rfl) (by kernel_rfl) (fun _ _ _ h => h) (Or.inl ⟨by rfl, ?_⟩) hSS ?_
          rotate_left 1
          · intro wS hwS
            go_simp
            try with_reducible rfl
          simp only [List.getElem_toArray, List.getElem_cons_succ, List.getElem_cons_zero, Act.put, List.setIfInBounds_toArray, List.set_cons_zero, List.set_cons_succ]
          refine wpAnyH_take (i := 8) (v := ?_) rfl (by kernel_rfl) (by kernel_rfl) (by kernel_rfl) (fun _ _ _ h => h) (Or.inl ⟨by rfl, ?_⟩) hSS ?_
          rotate_left 1
          · intro wS hwS
            obtain ⟨f0, f1, ⟨f2, f3, f4⟩, ⟨f5, f6, f7⟩, f8, f9, f10⟩ := F.out wS hwS; go_simp
            try with_reducible rfl
          simp only [List.getElem_toArray, List.getElem_cons_succ, List.getElem_cons_zero, Act.put, List.setIfInBounds_toArray, List.set_cons_zero, List.set_cons_succ]
          refine wpAnyH_take (i := 9) (v := ?_) rfl (by kernel_rfl) (by kernel_rfl) (by kernel_rfl) (fun _ _ _ h => h) (Or.inl ⟨by rfl, ?_⟩) hSS ?_
          rotate_left 1
          · intro wS hwS
            obtain ⟨f0, f1, ⟨f2, f3, f4⟩, ⟨f5, f6, f7⟩, f8, f9, f10⟩ := F.out wS hwS; go_simp
            try with_reducible rfl
          simp only [List.getElem_toArray, List.getElem_cons_succ, List.getElem_cons_zero, Act.put, List.setIfInBounds_toArray, List.set_cons_zero, List.set_cons_succ]
          refine wpAnyH_take (i := 10) (v := ?_) rfl (by kernel_rfl) (by kernel_rfl) (by kernel_rfl) (fun _ _ _ h => h) (Or.inl ⟨by rfl, ?_⟩) hSS ?_
          rotate_left 1
          · intro wS hwS
            obtain ⟨f0, f1, ⟨f2, f3, f4⟩, ⟨f5, f6, f7⟩, f8, f9, f10⟩ := F.out wS hwS; go_simp
            try with_reducible rfl
          simp only [List.getElem_toArray, List.getElem_cons_succ, List.getElem_cons_zero, Act.put, List.setIfInBounds_toArray, List.set_cons_zero, List.set_cons_succ]
          refine wpAnyH_one (i := 11) rfl (by kernel_rfl) rfl (fun K hK => ?_)
          go_simp
          refine k_of (fun wz => Bx wz wd.heap.size (#[.int .i64 0, .int .i64 Y, .slice none 0 0, .int .i64 0, .int .i64 Z, .slice none 0 0]) 27 ∧ Qw wd wz) ⟨Bx.drew (Bx.drew (Bx.new wd _ _)), Qw.dr (Qw.dr (Qw.al (Qw.refl wd) _))⟩ ?_
          rintro we ⟨r, q⟩
          obtain ⟨G4, hG4⟩ : ∃ G, G = wd.heap.size := ⟨_, rfl⟩
          rw [← hG4] at r ⊢
          have R4 := Lib.hid r
          have Qwe : Hid (Qw w5 we) := Lib.hid (Qw.trans Qwd.out q)
          have Uwe : Hid (Qw wd we) := Lib.hid q
          have LG4 : Hid (G4 = wd.heap.size) := Lib.hid hG4
          clear r q hG4
          have hSS := (HS.out we).2 (LV.out.kept Qwe.out)
          refine hK _ _ hSS ?_
          clear hK K
          try simp only [List.getElem_toArray, List.getElem_cons_succ, List.getElem_cons_zero, Act.put, List.setIfInBounds_toArray, List.set_cons_zero, List.set_cons_succ]
          replace R3 := Lib.hid (R3.out.kept Uwe.out)
          refine wpAnyH_take (i := 12) (v := ?_) rfl (by kernel_rfl) (by kernel_rfl) (by kernel_rfl) (fun _ _ _ h => h) (Or.inl ⟨by rfl, ?_⟩) hSS ?_
          rotate_left 1
          · intro wS hwS
            go_simp
            try with_reducible rfl
          simp only [List.getElem_toArray, List.getElem_cons_succ, List.getElem_cons_zero, Act.put, List.setIfInBounds_toArray, List.set_cons_zero, List.set_cons_succ]
          refine wpAnyH_one (i := 13) rfl (by kernel_rfl) rfl (fun K hK => ?_)
          go_simp
          refine k_of (fun wz => Bx wz we.heap.size (#[.int .i64 0, .int .i64 X, .slice none 0 0, .int .i64 (ok : Nat), .int .i64 0, .slice (some ⟨G4, 0, none⟩) 2 2]) 27 ∧ Qw we wz) ⟨Bx.new we _ _, Qw.al (Qw.refl we) _⟩ ?_
          rintro wf5 ⟨r, q⟩
          obtain ⟨G5, hG5⟩ : ∃ G, G = we.heap.size := ⟨_, rfl⟩
          rw [← hG5] at r ⊢
          have R5 := Lib.hid r
          have Qwf5 : Hid (Qw w5 wf5) := Lib.hid (Qw.trans Qwe.out q)
          have Uwf5 : Hid (Qw we wf5) := Lib.hid q
          have LG5 : Hid (G5 = we.heap.size) := Lib.hid hG5
          clear r q hG5
          have hSS := (HS.out wf5).2 (LV.out.kept Qwf5.out)
          refine hK _ _ hSS ?_
          clear hK K
          try simp only [List.getElem_toArray, List.getElem_cons_succ, List.getElem_cons_zero, Act.put, List.setIfInBounds_toArray, List.set_cons_zero, List.set_cons_succ]
          replace R4 := Lib.hid (R4.out.kept Uwf5.out)
          replace R3 := Lib.hid (R3.out.kept Uwf5.out)
          refine wpAnyH_take (i := 14) (v := ?_) rfl (by kernel_rfl) (by kernel_rfl) (by kernel_rfl) (fun _ _ _ h => h) (Or.inl ⟨by rfl, ?_⟩) hSS ?_
          rotate_left 1
          · intro wS hwS
            go_simp
            try with_reducible rfl
          simp only [List.getElem_toArray, List.getElem_cons_succ, List.getElem_cons_zero, Act.put, List.setIfInBounds_toArray, List.set_cons_zero, List.set_cons_succ]
          have ne4 : G4 ≠ G3 := by have := LG4.out; have := G3D.out; omega
          have ne5 : G5 ≠ G3 := by have := LG5.out; have := Uwe.out.size; have := G3D.out; omega
          refine wpAnyH_one (i := 15) rfl (by kernel_rfl) rfl (fun K hK => ?_)
          have zc0 := R3.out.cell' 0 _ rfl
          have zf0 := R3.out.free 0
          have zc1 := R3.out.cell' 1 _ rfl
          have zf1 := R3.out.free 1
          have zc2 := R3.out.cell' 2 _ rfl
          have zf2 := R3.out.free 2
          go_simp
          refine k_of (fun wz => Bx wz G4 (#[.int .i64 0, .int .i64 Y, .slice none 0 0, .int .i64 0, .int .i64 Z, .slice none 0 0]) 27 ∧ Bx wz G5 (#[.int .i64 0, .int .i64 X, .slice none 0 0, .int .i64 (ok : Nat), .int .i64 0, .slice (some ⟨G4, 0, none⟩) 2 2]) 27 ∧ Bx wz G3 (#[.int .i64 (oi : Nat), .int .i64 0, .slice (some ⟨G5, 0, none⟩) 2 2]) 27 ∧ Qw w5 wz) ⟨((R4.out.other ne4 _).other ne4 _).other ne4 _, ((R5.out.other ne5 _).other ne5 _).other ne5 _, ((R3.out.set 0 _).set 1 _).set 2 _, Qw.sc (Qw.sc (Qw.sc Qwf5.out GE3.out _) GE3.out _) GE3.out _⟩ ?_
          clear zc0 zc1 zc2 zf0 zf1 zf2
          rintro wg5 ⟨r_R4, r_R5, r3, q⟩
          replace R4 := Lib.hid r_R4
          replace R5 := Lib.hid r_R5
          replace R3 := Lib.hid r3
          have Qwg5 := Lib.hid q
          clear r3 q r_R4 r_R5
          have hSS := (HS.out wg5).2 (LV.out.kept Qwg5.out)
          refine hK _ _ hSS ?_
          clear hK K
          try simp only [List.getElem_toArray, List.getElem_cons_succ, List.getElem_cons_zero, Act.put, List.setIfInBounds_toArray, List.set_cons_zero, List.set_cons_succ]
          refine wpAnyH_done (by kernel_rfl) ?_ _
          have KZ : Hid (KidsB wg5 (fun _ => True) (some ⟨G5, 0, none⟩) 2 W.ks) := Lib.hid (by rw [WL.out]; exact KidsB.two (x := Sy.num X) (y := Sy.bin (ok : Nat) (Sy.num Y) (Sy.num Z)) R5.out trivial (KidsB.nl _ _ (by decide)) (KidsB.two (x := Sy.num Y) (y := Sy.num Z) R4.out trivial (KidsB.nl _ _ (by decide)) (KidsB.nl _ _ (by decide))))
          have CE : Hid (∀ wf, Qw wg5 wf → Calls Tryz.prog 16 #[.agg #[.int .i64 W.op, .int .i64 W.n, .slice q4 W.ks.length q5], .agg #[.int .i64 (oi : Nat), .int .i64 0, .slice (some ⟨G5, 0, none⟩) 2 2]] wf fun e w' => e = .returned (.bool true) ∧ Qw wf w') := Lib.hid (fun wf q => by have h := sx_sameExpr W q4 (some ⟨G5, 0, none⟩) q5 2 _ (fun _ => True) wf (KX.out.kept (Qw.trans Qwg5.out q)) (KZ.out.kept q); rw [WL.out] at h ⊢; exact h)
          have XB0 := XB
          clear LV S1 S2 HBk KX KZ WL HS F
          go_wp2_with (first
            | (go_at_call 15; ((with_reducible refine (AW.out _ (Qw.trans QQ.out Qwg5.out)).mono ?_); rintro e wf ⟨rfl, qf⟩; have pb := XB0.out.kept (Qw.trans Qwg5.out qf); have p0 : wf.cell? ⟨PB, 0, none⟩ = some (.int .i64 1) := pb.cell' 0 _ rfl; have p7 : wf.cell? ⟨PB, 7, none⟩ = some (.int .i64 W.op) := pb.cell' 7 _ rfl; have p8 : wf.cell? ⟨PB, 8, none⟩ = some (.int .i64 W.n) := pb.cell' 8 _ rfl; have p9 : wf.cell? ⟨PB, 9, none⟩ = some (.slice q4 W.ks.length q5) := pb.cell' 9 _ rfl; have pz := R3.out.kept qf; have z0 := pz.cell' 0 _ rfl; have z1 := pz.cell' 1 _ rfl; have z2 := pz.cell' 2 _ rfl; have QF := Lib.hid qf; clear pb pz qf))
            | (go_at_call 16; ((with_reducible refine (CE.out _ QF.out).mono ?_); rintro e wg ⟨rfl, qg⟩; have QG := Lib.hid qg; clear qg)))
          go_ret
          exact ⟨rfl, Qw.trans (Qw.trans (Qw.trans QQ.out Qwg5.out) QF.out) QG.out⟩
        · have dl : ¬ (li : Int) < (lk : Int) := by omega
          have WL : Hid (W = Sy.bin (ok : Nat) (Sy.bin (oi : Nat) (Sy.num X) (Sy.num Y)) (Sy.num Z)) := Lib.hid (by rw [← hW, ← hoi, ← hok]; unfold Sy.want; rw [if_neg (by rw [hli, hlk]; exact hlk2)])
          clear hlk2
          refine wpAnyH_take (i := 0) (v := ?_) rfl (by kernel_rfl) (by kernel_rfl) (by kernel_rfl) (fun _ _ _ h => h) (Or.inl ⟨by rfl, ?_⟩) hSS ?_
          rotate_left 1
          · intro wS hwS
            go_simp
            try with_reducible rfl
          simp only [List.getElem_toArray, List.getElem_cons_succ, List.getElem_cons_zero, Act.put, List.setIfInBounds_toArray, List.set_cons_zero, List.set_cons_succ]
          refine wpAnyH_take (i := 1) (v := ?_) rfl (by kernel_rfl) (by kernel_rfl) (by kernel_rfl) (fun _ _ _ h => h) (Or.inl ⟨by rfl, ?_⟩) hSS ?_
          rotate_left 1
          · intro wS hwS
            go_simp
            try with_reducible rfl
          simp only [List.getElem_toArray, List.getElem_cons_succ, List.getElem_cons_zero, Act.put, List.setIfInBounds_toArray, List.set_cons_zero, List.set_cons_succ]
          refine wpAnyH_take (i := 2) (v := ?_) rfl (by kernel_rfl) (by kernel_rfl) (by kernel_rfl) (fun _ _ _ h => h) (Or.inl ⟨by rfl, ?_⟩) hSS ?_
          rotate_left 1
          · intro wS hwS
            go_simp
            try with_reducible rfl
          simp only [List.getElem_toArray, List.getElem_cons_succ, List.getElem_cons_zero, Act.put, List.setIfInBounds_toArray, List.set_cons_zero, List.set_cons_succ]
          refine wpAnyH_take (i := 3) (v := ?_) rfl (by kernel_rfl) (by kernel_rfl) (by kernel_rfl) (fun _ _ _ h => h) (Or.inl ⟨by rfl, ?_⟩) hSS ?_
          rotate_left 1
          · intro wS hwS
            obtain ⟨f0, f1⟩ := F2.out wS hwS; go_simp
            try with_reducible rfl
          simp only [List.getElem_toArray, List.getElem_cons_succ, List.getElem_cons_zero, Act.put, List.setIfInBounds_toArray, List.set_cons_zero, List.set_cons_succ]
          refine wpAnyH_take (i := 4) (v := ?_) rfl (by kernel_rfl) (by kernel_rfl) (by kernel_rfl) (fun _ _ _ h => h) (Or.inl ⟨by rfl, ?_⟩) hSS ?_
          rotate_left 1
          · intro wS hwS
            go_simp
            try with_reducible rfl
          simp only [List.getElem_toArray, List.getElem_cons_succ, List.getElem_cons_zero, Act.put, List.setIfInBounds_toArray, List.set_cons_zero, List.set_cons_succ]
          refine wpAnyH_take (i := 5) (v := ?_) rfl (by kernel_rfl) (by kernel_rfl) (by kernel_rfl) (fun _ _ _ h => h) (Or.inl ⟨by rfl, ?_⟩) hSS ?_
          rotate_left 1
          · intro wS hwS
            go_simp
            try with_reducible rfl
          simp only [List.getElem_toArray, List.getElem_cons_succ, List.getElem_cons_zero, Act.put, List.setIfInBounds_toArray, List.set_cons_zero, List.set_cons_succ]
          refine wpAnyH_take (i := 6) (v := ?_) rfl (by kernel_rfl) (by kernel_rfl) (by kernel_rfl) (fun _ _ _ h => h) (Or.inl ⟨by rfl, ?_⟩) hSS ?_
          rotate_left 1
          · intro wS hwS
            go_simp
            try with_reducible rfl
          simp only [List.getElem_toArray, List.getElem_cons_succ, List.getElem_cons_zero, Act.put, List.setIfInBounds_toArray, List.set_cons_zero, List.set_cons_succ]
          refine wpAnyH_take (i := 7) (v := ?_) rfl (by kernel_rfl) (by kernel_rfl) (by kernel_rfl) (fun _ _ _ h => h) (Or.inl ⟨by rfl, ?_⟩) hSS ?_
          rotate_left 1
          · intro wS hwS
            obtain ⟨f0, f1⟩ := F2.out wS hwS; go_simp
            try with_reducible rfl
          simp only [List.getElem_toArray, List.getElem_cons_succ, List.getElem_cons_zero, Act.put, List.setIfInBounds_toArray, List.set_cons_zero, List.set_cons_succ]
          refine wpAnyH_take (i := 8) (v := ?_) rfl (by kernel_rfl) (by kernel_rfl) (by kernel_rfl) (fun _ _ _ h => h) (Or.inl ⟨by rfl, ?_⟩) hSS ?_
          rotate_left 1
          · intro wS hwS
            go_simp
            try with_reducible rfl
          simp only [List.getElem_toArray, List.getElem_cons_succ, List.getElem_cons_zero, Act.put, List.setIfInBounds_toArray, List.set_cons_zero, List.set_cons_succ]
          refine wpAnyH_done (by kernel_rfl) ?_ _
          clear hSS HS2 F2
          have KZ : Hid (KidsB wd (fun _ => True) (some ⟨G2, 0, none⟩) 2 W.ks) := Lib.hid (by rw [WL.out]; exact KidsB.two (x := Sy.bin (oi : Nat) (Sy.num X) (Sy.num Y)) (y := Sy.num Z) R2.out trivial (KidsB.two (x := Sy.num X) (y := Sy.num Y) R1.out trivial (KidsB.nl _ _ (by decide)) (KidsB.nl _ _ (by decide))) (KidsB.nl _ _ (by decide)))
          have CE : Hid (∀ wf, Qw wd wf → Calls Tryz.prog 16 #[.agg #[.int .i64 W.op, .int .i64 W.n, .slice q4 W.ks.length q5], .agg #[.int .i64 (ok : Nat), .int .i64 0, .slice (some ⟨G2, 0, none⟩) 2 2]] wf fun e w' => e = .returned (.bool true) ∧ Qw wf w') := Lib.hid (fun wf q => by have h := sx_sameExpr W q4 (some ⟨G2, 0, none⟩) q5 2 _ (fun _ => True) wf (KX.out.kept (Qw.trans Qwd.out q)) (KZ.out.kept q); rw [WL.out] at h ⊢; exact h)
          have XB0 := XB
          clear LV S1 S2 HBk KX KZ WL
          go_wp2_with (first
            | (go_at_call 15; ((with_reducible refine (AW.out _ (Qw.trans QQ.out (Qw.dr Qwd.out))).mono ?_); rintro e wf ⟨rfl, qf0⟩; have qf := Qw.trans (Qw.dr (Qw.refl wd)) qf0; clear qf0; have pb := XB0.out.kept (Qw.trans Qwd.out qf); have p0 : wf.cell? ⟨PB, 0, none⟩ = some (.int .i64 1) := pb.cell' 0 _ rfl; have p7 : wf.cell? ⟨PB, 7, none⟩ = some (.int .i64 W.op) := pb.cell' 7 _ rfl; have p8 : wf.cell? ⟨PB, 8, none⟩ = some (.int .i64 W.n) := pb.cell' 8 _ rfl; have p9 : wf.cell? ⟨PB, 9, none⟩ = some (.slice q4 W.ks.length q5) := pb.cell' 9 _ rfl; have pz := R3.out.kept qf; have z0 := pz.cell' 0 _ rfl; have z1 := pz.cell' 1 _ rfl; have z2 := pz.cell' 2 _ rfl; have QF := Lib.hid qf; clear pb pz qf))
            | (go_at_call 16; ((with_reducible refine (CE.out _ QF.out).mono ?_); rintro e wg ⟨rfl, qg⟩; have QG := Lib.hid qg; clear qg)))
          go_ret
          exact ⟨rfl, Qw.trans (Qw.trans (Qw.trans QQ.out Qwd.out) QF.out) QG.out⟩
/-! ### the row and the card -/
theorem reads_syntaxLevels (os : Os) {H : Type} (enc : TypeId × Value → H) : ∃ places, DataW.whole enc Tryz.prog ((laidWorldS os).forCall (fun _ _ => 0) ⟨#[], #[.int .i64 0, .int .i64 0, .int .i64 0, .int .i64 0, .int .i64 0], []⟩).memory Tryz.f3.params.toList Rows.syntaxLevelsSpec.vars false #[(.int .i64 0 : Value), .int .i64 0, .int .i64 0, .int .i64 0, .int .i64 0].toList 8 = some ([.lit (.int .i64 0), .lit (.int .i64 0), .lit (.int .i64 0), .lit (.int .i64 0), .lit (.int .i64 0)], [], places) :=
  ⟨[], by kernel_rfl⟩
set_option maxRecDepth 100000 in
theorem lifted_syntaxLevels (os : Os) (started : os.Started) (H : Type) (enc : TypeId × Value → H) (F : Stop.Interp) :
    ReturnsInHanded {} Tryz.checked os 3 .any ((OpenSpec.ofChange Rows.syntaxLevelsSpec).preRow enc Tryz.prog Tryz.f3 Rows.syntaxLevelsRow.domain false Rows.syntaxLevelsRow.laid) (((OpenSpec.ofChange Rows.syntaxLevelsSpec).at F).post enc Tryz.prog Tryz.f3 false true false false) := by
  obtain ⟨places, hx⟩ := reads_syntaxLevels os enc
  refine returnsInHanded_of_row (C := Tryz.checked) (s := OpenSpec.ofChange Rows.syntaxLevelsSpec) ownS started (by kernel_rfl) Tryz.func3
    (witness_row_at (enc := enc) (C := Tryz.checked) false (laidWorldS os) #[.int .i64 0, .int .i64 0, .int .i64 0, .int .i64 0, .int .i64 0] rfl (by kernel_rfl) (by kernel_rfl) (by kernel_rfl)
      (OpenSpec.preRow_of_cond 8 hx (by kernel_rfl) (fun k hk => by cases hk) (by kernel_rfl) (laid_metS os _))) ?_
  intro W base args ds gs before hval0 hW _ _ _ hL _ _
  obtain ⟨hb, ht, ho⟩ := tableS hL
  have hval : ∀ (j : Nat) t v, Tryz.f3.params[j]? = some t → args[j]? = some v → Value.okWide Tryz.prog W .any base t v := hval0
  have hW' := hW
  obtain ⟨p, q, hA0, hV, rfl, hfz, hnd⟩ := hW
  have hA : DataW.TrodAll enc Tryz.prog W 0 (fun _ => true) true Tryz.f3.params.toList args.toList ds p := hA0
  rw [Tryz.params3] at hA hval
  obtain ⟨v0, vs0, d0, ds0, p0, q0, hargs, rfl, rfl, h0, r0⟩ := trodAll_cons hA
  obtain ⟨v1, vs1, d1, ds1, p1, q1, rfl, rfl, rfl, h1, r1⟩ := trodAll_cons r0
  obtain ⟨v2, vs2, d2, ds2, p2, q2, rfl, rfl, rfl, h2, r2⟩ := trodAll_cons r1
  obtain ⟨v3, vs3, d3, ds3, p3, q3, rfl, rfl, rfl, h3, r3⟩ := trodAll_cons r2
  obtain ⟨v4, vs4, d4, ds4, p4, q4, rfl, rfl, rfl, h4, r4⟩ := trodAll_cons r3
  obtain ⟨rfl, rfl, rfl⟩ := trodAll_nil r4
  obtain rfl : args = #[v0, v1, v2, v3, v4] := by cases args; simp_all
  obtain ⟨rfl, rfl⟩ := trodVars_none hV
  obtain ⟨a0, rfl, rfl, rfl, w0⟩ := open_int Tryz.underlying3 (hval 0 3 v0 rfl rfl) h0
  obtain ⟨x0, y0⟩ := i64_of_wf w0
  obtain ⟨a1, rfl, rfl, rfl, w1⟩ := open_int Tryz.underlying3 (hval 1 3 v1 rfl rfl) h1
  obtain ⟨x1, y1⟩ := i64_of_wf w1
  obtain ⟨a2, rfl, rfl, rfl, w2⟩ := open_int Tryz.underlying3 (hval 2 3 v2 rfl rfl) h2
  obtain ⟨x2, y2⟩ := i64_of_wf w2
  obtain ⟨a3, rfl, rfl, rfl, w3⟩ := open_int Tryz.underlying3 (hval 3 3 v3 rfl rfl) h3
  obtain ⟨x3, y3⟩ := i64_of_wf w3
  obtain ⟨a4, rfl, rfl, rfl, w4⟩ := open_int Tryz.underlying3 (hval 4 3 v4 rfl rfl) h4
  obtain ⟨x4, y4⟩ := i64_of_wf w4
  clear hA0 hval0 hL
  simp only [List.append_nil] at hW'
  refine (walk_syntaxLevels a0 x0 y0 a1 x1 y1 a2 x2 y2 a3 x3 y3 a4 x4 y4 W hb ht ho).mono fun e W' ⟨he, bel⟩ => ?_
  subst he
  exact ⟨_, rfl, _, _, _, [], _, [], hW', trodAll_mk1 (shut_bool Tryz.underlying4 _), (trodAll_cons_mk (shut_int Tryz.underlying3 w0) (trodAll_cons_mk (shut_int Tryz.underlying3 w1) (trodAll_cons_mk (shut_int Tryz.underlying3 w2) (trodAll_cons_mk (shut_int Tryz.underlying3 w3) (trodAll_cons_mk (shut_int Tryz.underlying3 w4) trodAll_mk0))))), rfl, Below.frame bel _, fun h => by cases h⟩
theorem syntaxLevels_said : Rows.SyntaxLevelsSaid :=
  OpenClaim.holds_of_cond 3 Tryz.f3 rfl rfl rfl rfl rfl rfl rfl ⟨rfl, rfl, rfl, rfl, rfl⟩ rfl rfl rfl rfl rfl (by kernel_rfl) Tryz.func3 (by kernel_rfl)
    (of_decide_eq_true (by kernel_rfl)) (by unfold Func.isWrapper; first | (rw [if_pos (by decide +kernel)]; kernel_rfl) | (rw [if_neg (by decide +kernel)]; exact ⟨rfl, rfl⟩))
    (fun os started H enc _ F => by rw [OpenClaim.pre_eq_preRow]; exact lifted_syntaxLevels os started H enc F)
theorem plain_syntaxLevels (f : FuncId) (fn : Func) (hf : Tryz.pinned.checked.prog.funcNamed "cnc/cnclaw06.SyntaxLevels" = some f) (hfn : Tryz.pinned.checked.prog.funcs[f]? = some fn) :
    true = Tryz.pinned.checked.prog.looks [] ∧ ∀ (j : Nat) t, fn.params[j]? = some t → Tryz.pinned.checked.prog.wantsStandIn t = false := by
  obtain rfl : f = 3 := Option.some.inj ((show Tryz.prog.funcNamed "cnc/cnclaw06.SyntaxLevels" = some 3 by kernel_rfl).symm.trans hf) |>.symm
  obtain rfl : fn = Tryz.f3 := (Option.some.inj (Tryz.func3.symm.trans hfn)).symm
  refine ⟨by kernel_rfl, fun j t ht => ?_⟩
  rw [Tryz.params3] at ht
  obtain rfl : t = 3 := by simpa using Array.mem_of_getElem? ht
  exact (show Tryz.prog.wantsStandIn 3 = false by kernel_rfl)
/-- The statement. -/
theorem syntaxLevels_card : Rows.SyntaxLevelsCardSaid :=
  Claim7.holds_tied_plain_at .later [] _ _ _ _ syntaxLevels_said (fun _ h => by cases h) (by kernel_rfl) (fun _ h => by cases h) syntaxLevels_row_tie rfl ⟨rfl, rfl⟩ (by kernel_rfl) rfl plain_syntaxLevels (by kernel_rfl)
end Go.Proofs.YtbcbnkapipimmaaGreatDoor

