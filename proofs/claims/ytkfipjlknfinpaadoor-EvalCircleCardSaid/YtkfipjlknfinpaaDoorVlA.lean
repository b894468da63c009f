
/- What the laws of layer 7 share: stores of the call's own; the sanity check. -/
import Derived.Test.YtkfipjlknfinpaaDoorVrE
set_option linter.unusedVariables false
set_option linter.unusedSimpArgs false
namespace Go.Proofs.YtkfipjlknfinpaaDoor
open Go.RowKit


/-- Only the old blocks of F have turned. -/
structure Tf (F : Nat → Prop) (w w' : World) : Prop where
  os : w'.os = w.os
  tape : w'.tape = w.tape
  output : w'.output = w.output
  size : w.heap.size ≤ w'.heap.size
  block : ∀ k, k < w.heap.size → ¬ F k → w'.heap[k]? = w.heap[k]?
theorem Tf.refl (F : Nat → Prop) (w : World) : Tf F w w := ⟨rfl, rfl, rfl, Nat.le_refl _, fun _ _ _ => rfl⟩
theorem Tf.of {F : Nat → Prop} {w w' : World} (q : Qw w w') : Tf F w w' := ⟨q.os, q.tape, q.output, q.size, fun k h _ => q.block k h⟩
theorem Tf.trans {F : Nat → Prop} {a b c : World} (h : Tf F a b) (k : Tf F b c) : Tf F a c :=
  ⟨k.os.trans h.os, k.tape.trans h.tape, k.output.trans h.output, Nat.le_trans h.size k.size, fun i hi h1 => (k.block i (Nat.lt_of_lt_of_le hi h.size) h1).trans (h.block i hi h1)⟩
theorem Tf.ty {F : Nat → Prop} {B L : Nat} {w w' : World} (h : Ty B L w w') (hB : F B) (hL : F L) : Tf F w w' :=
  ⟨h.os, h.tape, h.output, h.size, fun k hk hF => h.block k hk (fun e => hF (e ▸ hB)) (fun e => hF (e ▸ hL))⟩
/-- The blocks of F may grow by new ones. -/
theorem Tf.step {F G : Nat → Prop} {a b c : World} (h : Tf F a b) (k : Tf G b c) (hG : ∀ i, i < a.heap.size → G i → F i) : Tf F a c :=
  ⟨k.os.trans h.os, k.tape.trans h.tape, k.output.trans h.output, Nat.le_trans h.size k.size, fun i hi h1 => (k.block i (Nat.lt_of_lt_of_le hi h.size) (fun g => h1 (hG i hi g))).trans (h.block i hi h1)⟩
theorem Qw.tf {F : Nat → Prop} {w0 w w' : World} (q : Qw w0 w) (t : Tf F w w') (hF : ∀ k, F k → w0.heap.size ≤ k) : Qw w0 w' :=
  ⟨t.os.trans q.os, t.tape.trans q.tape, t.output.trans q.output, Nat.le_trans q.size t.size, fun k hk => (t.block k (Nat.lt_of_lt_of_le hk q.size) (fun h => by have := hF k h; omega)).trans (q.block k hk)⟩
theorem Qw.tyn {B L : Nat} {w0 w w' : World} (q : Qw w0 w) (t : Ty B L w w') (hB : w0.heap.size ≤ B) (hL : w0.heap.size ≤ L) : Qw w0 w' :=
  q.tf (F := fun k => k = B ∨ k = L) (Tf.ty t (.inl rfl) (.inr rfl)) (fun k h => by rcases h with rfl | rfl <;> assumption)

/-- A store of the call's own: of the program, of the specification. -/
structure Ps (w0 w : World) (B L cap : Nat) (s : Vs.St) : Prop where
  p : Pst w B L cap s
  b : w0.heap.size ≤ B
  l : w0.heap.size ≤ L
  q : Qw w0 w

theorem psNew {w0 w : World} (q : Qw w0 w) : Calls Tryd.prog 23 #[] w fun e w' => ∃ B L cap, e = .returned (.pointer (some ⟨B, 0, none⟩)) ∧ Ps w0 w' B L cap Vs.new :=
  (vaNew w).mono fun e w' ⟨B, L, cap, he, h, hB, hL, q'⟩ => ⟨B, L, cap, he, h, Nat.le_trans q.size hB, Nat.le_trans q.size hL, q.trans q'⟩
theorem psGet {w0 w : World} {B L cap : Nat} {s : Vs.St} (h : Ps w0 w B L cap s) (n x y : Int) (hx : s.get n = x) (hy : Vs.gerr n = y) : Calls Tryd.prog 15 #[.pointer (some ⟨B, 0, none⟩), .int .i64 n] w fun e w' => e = .returned (.tuple #[.int .i64 x, .int .i64 y]) ∧ Ps w0 w' B L cap s := by
  subst hx hy
  exact (vaGet h.p n).mono fun e w' ⟨he, q⟩ => ⟨he, h.p.kept q, h.b, h.l, h.q.trans q⟩
theorem psSet {w0 w : World} {B L cap : Nat} {s : Vs.St} (h : Ps w0 w B L cap s) (n v y : Int) (hy : Vs.serr n v = y) : Calls Tryd.prog 24 #[.pointer (some ⟨B, 0, none⟩), .int .i64 n, .int .i64 v] w fun e w' => e = .returned (.int .i64 y) ∧ Ps w0 w' B L cap (s.set n v) := by
  subst hy
  exact (vaSet h.p n v).mono fun e w' ⟨he, hp, t⟩ => ⟨he, hp, h.b, h.l, h.q.tyn t h.b h.l⟩
theorem psLevel {w0 w : World} {B L cap : Nat} {s : Vs.St} (h : Ps w0 w B L cap s) (y : Int) (hy : (s.n : Int) - 1 = y) : Calls Tryd.prog 17 #[.pointer (some ⟨B, 0, none⟩)] w fun e w' => e = .returned (.int .i64 y) ∧ w = w' := by
  subst hy
  exact vaLevel h.p
theorem Ps.al {w0 w : World} {B L cap : Nat} {s : Vs.St} (h : Ps w0 w B L cap s) (o : Obj) : Ps w0 (w.alloc o) B L cap s := ⟨h.p.kept (Qw.al (Qw.refl w) _), h.b, h.l, Qw.al h.q _⟩
theorem Ps.kept {w0 w w' : World} {B L cap : Nat} {s : Vs.St} (h : Ps w0 w B L cap s) (q : Qw w w') : Ps w0 w' B L cap s := ⟨h.p.kept q, h.b, h.l, h.q.trans q⟩
theorem aw_1 : Vs.perr Vs.new [(88, 7)] = 0 := by decide +kernel
theorem aw_2 : (Vs.new.push [(88, 7)]).get 24 = 7 ∧ Vs.gerr 24 = 0 ∧ Vs.gerr 34 = 6 := by decide +kernel
theorem aw_3 : Vs.serr 5021 0 = 13 ∧ ((Vs.new.push [(88, 7)]).n : Int) - 1 = 1 ∧ Vs.loc 65 = 1 := by decide +kernel
theorem aw_4 : (Vs.new.push [(88, 7)]).set 5021 0 = Vs.new.push [(88, 7)] := by
  unfold Vs.St.set
  rw [if_pos (by rw [aw_3.1]; decide)]

theorem vals_one (w : World) (a b : Int) (t : TypeId) (b1 : -9223372036854775808 ≤ b) (b2 : b ≤ 9223372036854775807) : ValsB (w.alloc (.cells #[.int .i64 a, .int .i64 b] t)).heap.size (w.alloc (.cells #[.int .i64 a, .int .i64 b] t)) (.slice (some ⟨w.heap.size, 0, none⟩) 1 1) [(a, b)] := by
  have X := Bx.new w #[.int .i64 a, .int .i64 b] t
  refine ⟨_, 1, rfl, Nat.le_refl _, by decide, .inr ⟨w.heap.size, 0, rfl, by simp, fun i hi => ?_⟩⟩
  have hi' : i < 1 := hi
  obtain rfl : i = 0 := by omega
  exact ⟨X.cell' 0 _ rfl, X.cell' 1 _ rfl, b1, b2⟩

end Go.Proofs.YtkfipjlknfinpaaDoor
