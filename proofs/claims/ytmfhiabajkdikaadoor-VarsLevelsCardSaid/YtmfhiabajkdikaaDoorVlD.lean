
/- Scripts in memory; the walks of few, same and step. -/
import Derived.Test.YtmfhiabajkdikaaDoorVlC
import Derived.Test.YtmfhiabajkdikaaDoorVrB
set_option linter.unusedVariables false
set_option linter.unusedSimpArgs false
namespace Go.Proofs.YtmfhiabajkdikaaDoor
open Go.RowKit


/-- A slice of acts below block C. -/
def ActsB (C : Nat) (w : World) (v : Value) (l : List Vs.A) : Prop :=
  ∃ (a : Option Addr) (cap : Nat), v = .slice a l.length cap ∧ l.length ≤ cap ∧ cap ≤ 9223372036854775807 ∧ (l = [] ∨ ∃ b off, a = some ⟨b, off, none⟩ ∧ b < C ∧
    ∀ i (h : i < l.length), ∃ sv, (w.cell? ⟨b, off + i * 5, none⟩ = some (.int .i64 l[i].what) ∧ w.cell? ⟨b, off + i * 5 + 1, none⟩ = some (.int .i64 l[i].n) ∧ w.cell? ⟨b, off + i * 5 + 2, none⟩ = some (.int .i64 l[i].v) ∧
      w.cell? ⟨b, off + i * 5 + 3, none⟩ = some (.bool l[i].near) ∧ w.cell? ⟨b, off + i * 5 + 4, none⟩ = some sv) ∧ ValsB C w sv l[i].args ∧ -9223372036854775808 ≤ l[i].n ∧ l[i].n ≤ 9223372036854775807 ∧ -9223372036854775808 ≤ l[i].v ∧ l[i].v ≤ 9223372036854775807)

namespace Vs
/-- None of the first acts has more than 30 arguments. -/
def shortTo (l : List A) : Nat → Bool
  | 0 => true
  | m + 1 => shortTo l m && (match l[m]? with | some a => decide (a.args.length ≤ 30) | none => true)
def few (l : List A) : Bool := shortTo l (min l.length 60) && decide (l.length ≤ 60)
theorem short_no {l : List A} {m : Nat} (h : shortTo l m = false) (k : Nat) : shortTo l (m + k) = false := by
  induction k with
  | zero => exact h
  | succ k ih => show (shortTo l (m + k) && _) = false; rw [ih]; rfl
theorem few_long {l : List A} {i : Nat} (hi : i < l.length) (h60 : i < 60) (h : 30 < l[i].args.length) : few l = false := by
  have e : shortTo l (i + 1) = false := by
    show (shortTo l i && (match l[i]? with | some a => decide (a.args.length ≤ 30) | none => true)) = false
    rw [List.getElem?_eq_getElem hi]
    show (shortTo l i && decide (l[i].args.length ≤ 30)) = false
    rw [decide_eq_false (by omega), Bool.and_false]
  have := short_no e (min l.length 60 - (i + 1))
  rw [show i + 1 + (min l.length 60 - (i + 1)) = min l.length 60 by omega] at this
  unfold few
  rw [this]
  rfl
theorem short_next {l : List A} {i : Nat} (hi : i < l.length) (h0 : shortTo l i = true) (h : l[i].args.length ≤ 30) : shortTo l (i + 1) = true := by
  show (shortTo l i && (match l[i]? with | some a => decide (a.args.length ≤ 30) | none => true)) = true
  rw [List.getElem?_eq_getElem hi, h0]
  show (true && decide (l[i].args.length ≤ 30)) = true
  rw [decide_eq_true h]
  rfl
end Vs

set_option maxRecDepth 100000 in
set_option maxHeartbeats 4000000 in
theorem vlFew {C : Nat} {w : World} {v : Value} {l : List Vs.A} (h : ActsB C w v l) : Calls Tryd.prog 9 #[v] w fun e w' => e = .returned (.bool (Vs.few l)) ∧ w = w' := by
  obtain ⟨a, cap, rfl, l1, l2, hA⟩ := h
  have HA := Lib.hid hA
  clear hA
  go_enter Tryd.func9, Tryd.ntmps9
  go_wp2
  go_loop [3] (fun iv => ∃ i : Nat, i ≤ l.length ∧ i ≤ 60 ∧ iv = .int .i64 (i : Int) ∧ Hid (Vs.shortTo l i = true)) (fun iv => l.length - (intOf iv).toNat)
  case atStart => exact ⟨0, by omega, by omega, rfl, Lib.hid rfl⟩
  case round =>
    obtain ⟨i, hi, hi60, rfl, HS⟩ := hrel
    by_cases hlt : i < l.length
    · rcases HA.out with h | ⟨b, off, rfl, hb, hc⟩
      · rw [h] at hlt; simp at hlt
      · obtain ⟨sv, ⟨_, _, _, _, c4⟩, ⟨sa, sc, rfl, s1, s2, _⟩, _⟩ := hc i hlt
        have hlt' : (i : Int) < (l.length : Int) := by omega
        have hi63 : (i : Int) ≤ 9223372036854775806 := by omega
        have EL := Lib.hid (fun h60 h => Vs.few_long hlt h60 h)
        have EN := Lib.hid (fun h => Vs.short_next hlt HS.out h)
        clear hc
        generalize l[i].args.length = k at *
        by_cases h60 : i < 60
        · have h60' : (i : Int) < 60 := by omega
          by_cases h30 : (30 : Int) < (k : Int)
          · have E := Lib.hid (EL.out h60 (by omega))
            go_wp2
            go_ret
            exact ⟨ret_bb E.out.symm, rfl⟩
          · have E := Lib.hid (EN.out (by omega))
            go_wp2
            go_round
            case rel => exact ⟨i + 1, by omega, by omega, by go_num, E⟩
            case measure => simp [intOf]; omega
        · obtain rfl : i = 60 := by omega
          have E : Hid (Vs.few l = false) := Lib.hid (by unfold Vs.few; rw [decide_eq_false (by omega), Bool.and_false])
          have d : decide ((l.length : Int) ≤ 60) = false := decide_eq_false (by omega)
          clear h60
          go_wp2
          go_ret
          exact ⟨ret_bb E.out.symm, rfl⟩
    · obtain rfl : i = l.length := by omega
      have E : Hid (Vs.few l = true) := Lib.hid (by unfold Vs.few; rw [Nat.min_eq_left (by omega), HS.out, decide_eq_true (by omega)]; rfl)
      have d : decide ((l.length : Int) ≤ 60) = true := decide_eq_true (by omega)
      have d2 : (l.length : Int) ≤ 60 := by omega
      clear hlt
      go_wp2
      go_ret
      exact ⟨ret_bb E.out.symm, rfl⟩

set_option maxRecDepth 100000 in
set_option maxHeartbeats 4000000 in
theorem vlSame {w : World} {B L c B' L' c' : Nat} {s : Vs.St} (h : Pst w B L c s) (k : Rst w B' L' c' s) : Calls Tryd.prog 13 #[.pointer (some ⟨B, 0, none⟩), .pointer (some ⟨B', 0, none⟩)] w fun e w' => e = .returned (.bool true) ∧ Qw w w' := by
  have H := Lib.hid h
  have K := Lib.hid k
  clear h k
  go_enter Tryd.func13, Tryd.ntmps13
  go_wp2
  go_loopw [5] (fun iv wr => ∃ i : Nat, i ≤ 17 ∧ iv = .int .i64 (i : Int) ∧ Hid (Qw w wr)) (fun iv _ => 17 - (intOf iv).toNat)
  case atStart => exact ⟨0, by omega, rfl, Lib.hid (Qw.refl w)⟩
  case round =>
    obtain ⟨i, hi, rfl, HQ⟩ := hrel
    by_cases hlt : i < 17
    · have hlt' : (i : Int) < 17 := by omega
      obtain ⟨n, hn⟩ : ∃ n, (if (true : Bool) then Vs.vtab.getD ((i : Int) % 17).toNat 0 else (i : Int)) = n := ⟨_, rfl⟩
      have V1 := Lib.hid (fun w => vlVar 0 (i : Int) 0 true (.slice none 0 0) ⟨_, _, _, rfl⟩ (by omega) (by omega) n hn w)
      clear hn
      obtain ⟨x, hx⟩ : ∃ x, s.get n = x := ⟨_, rfl⟩
      obtain ⟨y, hy⟩ : ∃ y, Vs.gerr n = y := ⟨_, rfl⟩
      have g1 : ∀ w', Qw w w' → Calls Tryd.prog 18 #[.pointer (some ⟨B, 0, none⟩), .int .i64 n] w' fun e w'' => e = .returned (.tuple #[.int .i64 x, .int .i64 y]) ∧ Qw w' w'' := fun w' q => by subst hx hy; exact vaGet (H.out.kept q) n
      have g2 : ∀ w', Qw w w' → Calls Tryd.prog 28 #[.pointer (some ⟨B', 0, none⟩), .int .i64 n] w' fun e w'' => e = .returned (.tuple #[.int .i64 x, .int .i64 y]) ∧ Qw w' w'' := fun w' q => by subst hx hy; exact vrGet (K.out.kept q) n
      have G1 := Lib.hid g1
      have G2 := Lib.hid g2
      clear g1 g2 hx hy
      go_wp2_with (first
        | (go_at_call 26; ((with_reducible refine (V1.out _).mono ?_); rintro e w1 ⟨rfl, q⟩; have Q1 := Lib.hid (HQ.out.trans q); clear q))
        | (go_at_call 18; ((with_reducible refine (G1.out _ Q1.out).mono ?_); rintro e w2 ⟨rfl, q⟩; have Q2 := Lib.hid (Q1.out.trans q); clear q))
        | (go_at_call 28; ((with_reducible refine (G2.out _ Q2.out).mono ?_); rintro e w3 ⟨rfl, q⟩; have Q3 := Lib.hid (Q2.out.trans q); clear q)))
      go_roundw
      case rel => exact ⟨i + 1, by omega, by go_num, Q3⟩
      case measure => simp [intOf]; omega
    · obtain rfl : i = 17 := by omega
      go_wp2_with (first
        | (go_at_call 19; ((with_reducible refine (vaLevel (H.out.kept HQ.out)).mono ?_); rintro e w1 ⟨rfl, rfl⟩))
        | (go_at_call 29; ((with_reducible refine (vrLevel (K.out.kept HQ.out)).mono ?_); rintro e w1 ⟨rfl, rfl⟩)))
      go_ret
      exact ⟨rfl, HQ.out⟩

/-- A store of the program and one of the specification, each in its state. -/
structure Pr (w0 w : World) (B L c B' L' c' : Nat) (s t : Vs.St) : Prop where
  p : Pst w B L c s
  r : Rst w B' L' c' t
  d : B ≠ B' ∧ B ≠ L' ∧ L ≠ B' ∧ L ≠ L'
  b : w0.heap.size ≤ B ∧ w0.heap.size ≤ L ∧ w0.heap.size ≤ B' ∧ w0.heap.size ≤ L'
  q : Qw w0 w
theorem Pr.kept {w0 w w' : World} {B L c B' L' c' : Nat} {s t : Vs.St} (h : Pr w0 w B L c B' L' c' s t) (q : Qw w w') : Pr w0 w' B L c B' L' c' s t :=
  ⟨h.p.kept q, h.r.kept q, h.d, h.b, h.q.trans q⟩
def Fb (B L B' L' : Nat) (k : Nat) : Prop := k = B ∨ k = L ∨ k = B' ∨ k = L'
theorem Pr.tf {F : Nat → Prop} {w0 w w' : World} {B L c B' L' c' : Nat} {s t : Vs.St} (h : Pr w0 w B L c B' L' c' s t) (q : Tf F w w') (hd : ∀ k, F k → ¬ Fb B L B' L' k) (hF : ∀ k, F k → w0.heap.size ≤ k) : Pr w0 w' B L c B' L' c' s t := by
  have eB := q.block B h.p.ltB (fun k => hd _ k (.inl rfl))
  have eL := q.block L h.p.ltL (fun k => hd _ k (.inr (.inl rfl)))
  have eB' := q.block B' h.r.ltB (fun k => hd _ k (.inr (.inr (.inl rfl))))
  have eL' := q.block L' h.r.ltL (fun k => hd _ k (.inr (.inr (.inr rfl))))
  exact ⟨⟨eB.trans h.p.bx, h.p.lv.same eL, h.p.ne, h.p.c1, h.p.c2, h.p.ok⟩, ⟨eB'.trans h.r.bx, h.r.lv.same eL', h.r.ne, h.r.c1, h.r.c2, h.r.ok⟩, h.d, h.b, h.q.tf q hF⟩

/-- Both have turned, one behind the other. -/
theorem Pr.two {w0 w w1 w2 : World} {B L c B' L' c' L1 c1 L2 c2 : Nat} {s t s1 t1 : Vs.St} (h : Pr w0 w B L c B' L' c' s t) (t1' : Ty B L w w1) (p1 : Pst w1 B L1 c1 s1) (n1 : L1 = L ∨ w.heap.size ≤ L1)
    (t2 : Ty B' L' w1 w2) (r2 : Rst w2 B' L2 c2 t1) (n2 : L2 = L' ∨ w1.heap.size ≤ L2) : Pr w0 w2 B L1 c1 B' L2 c2 s1 t1 ∧ (L2 = L' ∨ w.heap.size ≤ L2) ∧ Tf (Fb B L B' L') w w2 := by
  obtain ⟨d1, d2, d3, d4⟩ := h.d
  obtain ⟨b1, b2, b3, b4⟩ := h.b
  have a1 := h.p.ltB
  have a2 := h.p.ltL
  have a3 := h.r.ltB
  have a4 := h.r.ltL
  have s1' := t1'.size
  have l1 := p1.ltL
  have l2 := r2.ltL
  have q0 := h.q.size
  have T : Tf (Fb B L B' L') w w2 := Tf.step (Tf.ty t1' (.inl rfl) (.inr (.inl rfl))) (Tf.ty (F := Fb B L B' L') t2 (.inr (.inr (.inl rfl))) (.inr (.inr (.inr rfl)))) (fun i _ g => g)
  refine ⟨⟨p1.ty t2 d1 d2 (by omega) (by omega), r2, ⟨d1, by omega, by omega, by omega⟩, ⟨b1, by omega, b3, by omega⟩, h.q.tf T (fun k hk => by rcases hk with k | k | k | k <;> omega)⟩, by omega, T⟩
/-- Rst behind the first one. -/
theorem Pr.r1 {w0 w w1 : World} {B L c B' L' c' : Nat} {s t : Vs.St} (h : Pr w0 w B L c B' L' c' s t) (t1 : Ty B L w w1) : Rst w1 B' L' c' t :=
  h.r.ty t1 (fun e => h.d.1 e.symm) (fun e => h.d.2.2.1 e.symm) (fun e => h.d.2.1 e.symm) (fun e => h.d.2.2.2 e.symm)

/-- What a step leaves: the store that goes on, whether they agree, and who has turned. -/
def StepR (w0 w : World) (B L B' L' : Nat) (s1 t1 : Vs.St) (same : Prop) (what : Int) (e : Ending) (w' : World) : Prop :=
  ∃ B1 L1 c1 L2 c2 b, e = .returned (.tuple #[.pointer (some ⟨B1, 0, none⟩), .bool b]) ∧ (same → b = true) ∧ Pr w0 w' B1 L1 c1 B' L2 c2 s1 t1 ∧ (B1 = B ∧ (L1 = L ∨ w.heap.size ≤ L1) ∨ what = 5 ∧ w.heap.size ≤ B1 ∧ w.heap.size ≤ L1) ∧ (L2 = L' ∨ w.heap.size ≤ L2) ∧ Tf (Fb B L B' L') w w'

namespace Vs
def St.step (s : St) (a : A) : St :=
  if a.what = 1 then s.set a.var a.val else if a.what = 2 then s.host a.var a.val else if a.what = 3 then s.push a.ars else if a.what = 4 then s.pop else s
end Vs

end Go.Proofs.YtmfhiabajkdikaaDoor
