import Derived.Test.YtciglhecjkeogaaGreatDoorZTX1
import Derived.Test.YtciglhecjkeogaaGreatDoorZTX2
import Derived.Test.YtciglhecjkeogaaGreatDoorZTX3
import Derived.Test.YtciglhecjkeogaaGreatDoorZTX4
import Derived.Test.YtciglhecjkeogaaGreatDoorZTX5
import Derived.Test.YtciglhecjkeogaaGreatDoorZTX22
import Derived.Test.YtciglhecjkeogaaGreatDoorZTX23
import Derived.Outline
import Derived.Deep.QuietTactic
import Derived.BigQuiet
set_option linter.unusedVariables false
set_option linter.unusedSimpArgs false
namespace Go.Proofs.YtciglhecjkeogaaGreatDoor
open Go.RowKit
set_option maxRecDepth 100000 in
set_option maxHeartbeats 4000000 in
theorem sv_badlabel (kind label n : Int) (skip : Bool) (words : List (Int × Sy.Ex)) (left x : Sy.Ex) (wa la xa : Option Addr) (wc lc xc : Nat) (w : World) (m2 : words.length ≤ 9223372036854775807) (hl : label ≠ 0) (hc : Sy.cnt label 99999 = false) :
    Calls Tryz.prog 25 #[.agg #[.int .i64 kind, .int .i64 label, .bool skip, .slice wa words.length wc, .int .i64 left.op, .int .i64 left.n, .slice la left.ks.length lc, .int .i64 x.op, .int .i64 x.n, .slice xa x.ks.length xc, .int .i64 n]] w fun e w' => e = .returned (.bool false) ∧ Qw w w' := by
  have lb : (label != 0) = true := by simpa using hl
  have c0 : ∀ w, Calls Tryz.prog 45 #[.int .i64 label, .int .i64 99999] w fun e w' => e = .returned (.bool false) ∧ w = w' := fun w => hc ▸ syCounts label 99999 w
  have CNTL := Lib.hid c0
  clear c0 hc hl
  go_enter Tryz.func25, Tryz.ntmps25
  go_wp2_with (go_at_call 45; ((with_reducible refine (CNTL.out _).mono ?_); rintro e w' ⟨rfl, rfl⟩))
  go_ret
  exact ⟨rfl, Qz⟩
set_option maxRecDepth 100000 in
set_option maxHeartbeats 4000000 in
theorem sv_badwords0 (kind label n : Int) (skip : Bool) (words : List (Int × Sy.Ex)) (left x : Sy.Ex) (wa la xa : Option Addr) (wc lc xc : Nat) (w : World) (m2 : words.length ≤ 9223372036854775807) (hl : label = 0) (hk : kind ≠ 0) (hw : words.length ≠ 0) :
    Calls Tryz.prog 25 #[.agg #[.int .i64 kind, .int .i64 label, .bool skip, .slice wa words.length wc, .int .i64 left.op, .int .i64 left.n, .slice la left.ks.length lc, .int .i64 x.op, .int .i64 x.n, .slice xa x.ks.length xc, .int .i64 n]] w fun e w' => e = .returned (.bool false) ∧ Qw w w' := by
  subst hl
  have kb : (kind == 0) = false := beq_eq_false_iff_ne.2 hk
  have wb : ((words.length : Int) != 0) = true := bne_iff_ne.2 (by omega)
  clear hk
  go_enter Tryz.func25, Tryz.ntmps25
  go_wp2_with fail
  go_ret
  exact ⟨rfl, Qz⟩
set_option maxRecDepth 100000 in
set_option maxHeartbeats 4000000 in
theorem sv_badkind0 (kind label n : Int) (skip : Bool) (words : List (Int × Sy.Ex)) (left x : Sy.Ex) (wa la xa : Option Addr) (wc lc xc : Nat) (w : World) (m2 : words.length ≤ 9223372036854775807) (hl : label = 0) (hk : kind < 0 ∨ 6 < kind) (hw : words.length = 0) :
    Calls Tryz.prog 25 #[.agg #[.int .i64 kind, .int .i64 label, .bool skip, .slice wa words.length wc, .int .i64 left.op, .int .i64 left.n, .slice la left.ks.length lc, .int .i64 x.op, .int .i64 x.n, .slice xa x.ks.length xc, .int .i64 n]] w fun e w' => e = .returned (.bool false) ∧ Qw w w' := by
  subst hl
  have k0 : (kind == 0) = false := beq_eq_false_iff_ne.2 (by omega)
  have k1 : (kind == 1) = false := beq_eq_false_iff_ne.2 (by omega)
  have k2 : (kind == 2) = false := beq_eq_false_iff_ne.2 (by omega)
  have k3 : (kind == 3) = false := beq_eq_false_iff_ne.2 (by omega)
  have k4 : (kind == 4) = false := beq_eq_false_iff_ne.2 (by omega)
  have k5 : (kind == 5) = false := beq_eq_false_iff_ne.2 (by omega)
  have k6 : (kind == 6) = false := beq_eq_false_iff_ne.2 (by omega)
  rw [hw]
  clear hk hw m2
  go_enter Tryz.func25, Tryz.ntmps25
  go_wp2_with fail
  go_ret
  exact ⟨rfl, Qz⟩
set_option maxRecDepth 100000 in
set_option maxHeartbeats 4000000 in
theorem sv_badwords1 (kind label n : Int) (skip : Bool) (words : List (Int × Sy.Ex)) (left x : Sy.Ex) (wa la xa : Option Addr) (wc lc xc : Nat) (w : World) (m2 : words.length ≤ 9223372036854775807) (hl : label ≠ 0) (hc : Sy.cnt label 99999 = true) (hk : kind ≠ 0) (hw : words.length ≠ 0) :
    Calls Tryz.prog 25 #[.agg #[.int .i64 kind, .int .i64 label, .bool skip, .slice wa words.length wc, .int .i64 left.op, .int .i64 left.n, .slice la left.ks.length lc, .int .i64 x.op, .int .i64 x.n, .slice xa x.ks.length xc, .int .i64 n]] w fun e w' => e = .returned (.bool false) ∧ Qw w w' := by
  have lb : (label != 0) = true := by simpa using hl
  have c0 : ∀ w, Calls Tryz.prog 45 #[.int .i64 label, .int .i64 99999] w fun e w' => e = .returned (.bool true) ∧ w = w' := fun w => hc ▸ syCounts label 99999 w
  have CNTL := Lib.hid c0
  clear c0 hc hl
  have kb : (kind == 0) = false := beq_eq_false_iff_ne.2 hk
  have wb : ((words.length : Int) != 0) = true := bne_iff_ne.2 (by omega)
  clear hk
  go_enter Tryz.func25, Tryz.ntmps25
  go_wp2_with (go_at_call 45; ((with_reducible refine (CNTL.out _).mono ?_); rintro e w' ⟨rfl, rfl⟩))
  go_ret
  exact ⟨rfl, Qz⟩
set_option maxRecDepth 100000 in
set_option maxHeartbeats 4000000 in
theorem sv_badkind1 (kind label n : Int) (skip : Bool) (words : List (Int × Sy.Ex)) (left x : Sy.Ex) (wa la xa : Option Addr) (wc lc xc : Nat) (w : World) (m2 : words.length ≤ 9223372036854775807) (hl : label ≠ 0) (hc : Sy.cnt label 99999 = true) (hk : kind < 0 ∨ 6 < kind) (hw : words.length = 0) :
    Calls Tryz.prog 25 #[.agg #[.int .i64 kind, .int .i64 label, .bool skip, .slice wa words.length wc, .int .i64 left.op, .int .i64 left.n, .slice la left.ks.length lc, .int .i64 x.op, .int .i64 x.n, .slice xa x.ks.length xc, .int .i64 n]] w fun e w' => e = .returned (.bool false) ∧ Qw w w' := by
  have lb : (label != 0) = true := by simpa using hl
  have c0 : ∀ w, Calls Tryz.prog 45 #[.int .i64 label, .int .i64 99999] w fun e w' => e = .returned (.bool true) ∧ w = w' := fun w => hc ▸ syCounts label 99999 w
  have CNTL := Lib.hid c0
  clear c0 hc hl
  have k0 : (kind == 0) = false := beq_eq_false_iff_ne.2 (by omega)
  have k1 : (kind == 1) = false := beq_eq_false_iff_ne.2 (by omega)
  have k2 : (kind == 2) = false := beq_eq_false_iff_ne.2 (by omega)
  have k3 : (kind == 3) = false := beq_eq_false_iff_ne.2 (by omega)
  have k4 : (kind == 4) = false := beq_eq_false_iff_ne.2 (by omega)
  have k5 : (kind == 5) = false := beq_eq_false_iff_ne.2 (by omega)
  have k6 : (kind == 6) = false := beq_eq_false_iff_ne.2 (by omega)
  rw [hw]
  clear hk hw m2
  go_enter Tryz.func25, Tryz.ntmps25
  go_wp2_with (go_at_call 45; ((with_reducible refine (CNTL.out _).mono ?_); rintro e w' ⟨rfl, rfl⟩))
  go_ret
  exact ⟨rfl, Qz⟩
theorem dep_none {x : Sy.Ex} (h : Sy.noneB x = true) : Sy.depB x = true := by rw [Sy.noneB_eq h]; exact Sy.dpt_zx
theorem vld_0 (label n : Int) (skip : Bool) (words : List (Int × Sy.Ex)) (left x : Sy.Ex) (hl : label = 0 ∨ (label ≠ 0 ∧ Sy.cnt label 99999 = true)) :
    Sy.vldb ⟨0, label, skip, words, left, x, n⟩ = ((decide (words.length ≤ 24) && wdsB words) && Sy.noneB left && Sy.noneB x && decide (n = 0)) := by
  have h1 : (decide (label = 0) || Sy.cnt label 99999) = true := by rcases hl with h | h <;> simp [h]
  unfold Sy.vldb Sy.okb Sy.limb wdsB Sy.rgt
  simp only [h1, Bool.true_and, if_true]
  rw [Bool.eq_iff_iff]
  simp only [Bool.and_eq_true, decide_eq_true_eq, List.all_eq_true]
  constructor
  · rintro ⟨⟨⟨⟨a, b⟩, c⟩, d⟩, ⟨⟨e, f⟩, g⟩, h⟩
    exact ⟨⟨⟨⟨e, fun w hw => ⟨(a w hw).1, (a w hw).2, f w hw⟩⟩, b⟩, c⟩, d⟩
  · rintro ⟨⟨⟨⟨e, a⟩, b⟩, c⟩, d⟩
    exact ⟨⟨⟨⟨fun w hw => ⟨(a w hw).1, (a w hw).2.1⟩, b⟩, c⟩, d⟩, ⟨⟨e, fun w hw => (a w hw).2.2⟩, dep_none b⟩, dep_none c⟩
theorem vld_13 (kind label n : Int) (skip : Bool) (left x : Sy.Ex) (hk : kind = 1 ∨ kind = 3) (hl : label = 0 ∨ (label ≠ 0 ∧ Sy.cnt label 99999 = true)) :
    Sy.vldb ⟨kind, label, skip, [], left, x, n⟩ = (Sy.rgt left && Sy.rgt x && decide (n = 0)) := by
  have h1 : (decide (label = 0) || Sy.cnt label 99999) = true := by rcases hl with h | h <;> simp [h]
  have h2 : ¬ kind = 0 := by omega
  unfold Sy.vldb Sy.okb Sy.limb Sy.rgt
  simp only [h1, Bool.true_and, if_neg h2, if_pos hk]
  rw [Bool.eq_iff_iff]
  simp [and_assoc]
  intro a
  constructor
  · rintro ⟨b, c, d, e⟩; exact ⟨d, b, e, c⟩
  · rintro ⟨d, b, e, c⟩; exact ⟨b, c, d, e⟩
theorem vld_2 (label n : Int) (skip : Bool) (left x : Sy.Ex) (hl : label = 0 ∨ (label ≠ 0 ∧ Sy.cnt label 99999 = true)) :
    Sy.vldb ⟨2, label, skip, [], left, x, n⟩ = (Sy.noneB left && Sy.rgt x && decide (n = 0)) := by
  have h1 : (decide (label = 0) || Sy.cnt label 99999) = true := by rcases hl with h | h <;> simp [h]
  unfold Sy.vldb Sy.okb Sy.limb Sy.rgt
  simp only [h1, Bool.true_and]
  rw [Bool.eq_iff_iff]
  simp [and_assoc]
  intro a b
  constructor
  · rintro ⟨c, d, e⟩; exact ⟨e, c⟩
  · rintro ⟨e, c⟩; exact ⟨c, dep_none a, e⟩
theorem vld_4 (label n : Int) (skip : Bool) (left x : Sy.Ex) (hl : label = 0 ∨ (label ≠ 0 ∧ Sy.cnt label 99999 = true)) :
    Sy.vldb ⟨4, label, skip, [], left, x, n⟩ = (Sy.noneB left && Sy.rgt x && Sy.cnt n 3) := by
  have h1 : (decide (label = 0) || Sy.cnt label 99999) = true := by rcases hl with h | h <;> simp [h]
  unfold Sy.vldb Sy.okb Sy.limb Sy.rgt
  simp only [h1, Bool.true_and]
  rw [Bool.eq_iff_iff]
  simp [and_assoc]
  intro a b
  constructor
  · rintro ⟨c, d, e⟩; exact ⟨e, c⟩
  · rintro ⟨e, c⟩; exact ⟨c, dep_none a, e⟩
theorem vld_5 (label n : Int) (skip : Bool) (left x : Sy.Ex) (hl : label = 0 ∨ (label ≠ 0 ∧ Sy.cnt label 99999 = true)) :
    Sy.vldb ⟨5, label, skip, [], left, x, n⟩ = (Sy.noneB left && Sy.noneB x && Sy.cnt n 3) := by
  have h1 : (decide (label = 0) || Sy.cnt label 99999) = true := by rcases hl with h | h <;> simp [h]
  unfold Sy.vldb Sy.okb Sy.limb
  simp only [h1, Bool.true_and]
  rw [Bool.eq_iff_iff]
  simp [and_assoc]
  intro a b _
  exact ⟨dep_none a, dep_none b⟩
theorem vld_6 (label n : Int) (skip : Bool) (left x : Sy.Ex) (hl : label = 0 ∨ (label ≠ 0 ∧ Sy.cnt label 99999 = true)) :
    Sy.vldb ⟨6, label, skip, [], left, x, n⟩ = (Sy.noneB left && Sy.noneB x && Sy.cnt n 99999) := by
  have h1 : (decide (label = 0) || Sy.cnt label 99999) = true := by rcases hl with h | h <;> simp [h]
  unfold Sy.vldb Sy.okb Sy.limb
  simp only [h1, Bool.true_and]
  rw [Bool.eq_iff_iff]
  simp [and_assoc]
  intro a b _
  exact ⟨dep_none a, dep_none b⟩
theorem sv_valid (b : Sy.Bl) (cs : Array Value) (S : Nat → Prop) (w : World) (hO : Ow w) (hB : BlkB w S b cs) : Calls Tryz.prog 25 #[.agg cs] w fun e w' => e = .returned (.bool (Sy.vldb b)) ∧ Qw w w' := by
  obtain ⟨kind, label, skip, words, left, x, n⟩ := b
  obtain ⟨wa, wc, la, lc, xa, xc, rfl, hW, hL, hX⟩ := hB
  have m2 : words.length ≤ 9223372036854775807 := Nat.le_trans hW.1 hW.2.1
  show Calls Tryz.prog 25 #[.agg #[.int .i64 kind, .int .i64 label, .bool skip, .slice wa words.length wc, .int .i64 left.op, .int .i64 left.n, .slice la left.ks.length lc, .int .i64 x.op, .int .i64 x.n, .slice xa x.ks.length xc, .int .i64 n]] w _
  by_cases hl : label = 0 ∨ (label ≠ 0 ∧ Sy.cnt label 99999 = true)
  · by_cases k0 : kind = 0
    · subst k0
      rw [vld_0 label n skip words left x hl]
      exact sv_valid0 label n skip words left x wa la xa wc lc xc S w hO hW hL hX hl
    · by_cases hw : words = []
      · subst hw
        by_cases k1 : kind = 1
        · subst k1; rw [vld_13 1 label n skip left x (.inl rfl) hl]; exact sv_valid1 label n skip [] left x wa la xa wc lc xc S w hO hW hL hX hl rfl
        by_cases k2 : kind = 2
        · subst k2; rw [vld_2 label n skip left x hl]; exact sv_valid2 label n skip [] left x wa la xa wc lc xc S w hO hW hL hX hl rfl
        by_cases k3 : kind = 3
        · subst k3; rw [vld_13 3 label n skip left x (.inr rfl) hl]; exact sv_valid3 label n skip [] left x wa la xa wc lc xc S w hO hW hL hX hl rfl
        by_cases k4 : kind = 4
        · subst k4; rw [vld_4 label n skip left x hl]; exact sv_valid4 label n skip [] left x wa la xa wc lc xc S w hO hW hL hX hl rfl
        by_cases k5 : kind = 5
        · subst k5; rw [vld_5 label n skip left x hl]; exact sv_valid5 label n skip [] left x wa la xa wc lc xc S w hO hW hL hX hl rfl
        by_cases k6 : kind = 6
        · subst k6; rw [vld_6 label n skip left x hl]; exact sv_valid6 label n skip [] left x wa la xa wc lc xc S w hO hW hL hX hl rfl
        have e : Sy.vldb ⟨kind, label, skip, [], left, x, n⟩ = false := by
          unfold Sy.vldb Sy.okb
          simp [k0, k1, k2, k3, k4, k5, k6]
        rw [e]
        rcases hl with h | ⟨h, hc⟩
        · exact sv_badkind0 kind label n skip [] left x wa la xa wc lc xc w m2 h (by omega) rfl
        · exact sv_badkind1 kind label n skip [] left x wa la xa wc lc xc w m2 h hc (by omega) rfl
      · have e : Sy.vldb ⟨kind, label, skip, words, left, x, n⟩ = false := by
          unfold Sy.vldb Sy.okb
          simp [k0, hw]
        rw [e]
        have hw' : words.length ≠ 0 := fun h => hw (List.eq_nil_of_length_eq_zero h)
        rcases hl with h | ⟨h, hc⟩
        · exact sv_badwords0 kind label n skip words left x wa la xa wc lc xc w m2 h k0 hw'
        · exact sv_badwords1 kind label n skip words left x wa la xa wc lc xc w m2 h hc k0 hw'
  · have hl1 : label ≠ 0 := fun h => hl (.inl h)
    have hl2 : Sy.cnt label 99999 = false := by
      cases e : Sy.cnt label 99999
      · rfl
      · exact absurd (.inr ⟨hl1, e⟩) hl
    have e : Sy.vldb ⟨kind, label, skip, words, left, x, n⟩ = false := by
      unfold Sy.vldb Sy.okb
      simp [hl1, hl2]
    rw [e]
    exact sv_badlabel kind label n skip words left x wa la xa wc lc xc w m2 hl1 hl2
end Go.Proofs.YtciglhecjkeogaaGreatDoor
set_option linter.unusedVariables false
set_option linter.unusedSimpArgs false
namespace Go.Proofs.YtciglhecjkeogaaGreatDoor
open Go.RowKit
def RR (exact : Bool) (half r : Int) : Prop := exact = true ∧ half < 0 ∧ r = 0 ∨ exact = false ∧ (half < 0 ∧ r = 1 ∨ half = 0 ∧ r = 2 ∨ 0 < half ∧ r = 3)
end Go.Proofs.YtciglhecjkeogaaGreatDoor
set_option linter.unusedVariables false
set_option linter.unusedSimpArgs false
namespace Go.Proofs.YtciglhecjkeogaaGreatDoor
open Go.RowKit
def qb (X D : Int) : Int := if X / D < 18446744073709551616 then X / D else 18446744073709551615
end Go.Proofs.YtciglhecjkeogaaGreatDoor
set_option linter.unusedVariables false
set_option linter.unusedSimpArgs false
namespace Go.Proofs.YtciglhecjkeogaaGreatDoor
open Go.RowKit
namespace Lx
theorem fst_num {c : UInt8} {t : List UInt8} (h : isn c = true) : fst (c :: t) = fnum (c :: t) := if_pos h
theorem fst_up {c : UInt8} {t : List UInt8} (h : isn c = false) (h1 : isu c = true) : fst (c :: t) = if fnm (c :: t) = [] then ⟨1, c.toNat, [], 1⟩ else ⟨3, 0, fnm (c :: t), (fnm (c :: t)).length⟩ := by
  unfold fst; rw [if_neg (by rw [show (c :: t).getD 0 0 = c from rfl, h]; decide), if_pos (by exact h1)]; rfl
theorem fst_sg {c : UInt8} {t : List UInt8} (h : isn c = false) (h1 : isu c = false) (h2 : isg c = true) : fst (c :: t) = ⟨4, 0, [c], 1⟩ := by
  unfold fst; rw [if_neg (by rw [show (c :: t).getD 0 0 = c from rfl, h]; decide), if_neg (by rw [show (c :: t).getD 0 0 = c from rfl, h1]; decide), if_pos (by exact h2)]; rfl
theorem fst_no {c : UInt8} {t : List UInt8} (h : isn c = false) (h1 : isu c = false) (h2 : isg c = false) : fst (c :: t) = ⟨0, 0, [], 0⟩ := by
  unfold fst; rw [if_neg (by rw [show (c :: t).getD 0 0 = c from rfl, h]; decide), if_neg (by rw [show (c :: t).getD 0 0 = c from rfl, h1]; decide), if_neg (by rw [show (c :: t).getD 0 0 = c from rfl, h2]; decide)]
end Lx
end Go.Proofs.YtciglhecjkeogaaGreatDoor
set_option linter.unusedVariables false
set_option linter.unusedSimpArgs false
namespace Go.Proofs.YtciglhecjkeogaaGreatDoor
namespace Lx
theorem index_take (t : List UInt8) (c : UInt8) : ∀ (n : Nat), Lib.indexByte t c ≠ -1 → Lib.indexByte t c < n → Lib.indexByte (t.take n) c = Lib.indexByte t c := by
  induction t with
  | nil => intro n h; exact absurd rfl h
  | cons b t ih =>
    intro n h hn
    have e : ∀ l, Lib.indexByte (b :: l) c = if b == c then 0 else if Lib.indexByte l c == -1 then -1 else Lib.indexByte l c + 1 := fun l => rfl
    rw [e] at h hn ⊢
    cases n with
    | zero =>
      exfalso
      revert hn
      split
      · omega
      · split
        · rename_i h1 h2; rw [if_neg h1, if_pos h2] at h; exact absurd rfl h
        · have := Lib.indexByte_ge t c; omega
    | succ n =>
      rw [List.take_succ_cons, e]
      cases hb : b == c
      · rw [hb] at h hn
        have h2 : Lib.indexByte t c ≠ -1 := fun k => by rw [k] at h; exact h rfl
        have h3 : (Lib.indexByte t c == -1) = false := beq_eq_false_iff_ne.2 h2
        rw [h3] at hn
        simp only [Bool.false_eq_true, if_false] at hn
        rw [ih n h2 (by omega)]
      · rfl
theorem fnm_eq (l : List UInt8) : fnm l = nms.foldl (nstep l) [] := by
  unfold fnm nfold
  rw [List.take_of_length_le (by rw [nms_length]; exact Nat.le_refl _)]
theorem fold_congr {l l' : List UInt8} : ∀ (ns : List (List UInt8)) (b : List UInt8), (∀ n ∈ ns, pfx n l' = pfx n l) → ns.foldl (nstep l') b = ns.foldl (nstep l) b
  | [], b, _ => rfl
  | m :: ns, b, h => by
    rw [List.foldl_cons, List.foldl_cons, show nstep l' b m = nstep l b m by unfold nstep; rw [h m (List.mem_cons_self ..)]]
    exact fold_congr ns _ fun n hn => h n (List.mem_cons_of_mem _ hn)
theorem fnm_congr {l l' : List UInt8} (h : ∀ n ∈ nms, pfx n l' = pfx n l) : fnm l' = fnm l := by
  rw [fnm_eq, fnm_eq]; exact fold_congr nms [] h
theorem fold_mem (l : List UInt8) : ∀ (ns : List (List UInt8)) (b : List UInt8), (ns.foldl (nstep l) b = b) ∨ ((ns.foldl (nstep l) b) ∈ ns ∧ pfx (ns.foldl (nstep l) b) l = true)
  | [], b => .inl rfl
  | m :: ns, b => by
    rw [List.foldl_cons]
    rcases fold_mem l ns (nstep l b m) with h | h
    · rw [h]
      unfold nstep
      by_cases k : (decide (b.length < m.length) && pfx m l) = true
      · rw [if_pos k]; simp at k; exact .inr ⟨List.mem_cons_self .., k.2⟩
      · rw [if_neg k]; exact .inl rfl
    · exact .inr ⟨List.mem_cons_of_mem _ h.1, h.2⟩
theorem fnm_is (l : List UInt8) (h : fnm l ≠ []) : fnm l ∈ nms ∧ l.take (fnm l).length = fnm l ∧ (fnm l).length ≤ l.length := by
  rw [fnm_eq] at h ⊢
  rcases fold_mem l nms [] with k | ⟨k1, k2⟩
  · exact absurd k h
  · unfold pfx at k2
    simp at k2
    exact ⟨k1, k2.2, k2.1⟩
theorem nms_up : ∀ n ∈ nms, ∀ c ∈ n, isu c = true := by decide
theorem pfx_sep (n l v : List UInt8) (s : UInt8) (hs : isu s = false) (hn : n ∈ nms) : pfx n (l ++ s :: v) = pfx n l := by
  unfold pfx
  by_cases h : n.length ≤ l.length
  · rw [List.take_append_of_le_length h, decide_eq_true h, decide_eq_true (by rw [List.length_append]; omega)]
  · rw [decide_eq_false h, Bool.false_and]
    by_cases k : (l ++ s :: v).take n.length = n
    · exfalso
      have m : s ∈ (l ++ s :: v).take n.length := by
        rw [List.take_append, List.mem_append]
        refine .inr ?_
        rw [show n.length - l.length = (n.length - l.length - 1) + 1 by omega, List.take_succ_cons]
        exact List.mem_cons_self ..
      rw [k] at m
      rw [nms_up n hn s m] at hs; exact absurd hs (by decide)
    · rw [decide_eq_false k, Bool.and_false]
theorem fnm_sep (l v : List UInt8) (s : UInt8) (hs : isu s = false) : fnm (l ++ s :: v) = fnm l := fnm_congr fun n hn => pfx_sep n l v s hs hn
theorem nrun_sep (l v : List UInt8) (s : UInt8) (hs : isn s = false) : nrun (l ++ s :: v) = nrun l := by
  induction l with
  | nil => show (if isn s = true then _ else 0) = 0; rw [if_neg (by rw [hs]; decide)]
  | cons c l ih => show (if isn c = true then nrun (l ++ s :: v) + 1 else 0) = if isn c = true then nrun l + 1 else 0; rw [ih]
def plain (c : UInt8) : Prop := ws c = false ∧ c ≠ 59 ∧ c ≠ 40
theorem act_cases (c : UInt8) (t : List UInt8) : (ws c = true ∧ act c t = .skip 0) ∨ (c = 59 ∧ act c t = .skip t.length) ∨ (c = 40 ∧ act c t = .bad) ∨
    (c = 40 ∧ ∃ j : Nat, Lib.indexByte t 41 = j ∧ j < t.length ∧ act c t = .skip (j + 1)) ∨ (plain c ∧ (fst (c :: t)).m = 0 ∧ act c t = .bad) ∨ (plain c ∧ (fst (c :: t)).m ≠ 0 ∧ act c t = .tok (fst (c :: t))) := by
  cases hw : ws c
  · by_cases h : c = 59
    · exact .inr (.inl ⟨h, by rw [h]; exact act_semi⟩)
    · by_cases h2 : c = 40
      · have e : act c t = if Lib.indexByte t 41 = -1 then .bad else .skip ((Lib.indexByte t 41).toNat + 1) := by rw [h2]; exact act_open
        by_cases k : Lib.indexByte t 41 = -1
        · rw [if_pos k] at e
          exact .inr (.inr (.inl ⟨h2, e⟩))
        · rw [if_neg k] at e
          have g := Lib.indexByte_ge t 41
          have l := index_le t 41
          exact .inr (.inr (.inr (.inl ⟨h2, (Lib.indexByte t 41).toNat, by omega, by omega, e⟩)))
      · have e := act_first (t := t) hw h h2
        by_cases m : (fst (c :: t)).m = 0
        · rw [if_pos m] at e
          exact .inr (.inr (.inr (.inr (.inl ⟨⟨hw, h, h2⟩, m, e⟩))))
        · rw [if_neg m] at e
          exact .inr (.inr (.inr (.inr (.inr ⟨⟨hw, h, h2⟩, m, e⟩))))
  · exact .inl ⟨rfl, act_ws hw⟩
theorem lx_next_aux (l : List UInt8) : ∀ (n a : Nat), a ≤ l.length → l.length - a ≤ n → ∀ t r, lx (l.drop a) a = .ok (t :: r) →
    a ≤ t.p ∧ ∃ hp : t.p < l.length, plain l[t.p] ∧ (fst (l.drop t.p)).m ≠ 0 ∧ t = ⟨(fst (l.drop t.p)).k, (fst (l.drop t.p)).n, t.p, (fst (l.drop t.p)).x⟩ ∧
      lx (l.drop (t.p + (fst (l.drop t.p)).m)) (t.p + (fst (l.drop t.p)).m) = .ok r ∧ ∀ b, lx ((l.drop a).take (t.p - a)) b = .ok []
  | n, a, ha, hn, t, r, h => by
    by_cases hlt : a < l.length
    · have dl : l.drop a = l[a] :: l.drop (a + 1) := List.drop_eq_getElem_cons hlt
      have go1 : ∀ k, a + 1 + k ≤ l.length → lx (l.drop (a + 1 + k)) (a + 1 + k) = .ok (t :: r) → (∀ N, k + 1 ≤ N → ∃ k', act l[a] ((l.drop (a + 1)).take (N - 1)) = .skip k ∧ k' = k) →
          a ≤ t.p ∧ ∃ hp : t.p < l.length, plain l[t.p] ∧ (fst (l.drop t.p)).m ≠ 0 ∧ t = ⟨(fst (l.drop t.p)).k, (fst (l.drop t.p)).n, t.p, (fst (l.drop t.p)).x⟩ ∧
            lx (l.drop (t.p + (fst (l.drop t.p)).m)) (t.p + (fst (l.drop t.p)).m) = .ok r ∧ ∀ b, lx ((l.drop a).take (t.p - a)) b = .ok [] := by
        intro k hk hh hs
        match n, hn with
        | 0, hn => omega
        | n + 1, hn =>
          obtain ⟨i1, i2, i3, i4, i5, i6, i7⟩ := lx_next_aux l n (a + 1 + k) hk (by omega) t r hh
          refine ⟨by omega, i2, i3, i4, i5, i6, fun b => ?_⟩
          obtain ⟨k', hs, _⟩ := hs (t.p - a) (by omega)
          rw [dl, show t.p - a = (t.p - a - 1) + 1 by omega, List.take_succ_cons, lx_skip hs, List.drop_take, List.drop_drop]
          have := i7 (b + 1 + k)
          rw [show t.p - a - 1 - k = t.p - (a + 1 + k) by omega]
          exact this
      rcases act_cases l[a] (l.drop (a + 1)) with ⟨w, e⟩ | ⟨w, e⟩ | ⟨w, e⟩ | ⟨w, j, hj, jl, e⟩ | ⟨w, m, e⟩ | ⟨w, m, e⟩
      · rw [dl, lx_skip e, List.drop_drop] at h
        exact go1 0 (by omega) h fun N _ => ⟨0, act_ws w, rfl⟩
      · rw [dl, lx_skip e, List.drop_length, lx_nil] at h; cases h
      · rw [dl, lx_bad e] at h; cases h
      · rw [dl, lx_skip e, List.drop_drop] at h
        rw [List.length_drop] at jl
        exact go1 (j + 1) (by omega) h fun N hN => ⟨j + 1, by
          rw [w, act_open, index_take _ 41 (N - 1) (by omega) (by omega), hj, if_neg (by omega)]; rfl, rfl⟩
      · rw [dl, lx_bad e] at h; cases h
      · have m1 := m
        rw [← dl] at m1 e
        rw [dl, lx_tok (by rw [dl] at e; exact e), List.drop_drop, ← dl] at h
        cases q : lx (l.drop (a + 1 + ((fst (l.drop a)).m - 1))) (a + (fst (l.drop a)).m) with
        | bad b => rw [q] at h; cases h
        | ok us =>
          rw [q] at h
          injection h with h
          injection h with h1 h2
          have tp : t.p = a := by rw [← h1]
          refine ⟨by omega, by omega, ?_⟩
          simp only [tp]
          refine ⟨w, m1, h1.symm, ?_, fun b => by rw [Nat.sub_self, List.take_zero, lx_nil]⟩
          rw [← show us = r from h2, ← q, show a + 1 + ((fst (l.drop a)).m - 1) = a + (fst (l.drop a)).m by omega]
    · rw [List.drop_eq_nil_of_le (by omega), lx_nil] at h; cases h
theorem lx_next {l : List UInt8} {a : Nat} (ha : a ≤ l.length) {t : Tok} {r : List Tok} (h : lx (l.drop a) a = .ok (t :: r)) :
    a ≤ t.p ∧ ∃ hp : t.p < l.length, plain l[t.p] ∧ (fst (l.drop t.p)).m ≠ 0 ∧ t = ⟨(fst (l.drop t.p)).k, (fst (l.drop t.p)).n, t.p, (fst (l.drop t.p)).x⟩ ∧
      lx (l.drop (t.p + (fst (l.drop t.p)).m)) (t.p + (fst (l.drop t.p)).m) = .ok r ∧ ∀ b, lx ((l.drop a).take (t.p - a)) b = .ok [] :=
  lx_next_aux l (l.length - a) a ha (Nat.le_refl _) t r h
end Lx
end Go.Proofs.YtciglhecjkeogaaGreatDoor
set_option linter.unusedVariables false
set_option linter.unusedSimpArgs false
namespace Go.Proofs.YtciglhecjkeogaaGreatDoor
def cp : List UInt8 → Int
  | [] => 0
  | c :: l => (if isd c = true then 0 else if c = 46 then 1 else 0) + cp l
end Go.Proofs.YtciglhecjkeogaaGreatDoor
set_option linter.unusedVariables false
set_option linter.unusedSimpArgs false
namespace Go.Proofs.YtciglhecjkeogaaGreatDoor
namespace Lx
theorem drop_ne {l : List UInt8} {k : Nat} (h : k < l.length) : l.drop k ≠ [] := by rw [List.drop_eq_getElem_cons h]; exact List.cons_ne_nil _ _
def Cont (l : List UInt8) (t : Tok) : Prop := ∃ hp : t.p < l.length, plain l[t.p] ∧ (fst (l.drop t.p)).m ≠ 0 ∧ t = ⟨(fst (l.drop t.p)).k, (fst (l.drop t.p)).n, t.p, (fst (l.drop t.p)).x⟩
theorem offs (l : List UInt8) : ∀ (ts : List Tok) (a : Nat), a ≤ l.length → lx (l.drop a) a = .ok ts → ts.length ≤ l.length - a ∧ ∀ i (h : i < ts.length), a ≤ ts[i].p ∧ Cont l ts[i] ∧ ∀ h' : i + 1 < ts.length, ts[i].p < ts[i + 1].p
  | [], a, _, _ => ⟨Nat.zero_le _, fun i h => by simp at h⟩
  | t :: r, a, ha, h => by
    obtain ⟨n1, hp, hpl, hm, ht, hr, _⟩ := lx_next ha h
    have fl := fst_le (l.drop t.p) (drop_ne hp)
    rw [List.length_drop] at fl
    obtain ⟨ln, ih⟩ := offs l r _ (by omega) hr
    refine ⟨by rw [List.length_cons]; omega, fun i hi => ?_⟩
    cases i with
    | zero =>
      refine ⟨n1, ⟨hp, hpl, hm, ht⟩, fun h' => ?_⟩
      have := (ih 0 (by simpa using h')).1
      show t.p < (t :: r)[0 + 1].p
      rw [List.getElem_cons_succ]; omega
    | succ i =>
      have k := ih i (by simpa using hi)
      refine ⟨by rw [List.getElem_cons_succ]; omega, by rw [List.getElem_cons_succ]; exact k.2.1, fun h' => ?_⟩
      rw [List.getElem_cons_succ, List.getElem_cons_succ]
      exact k.2.2 (by simpa using h')
theorem pnum_bd (l : List UInt8) (h : pok l = true) : 0 ≤ pnum l ∧ pnum l < 1000000000000000 := by
  have f6 := pf_le l
  have wb := whole_bd l
  unfold pnum
  cases d : pdot l
  · rw [(pf_none d).1, List.take_zero]
    show 0 ≤ vl 0 (l.take (pw l)) * 10 ^ 6 ∧ vl 0 (l.take (pw l)) * 10 ^ 6 < 1000000000000000
    have : (10 : Int) ^ 6 = 1000000 := by decide
    rw [this]; omega
  · have hl : pw l < l.length := by
      unfold pdot at d; simp at d; exact d.1
    have b := both_bd l d hl
    generalize vl (vl 0 (l.take (pw l))) ((l.drop (pw l + 1)).take (pf l)) = X at *
    rcases k6 f6 with e | e | e | e | e | e | e <;> rw [e] at b ⊢
    · have : (10 : Int) ^ 0 = 1 := by decide
      have t : (10 : Int) ^ (6 - 0) = 1000000 := by decide
      rw [t]; omega
    · have : (10 : Int) ^ 1 = 10 := by decide
      have t : (10 : Int) ^ (6 - 1) = 100000 := by decide
      rw [t]; omega
    · have : (10 : Int) ^ 2 = 100 := by decide
      have t : (10 : Int) ^ (6 - 2) = 10000 := by decide
      rw [t]; omega
    · have : (10 : Int) ^ 3 = 1000 := by decide
      have t : (10 : Int) ^ (6 - 3) = 1000 := by decide
      rw [t]; omega
    · have : (10 : Int) ^ 4 = 10000 := by decide
      have t : (10 : Int) ^ (6 - 4) = 100 := by decide
      rw [t]; omega
    · have : (10 : Int) ^ 5 = 100000 := by decide
      have t : (10 : Int) ^ (6 - 5) = 10 := by decide
      rw [t]; omega
    · have : (10 : Int) ^ 6 = 1000000 := by decide
      have t : (10 : Int) ^ (6 - 6) = 1 := by decide
      rw [t]; omega
theorem fst_kinds (c : UInt8) (t : List UInt8) (h : (fst (c :: t)).m ≠ 0) :
    (isn c = true ∧ ∃ n m, fst (c :: t) = ⟨2, n, [], m⟩ ∧ 0 ≤ n ∧ n < 1000000000000000) ∨ (isu c = true ∧ fst (c :: t) = ⟨1, c.toNat, [], 1⟩) ∨
    (∃ x, x ∈ nms ∧ fst (c :: t) = ⟨3, 0, x, x.length⟩ ∧ (c :: t).take x.length = x ∧ x.length ≤ (c :: t).length) ∨ (isg c = true ∧ fst (c :: t) = ⟨4, 0, [c], 1⟩) := by
  cases k : isn c
  · cases k2 : isu c
    · cases k3 : isg c
      · rw [fst_no k k2 k3] at h; exact (h (Eq.refl (0 : Nat))).elim
      · exact .inr (.inr (.inr ⟨rfl, fst_sg k k2 k3⟩))
    · rw [fst_up k k2]
      by_cases z : fnm (c :: t) = []
      · rw [if_pos z]; exact .inr (.inl ⟨rfl, rfl⟩)
      · rw [if_neg z]
        obtain ⟨x1, x2, x3⟩ := fnm_is _ z
        exact .inr (.inr (.inl ⟨_, x1, rfl, x2, x3⟩))
  · rw [fst_num k] at h ⊢
    unfold fnum at h ⊢
    by_cases p : pok ((c :: t).take (nrun (c :: t))) = true
    · rw [if_pos p]
      exact .inl ⟨rfl, _, _, rfl, pnum_bd _ p⟩
    · rw [if_neg p] at h; exact (h (Eq.refl (0 : Nat))).elim
theorem nrun_all {l : List UInt8} (h : ∀ c ∈ l, isn c = true) : nrun l = l.length := by
  induction l with
  | nil => rfl
  | cons c l ih =>
    show (if isn c = true then nrun l + 1 else 0) = _
    rw [if_pos (h c (List.mem_cons_self ..)), ih fun x hx => h x (List.mem_cons_of_mem _ hx), List.length_cons]
theorem isn_isd {c : UInt8} (h : isd c = true) : isn c = true := by unfold isn; rw [h]; rfl
theorem fmtp_isn (m : Int) : ∀ c ∈ fmtp m, isn c = true := by
  intro c hc
  unfold fmtp at hc
  rcases List.mem_append.1 hc with h | h
  · exact isn_isd (dec_digits _ c h)
  · unfold frac at h
    split at h
    · simp at h
    · rcases List.mem_cons.1 h with rfl | h
      · rfl
      · exact isn_isd (dgs_digits _ _ (kf_range _).2 c h)
theorem fmtp_cons (m : Int) : ∃ d r, fmtp m = d :: r ∧ isd d = true := by
  unfold fmtp
  cases h : Lib.decDigits (m / 1000000).toNat with
  | nil => exact absurd h (dec_ne _)
  | cons d r => exact ⟨d, r ++ frac (m % 1000000), rfl, dec_digits (m / 1000000).toNat d (by rw [h]; exact List.mem_cons_self ..)⟩
theorem isd_not {d : UInt8} (h : isd d = true) : isu d = false ∧ ws d = false ∧ d ≠ 59 ∧ d ≠ 40 := by
  have k : ∀ d : Fin 256, isd (UInt8.ofNat d.val) = true → (isu (UInt8.ofNat d.val) = false ∧ ws (UInt8.ofNat d.val) = false ∧ UInt8.ofNat d.val ≠ 59 ∧ UInt8.ofNat d.val ≠ 40) := by decide +kernel
  have := k ⟨d.toNat, d.toNat_lt⟩
  rw [UInt8.ofNat_toNat] at this
  exact this h
end Lx
end Go.Proofs.YtciglhecjkeogaaGreatDoor

