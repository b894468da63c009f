import Derived.Test.YtlgdjbabbfdngaaDoorZSP4
import Derived.Test.YtlgdjbabbfdngaaDoorZSP6
import Derived.Test.YtlgdjbabbfdngaaDoorZSP8
import Derived.Test.YtlgdjbabbfdngaaDoorZSP10
import Derived.Test.YtlgdjbabbfdngaaDoorZSP11
set_option linter.unusedVariables false
set_option linter.unusedSimpArgs false
namespace Go.Proofs.YtlgdjbabbfdngaaDoor
open Go.RowKit
set_option maxRecDepth 100000 in
set_option maxHeartbeats 4000000 in
theorem sv_badlabel (kind label n : Int) (skip : Bool) (words : List (Int × Sy.Ex)) (left x : Sy.Ex) (wa la xa : Option Addr) (wc lc xc : Nat) (w : World) (m2 : words.length ≤ 9223372036854775807) (hl : label ≠ 0) (hc : Sy.cnt label 99999 = false) :
    Calls Tryd.prog 35 #[.agg #[.int .i64 kind, .int .i64 label, .bool skip, .slice wa words.length wc, .int .i64 left.op, .int .i64 left.n, .slice la left.ks.length lc, .int .i64 x.op, .int .i64 x.n, .slice xa x.ks.length xc, .int .i64 n]] w fun e w' => e = .returned (.bool false) ∧ Qw w w' := by
  have lb : (label != 0) = true := by simpa using hl
  have c0 : ∀ w, Calls Tryd.prog 49 #[.int .i64 label, .int .i64 99999] w fun e w' => e = .returned (.bool false) ∧ w = w' := fun w => hc ▸ syCounts label 99999 w
  have CNTL := Lib.hid c0
  clear c0 hc hl
  go_enter Tryd.func35, Tryd.ntmps35
  go_wp2_with (go_at_call 49; ((with_reducible refine (CNTL.out _).mono ?_); rintro e w' ⟨rfl, rfl⟩))
  go_ret
  exact ⟨rfl, Qz⟩
set_option maxRecDepth 100000 in
set_option maxHeartbeats 4000000 in
theorem sv_badwords0 (kind label n : Int) (skip : Bool) (words : List (Int × Sy.Ex)) (left x : Sy.Ex) (wa la xa : Option Addr) (wc lc xc : Nat) (w : World) (m2 : words.length ≤ 9223372036854775807) (hl : label = 0) (hk : kind ≠ 0) (hw : words.length ≠ 0) :
    Calls Tryd.prog 35 #[.agg #[.int .i64 kind, .int .i64 label, .bool skip, .slice wa words.length wc, .int .i64 left.op, .int .i64 left.n, .slice la left.ks.length lc, .int .i64 x.op, .int .i64 x.n, .slice xa x.ks.length xc, .int .i64 n]] w fun e w' => e = .returned (.bool false) ∧ Qw w w' := by
  subst hl
  have kb : (kind == 0) = false := beq_eq_false_iff_ne.2 hk
  have wb : ((words.length : Int) != 0) = true := bne_iff_ne.2 (by omega)
  clear hk
  go_enter Tryd.func35, Tryd.ntmps35
  go_wp2_with fail
  go_ret
  exact ⟨rfl, Qz⟩
set_option maxRecDepth 100000 in
set_option maxHeartbeats 4000000 in
theorem sv_badkind0 (kind label n : Int) (skip : Bool) (words : List (Int × Sy.Ex)) (left x : Sy.Ex) (wa la xa : Option Addr) (wc lc xc : Nat) (w : World) (m2 : words.length ≤ 9223372036854775807) (hl : label = 0) (hk : kind < 0 ∨ 6 < kind) (hw : words.length = 0) :
    Calls Tryd.prog 35 #[.agg #[.int .i64 kind, .int .i64 label, .bool skip, .slice wa words.length wc, .int .i64 left.op, .int .i64 left.n, .slice la left.ks.length lc, .int .i64 x.op, .int .i64 x.n, .slice xa x.ks.length xc, .int .i64 n]] w fun e w' => e = .returned (.bool false) ∧ Qw w w' := by
  subst hl
  have k0 : (kind == 0) = false := beq_eq_false_iff_ne.2 (by omega)
  have k1 : (kind == 1) = false := beq_eq_false_iff_ne.2 (by omega)
  have k2 : (kind == 2) = false := beq_eq_false_iff_ne.2 (by omega)
  have k3 : (kind == 3) = false := beq_eq_false_iff_ne.2 (by omega)
  have k4 : (kind == 4) = false := beq_eq_false_iff_ne.2 (by omega)
  have k5 : (kind == 5) = false := beq_eq_false_iff_ne.2 (by omega)
  have k6 : (kind == 6) = false := beq_eq_false_iff_ne.2 (by omega)
  rw [hw]
  clear hk hw m2
  go_enter Tryd.func35, Tryd.ntmps35
  go_wp2_with fail
  go_ret
  exact ⟨rfl, Qz⟩
set_option maxRecDepth 100000 in
set_option maxHeartbeats 4000000 in
theorem sv_badwords1 (kind label n : Int) (skip : Bool) (words : List (Int × Sy.Ex)) (left x : Sy.Ex) (wa la xa : Option Addr) (wc lc xc : Nat) (w : World) (m2 : words.length ≤ 9223372036854775807) (hl : label ≠ 0) (hc : Sy.cnt label 99999 = true) (hk : kind ≠ 0) (hw : words.length ≠ 0) :
    Calls Tryd.prog 35 #[.agg #[.int .i64 kind, .int .i64 label, .bool skip, .slice wa words.length wc, .int .i64 left.op, .int .i64 left.n, .slice la left.ks.length lc, .int .i64 x.op, .int .i64 x.n, .slice xa x.ks.length xc, .int .i64 n]] w fun e w' => e = .returned (.bool false) ∧ Qw w w' := by
  have lb : (label != 0) = true := by simpa using hl
  have c0 : ∀ w, Calls Tryd.prog 49 #[.int .i64 label, .int .i64 99999] w fun e w' => e = .returned (.bool true) ∧ w = w' := fun w => hc ▸ syCounts label 99999 w
  have CNTL := Lib.hid c0
  clear c0 hc hl
  have kb : (kind == 0) = false := beq_eq_false_iff_ne.2 hk
  have wb : ((words.length : Int) != 0) = true := bne_iff_ne.2 (by omega)
  clear hk
  go_enter Tryd.func35, Tryd.ntmps35
  go_wp2_with (go_at_call 49; ((with_reducible refine (CNTL.out _).mono ?_); rintro e w' ⟨rfl, rfl⟩))
  go_ret
  exact ⟨rfl, Qz⟩
set_option maxRecDepth 100000 in
set_option maxHeartbeats 4000000 in
theorem sv_badkind1 (kind label n : Int) (skip : Bool) (words : List (Int × Sy.Ex)) (left x : Sy.Ex) (wa la xa : Option Addr) (wc lc xc : Nat) (w : World) (m2 : words.length ≤ 9223372036854775807) (hl : label ≠ 0) (hc : Sy.cnt label 99999 = true) (hk : kind < 0 ∨ 6 < kind) (hw : words.length = 0) :
    Calls Tryd.prog 35 #[.agg #[.int .i64 kind, .int .i64 label, .bool skip, .slice wa words.length wc, .int .i64 left.op, .int .i64 left.n, .slice la left.ks.length lc, .int .i64 x.op, .int .i64 x.n, .slice xa x.ks.length xc, .int .i64 n]] w fun e w' => e = .returned (.bool false) ∧ Qw w w' := by
  have lb : (label != 0) = true := by simpa using hl
  have c0 : ∀ w, Calls Tryd.prog 49 #[.int .i64 label, .int .i64 99999] w fun e w' => e = .returned (.bool true) ∧ w = w' := fun w => hc ▸ syCounts label 99999 w
  have CNTL := Lib.hid c0
  clear c0 hc hl
  have k0 : (kind == 0) = false := beq_eq_false_iff_ne.2 (by omega)
  have k1 : (kind == 1) = false := beq_eq_false_iff_ne.2 (by omega)
  have k2 : (kind == 2) = false := beq_eq_false_iff_ne.2 (by omega)
  have k3 : (kind == 3) = false := beq_eq_false_iff_ne.2 (by omega)
  have k4 : (kind == 4) = false := beq_eq_false_iff_ne.2 (by omega)
  have k5 : (kind == 5) = false := beq_eq_false_iff_ne.2 (by omega)
  have k6 : (kind == 6) = false := beq_eq_false_iff_ne.2 (by omega)
  rw [hw]
  clear hk hw m2
  go_enter Tryd.func35, Tryd.ntmps35
  go_wp2_with (go_at_call 49; ((with_reducible refine (CNTL.out _).mono ?_); rintro e w' ⟨rfl, rfl⟩))
  go_ret
  exact ⟨rfl, Qz⟩
theorem dep_none {x : Sy.Ex} (h : Sy.noneB x = true) : Sy.depB x = true := by rw [Sy.noneB_eq h]; exact Sy.dpt_zx
theorem vld_0 (label n : Int) (skip : Bool) (words : List (Int × Sy.Ex)) (left x : Sy.Ex) (hl : label = 0 ∨ (label ≠ 0 ∧ Sy.cnt label 99999 = true)) :
    Sy.vldb ⟨0, label, skip, words, left, x, n⟩ = ((decide (words.length ≤ 24) && wdsB words) && Sy.noneB left && Sy.noneB x && decide (n = 0)) := by
  have h1 : (decide (label = 0) || Sy.cnt label 99999) = true := by rcases hl with h | h <;> simp [h]
  unfold Sy.vldb Sy.okb Sy.limb wdsB Sy.rgt
  simp only [h1, Bool.true_and, if_true]
  rw [Bool.eq_iff_iff]
  simp only [Bool.and_eq_true, decide_eq_true_eq, List.all_eq_true]
  constructor
  · rintro ⟨⟨⟨⟨a, b⟩, c⟩, d⟩, ⟨⟨e, f⟩, g⟩, h⟩
    exact ⟨⟨⟨⟨e, fun w hw => ⟨(a w hw).1, (a w hw).2, f w hw⟩⟩, b⟩, c⟩, d⟩
  · rintro ⟨⟨⟨⟨e, a⟩, b⟩, c⟩, d⟩
    exact ⟨⟨⟨⟨fun w hw => ⟨(a w hw).1, (a w hw).2.1⟩, b⟩, c⟩, d⟩, ⟨⟨e, fun w hw => (a w hw).2.2⟩, dep_none b⟩, dep_none c⟩
theorem vld_13 (kind label n : Int) (skip : Bool) (left x : Sy.Ex) (hk : kind = 1 ∨ kind = 3) (hl : label = 0 ∨ (label ≠ 0 ∧ Sy.cnt label 99999 = true)) :
    Sy.vldb ⟨kind, label, skip, [], left, x, n⟩ = (Sy.rgt left && Sy.rgt x && decide (n = 0)) := by
  have h1 : (decide (label = 0) || Sy.cnt label 99999) = true := by rcases hl with h | h <;> simp [h]
  have h2 : ¬ kind = 0 := by omega
  unfold Sy.vldb Sy.okb Sy.limb Sy.rgt
  simp only [h1, Bool.true_and, if_neg h2, if_pos hk]
  rw [Bool.eq_iff_iff]
  simp [and_assoc]
  intro a
  constructor
  · rintro ⟨b, c, d, e⟩; exact ⟨d, b, e, c⟩
  · rintro ⟨d, b, e, c⟩; exact ⟨b, c, d, e⟩
theorem vld_2 (label n : Int) (skip : Bool) (left x : Sy.Ex) (hl : label = 0 ∨ (label ≠ 0 ∧ Sy.cnt label 99999 = true)) :
    Sy.vldb ⟨2, label, skip, [], left, x, n⟩ = (Sy.noneB left && Sy.rgt x && decide (n = 0)) := by
  have h1 : (decide (label = 0) || Sy.cnt label 99999) = true := by rcases hl with h | h <;> simp [h]
  unfold Sy.vldb Sy.okb Sy.limb Sy.rgt
  simp only [h1, Bool.true_and]
  rw [Bool.eq_iff_iff]
  simp [and_assoc]
  intro a b
  constructor
  · rintro ⟨c, d, e⟩; exact ⟨e, c⟩
  · rintro ⟨e, c⟩; exact ⟨c, dep_none a, e⟩
theorem vld_4 (label n : Int) (skip : Bool) (left x : Sy.Ex) (hl : label = 0 ∨ (label ≠ 0 ∧ Sy.cnt label 99999 = true)) :
    Sy.vldb ⟨4, label, skip, [], left, x, n⟩ = (Sy.noneB left && Sy.rgt x && Sy.cnt n 3) := by
  have h1 : (decide (label = 0) || Sy.cnt label 99999) = true := by rcases hl with h | h <;> simp [h]
  unfold Sy.vldb Sy.okb Sy.limb Sy.rgt
  simp only [h1, Bool.true_and]
  rw [Bool.eq_iff_iff]
  simp [and_assoc]
  intro a b
  constructor
  · rintro ⟨c, d, e⟩; exact ⟨e, c⟩
  · rintro ⟨e, c⟩; exact ⟨c, dep_none a, e⟩
theorem vld_5 (label n : Int) (skip : Bool) (left x : Sy.Ex) (hl : label = 0 ∨ (label ≠ 0 ∧ Sy.cnt label 99999 = true)) :
    Sy.vldb ⟨5, label, skip, [], left, x, n⟩ = (Sy.noneB left && Sy.noneB x && Sy.cnt n 3) := by
  have h1 : (decide (label = 0) || Sy.cnt label 99999) = true := by rcases hl with h | h <;> simp [h]
  unfold Sy.vldb Sy.okb Sy.limb
  simp only [h1, Bool.true_and]
  rw [Bool.eq_iff_iff]
  simp [and_assoc]
  intro a b _
  exact ⟨dep_none a, dep_none b⟩
theorem vld_6 (label n : Int) (skip : Bool) (left x : Sy.Ex) (hl : label = 0 ∨ (label ≠ 0 ∧ Sy.cnt label 99999 = true)) :
    Sy.vldb ⟨6, label, skip, [], left, x, n⟩ = (Sy.noneB left && Sy.noneB x && Sy.cnt n 99999) := by
  have h1 : (decide (label = 0) || Sy.cnt label 99999) = true := by rcases hl with h | h <;> simp [h]
  unfold Sy.vldb Sy.okb Sy.limb
  simp only [h1, Bool.true_and]
  rw [Bool.eq_iff_iff]
  simp [and_assoc]
  intro a b _
  exact ⟨dep_none a, dep_none b⟩
theorem sv_valid (b : Sy.Bl) (cs : Array Value) (S : Nat → Prop) (w : World) (hO : Ow w) (hB : BlkB w S b cs) : Calls Tryd.prog 35 #[.agg cs] w fun e w' => e = .returned (.bool (Sy.vldb b)) ∧ Qw w w' := by
  obtain ⟨kind, label, skip, words, left, x, n⟩ := b
  obtain ⟨wa, wc, la, lc, xa, xc, rfl, hW, hL, hX⟩ := hB
  have m2 : words.length ≤ 9223372036854775807 := Nat.le_trans hW.1 hW.2.1
  show Calls Tryd.prog 35 #[.agg #[.int .i64 kind, .int .i64 label, .bool skip, .slice wa words.length wc, .int .i64 left.op, .int .i64 left.n, .slice la left.ks.length lc, .int .i64 x.op, .int .i64 x.n, .slice xa x.ks.length xc, .int .i64 n]] w _
  by_cases hl : label = 0 ∨ (label ≠ 0 ∧ Sy.cnt label 99999 = true)
  · by_cases k0 : kind = 0
    · subst k0
      rw [vld_0 label n skip words left x hl]
      exact sv_valid0 label n skip words left x wa la xa wc lc xc S w hO hW hL hX hl
    · by_cases hw : words = []
      · subst hw
        by_cases k1 : kind = 1
        · subst k1; rw [vld_13 1 label n skip left x (.inl rfl) hl]; exact sv_valid1 label n skip [] left x wa la xa wc lc xc S w hO hW hL hX hl rfl
        by_cases k2 : kind = 2
        · subst k2; rw [vld_2 label n skip left x hl]; exact sv_valid2 label n skip [] left x wa la xa wc lc xc S w hO hW hL hX hl rfl
        by_cases k3 : kind = 3
        · subst k3; rw [vld_13 3 label n skip left x (.inr rfl) hl]; exact sv_valid3 label n skip [] left x wa la xa wc lc xc S w hO hW hL hX hl rfl
        by_cases k4 : kind = 4
        · subst k4; rw [vld_4 label n skip left x hl]; exact sv_valid4 label n skip [] left x wa la xa wc lc xc S w hO hW hL hX hl rfl
        by_cases k5 : kind = 5
        · subst k5; rw [vld_5 label n skip left x hl]; exact sv_valid5 label n skip [] left x wa la xa wc lc xc S w hO hW hL hX hl rfl
        by_cases k6 : kind = 6
        · subst k6; rw [vld_6 label n skip left x hl]; exact sv_valid6 label n skip [] left x wa la xa wc lc xc S w hO hW hL hX hl rfl
        have e : Sy.vldb ⟨kind, label, skip, [], left, x, n⟩ = false := by
          unfold Sy.vldb Sy.okb
          simp [k0, k1, k2, k3, k4, k5, k6]
        rw [e]
        rcases hl with h | ⟨h, hc⟩
        · exact sv_badkind0 kind label n skip [] left x wa la xa wc lc xc w m2 h (by omega) rfl
        · exact sv_badkind1 kind label n skip [] left x wa la xa wc lc xc w m2 h hc (by omega) rfl
      · have e : Sy.vldb ⟨kind, label, skip, words, left, x, n⟩ = false := by
          unfold Sy.vldb Sy.okb
          simp [k0, hw]
        rw [e]
        have hw' : words.length ≠ 0 := fun h => hw (List.eq_nil_of_length_eq_zero h)
        rcases hl with h | ⟨h, hc⟩
        · exact sv_badwords0 kind label n skip words left x wa la xa wc lc xc w m2 h k0 hw'
        · exact sv_badwords1 kind label n skip words left x wa la xa wc lc xc w m2 h hc k0 hw'
  · have hl1 : label ≠ 0 := fun h => hl (.inl h)
    have hl2 : Sy.cnt label 99999 = false := by
      cases e : Sy.cnt label 99999
      · rfl
      · exact absurd (.inr ⟨hl1, e⟩) hl
    have e : Sy.vldb ⟨kind, label, skip, words, left, x, n⟩ = false := by
      unfold Sy.vldb Sy.okb
      simp [hl1, hl2]
    rw [e]
    exact sv_badlabel kind label n skip words left x wa la xa wc lc xc w m2 hl1 hl2
end Go.Proofs.YtlgdjbabbfdngaaDoor
set_option linter.unusedVariables false
set_option linter.unusedSimpArgs false
namespace Go.Proofs.YtlgdjbabbfdngaaDoor
open Go.RowKit
def LibB (w : World) (S : Nat → Prop) (B : Nat) (v : Value) (bs : List Sy.Bl) (s : Lb.St) : Prop :=
  ∃ ba bc pv mv, v = .agg #[.slice ba bs.length bc, pv, mv] ∧ BlksB w S ba bc bs ∧ OwnG B w 76 3 pv (s.pg.map pcell) ∧ OwnG B w 3 1 mv (s.mate.map icell)
def LbR (w : World) (bs : List Sy.Bl) (e : Ending) (w' : World) : Prop := (match Lb.build bs with
  | .bad j er => e = .returned (.tuple #[.agg #[.slice none 0 0, .slice none 0 0, .slice none 0 0], .int .i64 (j : Nat), .int .i64 er])
  | .ok s => ∃ v, e = .returned (.tuple #[v, .int .i64 (bs.length : Nat), .int .i64 0]) ∧ LibB w' (fun b => w.heap.size ≤ b) w.heap.size v bs s) ∧ Qw w w'
theorem LbR.bad {w w' : World} {bs : List Sy.Bl} {j : Nat} {er : Int} (h : Lb.build bs = .bad j er) (q : Qw w w') : LbR w bs (.returned (.tuple #[.agg #[.slice none 0 0, .slice none 0 0, .slice none 0 0], .int .i64 (j : Nat), .int .i64 er])) w' := ⟨by rw [h], q⟩
theorem LbR.ok {w w' : World} {bs : List Sy.Bl} {s : Lb.St} {v : Value} (h : Lb.build bs = .ok s) (hv : LibB w' (fun b => w.heap.size ≤ b) w.heap.size v bs s) (q : Qw w w') : LbR w bs (.returned (.tuple #[v, .int .i64 (bs.length : Nat), .int .i64 0])) w' := ⟨by rw [h]; exact ⟨v, rfl, hv⟩, q⟩
theorem validD (d : Bi) (S : Nat → Prop) (w : World) (hO : Ow w) (hB : BiB w S d) : Calls Tryd.prog 35 #[.agg #[.int .i64 d.b.kind, .int .i64 d.b.label, .bool d.b.skip, .slice d.wa d.b.words.length d.wc, .int .i64 d.b.left.op, .int .i64 d.b.left.n, .slice d.la d.b.left.ks.length d.lc, .int .i64 d.b.x.op, .int .i64 d.b.x.n, .slice d.xa d.b.x.ks.length d.xc, .int .i64 d.b.n]] w fun e w' => e = .returned (.bool (Sy.vldb d.b)) ∧ Qw w w' := sv_valid d.b _ S w hO ⟨d.wa, d.wc, d.la, d.lc, d.xa, d.xc, rfl, hB.1, hB.2.1, hB.2.2⟩
theorem res_lib {w : World} {tm : Array Value} {R : Nat} {x y z : Value} {j er : Int} (h2 : tm[2]?.getD undef = .pointer (some ⟨R, 0, none⟩)) (h3 : tm[3]?.getD undef = .int .i64 j) (h4 : tm[4]?.getD undef = .int .i64 er) (X : Bx w R #[x, y, z] 41) : (results Tryd.f17 tm).run Tryd.prog w = .ok (.tuple #[.agg #[x, y, z], .int .i64 j, .int .i64 er]) w := by
  have h := run_loadVar_row (P := Tryd.prog) w R 41 41 #[x, y, z] (0, 0) _ X Tryd.underlying41 rfl (by kernel_rfl)
  simp [results, Tryd.results17, h2, h3, h4, asAddr, h]
def NwR (w : World) (e : Ending) (w' : World) : Prop := ∃ P col, e = .returned (.pointer (some ⟨P, 0, none⟩)) ∧ w.heap.size ≤ P ∧ BM w.heap.size P w' col [⟨0, 0, 0⟩] [] [0] [] [] ∧ Qw w w'
theorem lc_newN (w : World) : Calls Tryd.prog 36 #[] w (NwR w) := lc_new w
theorem OwnG.base {B C : Nat} {w : World} {T : TypeId} {z : Nat} {v : Value} {xs : List (List Value)} (h : OwnG B w T z v xs) (hB : C ≤ B) : OwnG C w T z v xs := by
  refine ⟨h.1, h.2.1, ?_⟩
  rcases h.2.2 with k | ⟨g, cap, cur, rfl, k1, k2, k3⟩
  · exact .inl k
  · exact .inr ⟨g, cap, cur, rfl, by omega, k2, k3⟩
set_option maxRecDepth 100000 in
set_option maxHeartbeats 4000000 in
theorem lb_build (bs : List Sy.Bl) (a : Option Addr) (cap : Nat) (S : Nat → Prop) (w : World) (hO : Ow w) (h : BlksB w S a cap bs) : Calls Tryd.prog 17 #[.slice a bs.length cap] w (LbR w bs) := by
  have l1 : bs.length ≤ cap := h.1
  have l2 : cap ≤ 9223372036854775807 := h.2.1
  have HK := Lib.hid h
  have HOw := Lib.hid hO
  clear h hO
  have X0 : Bx (w.alloc (.cells #[.slice none 0 0, .slice none 0 0, .slice none 0 0] 41)) w.heap.size #[.slice none 0 0, .slice none 0 0, .slice none 0 0] 41 := Bx.new w _ _
  have HX0 := Lib.hid X0
  clear X0
  by_cases hbig : 2000 < bs.length
  · have hb : Hid (Lb.build bs = .bad 0 10) := Lib.hid (by unfold Lb.build; rw [if_pos hbig])
    have hbi : (2000 : Int) < (bs.length : Int) := by omega
    go_enter Tryd.func17, Tryd.ntmps17
    go_wp2
    exact bodyPost_ret (res_lib (x := .slice none 0 0) (y := .slice none 0 0) (z := .slice none 0 0) (j := 0) (er := 10) rfl rfl rfl (by first | exact HX0.out | exact ((HX0.out.set 0 _).set 1 _).set 2 _)) rfl (LbR.bad hb.out (by repeat (first | exact Qw.refl _ | refine Qw.al ?_ _ | refine Qw.sc ?_ (Nat.le_refl _) _)))
  · have hbi : ¬ (2000 : Int) < (bs.length : Int) := by omega
    obtain ⟨w1, hw1⟩ : ∃ w1, w1 = w.alloc (.cells #[.slice none 0 0, .slice none 0 0, .slice none 0 0] 41) := ⟨_, rfl⟩
    have qa : Qw w w1 := by rw [hw1]; exact Qw.al (Qw.refl w) _
    have sz : w1.heap.size = w.heap.size + 1 := by rw [hw1]; simp
    rw [← hw1] at HX0
    go_enter Tryd.func17, Tryd.ntmps17
    go_wp2
    go_loopw [20] (fun iv wr => ∃ i : Nat, i ≤ bs.length ∧ iv = .int .i64 (i : Int) ∧ Hid (∀ j (h : j < i) (hn : j < bs.length), Sy.vldb bs[j] = true) ∧ Hid (Qw w1 wr)) (fun iv _ => bs.length - (intOf iv).toNat)
    case atStart => exact ⟨0, by omega, rfl, Lib.hid (by intro j h; omega), Lib.hid (by rw [hw1]; exact Qw.refl _)⟩
    case round =>
      clear hw1
      obtain ⟨i, hi, rfl, HV, HQ⟩ := hrel
      have h63 : (i : Int) ≤ 9223372036854775806 := by omega
      have hKr : BlksB wr S a cap bs := HK.out.kept (Qw.trans qa HQ.out)
      by_cases hlt : i < bs.length
      · rcases hKr.2.2 with h0 | ⟨b, off, f, rfl, hS, hc⟩
        · rw [h0] at hlt; simp at hlt
        obtain ⟨hb, kk, hz⟩ := hc i hlt
        obtain ⟨d, hd⟩ : ∃ d, d = f i := ⟨_, rfl⟩
        rw [← hd] at hb kk hz
        have z0 : wr.cell? ⟨b, off + i * 11, none⟩ = some (.int .i64 d.b.kind) := hz 0 (.int .i64 d.b.kind) rfl
        have z1 := hz 1 (.int .i64 d.b.label) rfl
        have z2 := hz 2 (.bool d.b.skip) rfl
        have z3 := hz 3 (.slice d.wa d.b.words.length d.wc) rfl
        have z4 := hz 4 (.int .i64 d.b.left.op) rfl
        have z5 := hz 5 (.int .i64 d.b.left.n) rfl
        have z6 := hz 6 (.slice d.la d.b.left.ks.length d.lc) rfl
        have z7 := hz 7 (.int .i64 d.b.x.op) rfl
        have z8 := hz 8 (.int .i64 d.b.x.n) rfl
        have z9 := hz 9 (.slice d.xa d.b.x.ks.length d.xc) rfl
        have z10 := hz 10 (.int .i64 d.b.n) rfl
        have KK := Lib.hid kk
        have hi2 : (i : Int) < (bs.length : Int) := by omega
        have bl := cell_lt z0
        have hne : b ≠ wr.heap.size := by omega
        have CV := Lib.hid (fun w2 (q : Qw wr w2) => validD d S w2 (HOw.out.kept (Qw.trans (Qw.trans qa HQ.out) q)) (kk.kept q))
        have HB := Lib.hid hb
        clear hz hc kk hKr hd hb
        cases hv : Sy.vldb d.b with
        | true =>
          rw [hv] at CV
          have hv' : Hid (∀ j (h : j < i + 1) (hn : j < bs.length), Sy.vldb bs[j] = true) := Lib.hid fun j h hn => by
            rcases Nat.lt_or_ge j i with k | k
            · exact HV.out j k hn
            · obtain rfl : j = i := by omega
              rw [← HB.out]; exact hv
          clear hv HV
          go_wp2_with (go_at_call 35; with_reducible refine (CV.out _ (Qw.al (Qw.refl wr) _)).mono ?_)
          rintro e w' ⟨rfl, q⟩
          have Q' : Hid (Qw w1 w') := Lib.hid (Qw.trans HQ.out (Qw.trans (Qw.al (Qw.refl wr) _) q))
          go_wp2
          go_roundw
          case measure => simp [intOf]; omega
          case rel => exact ⟨i + 1, by omega, by go_num, hv', Q'⟩
        | false =>
          rw [hv] at CV
          have hbd : Hid (Lb.build bs = .bad i 1) := Lib.hid (by
            unfold Lb.build
            rw [if_neg hbig, Lb.inv_some bs 0 i hlt (fun j h => HV.out j h (by omega)) (by rw [← HB.out]; exact hv), Nat.zero_add])
          clear hv HV
          go_wp2_with (go_at_call 35; with_reducible refine (CV.out _ (Qw.al (Qw.refl wr) _)).mono ?_)
          rintro e w' ⟨rfl, q⟩
          have q' : Qw w1 w' := Qw.trans HQ.out (Qw.trans (Qw.al (Qw.refl wr) _) q)
          have X := HX0.out.kept q'
          have x0 := X.cell' 0 _ rfl
          have x1 := X.cell' 1 _ rfl
          have x2 := X.cell' 2 _ rfl
          have f0 := X.free 0
          have f1 := X.free 1
          have f2 := X.free 2
          go_wp2
          exact bodyPost_ret (res_lib (x := .slice none 0 0) (y := .slice none 0 0) (z := .slice none 0 0) (j := (i : Nat)) (er := 1) rfl rfl rfl (((X.set 0 _).set 1 _).set 2 _)) rfl (LbR.bad hbd.out (Qw.sc (Qw.sc (Qw.sc (Qw.trans qa q') (Nat.le_refl _) _) (Nat.le_refl _) _) (Nat.le_refl _) _))
      · obtain rfl : i = bs.length := by omega
        have hb : ¬ (bs.length : Int) < (bs.length : Int) := by omega
        have hval : ∀ b ∈ bs, Sy.vldb b = true := fun b hb => by
          obtain ⟨j, hj, rfl⟩ := List.mem_iff_getElem.1 hb
          exact HV.out j hj hj
        have HVA := Lib.hid hval
        have qr : Qw w wr := Qw.trans qa HQ.out
        have XR := Lib.hid (HX0.out.kept HQ.out)
        have szr : w.heap.size < wr.heap.size := by have := HQ.out.size; omega
        have Q0 := Lib.hid qr
        have HKr := Lib.hid hKr
        have HOr := Lib.hid (HOw.out.kept qr)
        have C0 := Lib.hid (lc_newN wr)
        clear HV hval qr HX0 HQ qa sz hKr HOw HK
        go_wp2_with (go_at_call 36; refine C0.out.mono ?_)
        intro e w2 hn
        obtain ⟨P, col, rfl, hP, bm, q2⟩ := hn
        have HL0 := Lib.hid (Bld.start bm)
        have q2' := Lib.hid q2
        clear bm q2
        go_wp2
        generalize wr = w0 at *
        go_loopw [34] (fun iv wr => ∃ (i : Nat) (s : Lb.St) (col : Nat → Nat), i ≤ bs.length ∧ iv = .int .i64 (i : Int) ∧ s.i = i ∧ Hid (Lb.run (bs.take i) Lb.st0 = .ok s) ∧ Hid (Bld 0 w0.heap.size P wr col s) ∧ Hid (Qw w0 wr)) (fun iv _ => bs.length - (intOf iv).toNat)
        case atStart => exact ⟨0, Lb.st0, col, by omega, rfl, rfl, Lib.hid rfl, HL0, q2'⟩
        case round =>
          clear HL0 q2' C0
          obtain ⟨i, s, col, hi, rfl, hsi, HR, HL, HQ⟩ := hrel
          have h63 : (i : Int) ≤ 9223372036854775806 := by omega
          have hKr : BlksB wr S a cap bs := HKr.out.kept HQ.out
          have hBx : w0.heap.size ≤ wr.heap.size := HQ.out.size
          by_cases hlt : i < bs.length
          · rcases hKr.2.2 with h0 | ⟨b, off, f, rfl, hS, hc⟩
            · rw [h0] at hlt; simp at hlt
            obtain ⟨hb, kk, hz⟩ := hc i hlt
            obtain ⟨d, hd⟩ : ∃ d, d = f i := ⟨_, rfl⟩
            rw [← hd] at hb kk hz
            have z0 : wr.cell? ⟨b, off + i * 11, none⟩ = some (.int .i64 d.b.kind) := hz 0 (.int .i64 d.b.kind) rfl
            have z1 := hz 1 (.int .i64 d.b.label) rfl
            have z2 := hz 2 (.bool d.b.skip) rfl
            have z3 := hz 3 (.slice d.wa d.b.words.length d.wc) rfl
            have z4 := hz 4 (.int .i64 d.b.left.op) rfl
            have z5 := hz 5 (.int .i64 d.b.left.n) rfl
            have z6 := hz 6 (.slice d.la d.b.left.ks.length d.lc) rfl
            have z7 := hz 7 (.int .i64 d.b.x.op) rfl
            have z8 := hz 8 (.int .i64 d.b.x.n) rfl
            have z9 := hz 9 (.slice d.xa d.b.x.ks.length d.xc) rfl
            have z10 := hz 10 (.int .i64 d.b.n) rfl
            have hi2 : (i : Int) < (bs.length : Int) := by omega
            have bl := cell_lt z0
            have hne : b ≠ wr.heap.size := by omega
            obtain ⟨_, l1', l2', n1', n2'⟩ := Lb.vld_all (b := d.b) (by rw [hb]; exact HVA.out _ (List.getElem_mem hlt))
            have C1 : Hid (Calls Tryd.prog 37 #[.pointer (some ⟨P, 0, none⟩), .agg #[.int .i64 d.b.kind, .int .i64 d.b.label, .bool d.b.skip, .slice d.wa d.b.words.length d.wc, .int .i64 d.b.left.op, .int .i64 d.b.left.n, .slice d.la d.b.left.ks.length d.lc, .int .i64 d.b.x.op, .int .i64 d.b.x.n, .slice d.xa d.b.x.ks.length d.xc, .int .i64 d.b.n]] (wr.alloc (.cells #[.int .i64 d.b.kind, .int .i64 d.b.label, .bool d.b.skip, .slice d.wa d.b.words.length d.wc, .int .i64 d.b.left.op, .int .i64 d.b.left.n, .slice d.la d.b.left.ks.length d.lc, .int .i64 d.b.x.op, .int .i64 d.b.x.n, .slice d.xa d.b.x.ks.length d.xc, .int .i64 d.b.n] 37)) (AdR w0.heap.size P (wr.alloc (.cells #[.int .i64 d.b.kind, .int .i64 d.b.label, .bool d.b.skip, .slice d.wa d.b.words.length d.wc, .int .i64 d.b.left.op, .int .i64 d.b.left.n, .slice d.la d.b.left.ks.length d.lc, .int .i64 d.b.x.op, .int .i64 d.b.x.n, .slice d.xa d.b.x.ks.length d.xc, .int .i64 d.b.n] 37)) d.b s)) := Lib.hid (lc_add (d := d) (HL.out.kept (Qw.al (Qw.refl wr) (.cells (bicell d).toArray 37))) (le_al _ wr _ hBx) (by omega) (by omega) (by omega) l1' (by omega))
            obtain ⟨rb, rk⟩ := Lb.run_take hlt HR.out
            rw [← hb] at rb rk
            clear hz hc kk hKr hd hb l1' l2' n1' n2'
            cases hst : Lb.stepS d.b s with
            | bad j er =>
              have he : (er != 0) = true := by rcases Lb.stepS_err hst with rfl | rfl <;> decide
              have hbd : Hid (Lb.build bs = .bad j er) := Lib.hid (by unfold Lb.build; rw [if_neg hbig, Lb.inv_none HVA.out, rb j er hst]; rfl)
              have ST := Lib.hid hst
              clear rb rk hst
              go_wp2_with (go_at_call 37; with_reducible refine C1.out.mono ?_)
              rintro e w' ⟨r1, r2⟩
              rw [ST.out] at r1
              subst r1
              have q' : Qw w0 w' := Below.trans (Below.alloc HQ.out hBx _) r2
              have X := XR.out.kept q'
              have x0 := X.cell' 0 _ rfl
              have x1 := X.cell' 1 _ rfl
              have x2 := X.cell' 2 _ rfl
              have f0 := X.free 0
              have f1 := X.free 1
              have f2 := X.free 2
              go_wp2
              exact bodyPost_ret (res_lib (x := .slice none 0 0) (y := .slice none 0 0) (z := .slice none 0 0) (j := (j : Nat)) (er := er) rfl rfl rfl (((X.set 0 _).set 1 _).set 2 _)) rfl (LbR.bad hbd.out (Qw.sc (Qw.sc (Qw.sc (Qw.trans Q0.out q') (Nat.le_refl _) _) (Nat.le_refl _) _) (Nat.le_refl _) _))
            | ok s' =>
              have hr' := Lib.hid (rk s' hst)
              have hsi' := Lb.stepS_i hst
              have ST := Lib.hid hst
              clear rb rk hst
              go_wp2_with (go_at_call 37; with_reducible refine C1.out.mono ?_)
              rintro e w' ⟨r1, r2⟩
              rw [ST.out] at r1
              obtain ⟨rfl, col', hL'⟩ := r1
              have q' : Hid (Qw w0 w') := Lib.hid (Below.trans (Below.alloc HQ.out hBx _) r2)
              have HL' := Lib.hid hL'
              clear hL' r2
              go_wp2
              go_roundw
              case measure => simp [intOf]; omega
              case rel => exact ⟨i + 1, s', col', by omega, by go_num, by omega, hr', HL', q'⟩
          · obtain rfl : i = bs.length := by omega
            have hb' : ¬ (bs.length : Int) < (bs.length : Int) := by omega
            have hrun : Lb.run bs Lb.st0 = .ok s := by have := HR.out; rwa [List.take_length] at this
            obtain ⟨l, p, ns, e1, e2, bm, e3, e4, e5, e6, e7, e8, e9⟩ := HL.out
            cases hop : s.op with
            | cons q r =>
              have hbd : Hid (Lb.build bs = .bad q.1 11) := Lib.hid (by unfold Lb.build; rw [if_neg hbig, Lb.inv_none HVA.out, hrun]; unfold Lb.fin; simp only [hop])
              rw [hop, List.reverse_cons] at bm
              have C1 := Lib.hid (lc_endProgN bm)
              clear bm e1 e2 e3 e4 e5 e6 e7 e8 e9 hrun hop
              go_wp2_with (go_at_call 38; with_reducible refine C1.out.mono ?_)
              first | rintro e w' rfl qq | rintro e w' ⟨rfl, qq⟩
              have q' : Qw w0 w' := Qw.trans HQ.out qq
              have X := XR.out.kept q'
              have x0 := X.cell' 0 _ rfl
              have x1 := X.cell' 1 _ rfl
              have x2 := X.cell' 2 _ rfl
              have f0 := X.free 0
              have f1 := X.free 1
              have f2 := X.free 2
              go_wp2
              exact bodyPost_ret (res_lib (x := .slice none 0 0) (y := .slice none 0 0) (z := .slice none 0 0) (j := (q.1 : Nat)) (er := 11) rfl rfl rfl (((X.set 0 _).set 1 _).set 2 _)) rfl (LbR.bad hbd.out (Qw.sc (Qw.sc (Qw.sc (Qw.trans Q0.out q') (Nat.le_refl _) _) (Nat.le_refl _) _) (Nat.le_refl _) _))
            | nil =>
              have hbd : Hid (Lb.build bs = .ok s) := Lib.hid (by unfold Lb.build; rw [if_neg hbig, Lb.inv_none HVA.out, hrun]; unfold Lb.fin; simp only [hop])
              rw [hop, List.reverse_nil] at bm
              have hp : ({ ({ p with fin := 0 } : Lb.Pg) with fin := s.mate.length } : Lb.Pg) = p := by cases p; simp at e2 ⊢; omega
              have c1 := lc_endProgY bm hBx
              rw [hp, ← e1] at c1
              have C1 := Lib.hid c1
              clear c1 bm e1 e2 e3 e4 e5 e6 e7 e8 e9 hrun hop hp
              go_wp2_with (go_at_call 38; with_reducible refine C1.out.mono ?_)
              first | rintro e w4 rfl br | rintro e w4 ⟨rfl, br⟩
              obtain ⟨col', pv, mv, lv, ov, nb, hm, hl, fc, bel⟩ := br.open_
              have q4 : Qw w0 w4 := Below.trans HQ.out bel
              have x0 := hm.X.cell' 0 pv rfl
              have x1 := hm.X.cell' 1 mv rfl
              have hPl := hm.ltP
              have hPR : P ≠ w.heap.size := by have := hm.hP; omega
              have cc := fun w' (q : Qw w4 w') => cp_blocks bs (by omega) (fun b hb => (Lb.vld_all (HVA.out b hb)).1) a cap S w' (HKr.out.kept (Qw.trans q4 q))
              have CC := Lib.hid cc
              have HM := Lib.hid hm
              have hpv : ∃ a n c, pv = .slice a n c := by obtain ⟨a, c, e, _⟩ := hm.G.form; exact ⟨a, _, c, e⟩
              have hmv : ∃ a n c, mv = .slice a n c := by obtain ⟨a, c, e, _⟩ := hm.M.form; exact ⟨a, _, c, e⟩
              obtain ⟨pa, pn, pc, rfl⟩ := hpv
              obtain ⟨ma, mn, mc, rfl⟩ := hmv
              clear cc fc bel br hl
              obtain ⟨S2, hS⟩ : ∃ S2 : World → Prop, ∀ w', S2 w' ↔ (w'.cell? ⟨P, 0, none⟩ = some (.slice pa pn pc) ∧ w'.cell? ⟨P, 1, none⟩ = some (.slice ma mn mc)) := ⟨_, fun _ => Iff.rfl⟩
              have HS := Lib.hid hS
              have KS := Lib.hid (fun w' (q : Qw w4 w') => (hS w').2 ⟨(q.cell (p := ⟨P, 0, none⟩) hPl).trans x0, (q.cell (p := ⟨P, 1, none⟩) hPl).trans x1⟩)
              clear hS hm
              go_wp2
              refine wp_region_M S2 15 (by kernel_rfl) ?_
              have hSS : S2 (World.drew w4) := KS.out _ (Qw.dr (Qw.refl w4))
              refine wpAnyM_take (i := 0) (v := ?_) rfl (by kernel_rfl) (fun _ _ _ h => h) (Or.inl ⟨by rfl, ?_⟩) hSS ?_
              rotate_left 1
              · intro wS hwS
                go_simp
                try with_reducible rfl
              simp only [List.getElem_toArray, List.getElem_cons_succ, List.getElem_cons_zero, Act.put, List.setIfInBounds_toArray, List.set_cons_zero, List.set_cons_succ]
              refine wpAnyM_take (i := 2) (v := ?_) rfl (by kernel_rfl) (fun _ _ _ h => h) (Or.inl ⟨by rfl, ?_⟩) hSS ?_
              rotate_left 1
              · intro wS hwS
                go_simp
                try with_reducible rfl
              simp only [List.getElem_toArray, List.getElem_cons_succ, List.getElem_cons_zero, Act.put, List.setIfInBounds_toArray, List.set_cons_zero, List.set_cons_succ]
              refine wpAnyM_take (i := 3) (v := ?_) rfl (by kernel_rfl) (fun _ _ _ h => h) (Or.inl ⟨by rfl, ?_⟩) hSS ?_
              rotate_left 1
              · intro wS hwS
                go_simp
                try with_reducible rfl
              simp only [List.getElem_toArray, List.getElem_cons_succ, List.getElem_cons_zero, Act.put, List.setIfInBounds_toArray, List.set_cons_zero, List.set_cons_succ]
              refine wpAnyM_take (i := 4) (v := ?_) rfl (by kernel_rfl) (fun _ _ _ h => h) (Or.inl ⟨by rfl, ?_⟩) hSS ?_
              rotate_left 1
              · intro wS hwS
                go_simp
                try with_reducible rfl
              simp only [List.getElem_toArray, List.getElem_cons_succ, List.getElem_cons_zero, Act.put, List.setIfInBounds_toArray, List.set_cons_zero, List.set_cons_succ]
              refine wpAnyM_take (i := 5) (v := ?_) rfl (by kernel_rfl) (fun _ _ _ h => h) (Or.inl ⟨by rfl, ?_⟩) hSS ?_
              rotate_left 1
              · intro wS hwS
                obtain ⟨c0, c1⟩ := (HS.out wS).1 hwS; go_simp
                try with_reducible rfl
              simp only [List.getElem_toArray, List.getElem_cons_succ, List.getElem_cons_zero, Act.put, List.setIfInBounds_toArray, List.set_cons_zero, List.set_cons_succ]
              refine wpAnyM_take (i := 6) (v := ?_) rfl (by kernel_rfl) (fun _ _ _ h => h) (Or.inl ⟨by rfl, ?_⟩) hSS ?_
              rotate_left 1
              · intro wS hwS
                go_simp
                try with_reducible rfl
              simp only [List.getElem_toArray, List.getElem_cons_succ, List.getElem_cons_zero, Act.put, List.setIfInBounds_toArray, List.set_cons_zero, List.set_cons_succ]
              refine wpAnyM_take (i := 7) (v := ?_) rfl (by kernel_rfl) (fun _ _ _ h => h) (Or.inl ⟨by rfl, ?_⟩) hSS ?_
              rotate_left 1
              · intro wS hwS
                go_simp
                try with_reducible rfl
              simp only [List.getElem_toArray, List.getElem_cons_succ, List.getElem_cons_zero, Act.put, List.setIfInBounds_toArray, List.set_cons_zero, List.set_cons_succ]
              refine wpAnyM_take (i := 8) (v := ?_) rfl (by kernel_rfl) (fun _ _ _ h => h) (Or.inl ⟨by rfl, ?_⟩) hSS ?_
              rotate_left 1
              · intro wS hwS
                go_simp
                try with_reducible rfl
              simp only [List.getElem_toArray, List.getElem_cons_succ, List.getElem_cons_zero, Act.put, List.setIfInBounds_toArray, List.set_cons_zero, List.set_cons_succ]
              refine wpAnyM_take (i := 9) (v := ?_) rfl (by kernel_rfl) (fun _ _ _ h => h) (Or.inl ⟨by rfl, ?_⟩) hSS ?_
              rotate_left 1
              · intro wS hwS
                obtain ⟨c0, c1⟩ := (HS.out wS).1 hwS; go_simp
                try with_reducible rfl
              simp only [List.getElem_toArray, List.getElem_cons_succ, List.getElem_cons_zero, Act.put, List.setIfInBounds_toArray, List.set_cons_zero, List.set_cons_succ]
              refine wpAnyM_take (i := 11) (v := ?_) rfl (by kernel_rfl) (fun _ _ _ h => h) (Or.inl ⟨by rfl, ?_⟩) hSS ?_
              rotate_left 1
              · intro wS hwS
                go_simp
                try with_reducible rfl
              simp only [List.getElem_toArray, List.getElem_cons_succ, List.getElem_cons_zero, Act.put, List.setIfInBounds_toArray, List.set_cons_zero, List.set_cons_succ]
              refine wpAnyM_take (i := 12) (v := ?_) rfl (by kernel_rfl) (fun _ _ _ h => h) (Or.inl ⟨by rfl, ?_⟩) hSS ?_
              rotate_left 1
              · intro wS hwS
                go_simp
                try with_reducible rfl
              simp only [List.getElem_toArray, List.getElem_cons_succ, List.getElem_cons_zero, Act.put, List.setIfInBounds_toArray, List.set_cons_zero, List.set_cons_succ]
              refine wpAnyM_one (i := 1) rfl (by kernel_rfl) rfl (fun K hK => ?_)
              go_simp
              refine (CC.out _ (Qw.dr (Qw.refl w4))).mono ?_
              rintro e w5 ⟨ba, bc, rfl, kb, q5⟩
              have Q5 : Qw w4 w5 := Qw.trans (Qw.dr (Qw.refl w4)) q5
              have hSS : S2 w5 := KS.out _ Q5
              refine hK _ _ (fun _ => hSS) ?_
              clear hK K
              refine wpAnyM_take (i := 10) (v := ?_) rfl (by kernel_rfl) (fun _ _ _ h => h) (Or.inl ⟨by rfl, ?_⟩) hSS ?_
              rotate_left 1
              · intro wS hwS
                go_simp
                try with_reducible rfl
              simp only [List.getElem_toArray, List.getElem_cons_succ, List.getElem_cons_zero, Act.put, List.setIfInBounds_toArray, List.set_cons_zero, List.set_cons_succ]
              have q05 : Qw w0 w5 := Qw.trans q4 Q5
              have XL := XR.out.kept q05
              have y0 := XL.cell' 0 _ rfl
              have y1 := XL.cell' 1 _ rfl
              have y2 := XL.cell' 2 _ rfl
              have f0 := XL.free 0
              have f1 := XL.free 1
              have f2 := XL.free 2
              refine wpAnyM_one (i := 13) rfl (by kernel_rfl) rfl (fun K hK => ?_)
              go_simp
              refine hK _ (((w5.setCell ⟨w.heap.size, 0, none⟩ (.slice ba bs.length bc)).setCell ⟨w.heap.size, 1, none⟩ (.slice pa pn pc)).setCell ⟨w.heap.size, 2, none⟩ (.slice ma mn mc)) (fun _ => (HS.out _).2 ⟨?_, ?_⟩) ?_
              · exact (World.cell?_of_block (w := w5) ((Below.heap_setCell _ _ _ P hPR).trans ((Below.heap_setCell _ _ _ P hPR).trans (Below.heap_setCell _ _ _ P hPR)))).trans ((Q5.cell (p := ⟨P, 0, none⟩) hPl).trans x0)
              · exact (World.cell?_of_block (w := w5) ((Below.heap_setCell _ _ _ P hPR).trans ((Below.heap_setCell _ _ _ P hPR).trans (Below.heap_setCell _ _ _ P hPR)))).trans ((Q5.cell (p := ⟨P, 1, none⟩) hPl).trans x1)
              have hS6 : S2 (((w5.setCell ⟨w.heap.size, 0, none⟩ (.slice ba bs.length bc)).setCell ⟨w.heap.size, 1, none⟩ (.slice pa pn pc)).setCell ⟨w.heap.size, 2, none⟩ (.slice ma mn mc)) := (HS.out _).2 ⟨(World.cell?_of_block (w := w5) ((Below.heap_setCell _ _ _ P hPR).trans ((Below.heap_setCell _ _ _ P hPR).trans (Below.heap_setCell _ _ _ P hPR)))).trans ((Q5.cell (p := ⟨P, 0, none⟩) hPl).trans x0), (World.cell?_of_block (w := w5) ((Below.heap_setCell _ _ _ P hPR).trans ((Below.heap_setCell _ _ _ P hPR).trans (Below.heap_setCell _ _ _ P hPR)))).trans ((Q5.cell (p := ⟨P, 1, none⟩) hPl).trans x1)⟩
              clear hK K hSS y0 y1 y2 f0 f1 f2
              have XF := ((XL.set 0 (.slice ba bs.length bc)).set 1 (.slice pa pn pc)).set 2 (.slice ma mn mc)
              have ef : ∀ b, b ≠ w.heap.size → (((w5.setCell ⟨w.heap.size, 0, none⟩ (.slice ba bs.length bc)).setCell ⟨w.heap.size, 1, none⟩ (.slice pa pn pc)).setCell ⟨w.heap.size, 2, none⟩ (.slice ma mn mc)).heap[b]? = w5.heap[b]? := fun b hb => (Below.heap_setCell _ _ _ b hb).trans ((Below.heap_setCell _ _ _ b hb).trans (Below.heap_setCell _ _ _ b hb))
              have QF := Qw.sc (p := ⟨w.heap.size, 2, none⟩) (Qw.sc (p := ⟨w.heap.size, 1, none⟩) (Qw.sc (p := ⟨w.heap.size, 0, none⟩) (Qw.trans Q0.out q05) (Nat.le_refl _) (.slice ba bs.length bc)) (Nat.le_refl _) (.slice pa pn pc)) (Nat.le_refl _) (.slice ma mn mc)
              generalize ((w5.setCell ⟨w.heap.size, 0, none⟩ (.slice ba bs.length bc)).setCell ⟨w.heap.size, 1, none⟩ (.slice pa pn pc)).setCell ⟨w.heap.size, 2, none⟩ (.slice ma mn mc) = w6 at *
              have own : ∀ {T : TypeId} {z : Nat} {v : Value} {xs : List (List Value)}, OwnG w0.heap.size w4 T z v xs → OwnG w.heap.size w6 T z v xs := fun {T z v xs} h => ((h.go (w' := w5) fun g _ hl => Q5.block g hl).go (w' := w6) fun g hg hl => ef g (by have := (h.lt hg).1; omega)).base (by omega)
              have bk : BlksB w6 (fun b => w.heap.size ≤ b) ba bc bs := kb.go fun b hb hl => ⟨ef b (by have hb' : (World.drew w4).heap.size ≤ b := hb; have h2 : w4.heap.size ≤ b := hb'; have := q4.size; omega), by have hb' : (World.drew w4).heap.size ≤ b := hb; have h2 : w4.heap.size ≤ b := hb'; have := q4.size; omega⟩
              have LF : Hid (LibB w6 (fun b => w.heap.size ≤ b) w.heap.size (.agg #[.slice ba bs.length bc, .slice pa pn pc, .slice ma mn mc]) bs s) := Lib.hid ⟨ba, bc, _, _, rfl, bk, own HM.out.G, own HM.out.M⟩
              clear bk own ef XL kb q5 Q5 q05 HM CC KS HS
              refine wpAnyM_one (i := 14) rfl (by kernel_rfl) rfl (fun K hK => ?_)
              go_simp
              refine hK _ w6 (fun _ => hS6) ?_
              clear hK K
              refine wpAnyM_one (i := 15) rfl (by kernel_rfl) rfl (fun K hK => ?_)
              go_simp
              refine hK _ w6 (fun h => absurd h (by decide)) ?_
              clear hK K
              refine wpAnyM_done (by kernel_rfl) ?_ _
              go_wp2
              exact bodyPost_ret (res_lib (x := .slice ba bs.length bc) (y := .slice pa pn pc) (z := .slice ma mn mc) (j := (bs.length : Nat)) (er := 0) rfl rfl rfl XF) rfl (LbR.ok hbd.out LF.out QF)
end Go.Proofs.YtlgdjbabbfdngaaDoor

