import Derived.Test.YtbcbnkapipimmaaGreatDoorZRg0
import Derived.Outline
import Derived.Lib.Hide
import Derived.Lib.QuietBelow
import Derived.StillTailTactics
import Derived.BigQuiet
set_option linter.unusedVariables false
set_option linter.unusedSimpArgs false
namespace Go.Proofs.YtbcbnkapipimmaaGreatDoor
open Go.RowKit
theorem scaled (v : Int) (f j : Nat) (h0 : 0 ≤ v) (h1 : v < 1000000000 * 10 ^ f) (hj : j + f < 6) : 0 ≤ v * 10 ^ j ∧ v * 10 ^ j ≤ 100000000000000 := by
  have p : (0 : Int) < 10 ^ j := Int.pow_pos (by decide)
  refine ⟨Int.mul_nonneg h0 (Int.le_of_lt p), ?_⟩
  have m : v * 10 ^ j ≤ 1000000000 * 10 ^ f * 10 ^ j := Int.mul_le_mul_of_nonneg_right (by omega) (Int.le_of_lt p)
  rw [Int.mul_assoc, ← Int.pow_add] at m
  have q := pow10_le (show f + j ≤ 5 by omega)
  have e : (10 : Int) ^ 5 = 100000 := by decide
  omega
theorem both_bd (l : List UInt8) (h : pdot l = true) (hl : pw l < l.length) : 0 ≤ vl (vl 0 (l.take (pw l))) ((l.drop (pw l + 1)).take (pf l)) ∧ vl (vl 0 (l.take (pw l))) ((l.drop (pw l + 1)).take (pf l)) < 1000000000 * 10 ^ pf l := by
  obtain ⟨b0, b1⟩ := whole_bd l
  have e : pf l = rk (l.drop (pw l + 1)) 6 := if_pos h
  have le := (rk_le (l.drop (pw l + 1)) 6).2
  rw [← e] at le
  obtain ⟨x, y⟩ := vl_bd ((l.drop (pw l + 1)).take (pf l)) _ b0 (all_take _ _ le (fun i hi => rk_dig _ 6 i (by omega)))
  rw [List.length_take, Nat.min_eq_left le] at y
  refine ⟨by omega, Int.lt_of_lt_of_le y (Int.mul_le_mul_of_nonneg_right (by omega) (Int.le_of_lt (Int.pow_pos (by decide))))⟩
theorem pr_ok {l : List UInt8} (h : pend l = l.length) (h2 : pw l + pf l ≠ 0) : prv l = pnum l ∧ pre l = 0 := by
  have : pok l = true := by unfold pok; rw [decide_eq_true h, decide_eq_true h2]; rfl
  exact ⟨if_pos this, if_pos this⟩
theorem pr_no {l : List UInt8} (h : pend l ≠ l.length ∨ pw l + pf l = 0) : prv l = 0 ∧ pre l = 2 := by
  have : pok l = false := by
    unfold pok
    rcases h with h | h
    · rw [decide_eq_false h]; rfl
    · rw [decide_eq_false (show ¬ pw l + pf l ≠ 0 by omega), Bool.and_false]
  unfold prv pre
  rw [this]; exact ⟨rfl, rfl⟩
set_option maxRecDepth 100000 in
set_option maxHeartbeats 1000000 in
theorem fxParse (s : ByteArray) (hs : s.size ≤ maxLen) (w : World) :
    Calls Tryz.prog 141 #[.string s] w fun e w' => e = .returned (.tuple #[.int .i64 (prv s.data.toList), .int .i64 (pre s.data.toList)]) ∧ w = w' := by
  have sl : s.data.toList.length = s.size := by rw [Array.length_toList]; rfl
  have pb := pw_le s.data.toList
  obtain ⟨wb0, wb1⟩ := whole_bd s.data.toList
  have fb := pf_le s.data.toList
  have c1 := fun w => fxDigits 0 0 9 s (by omega) (by omega) (by omega) (by omega) (by omega) (by omega) (by omega) hs w
  have c0 := fun x y z u v => fxDigits (vl 0 (s.data.toList.take (pw s.data.toList))) ((pw s.data.toList : Nat) + 1) 6 s wb0 wb1 x y z u v hs
  have hm : s.size ≤ 9223372036854775807 := hs
  rw [show rdv 0 s.data.toList 0 9 = vl 0 (s.data.toList.take (pw s.data.toList)) by unfold rdv rdl; rfl, show rdl s.data.toList 0 9 = pw s.data.toList by unfold rdl; rfl] at c1
  have ok := @pr_ok s.data.toList
  have no := @pr_no s.data.toList
  rw [sl] at ok no
  by_cases hW : pw s.data.toList < s.size
  · have gd : s.data.toList.getD (pw s.data.toList) 0 = s[pw s.data.toList] := by rw [getD_of _ _ (by omega)]; rfl
    by_cases hp : s[pw s.data.toList] = 46
    · have d : pdot s.data.toList = true := by unfold pdot; rw [gd, hp, sl, decide_eq_true hW]; rfl
      have pe : pend s.data.toList = pw s.data.toList + 1 + pf s.data.toList := if_pos d
      have pfe : pf s.data.toList = rk (s.data.toList.drop (pw s.data.toList + 1)) 6 := if_pos d
      have c2 := fun w => c0 (by omega) (by omega) (by omega) (by omega) (by omega) w
      have tn : (((pw s.data.toList : Nat) : Int) + 1).toNat = pw s.data.toList + 1 := by omega
      have bb := both_bd s.data.toList d (by omega)
      have dt : (((s[pw s.data.toList]).toNat : Int) == 46) = true := by rw [hp]; decide
      have pn : pnum s.data.toList = vl (vl 0 (s.data.toList.take (pw s.data.toList))) ((s.data.toList.drop (pw s.data.toList + 1)).take (pf s.data.toList)) * 10 ^ (6 - pf s.data.toList) := rfl
      rw [show rdl s.data.toList ((pw s.data.toList : Nat) + 1) 6 = pf s.data.toList by unfold rdl; rw [tn]; exact pfe.symm,
        show rdv (vl 0 (s.data.toList.take (pw s.data.toList))) s.data.toList ((pw s.data.toList : Nat) + 1) 6 = vl (vl 0 (s.data.toList.take (pw s.data.toList))) ((s.data.toList.drop (pw s.data.toList + 1)).take (pf s.data.toList)) by
          unfold rdv rdl; rw [tn, pfe]; rfl] at c2
      have fl : pw s.data.toList + 1 + pf s.data.toList ≤ s.size := by have := (rk_le (s.data.toList.drop (pw s.data.toList + 1)) 6).2; rw [List.length_drop] at this; omega
      rw [pn] at ok
      rw [pe] at ok no
      have C1 := Lib.hid c1
      have C2 := Lib.hid c2
      have BB := Lib.hid bb
      clear c0 c1 c2 d pe pfe tn gd hp sl bb pn
      generalize vl (vl 0 (s.data.toList.take (pw s.data.toList))) ((s.data.toList.drop (pw s.data.toList + 1)).take (pf s.data.toList)) = X at *
      generalize vl 0 (s.data.toList.take (pw s.data.toList)) = V at *
      generalize prv s.data.toList = PV at *
      generalize pre s.data.toList = PE at *
      generalize pf s.data.toList = F at *
      generalize pw s.data.toList = P at *
      by_cases he : P + 1 + F < s.size
      · obtain ⟨rfl, rfl⟩ := no (.inl (by omega))
        clear no ok
        go_enter Tryz.func141, Tryz.ntmps141
        go_wp2_with (first | (go_at_call 165; ((with_reducible refine (C1.out _).mono ?_); rintro e w' ⟨rfl, rfl⟩)) | (go_at_call 165; ((with_reducible refine (C2.out _).mono ?_); rintro e w' ⟨rfl, rfl⟩)))
        go_ret2
        exact ⟨rfl, rfl⟩
      · by_cases hz : P + F = 0
        · obtain ⟨rfl, rfl⟩ := no (.inr hz)
          have sb : (P : Int) + 1 + (F : Int) - ((P : Int) + 1) = (F : Int) := by omega
          have dl : decide ((P : Int) + 1 + (F : Int) < (s.size : Int)) = false := decide_eq_false (by omega)
          have nz : (((P : Int) + (F : Int)) == 0) = true := by rw [beq_iff_eq]; omega
          clear no ok hz
          go_enter Tryz.func141, Tryz.ntmps141
          go_wp2_with (first | (go_at_call 165; ((with_reducible refine (C1.out _).mono ?_); rintro e w' ⟨rfl, rfl⟩)) | (go_at_call 165; ((with_reducible refine (C2.out _).mono ?_); rintro e w' ⟨rfl, rfl⟩)))
          go_ret2
          exact ⟨rfl, rfl⟩
        · obtain ⟨rfl, rfl⟩ := ok (by omega) hz
          have sb : (P : Int) + 1 + (F : Int) - ((P : Int) + 1) = (F : Int) := by omega
          have dl : decide ((P : Int) + 1 + (F : Int) < (s.size : Int)) = false := decide_eq_false (by omega)
          have nz : (((P : Int) + (F : Int)) == 0) = false := beq_eq_false_iff_ne.2 (by omega)
          clear no ok hz
          go_enter Tryz.func141, Tryz.ntmps141
          go_wp2_with (first | (go_at_call 165; ((with_reducible refine (C1.out _).mono ?_); rintro e w' ⟨rfl, rfl⟩)) | (go_at_call 165; ((with_reducible refine (C2.out _).mono ?_); rintro e w' ⟨rfl, rfl⟩)))
          go_loop [4, 48] (fun nv cv => ∃ j : Nat, j + F ≤ 6 ∧ nv = .int .i64 (X * 10 ^ j) ∧ cv = .int .i64 (j : Int)) (fun _ cv => 6 - F - (intOf cv).toNat)
          case atStart => exact ⟨0, by omega, by simp, rfl⟩
          case round =>
            obtain ⟨j, hj, rfl, rfl⟩ := hrel
            have xs : X * 10 ^ (j + 1) = X * 10 ^ j * 10 := by rw [Int.pow_succ, Int.mul_assoc]
            have XS := Lib.hid xs
            clear xs
            by_cases hlt : j + F < 6
            · have xb := scaled X F j BB.out.1 BB.out.2 hlt
              generalize X * 10 ^ j = Y at *
              go_wp2
              go_round
              case rel => exact ⟨j + 1, by omega, by rw [XS.out], by go_num⟩
              case measure => simp [intOf]; omega
            · obtain rfl : j = 6 - F := by omega
              obtain ⟨Y, hY⟩ : ∃ Y, X * 10 ^ (6 - F) = Y := ⟨_, rfl⟩
              rw [hY]
              have YE := Lib.hid hY.symm
              clear hY XS
              go_wp2
              go_ret2
              exact ⟨ret_ii YE.out rfl, rfl⟩
    · have d : pdot s.data.toList = false := by
        unfold pdot; rw [gd, show (s[pw s.data.toList] == 46) = false from beq_eq_false_iff_ne.2 hp, Bool.and_false]
      obtain ⟨f0, pe⟩ := pf_none d
      have dt : (((s[pw s.data.toList]).toNat : Int) == 46) = false := beq_eq_false_iff_ne.2 (fun h => hp (UInt8.toNat_inj.1 (by have : (46 : UInt8).toNat = 46 := rfl; omega)))
      obtain ⟨e1, e2⟩ := no (.inl (by omega))
      rw [e1, e2]
      have C1 := Lib.hid c1
      clear c0 c1 d pe gd hp sl no ok f0 e1 e2 fb
      generalize vl 0 (s.data.toList.take (pw s.data.toList)) = V at *
      generalize pw s.data.toList = P at *
      go_enter Tryz.func141, Tryz.ntmps141
      go_wp2_with (go_at_call 165; ((with_reducible refine (C1.out _).mono ?_); rintro e w' ⟨rfl, rfl⟩))
      go_ret2
      exact ⟨rfl, rfl⟩
  · have d : pdot s.data.toList = false := by unfold pdot; rw [sl, decide_eq_false hW]; rfl
    obtain ⟨f0, pe⟩ := pf_none d
    have C1 := Lib.hid c1
    have hb := vl_bd (s.data.toList.take (pw s.data.toList)) 0
    have pn : pnum s.data.toList = vl 0 (s.data.toList.take (pw s.data.toList)) * 10 ^ (6 - 0) := by unfold pnum; rw [f0]; simp [vl]
    rw [pn, pe, f0] at ok
    rw [pe, f0] at no
    have BB : Hid (0 ≤ vl 0 (s.data.toList.take (pw s.data.toList)) ∧ vl 0 (s.data.toList.take (pw s.data.toList)) < 1000000000 * 10 ^ 0) := Lib.hid ⟨wb0, by omega⟩
    clear c0 c1 d pe f0 fb hb pn
    generalize vl 0 (s.data.toList.take (pw s.data.toList)) = V at *
    generalize prv s.data.toList = PV at *
    generalize pre s.data.toList = PE at *
    generalize pw s.data.toList = P at *
    by_cases hz : P = 0
    · obtain ⟨rfl, rfl⟩ := no (.inr (by omega))
      subst hz
      clear no ok
      go_enter Tryz.func141, Tryz.ntmps141
      go_wp2_with (go_at_call 165; ((with_reducible refine (C1.out _).mono ?_); rintro e w' ⟨rfl, rfl⟩))
      go_ret2
      exact ⟨rfl, rfl⟩
    · obtain ⟨rfl, rfl⟩ := ok (by omega) (by omega)
      have nz : ((P : Int) == 0) = false := beq_eq_false_iff_ne.2 (by omega)
      clear no ok hz
      go_enter Tryz.func141, Tryz.ntmps141
      go_wp2_with (go_at_call 165; ((with_reducible refine (C1.out _).mono ?_); rintro e w' ⟨rfl, rfl⟩))
      go_loop [4, 48] (fun nv cv => ∃ j : Nat, j + 0 ≤ 6 ∧ nv = .int .i64 (V * 10 ^ j) ∧ cv = .int .i64 (j : Int)) (fun _ cv => 6 - 0 - (intOf cv).toNat)
      case atStart => exact ⟨0, by omega, by simp, rfl⟩
      case round =>
        obtain ⟨j, hj, rfl, rfl⟩ := hrel
        have xs : V * 10 ^ (j + 1) = V * 10 ^ j * 10 := by rw [Int.pow_succ, Int.mul_assoc]
        have XS := Lib.hid xs
        clear xs
        by_cases hlt : j + 0 < 6
        · have xb := scaled V 0 j BB.out.1 BB.out.2 hlt
          generalize V * 10 ^ j = Y at *
          go_wp2
          go_round
          case rel => exact ⟨j + 1, by omega, by rw [XS.out], by go_num⟩
          case measure => simp [intOf]; omega
        · obtain rfl : j = 6 - 0 := by omega
          have YE := Lib.hid (show V * 10 ^ (6 - 0) = V * 1000000 from rfl)
          generalize V * 10 ^ (6 - 0) = Y at *
          go_wp2
          go_ret2
          exact ⟨ret_ii YE.out rfl, rfl⟩
end Go.Proofs.YtbcbnkapipimmaaGreatDoor
set_option linter.unusedVariables false
namespace Go.Proofs.YtbcbnkapipimmaaGreatDoor
open Go Go.RowKit
structure Kept (w : World) where
  v : World
  h : Qw w v
instance (w : World) : Nonempty (Kept w) := ⟨⟨w, Qw.refl w⟩⟩
theorem qw_drew1 (w : World) : Qw w w.drew := ⟨rfl, rfl, rfl, Nat.le_refl _, fun _ _ => rfl⟩
theorem Kept.call {P : Program} {w : World} {f : FuncId} {args : Array Value} {n : Kept w} {v : Value} (h : Calls P f args n.v fun e w' => e = .returned v ∧ Qw n.v w') :
    Calls P f args n.v fun e w'' => e = .returned v ∧ ∃ p : Kept w, w'' = p.v :=
  h.mono fun _ w'' ⟨he, hq⟩ => ⟨he, ⟨w'', n.h.trans hq⟩, rfl⟩
theorem region_kept {P : Program} {id : Nat} {Q : Exit → Act → World → Prop} {a : Act} {w : World} {l : List Oper} (hm : P.follows .mixedOrders = true) (hB : Region.lexB .any l.toArray = true)
    (h : wpQuiet P l.toArray (fun w' => ∃ p : Kept w, w' = p.v) (fun a' => ∀ w', Qw w w' → Q .normal a' w') l a) : (Code.region id l.toArray true).wp P Q a w := by
  have hh : wpQuiet P l.toArray (fun w' => ∃ p : Kept w, w' = p.v) (fun a' => ∀ w', (∃ p : Kept w, w' = p.v) → Q .normal a' w') l a := by
    have key : (fun a' => ∀ w', (∃ p : Kept w, w' = p.v) → Q .normal a' w') = (fun a' => ∀ w', Qw w w' → Q .normal a' w') := by
      funext a'
      exact propext ⟨fun k w' hq => k w' ⟨⟨w', hq⟩, rfl⟩, fun k w' ⟨p, e⟩ => k w' (e ▸ p.h)⟩
    rw [key]; exact h
  exact wp_region_quiet (C := fun w' => ∃ p : Kept w, w' = p.v) hm hB ⟨⟨_, qw_drew1 w⟩, rfl⟩ (by simpa using hh)
theorem code_of {P : Program} {c : Code} {Q : Exit → Act → World → Prop} {a : Act} {w : World} (S : World → Prop) (h : S w) (k : ∀ w', S w' → c.wp P Q a w') : c.wp P Q a w := k w h
def Bx (w : World) (b : Nat) (cs : Array Value) (t : TypeId) : Prop := w.heap[b]? = some (.cells cs t (0, 0))
section
variable {w w' : World} {b : Nat} {cs : Array Value} {t : TypeId}
theorem Bx.lt (h : Bx w b cs t) : b < w.heap.size := (Array.getElem?_eq_some_iff.1 h).1
theorem Bx.kept (h : Bx w b cs t) (q : Qw w w') : Bx w' b cs t := (q.block b h.lt).trans h
theorem Bx.below {B : Nat} (h : Bx w b cs t) (q : Below B w w') (hb : b < B) : Bx w' b cs t := (q.block b hb).trans h
theorem Bx.cell (h : Bx w b cs t) (i : Nat) : w.cell? ⟨b, i, none⟩ = cs[i]? := by simp only [Bx] at h; simp [World.cell?, h]
theorem Bx.free (h : Bx w b cs t) (i : Nat) : w.frozen? ⟨b, i, none⟩ = false := by simp only [Bx] at h; simp [World.frozen?, h]
theorem Bx.new (w : World) (cs : Array Value) (t : TypeId) : Bx (w.alloc (.cells cs t)) w.heap.size cs t := by
  show (w.heap.push _)[w.heap.size]? = _
  simp
theorem Bx.alloc (h : Bx w b cs t) (o : Obj) : Bx (w.alloc o) b cs t := (Below.heap_alloc w o b h.lt).trans h
theorem Bx.set (h : Bx w b cs t) (i : Nat) (v : Value) : Bx (w.setCell ⟨b, i, none⟩ v) b (cs.setIfInBounds i v) t := by
  simp only [Bx] at h ⊢
  simp only [World.setCell, Array.getElem?_modify, if_true, h, Option.map_some]
  rfl
theorem Bx.other (h : Bx w b cs t) {a : Addr} (hb : b ≠ a.block) (v : Value) : Bx (w.setCell a v) b cs t := (Below.heap_setCell w a v b hb).trans h
theorem Bx.kcell (h : Bx w b cs t) (i : Nat) (v : Value) (hv : cs[i]? = some v) : ∀ p : Kept w, p.v.cell? ⟨b, i, none⟩ = some v := fun p => ((h.kept p.h).cell i).trans hv
theorem Bx.cell' (h : Bx w b cs t) (i : Nat) (v : Value) (hv : cs[i]? = some v) : w.cell? ⟨b, i, none⟩ = some v := (h.cell i).trans hv
end
end Go.Proofs.YtbcbnkapipimmaaGreatDoor
set_option linter.unusedVariables false
set_option linter.unusedSimpArgs false
namespace Go.Proofs.YtbcbnkapipimmaaGreatDoor
open Go.RowKit
namespace Lx
theorem nrun_step (l : List UInt8) (k : Nat) (h : k < l.length) : (isn l[k] = true → nrun (l.drop k) = nrun (l.drop (k + 1)) + 1) ∧ (isn l[k] = false → nrun (l.drop k) = 0) := by
  rw [List.drop_eq_getElem_cons h, show nrun (l[k] :: l.drop (k + 1)) = if isn l[k] = true then nrun (l.drop (k + 1)) + 1 else 0 from rfl]
  exact ⟨fun e => if_pos e, fun e => if_neg (by rw [e]; decide)⟩
theorem nrun_end (l : List UInt8) (k : Nat) (h : l.length ≤ k) : nrun (l.drop k) = 0 := by rw [List.drop_eq_nil_of_le h]; rfl
end Lx
def fv (f : Lx.F) : Value := .tuple #[.agg #[.int .i64 f.k, .int .i64 f.n, .int .i64 0, .string (bs f.x)], .int .i64 (f.m : Int)]
theorem fnum_ok (l : List UInt8) (h : pre (l.take (Lx.nrun l)) = 0) : Lx.fnum l = ⟨2, prv (l.take (Lx.nrun l)), [], Lx.nrun l⟩ := by
  unfold pre at h
  unfold Lx.fnum prv
  cases e : pok (l.take (Lx.nrun l))
  · rw [e] at h; exact absurd h (by decide)
  · rfl
theorem fnum_no (l : List UInt8) (h : pre (l.take (Lx.nrun l)) ≠ 0) : Lx.fnum l = ⟨0, 0, [], 0⟩ := by
  unfold pre at h
  unfold Lx.fnum
  cases e : pok (l.take (Lx.nrun l))
  · rfl
  · rw [e] at h; exact absurd rfl h
theorem cell4 {w : World} {b : Nat} {a0 a1 a2 a3 : Value} {t : TypeId} (h : w.heap[b]? = some (.cells #[a0, a1, a2, a3] t (0, 0))) :
    w.cell? ⟨b, 0, none⟩ = some a0 ∧ w.cell? ⟨b, 1, none⟩ = some a1 ∧ w.cell? ⟨b, 2, none⟩ = some a2 ∧ w.cell? ⟨b, 3, none⟩ = some a3 ∧
    w.frozen? ⟨b, 0, none⟩ = false ∧ w.frozen? ⟨b, 1, none⟩ = false ∧ w.frozen? ⟨b, 2, none⟩ = false ∧ w.frozen? ⟨b, 3, none⟩ = false := by simp [World.cell?, World.frozen?, h]
set_option maxRecDepth 100000 in
set_option maxHeartbeats 1000000 in
theorem lxFirstNumber (s : ByteArray) (hs : s.size ≤ maxLen) (w : World) :
    Calls Tryz.prog 107 #[.string s] w fun e w' => e = .returned (fv (Lx.fnum s.data.toList)) ∧ Qw w w' := by
  have hm : s.size ≤ 9223372036854775807 := hs
  have sl := size_len s
  have SL := Lib.hid sl
  have c1 := fun k (hk : k ≤ s.size) w => fxParse (s.extract 0 k) (by simp; omega) w
  simp only [take_data] at c1
  have C1 := Lib.hid c1
  obtain ⟨R, hR⟩ : ∃ R, fv (Lx.fnum s.data.toList) = R := ⟨_, rfl⟩
  rw [hR]
  have HR := Lib.hid hR.symm
  clear sl c1 hR
  go_enter Tryz.func107, Tryz.ntmps107
  go_wp2
  go_loop [4] (fun kv => ∃ k : Nat, k ≤ s.size ∧ k + Lx.nrun (s.data.toList.drop k) = Lx.nrun s.data.toList ∧ kv = .int .i64 (k : Int)) (fun kv => s.size - (intOf kv).toNat)
  case atStart => exact ⟨0, by omega, by simp, rfl⟩
  case round =>
    obtain ⟨k, hk, hn, rfl⟩ := hrel
    have HN := Lib.hid hn
    clear hn
    by_cases hlt : k < s.size
    · have st := Lx.nrun_step s.data.toList k (by have := SL.out; omega)
      have gl : s.data.toList[k]'(by have := SL.out; omega) = s[k] := rfl
      rw [gl, isn_chI] at st
      have ST := Lib.hid st
      clear st gl
      cases hc : chI (s[k].toNat : Int)
      · have EK := (show k = Lx.nrun s.data.toList by have := HN.out; have := ST.out.2 hc; omega)
        have C2 := Lib.hid (C1.out k hk)
        rw [EK] at C2
        clear HN C1
        by_cases hp : pre (s.data.toList.take (Lx.nrun s.data.toList)) = 0
        · have EQ := HR.out.symm
          rw [fnum_ok _ hp, ← EK] at EQ
          rw [hp, ← EK] at C2
          unfold fv at EQ
          generalize prv (s.data.toList.take k) = V at *
          have EQ := Lib.hid EQ
          clear hp EK
          go_wp2_with (first | (go_at_call 106; ((with_reducible refine (lxInNumber _ _).mono ?_); rintro e w' ⟨rfl, rfl⟩)) | (go_at_call 141; ((with_reducible refine (C2.out _).mono ?_); rintro e w' ⟨rfl, rfl⟩)))
          exact bodyPost_ret (v := .tuple #[.agg #[.int .i64 2, .int .i64 V, .int .i64 0, .string (bs [])], .int .i64 k]) (by simp [results, Tryz.results107, go_sem, bs]) rfl ⟨by rw [EQ.out], by repeat (first | exact Below.refl _ _ | refine Below.setCell ?_ (by simp) _ | refine Below.alloc ?_ (by simp) _)⟩
        · have EQ := HR.out.symm
          have hp2 : pre (s.data.toList.take (Lx.nrun s.data.toList)) = 2 := by unfold pre at hp ⊢; split at hp; exact absurd rfl hp; rename_i h; rw [if_neg h]
          rw [fnum_no _ hp] at EQ
          rw [hp2, ← EK] at C2
          unfold fv at EQ
          have EQ := Lib.hid EQ
          generalize prv (s.data.toList.take k) = V at *
          clear hp hp2 EK
          go_wp2_with (first | (go_at_call 106; ((with_reducible refine (lxInNumber _ _).mono ?_); rintro e w' ⟨rfl, rfl⟩)) | (go_at_call 141; ((with_reducible refine (C2.out _).mono ?_); rintro e w' ⟨rfl, rfl⟩)))
          exact bodyPost_ret (v := .tuple #[.agg #[.int .i64 0, .int .i64 0, .int .i64 0, .string (bs [])], .int .i64 0]) (by simp [results, Tryz.results107, go_sem, bs]) rfl ⟨by rw [← EQ.out]; rfl, by repeat (first | exact Below.refl _ _ | refine Below.setCell ?_ (by simp) _ | refine Below.alloc ?_ (by simp) _)⟩
      · have E := ST.out.1 hc
        have HE := Lib.hid E
        clear E ST C1
        go_wp2_with (go_at_call 106; ((with_reducible refine (lxInNumber _ _).mono ?_); rintro e w' ⟨rfl, rfl⟩))
        go_round
        case rel => exact ⟨k + 1, by omega, by have := HN.out; have := HE.out; omega, by go_num⟩
        case measure => simp [intOf]; omega
    · have EK := (show k = Lx.nrun s.data.toList by have := HN.out; have := Lx.nrun_end s.data.toList k (by have := SL.out; omega); omega)
      have C2 := Lib.hid (C1.out k hk)
      rw [EK] at C2
      clear HN C1
      by_cases hp : pre (s.data.toList.take (Lx.nrun s.data.toList)) = 0
      · have EQ := HR.out.symm
        rw [fnum_ok _ hp, ← EK] at EQ
        rw [hp, ← EK] at C2
        unfold fv at EQ
        generalize prv (s.data.toList.take k) = V at *
        have EQ := Lib.hid EQ
        clear hp EK
        go_wp2_with (first | (go_at_call 106; ((with_reducible refine (lxInNumber _ _).mono ?_); rintro e w' ⟨rfl, rfl⟩)) | (go_at_call 141; ((with_reducible refine (C2.out _).mono ?_); rintro e w' ⟨rfl, rfl⟩)))
        exact bodyPost_ret (v := .tuple #[.agg #[.int .i64 2, .int .i64 V, .int .i64 0, .string (bs [])], .int .i64 k]) (by simp [results, Tryz.results107, go_sem, bs]) rfl ⟨by rw [EQ.out], by repeat (first | exact Below.refl _ _ | refine Below.setCell ?_ (by simp) _ | refine Below.alloc ?_ (by simp) _)⟩
      · have EQ := HR.out.symm
        have hp2 : pre (s.data.toList.take (Lx.nrun s.data.toList)) = 2 := by unfold pre at hp ⊢; split at hp; exact absurd rfl hp; rename_i h; rw [if_neg h]
        rw [fnum_no _ hp] at EQ
        rw [hp2, ← EK] at C2
        unfold fv at EQ
        have EQ := Lib.hid EQ
        generalize prv (s.data.toList.take k) = V at *
        clear hp hp2 EK
        go_wp2_with (first | (go_at_call 106; ((with_reducible refine (lxInNumber _ _).mono ?_); rintro e w' ⟨rfl, rfl⟩)) | (go_at_call 141; ((with_reducible refine (C2.out _).mono ?_); rintro e w' ⟨rfl, rfl⟩)))
        exact bodyPost_ret (v := .tuple #[.agg #[.int .i64 0, .int .i64 0, .int .i64 0, .string (bs [])], .int .i64 0]) (by simp [results, Tryz.results107, go_sem, bs]) rfl ⟨by rw [← EQ.out]; rfl, by repeat (first | exact Below.refl _ _ | refine Below.setCell ?_ (by simp) _ | refine Below.alloc ?_ (by simp) _)⟩
theorem Qw.trans' {a b c : World} (h : Qw a b) (k : Below a.heap.size b c) : Qw a c := Below.trans h k
theorem empty_txt (a : ByteArray) : a.toList.isEmpty = decide (a.size = 0) := by
  rw [ByteArray.toList_eq]
  cases h : a.data.toList with
  | nil => rw [← size_len, h]; rfl
  | cons c l => rw [← size_len, h]; rfl
theorem rune_txt (c : UInt8) (h : (c.toNat : Int) < 128) : Utf8.encode (wrap32 (c.toNat : Int)) = bs [c] ∧ Utf8.encode (c.toNat : Int) = bs [c] := by
  have h' : c.toNat < 128 := by omega
  have e : wrap32 (c.toNat : Int) = (c.toNat : Int) := by unfold wrap32; omega
  rw [e, and_self]
  unfold Utf8.encode
  have v : Utf8.valid (c.toNat : Int) = true := by unfold Utf8.valid; simp; omega
  simp only [v, if_true, Int.toNat_natCast]
  rw [if_pos h', UInt8.ofNat_toNat]; rfl
theorem sg_char (c : UInt8) (h : Lx.isg c = true) : (c.toNat : Int) < 128 := by
  have : ∀ c : Fin 256, Lx.isg (UInt8.ofNat c.val) = true → c.val < 128 := by decide +kernel
  have k := this ⟨c.toNat, c.toNat_lt⟩ (by rw [UInt8.ofNat_toNat]; exact h)
  show ((c.toNat : Nat) : Int) < 128
  exact Int.ofNat_lt.2 k
set_option maxRecDepth 100000 in
set_option maxHeartbeats 2000000 in
theorem lxFirst (s : ByteArray) (hs : s.size ≤ maxLen) (h0 : 0 < s.size) (w : World) (ht : Tn w) :
    Calls Tryz.prog 75 #[.string s] w fun e w' => e = .returned (fv (Lx.fst s.data.toList)) ∧ Qw w w' := by
  have hm : s.size ≤ 9223372036854775807 := hs
  have sl := size_len s
  have gd : s.data.toList.getD 0 0 = s[0] := by rw [getD_of _ _ (by omega)]; rfl
  have c1 := fun w => lxFirstNumber s hs w
  have c2 := fun w ht => lxFirstName s hs w ht
  have c3 := fun w => stIndexByte (bs Lx.sgs) (s[0].toNat : Int) w
  rw [bs_list, show (s[0].toNat : Int).toNat.toUInt8 = s[0] by simp] at c3
  have HT := Lib.hid ht
  obtain ⟨R, hR⟩ : ∃ R, fv (Lx.fst s.data.toList) = R := ⟨_, rfl⟩
  rw [hR]
  unfold Lx.fst at hR
  rw [gd] at hR
  rw [isn_chI] at hR
  have q0 : Qw w (w.alloc (.cells #[.int .i64 0, .int .i64 0, .int .i64 0, .string ⟨#[]⟩] 101)) := (Below.refl _ _).alloc (Nat.le_refl _) _
  have T0 := Lib.hid (HT.out.kept q0)
  have b0 := Bx.new w #[.int .i64 0, .int .i64 0, .int .i64 0, .string ⟨#[]⟩] 101
  have B0 := Lib.hid b0
  have Q0 := Lib.hid q0
  clear b0 q0 ht gd sl
  cases hc : chI (s[0].toNat : Int)
  · rw [hc, if_neg (by decide)] at hR
    obtain ⟨g0, g1, g2, g3, g4, g5, g6, g7⟩ := cell4 B0.out
    by_cases hu : (65 : Int) ≤ (s[0].toNat : Int) ∧ (s[0].toNat : Int) ≤ 90
    · rw [show Lx.isu s[0] = true from decide_eq_true hu, if_pos rfl] at hR
      obtain ⟨hu1, hu2⟩ := hu
      have C2 := Lib.hid (c2 _ T0.out)
      clear c1 c2 c3
      have bq := empty_txt (bs (Lx.fnm s.data.toList))
      have zl := bs_size (Lx.fnm s.data.toList)
      have nl := Lx.nfold_le s.data.toList 24 (Nat.le_refl _)
      rw [size_len, ← show Lx.fnm s.data.toList = Lx.nfold s.data.toList 24 from rfl, ← zl] at nl
      rw [zl] at bq
      by_cases hz : Lx.fnm s.data.toList = []
      · rw [if_pos hz] at hR
        rw [hz] at bq C2
        have HR := Lib.hid hR
        clear hR hz zl nl
        obtain ⟨X, hX⟩ : ∃ X, bs [] = X := ⟨_, rfl⟩
        rw [hX] at bq C2
        clear hX
        go_enter Tryz.func75, Tryz.ntmps75
        go_wp2_with (first | (go_at_call 106; ((with_reducible refine (lxInNumber _ _).mono ?_); rintro e w' ⟨rfl, rfl⟩)) | (go_at_call 108; ((with_reducible refine C2.out.mono ?_); rintro e w' ⟨rfl, rfl⟩)))
        exact bodyPost_ret (v := .tuple #[.agg #[.int .i64 1, .int .i64 (s[0].toNat : Int), .int .i64 0, .string ⟨#[]⟩], .int .i64 1]) (by simp [results, Tryz.results75, go_sem]) rfl ⟨by rw [← HR.out]; rfl, (Below.refl _ _).alloc (Nat.le_refl _) _⟩
      · rw [if_neg hz] at hR
        have n0 : (Lx.fnm s.data.toList).length ≠ 0 := fun h => hz (List.eq_nil_of_length_eq_zero h)
        rw [decide_eq_false n0] at bq
        rw [← zl] at hR
        generalize hX : bs (Lx.fnm s.data.toList) = X at *
        have HR := Lib.hid hR
        have HX := Lib.hid hX
        clear hR hz n0 hX zl
        go_enter Tryz.func75, Tryz.ntmps75
        go_wp2_with (first | (go_at_call 106; ((with_reducible refine (lxInNumber _ _).mono ?_); rintro e w' ⟨rfl, rfl⟩)) | (go_at_call 108; ((with_reducible refine C2.out.mono ?_); rintro e w' ⟨rfl, rfl⟩)))
        exact bodyPost_ret (v := .tuple #[.agg #[.int .i64 3, .int .i64 0, .int .i64 0, .string X], .int .i64 (X.size : Int)]) (by simp [results, Tryz.results75, go_sem]) rfl ⟨by rw [← HR.out]; unfold fv; simp only [HX.out], (Below.refl _ _).alloc (Nat.le_refl _) _⟩
    · rw [show Lx.isu s[0] = false from decide_eq_false hu, if_neg (by decide)] at hR
      have hu' : (s[0].toNat : Int) < 65 ∨ 90 < (s[0].toNat : Int) := by omega
      have C3 : Hid (∀ w, Calls Tryz.prog 74 #[.string ⟨#[43, 45, 42, 47, 61, 35, 91, 93]⟩, .int .u8 (s[0].toNat : Int)] w fun e w' => e = .returned (.int .i64 (Lib.indexByte Lx.sgs s[0])) ∧ w = w') := Lib.hid c3
      have ib := Lib.indexByte_ge Lx.sgs s[0]
      have gs : Lx.isg s[0] = decide ((0 : Int) ≤ Lib.indexByte Lx.sgs s[0]) := rfl
      have sc := sg_char s[0]
      rw [gs] at hR sc
      clear c1 c2 c3 gs hu
      generalize Lib.indexByte Lx.sgs s[0] = I at *
      by_cases hI : (0 : Int) ≤ I
      · rw [decide_eq_true hI, if_pos rfl] at hR
        have HR := Lib.hid hR
        have cv := rune_txt s[0] (sc (decide_eq_true hI))
        generalize hX : bs [s[0]] = X at cv
        have CV := Lib.hid cv
        have HX := Lib.hid hX
        clear hR sc hX cv
        rcases hu' with hu' | hu'
        · go_enter Tryz.func75, Tryz.ntmps75
          go_wp2_with (first | (go_at_call 106; ((with_reducible refine (lxInNumber _ _).mono ?_); rintro e w' ⟨rfl, rfl⟩)) | (go_at_call 74; ((with_reducible refine (C3.out _).mono ?_); rintro e w' ⟨rfl, rfl⟩)))
          exact bodyPost_ret (v := .tuple #[.agg #[.int .i64 4, .int .i64 0, .int .i64 0, .string X], .int .i64 1]) (by simp [results, Tryz.results75, go_sem, CV.out.1, CV.out.2]) rfl ⟨by rw [← HR.out]; unfold fv; simp only [HX.out]; rfl, (Below.refl _ _).alloc (Nat.le_refl _) _⟩
        · go_enter Tryz.func75, Tryz.ntmps75
          go_wp2_with (first | (go_at_call 106; ((with_reducible refine (lxInNumber _ _).mono ?_); rintro e w' ⟨rfl, rfl⟩)) | (go_at_call 74; ((with_reducible refine (C3.out _).mono ?_); rintro e w' ⟨rfl, rfl⟩)))
          exact bodyPost_ret (v := .tuple #[.agg #[.int .i64 4, .int .i64 0, .int .i64 0, .string X], .int .i64 1]) (by simp [results, Tryz.results75, go_sem, CV.out.1, CV.out.2]) rfl ⟨by rw [← HR.out]; unfold fv; simp only [HX.out]; rfl, (Below.refl _ _).alloc (Nat.le_refl _) _⟩
      · rw [decide_eq_false hI, if_neg (by decide)] at hR
        have HR := Lib.hid hR
        have hI' : I < 0 := by omega
        clear hR sc hI
        rcases hu' with hu' | hu'
        · go_enter Tryz.func75, Tryz.ntmps75
          go_wp2_with (first | (go_at_call 106; ((with_reducible refine (lxInNumber _ _).mono ?_); rintro e w' ⟨rfl, rfl⟩)) | (go_at_call 74; ((with_reducible refine (C3.out _).mono ?_); rintro e w' ⟨rfl, rfl⟩)))
          exact bodyPost_ret (v := .tuple #[.agg #[.int .i64 0, .int .i64 0, .int .i64 0, .string ⟨#[]⟩], .int .i64 0]) (by simp [results, Tryz.results75, go_sem]) rfl ⟨by rw [← HR.out]; rfl, (Below.refl _ _).alloc (Nat.le_refl _) _⟩
        · go_enter Tryz.func75, Tryz.ntmps75
          go_wp2_with (first | (go_at_call 106; ((with_reducible refine (lxInNumber _ _).mono ?_); rintro e w' ⟨rfl, rfl⟩)) | (go_at_call 74; ((with_reducible refine (C3.out _).mono ?_); rintro e w' ⟨rfl, rfl⟩)))
          exact bodyPost_ret (v := .tuple #[.agg #[.int .i64 0, .int .i64 0, .int .i64 0, .string ⟨#[]⟩], .int .i64 0]) (by simp [results, Tryz.results75, go_sem]) rfl ⟨by rw [← HR.out]; rfl, (Below.refl _ _).alloc (Nat.le_refl _) _⟩
  · rw [hc, if_pos rfl] at hR
    have HR := Lib.hid hR
    clear hR c2 c3
    generalize Lx.fnum s.data.toList = f at *
    unfold fv at c1
    have C1 := Lib.hid c1
    clear c1
    go_enter Tryz.func75, Tryz.ntmps75
    go_wp2_with (first | (go_at_call 106; ((with_reducible refine (lxInNumber _ _).mono ?_); rintro e w' ⟨rfl, rfl⟩)) | (go_at_call 107; ((with_reducible refine (C1.out _).mono ?_); rintro e w1 ⟨rfl, q1⟩; have b1 := B0.out.kept q1; have B1 := Lib.hid b1; have Q1 := Lib.hid q1; obtain ⟨g0, g1, g2, g3, g4, g5, g6, g7⟩ := cell4 b1; clear b1 q1)))
    have b2 := (((B1.out.set 0 (.int .i64 f.k)).set 1 (.int .i64 f.n)).set 2 (.int .i64 0)).set 3 (.string (bs f.x))
    obtain ⟨k0, k1, k2, k3, _⟩ := cell4 (w := ((((w1.setCell ⟨w.heap.size, 0, none⟩ (.int .i64 f.k)).setCell ⟨w.heap.size, 1, none⟩ (.int .i64 f.n)).setCell ⟨w.heap.size, 2, none⟩ (.int .i64 0)).setCell ⟨w.heap.size, 3, none⟩ (.string (bs f.x)))) (b := w.heap.size) b2
    exact bodyPost_ret (v := fv f) (by simp [results, Tryz.results75, go_sem, fv, k0, k1, k2, k3]) rfl ⟨by rw [← HR.out], (Q0.out.trans Q1.out).trans' (by repeat (first | exact Below.refl _ _ | refine Below.setCell ?_ (by simp) _))⟩
end Go.Proofs.YtbcbnkapipimmaaGreatDoor

