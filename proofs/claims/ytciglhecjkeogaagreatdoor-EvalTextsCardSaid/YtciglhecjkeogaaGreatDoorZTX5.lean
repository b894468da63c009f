import Derived.Test.YtciglhecjkeogaaGreatDoorZTX1
import Derived.Test.YtciglhecjkeogaaGreatDoorZTX2
import Derived.Test.YtciglhecjkeogaaGreatDoorRows
import Derived.OneCell
import Derived.IntWalk
import Derived.Deep.QuietTactic
import Derived.BigQuiet
import Derived.Outline
import Derived.Shelf.Small.Bits
import Derived.Shelf.Strconv.Itoa0
import Derived.Shelf.Strconv.Itoa1
import Derived.Shelf.LaysM
import Derived.Shelf.Strconv.Itoa2
import Derived.Shelf.Strconv.AppendUint10
import Derived.Shelf.Strconv.AppendInt10
import Derived.Shelf.Strconv.AppendIntPublic10
import Derived.Shelf.Bits.Mul64
import Derived.WalkSmall
import Derived.Laws.IdiomStrings
set_option linter.unusedVariables false
set_option linter.unusedSimpArgs false
namespace Go.Proofs.YtciglhecjkeogaaGreatDoor
open Go.RowKit
def IntsB (B : Nat) (w : World) (v : Value) (zs : List Int) : Prop :=
  ∃ (a : Option Addr) (cap : Nat), v = .slice a zs.length cap ∧ zs.length ≤ cap ∧ cap ≤ 9223372036854775807 ∧ (zs = [] ∨ ∃ b off, a = some ⟨b, off, none⟩ ∧ b < B ∧
    ∀ i, i < zs.length → w.cell? ⟨b, off + i, none⟩ = some (.int .i64 (zs.getD i 0)) ∧ -9223372036854775808 ≤ zs.getD i 0 ∧ zs.getD i 0 ≤ 9223372036854775807)
theorem IntsB.kept {B C : Nat} {w w' : World} {v : Value} {zs : List Int} (h : IntsB B w v zs) (hb : Below C w w') (hC : B ≤ C) : IntsB B w' v zs := by
  obtain ⟨a, cap, h1, h2, h3, h4⟩ := h
  refine ⟨a, cap, h1, h2, h3, ?_⟩
  rcases h4 with h4 | ⟨b, off, e, hB, h⟩
  · exact .inl h4
  · refine .inr ⟨b, off, e, hB, fun i hi => ?_⟩
    rw [hb.cell (p := ⟨b, off + i, none⟩) (by show b < C; omega)]
    exact h i hi
theorem IntsB.mono {B C : Nat} {w : World} {v : Value} {zs : List Int} (h : IntsB B w v zs) (hC : B ≤ C) : IntsB C w v zs := by
  obtain ⟨a, cap, h1, h2, h3, h4⟩ := h
  refine ⟨a, cap, h1, h2, h3, ?_⟩
  rcases h4 with h4 | ⟨b, off, e, hB, h⟩
  · exact .inl h4
  · exact .inr ⟨b, off, e, by omega, h⟩
theorem IntsB.len {B : Nat} {w : World} {v : Value} {zs : List Int} (h : IntsB B w v zs) : ∃ a cap, v = .slice a zs.length cap ∧ zs.length ≤ 9223372036854775807 := by
  obtain ⟨a, cap, h1, h2, h3, _⟩ := h
  exact ⟨a, cap, h1, by omega⟩
theorem lightF (v : Value) (zs : List Int) (B : Nat) (w : World) (h : IntsB B w v zs) :
    Calls Tryz.prog 4 #[v] w fun e w' => e = .returned (.bool (decide (zs.length ≤ 120))) ∧ w = w' := by
  obtain ⟨a, cap, rfl, _⟩ := h.len
  clear h
  go_enter Tryz.func4, Tryz.ntmps4
  go_wp2
  go_ret
  exact ⟨ret_bl (decide_eq_decide.2 (by omega)), rfl⟩
def TapeAt (w : World) (B : Nat) (v : Value) (zs : List Int) (k : Nat) : Prop :=
  w.heap[B]? = some (.cells #[v, .int .i64 k] 54 (0, 0)) ∧ IntsB B w v zs ∧ k ≤ zs.length
theorem TapeAt.kept {B : Nat} {w w' : World} {v : Value} {zs : List Int} {k : Nat} (h : TapeAt w B v zs k) (q : Qw w w') : TapeAt w' B v zs k := by
  obtain ⟨h1, h2, h3⟩ := h
  have l := lt_of_block h1
  exact ⟨by rw [q.block B l]; exact h1, h2.kept q (by omega), h3⟩
def nxt (zs : List Int) (k : Nat) (n : Int) : Int := if k < zs.length then zs.getD k 0 % n else 0
def adv (zs : List Int) (k : Nat) : Nat := if k < zs.length then k + 1 else k
theorem nxt_bd (zs : List Int) (k : Nat) (n : Int) (h : 1 ≤ n) : 0 ≤ nxt zs k n ∧ nxt zs k n < n := by
  unfold nxt
  split
  · exact ⟨Int.emod_nonneg _ (by omega), Int.emod_lt_of_pos _ (by omega)⟩
  · omega
theorem cells_of_two {w : World} {b : Nat} {x y : Value} {t : TypeId} (h : w.heap[b]? = some (.cells #[x, y] t (0, 0))) :
    w.cell? ⟨b, 0, none⟩ = some x ∧ w.cell? ⟨b, 1, none⟩ = some y ∧ w.frozen? ⟨b, 1, none⟩ = false := by simp [World.cell?, World.frozen?, h]
theorem two_setCell {w : World} {b : Nat} {x y u : Value} {t : TypeId} (h : w.heap[b]? = some (.cells #[x, y] t (0, 0))) : (w.setCell ⟨b, 1, none⟩ u).heap[b]? = some (.cells #[x, u] t (0, 0)) := by
  have hlt := lt_of_block h
  have h' : w.heap[b] = .cells #[x, y] t (0, 0) := by simpa [Array.getElem?_eq_getElem hlt] using h
  show (w.heap.modify b _)[b]? = _
  rw [Array.getElem?_eq_getElem (by simpa using hlt), Array.getElem_modify_self, h']
  rfl
theorem newF (v : Value) (zs : List Int) (w : World) (h : IntsB w.heap.size w v zs) :
    Calls Tryz.prog 8 #[v] w fun e w' => e = .returned (.pointer (some ⟨w.heap.size, 0, none⟩)) ∧ TapeAt w' w.heap.size v zs 0 ∧ Qw w w' := by
  have H := Lib.hid h
  obtain ⟨a, cap, rfl, _⟩ := h.len
  clear h
  go_enter Tryz.func8, Tryz.ntmps8
  go_wp2
  go_ret
  exact ⟨rfl, ⟨by first | exact heap_alloc_new _ _ | simp, H.out.kept (Below.alloc (Below.refl w.heap.size w) (Nat.le_refl _) _) (Nat.le_refl _), Nat.zero_le _⟩, (Below.refl _ _).alloc (Nat.le_refl _) _⟩
end Go.Proofs.YtciglhecjkeogaaGreatDoor
set_option linter.unusedVariables false
set_option linter.unusedSimpArgs false
namespace Go.Proofs.YtciglhecjkeogaaGreatDoor
def un : Nat → Int
  | 0 => 100000 | 1 => 10000 | 2 => 1000 | 3 => 100 | 4 => 10 | 5 => 1 | _ => 0
def um : Nat → Int
  | 0 => 1000000 | 1 => 100000 | 2 => 10000 | 3 => 1000 | 4 => 100 | 5 => 10 | _ => 1
theorem k6 {k : Nat} (h : k ≤ 6) : k = 0 ∨ k = 1 ∨ k = 2 ∨ k = 3 ∨ k = 4 ∨ k = 5 ∨ k = 6 := by omega
def dn (f : Int) (k : Nat) : Int := f % um k / un k
def dg (f : Int) (k : Nat) : UInt8 := UInt8.ofNat (48 + dn f k).toNat
def dgs (f : Int) (k : Nat) : List UInt8 := (List.range k).map (dg f)
theorem dgs_succ (f : Int) (k : Nat) : dgs f (k + 1) = dgs f k ++ [dg f k] := by unfold dgs; rw [List.range_succ, List.map_append]; rfl
theorem dgs_length (f : Int) (k : Nat) : (dgs f k).length = k := by unfold dgs; simp
theorem dn_bd (f : Int) (k : Nat) (h : k ≤ 5) : 0 ≤ dn f k ∧ dn f k ≤ 9 := by
  unfold dn
  rcases k6 (show k ≤ 6 by omega) with rfl | rfl | rfl | rfl | rfl | rfl | rfl <;> simp only [um, un] <;> omega
theorem dg_nat (f : Int) (k : Nat) (h : k ≤ 5) : ((dg f k).toNat : Int) = 48 + dn f k := by
  have := dn_bd f k h
  unfold dg
  rw [UInt8.toNat_ofNat']
  omega
theorem un_um (k : Nat) (h : k ≤ 5) : un k = um (k + 1) ∧ 1 ≤ un k ∧ un k ≤ 100000 ∧ um k = 10 * un k := by
  rcases k6 (show k ≤ 6 by omega) with rfl | rfl | rfl | rfl | rfl | rfl | rfl <;> first | decide | omega
theorem un_step (k : Nat) (h : k ≤ 5) : un k / 10 = un (k + 1) := by
  rcases k6 (show k ≤ 6 by omega) with rfl | rfl | rfl | rfl | rfl | rfl | rfl <;> first | decide | omega
theorem mod_step (f : Int) (k : Nat) (h : k ≤ 5) : f % um k % un k = f % um (k + 1) := by
  rcases k6 (show k ≤ 6 by omega) with rfl | rfl | rfl | rfl | rfl | rfl | rfl <;> simp only [um, un] <;> omega
theorem um_pos (k : Nat) : 1 ≤ um k := by
  unfold um; split <;> omega
def kf (f : Int) : Nat := if f % 100000 = 0 then 1 else if f % 10000 = 0 then 2 else if f % 1000 = 0 then 3 else if f % 100 = 0 then 4 else if f % 10 = 0 then 5 else 6
theorem kf_range (f : Int) : 1 ≤ kf f ∧ kf f ≤ 6 := by unfold kf; (repeat' split) <;> omega
theorem kf_eq {f : Int} {k : Nat} (hk : k ≤ 6) (h0 : f % um 0 ≠ 0) (h1 : f % um k = 0) (h2 : ∀ i, i < k → f % um i ≠ 0) : kf f = k := by
  unfold kf
  rcases k6 hk with rfl | rfl | rfl | rfl | rfl | rfl | rfl
  · exact absurd h1 h0
  · simp only [um] at h1; rw [if_pos h1]
  · have a := h2 1 (by omega); simp only [um] at h1 a; rw [if_neg a, if_pos h1]
  · have a := h2 1 (by omega); have b := h2 2 (by omega); simp only [um] at h1 a b; rw [if_neg a, if_neg b, if_pos h1]
  · have a := h2 1 (by omega); have b := h2 2 (by omega); have c := h2 3 (by omega); simp only [um] at h1 a b c; rw [if_neg a, if_neg b, if_neg c, if_pos h1]
  · have a := h2 1 (by omega); have b := h2 2 (by omega); have c := h2 3 (by omega); have d := h2 4 (by omega); simp only [um] at h1 a b c d; rw [if_neg a, if_neg b, if_neg c, if_neg d, if_pos h1]
  · have a := h2 1 (by omega); have b := h2 2 (by omega); have c := h2 3 (by omega); have d := h2 4 (by omega); have e := h2 5 (by omega); simp only [um] at a b c d e; rw [if_neg a, if_neg b, if_neg c, if_neg d, if_neg e]
theorem kf_mod (f : Int) : f % um (kf f) = 0 := by
  unfold kf
  split
  · assumption
  · split
    · assumption
    · split
      · assumption
      · split
        · assumption
        · split
          · assumption
          · simp only [um]; omega
def frac (f : Int) : List UInt8 := if f = 0 then [] else 46 :: dgs f (kf f)
def fmtp (n : Int) : List UInt8 := Lib.decDigits (n / 1000000).toNat ++ frac (n % 1000000)
def fmtl (n : Int) : List UInt8 := if vld n = true then (if n < 0 then 45 :: fmtp (-n) else fmtp n) else []
theorem dec_small {u : Nat} (h : u < 10) : Lib.decDigits u = [UInt8.ofNat (48 + u)] := by rw [Lib.decDigits, dif_pos h]
theorem dec_big {u : Nat} (h : ¬ u < 10) : Lib.decDigits u = Lib.decDigits (u / 10) ++ [UInt8.ofNat (48 + u % 10)] := by rw [Lib.decDigits, dif_neg h]
theorem dec_digits (u : Nat) : ∀ c ∈ Lib.decDigits u, isd c = true := by
  induction u using Nat.strongRecOn with
  | _ u ih =>
    have one : ∀ x, x < 10 → isd (UInt8.ofNat (48 + x)) = true := by
      intro x hx
      unfold isd
      rw [UInt8.toNat_ofNat']
      exact decide_eq_true (by omega)
    intro c hc
    by_cases h : u < 10
    · rw [dec_small h] at hc
      simp only [List.mem_singleton] at hc
      subst hc; exact one u h
    · rw [dec_big h] at hc
      rcases List.mem_append.1 hc with hc | hc
      · exact ih (u / 10) (by omega) c hc
      · simp only [List.mem_singleton] at hc
        subst hc; exact one _ (by omega)
theorem dec_vl (u : Nat) : vl 0 (Lib.decDigits u) = u := by
  induction u using Nat.strongRecOn with
  | _ u ih =>
    have one : ∀ x, x < 10 → ((UInt8.ofNat (48 + x)).toNat : Int) - 48 = x := by
      intro x hx
      rw [UInt8.toNat_ofNat']
      omega
    by_cases h : u < 10
    · rw [dec_small h]
      show 0 * 10 + (((UInt8.ofNat (48 + u)).toNat : Int) - 48) = u
      rw [one u h]; omega
    · rw [dec_big h, vl_snoc, ih (u / 10) (by omega), one _ (by omega)]
      omega
theorem dec_ne (u : Nat) : Lib.decDigits u ≠ [] := by
  by_cases h : u < 10
  · rw [dec_small h]; simp
  · rw [dec_big h]; simp
theorem dec_len (k u : Nat) (h : u < 10 ^ (k + 1)) : (Lib.decDigits u).length ≤ k + 1 := by
  induction k generalizing u with
  | zero => rw [dec_small (by simpa using h)]; simp
  | succ k ih =>
    by_cases c : u < 10
    · rw [dec_small c]; simp
    · rw [dec_big c, List.length_append]
      have := ih (u / 10) (by rw [Nat.pow_succ] at h; omega)
      simp; omega
theorem dgs_digits (f : Int) (k : Nat) (hk : k ≤ 6) : ∀ c ∈ dgs f k, isd c = true := by
  intro c hc
  unfold dgs at hc
  obtain ⟨i, hi, rfl⟩ := List.mem_map.1 hc
  have hi' : i < k := List.mem_range.1 hi
  have := dn_bd f i (by omega)
  unfold isd
  rw [dg_nat f i (by omega)]
  exact decide_eq_true (by omega)
theorem dgs_vl (f n : Int) (h0 : 0 ≤ f) (h1 : f < 1000000) (k : Nat) (hk : k ≤ 6) : vl n (dgs f k) = n * 10 ^ k + f / um k := by
  induction k with
  | zero => simp only [dgs, List.range_zero, List.map_nil, vl, um]; omega
  | succ k ih =>
    rw [dgs_succ, vl_snoc, ih (by omega), dg_nat f k (by omega), Int.pow_succ, ← Int.mul_assoc]
    generalize n * 10 ^ k = Z
    unfold dn
    rcases k6 (show k ≤ 6 by omega) with rfl | rfl | rfl | rfl | rfl | rfl | rfl <;> simp only [um, un] <;> omega
theorem um_pow (k : Nat) (hk : k ≤ 6) : (10 : Int) ^ (6 - k) = um k ∧ (10 : Int) ^ k * um k = 1000000 := by
  rcases k6 hk with rfl | rfl | rfl | rfl | rfl | rfl | rfl <;> decide
theorem fmt_parse (m : Int) (h0 : 0 ≤ m) (h1 : m < 1000000000000000) : prv (fmtp m) = m ∧ pre (fmtp m) = 0 := by
  obtain ⟨q, hq⟩ : ∃ q : Nat, (q : Int) = m / 1000000 := ⟨(m / 1000000).toNat, by omega⟩
  have hn : (m / 1000000).toNat = q := by omega
  have D : Dgs (Lib.decDigits q) 9 := ⟨dec_len 8 q (by have : (10 : Nat) ^ 9 = 1000000000 := by decide
                                                       omega), dec_digits q⟩
  unfold fmtp frac
  rw [hn]
  by_cases c : m % 1000000 = 0
  · rw [if_pos c, List.append_nil]
    have ok := pok_plain D (dec_ne q)
    unfold prv pre
    rw [if_pos ok, if_pos ok, pnum_plain D, dec_vl]
    exact ⟨by omega, rfl⟩
  · rw [if_neg c]
    have kr := kf_range (m % 1000000)
    have F : Dgs (dgs (m % 1000000) (kf (m % 1000000))) 6 := ⟨by rw [dgs_length]; exact kr.2, dgs_digits _ _ kr.2⟩
    have ok := pok_point D F (by rw [dgs_length]; omega)
    have z := kf_mod (m % 1000000)
    unfold prv pre
    rw [if_pos ok, if_pos ok, pnum_point D F, dec_vl, dgs_vl _ _ (by omega) (by omega) _ kr.2, dgs_length]
    obtain ⟨p1, p2⟩ := um_pow _ kr.2
    refine ⟨?_, rfl⟩
    rw [p1, Int.add_mul, Int.mul_assoc, p2]
    have := Int.emod_add_mul_ediv (m % 1000000) (um (kf (m % 1000000)))
    rw [z, Int.mul_comm] at this
    omega
end Go.Proofs.YtciglhecjkeogaaGreatDoor
set_option linter.unusedVariables false
set_option linter.unusedSimpArgs false
namespace Go.Proofs
open Go.Shelf
def Tryz.laysM176_ren : Go.Shelf.Ren := ⟨fun | 176 => 110 | 249 => 127 | 288 => 137 | 283 => 142 | 284 => 143 | 285 => 144 | 286 => 145 | 129 => 139 | 317 => 147 | 318 => 148 | 319 => 149 | 320 => 150 | 337 => 152 | 338 => 153 | n => n, fun | 37 => 123 | 2 => 2 | 3 => 3 | 53 => 129 | 4 => 4 | 9 => 9 | 171 => 150 | 0 => 0 | 173 => 152 | 212 => 155 | 51 => 156 | 5 => 5 | 20 => 20 | 213 => 157 | 46 => 137 | 232 => 160 | 233 => 161 | n => n, fun | 17 => 6 | 18 => 7 | 19 => 8 | n => n⟩
theorem Tryz.laysM176 : Go.Proofs.LaysM.n176 Tryz.prog Tryz.laysM176_ren := {
  mixed := by kernel_rfl
  f129 := Tryz.func139.trans (congrArg some (by kernel_rfl))
  f176 := Tryz.func110.trans (congrArg some (by kernel_rfl))
  f249 := Tryz.func127.trans (congrArg some (by kernel_rfl))
  f283 := Tryz.func142.trans (congrArg some (by kernel_rfl))
  f284 := Tryz.func143.trans (congrArg some (by kernel_rfl))
  f285 := Tryz.func144.trans (congrArg some (by kernel_rfl))
  f286 := Tryz.func145.trans (congrArg some (by kernel_rfl))
  f288 := Tryz.func137.trans (congrArg some (by kernel_rfl))
  f317 := Tryz.func147.trans (congrArg some (by kernel_rfl))
  f318 := Tryz.func148.trans (congrArg some (by kernel_rfl))
  f319 := Tryz.func149.trans (congrArg some (by kernel_rfl))
  f320 := Tryz.func150.trans (congrArg some (by kernel_rfl))
  f337 := Tryz.func152.trans (congrArg some (by kernel_rfl))
  f338 := Tryz.func153.trans (congrArg some (by kernel_rfl))
  t0 := Tryz.underlying0
  a0 := Tryz.isAgg0
  z0 := Tryz.sizeOf0
  v0 := Tryz.zeroValue0
  t2 := Tryz.underlying2
  a2 := Tryz.isAgg2
  z2 := Tryz.sizeOf2
  v2 := Tryz.zeroValue2
  t3 := Tryz.underlying3
  a3 := Tryz.isAgg3
  z3 := Tryz.sizeOf3
  v3 := Tryz.zeroValue3
  t4 := Tryz.underlying4
  a4 := Tryz.isAgg4
  z4 := Tryz.sizeOf4
  v4 := Tryz.zeroValue4
  t5 := Tryz.underlying5
  a5 := Tryz.isAgg5
  z5 := Tryz.sizeOf5
  v5 := Tryz.zeroValue5
  t9 := Tryz.underlying9
  a9 := Tryz.isAgg9
  z9 := Tryz.sizeOf9
  v9 := Tryz.zeroValue9
  t20 := Tryz.underlying20
  a20 := Tryz.isAgg20
  z20 := Tryz.sizeOf20
  v20 := Tryz.zeroValue20
  t37 := Tryz.underlying123
  a37 := Tryz.isAgg123
  z37 := Tryz.sizeOf123
  v37 := Tryz.zeroValue123
  t46 := Tryz.underlying137
  a46 := Tryz.isAgg137
  z46 := Tryz.sizeOf137
  v46 := Tryz.zeroValue137
  t51 := Tryz.underlying156
  a51 := Tryz.isAgg156
  z51 := Tryz.sizeOf156
  v51 := Tryz.zeroValue156
  t53 := Tryz.underlying129
  a53 := Tryz.isAgg129
  z53 := Tryz.sizeOf129
  v53 := Tryz.zeroValue129
  t171 := Tryz.underlying150
  a171 := Tryz.isAgg150
  z171 := Tryz.sizeOf150
  v171 := Tryz.zeroValue150
  t173 := Tryz.underlying152
  a173 := Tryz.isAgg152
  z173 := Tryz.sizeOf152
  v173 := Tryz.zeroValue152
  t212 := Tryz.underlying155
  a212 := Tryz.isAgg155
  z212 := Tryz.sizeOf155
  v212 := Tryz.zeroValue155
  t213 := Tryz.underlying157
  a213 := Tryz.isAgg157
  z213 := Tryz.sizeOf157
  t232 := Tryz.underlying160
  a232 := Tryz.isAgg160
  z232 := Tryz.sizeOf160
  v232 := Tryz.zeroValue160
  t233 := Tryz.underlying161
  a233 := Tryz.isAgg161
  z233 := Tryz.sizeOf161
  v233 := Tryz.zeroValue161
  g17 := by kernel_rfl
  g18 := by kernel_rfl
  g19 := by kernel_rfl
  i0 := by kernel_rfl
  i2 := by kernel_rfl
  i3 := by kernel_rfl
  i4 := by kernel_rfl
  i5 := by kernel_rfl
  i9 := by kernel_rfl
  i20 := by kernel_rfl
  i37 := by kernel_rfl
  i46 := by kernel_rfl
  i51 := by kernel_rfl
  i53 := by kernel_rfl
  i171 := by kernel_rfl
  i173 := by kernel_rfl
  i212 := by kernel_rfl
  i232 := by kernel_rfl
  i233 := by kernel_rfl
  m17 := by kernel_rfl
  m18 := by kernel_rfl
  m19 := by kernel_rfl }
open Go.RowKit Go.Sort Go.Lib in
theorem Tryz.strconv_AppendInt_10 (B n : Nat) (i : Int) (h0 : -9223372036854775808 ≤ i) (h1 : i ≤ 9223372036854775807) (sv : Value) (xs : List Value) (w : World) (hown : w.ownsRow B 5 1 sv n xs) (hBw : B ≤ w.heap.size) (hlim : n + 21 ≤ 140737488355328) (htab : Lib.TabBelow Tryz.prog B w "internal/strconv.uint64pow10" .u64 Lib.pow10Tab) :
    Calls Tryz.prog 110 #[sv, .int .i64 i, .int .i64 10] w fun e w' => ∃ v', e = .returned v' ∧ w'.ownsRow B 5 1 v' (n + (Lib.itoa i).length) (xs ++ Lib.byteCells (Lib.itoa i)) ∧ Below B w w' ∧ Lib.OthersKept 5 none w w' := Any.strconv_AppendInt_10 Tryz.laysM176 B n i h0 h1 sv xs w hown hBw hlim htab
end Go.Proofs
set_option linter.unusedVariables false
set_option linter.unusedSimpArgs false
namespace Go.Proofs.YtciglhecjkeogaaGreatDoor.Dg
def val : List Int → Int
  | [] => 0
  | d :: ds => d + 65536 * val ds
def Dig (ds : List Int) : Prop := ∀ d ∈ ds, 0 ≤ d ∧ d ≤ 65535
theorem pow_pos (k : Nat) : (0 : Int) < 65536 ^ k := Int.pow_pos (by decide)
theorem pow_succ (k : Nat) : (65536 : Int) ^ (k + 1) = 65536 * 65536 ^ k := by rw [Int.pow_succ, Int.mul_comm]
end Go.Proofs.YtciglhecjkeogaaGreatDoor.Dg
set_option linter.unusedVariables false
set_option linter.unusedSimpArgs false
namespace Go.Proofs.YtciglhecjkeogaaGreatDoor
open Go.RowKit
def cells (ds : List Int) : List Value := ds.map (Value.int .u64)
def RawB (B : Nat) (w : World) (v : Value) (ds : List Int) : Prop := w.ownsRow B 129 1 v ds.length (cells ds)
theorem Qw.grown {w wr w1 : World} {v : Value} {ds : List Int} (h : Qw w wr) (hr : RawB w.heap.size wr v ds) (wx : World) (hx : wr.heap.size ≤ wx.heap.size) (hq : Qw wr wx) (hg : wx.grownBy w1 v.ownBlock) : Qw w w1 :=
  Below.grown (Qw.trans h hq) hg (by have := h.size; omega) (fun k hk => (hr.lt k hk).1)
theorem cell_one_new (w : World) (a : Value) (t : TypeId) : ∀ j u, [a][j]? = some u → (w.alloc (.cells #[a] t)).cell? ((⟨w.heap.size, 0, none⟩ : Addr).add j) = some u := by
  intro j u hj
  match j, hj with
  | 0, hj => simp at hj; subst hj; simp [Addr.add]
  | j + 1, hj => simp at hj
end Go.Proofs.YtciglhecjkeogaaGreatDoor
set_option linter.unusedVariables false
set_option linter.unusedSimpArgs false
namespace Go.Proofs.YtciglhecjkeogaaGreatDoor
open Go.RowKit
def OwnB (B : Nat) (w : World) (v : Value) (l : List UInt8) : Prop := w.ownsRow B 5 1 v l.length (Lib.byteCells l)
theorem ownB_nil (B : Nat) (w : World) : OwnB B w (.slice none 0 0) [] := World.ownsRow_nil w _ _ _
theorem info_u8 : (Tryz.prog.info? 5).map (fun i => (i.zero, i.size, i.bytes)) = some (some (.int .u8 0), 1, 1) := by kernel_rfl
theorem ownB_push {B : Nat} {w : World} {v : Value} {l : List UInt8} {c : UInt8} (h : w.ownsRow B 5 1 v (l.length + 1) (Lib.byteCells l ++ [.int .u8 (c.toNat : Int)])) : OwnB B w v (l ++ [c]) := by
  unfold OwnB
  rw [show (l ++ [c]).length = l.length + 1 by simp, show Lib.byteCells (l ++ [c]) = Lib.byteCells l ++ [.int .u8 (c.toNat : Int)] by simp [Lib.byteCells]]
  exact h
theorem below_grown {B : Nat} {w wr w1 : World} {v : Value} {l : List UInt8} (h : Below B w wr) (hB : B ≤ w.heap.size) (hr : OwnB B wr v l) (wx : World) (hq : Below wr.heap.size wr wx) (hg : wx.grownBy w1 v.ownBlock) : Below B w w1 :=
  Below.grown (h.trans (hq.mono (by have := h.size; omega))) hg (by have := h.size; have := hq.size; omega) (fun k hk => (World.ownsRow.lt hr k hk).1)
def FracK (B : Nat) (f : Int) (l : List UInt8) (w : World) (tv fv uv : Value) (wr : World) (k : Nat) : Prop :=
  k ≤ 6 ∧ (∀ i, i < k → f % um i ≠ 0) ∧ fv = .int .i64 (f % um k) ∧ uv = .int .i64 (un k) ∧ OwnB B wr tv (l ++ 46 :: dgs f k) ∧ Below B w wr
set_option maxRecDepth 100000 in
set_option maxHeartbeats 1000000 in
theorem fxFrac (B : Nat) (f : Int) (v : Value) (l : List UInt8) (w : World) (f0 : 0 ≤ f) (f1 : f < 1000000) (hr : OwnB B w v l) (hB : B ≤ w.heap.size) (hl : l.length ≤ 1000) :
    Calls Tryz.prog 111 #[v, .int .i64 f] w fun e w' => ∃ v', e = .returned v' ∧ OwnB B w' v' (l ++ frac f) ∧ Below B w w' := by
  obtain ⟨i0, hi, hz0, hz1, hz2⟩ := info_parts info_u8
  unfold frac
  by_cases hz : f = 0
  · rw [if_pos hz, List.append_nil]
    subst hz
    go_enter Tryz.func111, Tryz.ntmps111
    go_wp2
    go_ret
    exact ⟨_, rfl, hr, Below.refl _ _⟩
  · rw [if_neg hz]
    have bz : (f == 0) = false := beq_eq_false_iff_ne.2 hz
    have Hr := Lib.hid hr
    have Hz := Lib.hid hz
    clear hr hz
    go_enter Tryz.func111, Tryz.ntmps111
    go_wp2_with (at_builtin; refine wpList_append_own _ rfl _ _ 123 rfl B 5 i0 (.int .u8 0) 1 1 Tryz.underlying123 hi hz0 hz1 hz2 rfl (by decide) _ _ _ rfl (World.ownsRow.alloc Hr.out _) ⟨w.heap.size, 0, none⟩ 1 1 [.int .u8 46] rfl rfl (cell_one_new _ _ _) (ints_oneCell .u8 [46]) (by unfold maxLen; omega) (by omega) (by simp; omega) ?_)
    intro v1 w1 hown1 hgrow1 _
    have h1 : OwnB B w1 v1 (l ++ [46]) := ownB_push (c := 46) hown1
    have q1 : Below B w w1 := below_grown (Below.refl _ _) hB Hr.out _ ((Below.refl _ _).alloc (Nat.le_refl _) _) hgrow1
    clear hown1 hgrow1
    have H1 := Lib.hid h1
    clear h1
    go_wp2
    go_loopw [0, 1, 5] (fun tv fv uv wr => ∃ k, FracK B f l w tv fv uv wr k) (fun _ _ uv _ => (intOf uv).toNat)
    case atStart => exact ⟨0, by omega, fun i hi => by omega, by simp only [um]; rw [Int.emod_eq_of_lt f0 f1], rfl, H1.out, q1⟩
    case round =>
      obtain ⟨k, hk6, hne, rfl, rfl, hown, hq⟩ := hrel
      have x0 : 0 ≤ f % um k := Int.emod_nonneg _ (by have := um_pos k; omega)
      have K : Hid (k ≤ 5 → dn f k = f % um k / un k ∧ f % um (k + 1) = f % um k % un k ∧ un (k + 1) = un k / 10) := Lib.hid fun h => ⟨rfl, (mod_step f k h).symm, (un_step k h).symm⟩
      have Hn := Lib.hid hne
      have Ho := Lib.hid hown
      clear hne hown
      by_cases hx : 0 < f % um k
      · have k5 : k ≤ 5 := by
          rcases Nat.lt_or_ge 5 k with h | h
          · have : k = 6 := by omega
            subst this; simp only [um] at hx; omega
          · exact h
        obtain ⟨u1, u2, u3, u4⟩ := un_um k k5
        obtain ⟨d0, d1⟩ := dn_bd f k k5
        have dn' := dg_nat f k k5
        have xu : f % um k < um k := Int.emod_lt_of_pos _ (by have := um_pos k; omega)
        obtain ⟨e1, e2, e3⟩ := K.out k5
        rw [e1] at d0 d1 dn'
        have hne' : ∀ i, i < k + 1 → f % um i ≠ 0 := fun i hi => by
          rcases Nat.lt_or_ge i k with h | h
          · exact Hn.out i h
          · obtain rfl : i = k := by omega
            omega
        have Hn2 := Lib.hid hne'
        clear hne' u1 K
        obtain ⟨x, ex⟩ : ∃ x, f % um k = x := ⟨_, rfl⟩
        obtain ⟨u, eu⟩ : ∃ u, un k = u := ⟨_, rfl⟩
        rw [ex] at hx x0 d0 d1 xu dn' e2
        rw [eu] at d0 d1 u2 u3 u4 dn' e2 e3
        rw [ex, eu]
        have E := Lib.hid (And.intro e2 (And.intro e3 dn'))
        have x1 : x ≤ 1000000 := by omega
        have zu : (u == 0) = false := beq_eq_false_iff_ne.2 (by omega)
        have m0 : 0 ≤ x % u := Int.emod_nonneg _ (by omega)
        have m1 : x % u < u := Int.emod_lt_of_pos _ (by omega)
        clear e1 e2 e3 dn' ex eu xu
        have hs := hq.size
        go_wp2_with (at_builtin; refine wpList_append_own _ rfl _ _ 123 rfl B 5 i0 (.int .u8 0) 1 1 Tryz.underlying123 hi hz0 hz1 hz2 rfl (by decide) _ _ _ rfl (World.ownsRow.alloc Ho.out _) ⟨wr.heap.size, 0, none⟩ 1 1 [.int .u8 (48 + x / u)] rfl rfl (cell_one_new _ _ _) (ints_oneCell .u8 [48 + x / u]) (by unfold maxLen; simp [dgs_length]; omega) (by simp [dgs_length]; omega) (by simp; omega) ?_)
        intro v2 w2 hown2 hgrow2 _
        have h2 : OwnB B w2 v2 ((l ++ 46 :: dgs f k) ++ [dg f k]) := ownB_push (by rw [E.out.2.2, List.length_append, List.length_cons]; exact hown2)
        have q2 : Below B w w2 := below_grown hq hB Ho.out _ ((Below.refl _ _).alloc (Nat.le_refl _) _) hgrow2
        clear hown2 hgrow2 hq hs
        rw [List.append_assoc, List.cons_append, ← dgs_succ] at h2
        have H2 := Lib.hid h2
        clear h2
        go_wp2
        go_roundw
        case rel => exact ⟨k + 1, by omega, Hn2.out, by rw [E.out.1], by rw [E.out.2.1], H2.out, q2⟩
        case measure => simp [intOf]; omega
      · have hx0 : f % um k = 0 := by omega
        have hk : kf f = k := kf_eq hk6 (by simp only [um]; rw [Int.emod_eq_of_lt f0 f1]; exact Hz.out) hx0 Hn.out
        have HK := Lib.hid hk
        rw [hx0]
        clear hk hx0 hx x0 K
        go_wp2
        go_ret
        exact ⟨_, rfl, by rw [HK.out]; exact Ho.out, hq⟩
theorem ownB_more {B : Nat} {w : World} {v : Value} {l k : List UInt8} (h : w.ownsRow B 5 1 v (l.length + k.length) (Lib.byteCells l ++ Lib.byteCells k)) : OwnB B w v (l ++ k) := by
  unfold OwnB
  rw [List.length_append, show Lib.byteCells (l ++ k) = Lib.byteCells l ++ Lib.byteCells k by simp [Lib.byteCells]]
  exact h
theorem dec_len10 (l : List UInt8) (m : Int) (hl : l.length ≤ 1) (h0 : 0 ≤ m) (h1 : m ≤ 1000000000000000) : (l ++ Lib.decDigits (m / 1000000).toNat).length ≤ 1000 := by
  have p : (10 : Nat) ^ (9 + 1) = 10000000000 := by decide
  have := dec_len 9 (m / 1000000).toNat (by rw [p]; omega)
  rw [List.length_append]; omega
def Tb (w : World) : Prop := Lib.TabBelow Tryz.prog w.heap.size w "internal/strconv.uint64pow10" .u64 Lib.pow10Tab
theorem Tb.kept {w w' : World} (h : Tb w) (q : Qw w w') : Tb w' := fun w'' q' => h w'' (Below.trans q (Below.mono q' q.size))
theorem own_cases {B : Nat} {w : World} {v : Value} {l : List UInt8} (h : OwnB B w v l) (hl : l ≠ []) :
    ∃ g cap, v = .slice (some ⟨g, 0, none⟩) l.length cap ∧ ∀ j (hj : j < l.length), w.cell? ((⟨g, 0, none⟩ : Addr).add j) = some (.int .u8 (l[j].toNat : Int)) := by
  have h0 := h
  obtain ⟨h1, h2⟩ := h
  rcases h2 with ⟨h2, h3⟩ | ⟨g, cap, cur, rfl, hg, hh, r1, r2, r3, r4⟩
  · exact absurd (List.eq_nil_of_length_eq_zero h3) hl
  · refine ⟨g, cap, rfl, fun j hj => ?_⟩
    refine World.ownsRow.cells h0 rfl j _ ?_
    unfold Lib.byteCells
    rw [List.getElem?_map, List.getElem?_eq_getElem hj]; rfl
set_option maxRecDepth 100000 in
set_option maxHeartbeats 1000000 in
theorem fxFormat (n : Int) (w : World) (ht : Tb w) :
    Calls Tryz.prog 74 #[.int .i64 n] w fun e w' => e = .returned (.string ⟨(fmtl n).toArray⟩) ∧ Qw w w' := by
  obtain ⟨i0, hi, hz0, hz1, hz2⟩ := info_parts info_u8
  have q0 : Below w.heap.size w w := Below.refl _ _
  have HT := Lib.hid ht
  cases hv : vld n
  · rw [show fmtl n = [] from if_neg (by rw [hv]; decide)]
    go_enter Tryz.func74, Tryz.ntmps74
    go_wp2_with (go_at_call 33; refine (fxValid _ _).mono ?_; rintro e w' ⟨rfl, rfl⟩)
    go_ret
    exact ⟨rfl, Qw.refl _⟩
  · obtain ⟨a1, a2⟩ := vld_bd hv
    by_cases hn : n < 0
    · obtain ⟨m, rfl⟩ : ∃ m, n = -m := ⟨-n, by omega⟩
      rw [show fmtl (-m) = [45] ++ fmtp m by unfold fmtl; rw [if_pos hv, if_pos hn, Int.neg_neg]; rfl]
      have m0 : 0 < m := by omega
      have m1 : m ≤ 1000000000000000 := by omega
      clear hn a1 a2
      unfold fmtp
      rw [← List.append_assoc]
      have o0 := Lib.hid (ownB_nil w.heap.size w)
      go_enter Tryz.func74, Tryz.ntmps74
      go_wp2_with (first | (go_at_call 33; refine (fxValid _ _).mono ?_; rintro e w' ⟨rfl, rfl⟩) | (at_builtin; refine wpList_append_own _ rfl _ _ 123 rfl w.heap.size 5 i0 (.int .u8 0) 1 1 Tryz.underlying123 hi hz0 hz1 hz2 rfl (by decide) _ _ _ rfl (World.ownsRow.alloc o0.out _) ⟨w.heap.size, 0, none⟩ 1 1 [.int .u8 45] rfl rfl (cell_one_new _ _ _) (ints_oneCell .u8 [45]) (by unfold maxLen; simp) (by simp) (by simp) ?_))
      intro v1 w1 hown1 hgrow1 _
      have h1 : OwnB w.heap.size w1 v1 ([] ++ [45]) := ownB_push (c := 45) hown1
      have q1 : Below w.heap.size w w1 := below_grown q0 (Nat.le_refl _) o0.out _ ((Below.refl _ _).alloc (Nat.le_refl _) _) hgrow1
      clear hown1 hgrow1 o0
      rw [List.nil_append] at h1
      have H1 := Lib.hid h1
      clear h1
      go_wp2_with fail
      refine (Tryz.strconv_AppendInt_10 w.heap.size 1 (m / 1000000) (by omega) (by omega) v1 (Lib.byteCells [45]) _ H1.out (by have := q1.size; omega) (by decide) (HT.out.on q1)).mono ?_
      rintro e w2 ⟨v2, rfl, hown2, hb2, _⟩
      have it : Lib.itoa (m / 1000000) = Lib.decDigits (m / 1000000).toNat := by unfold Lib.itoa; rw [if_neg (by omega)]
      rw [it] at hown2
      have h2 : OwnB w.heap.size w2 v2 ([45] ++ Lib.decDigits (m / 1000000).toNat) := ownB_more hown2
      have q2 : Below w.heap.size w w2 := q1.trans hb2
      have l2 : ([45] ++ Lib.decDigits (m / 1000000).toNat).length ≤ 1000 := dec_len10 _ _ (by decide) (by omega) (by omega)
      have H2 := Lib.hid h2
      clear it hown2 hb2 h2
      go_wp2_with fail
      refine (fxFrac w.heap.size (m % 1000000) v2 _ _ (by omega) (by omega) H2.out (by have := q2.size; omega) l2).mono ?_
      rintro e w3 ⟨v3, rfl, h3, hb3⟩
      have q3 : Below w.heap.size w w3 := q2.trans hb3
      obtain ⟨g, cap, rfl, hc⟩ := own_cases h3 (by simp [dec_ne])
      have cv := run_convert_bytes_back (P := Tryz.prog) w3 123 9 5 ⟨g, 0, none⟩ cap _ Tryz.underlying123 Tryz.underlying5 Tryz.underlying9 hc
      clear h3 hb3 hc H2 l2
      generalize hX : [45] ++ Lib.decDigits (m / 1000000).toNat ++ frac (m % 1000000) = X at *
      have HX := Lib.hid hX
      clear hX
      go_wp2
      go_ret
      exact ⟨by rw [← HX.out]; rfl, q3⟩
    · rw [show fmtl n = [] ++ fmtp n from (if_pos hv).trans (if_neg hn)]
      unfold fmtp
      rw [← List.append_assoc]
      have H1 := Lib.hid (ownB_nil w.heap.size w)
      go_enter Tryz.func74, Tryz.ntmps74
      go_wp2_with (go_at_call 33; refine (fxValid _ _).mono ?_; rintro e w' ⟨rfl, rfl⟩)
      go_wp2_with fail
      refine (Tryz.strconv_AppendInt_10 w.heap.size 0 (n / 1000000) (by omega) (by omega) (.slice none 0 0) (Lib.byteCells []) _ H1.out (by have := q0.size; omega) (by decide) (HT.out.on q0)).mono ?_
      rintro e w2 ⟨v2, rfl, hown2, hb2, _⟩
      have it : Lib.itoa (n / 1000000) = Lib.decDigits (n / 1000000).toNat := by unfold Lib.itoa; rw [if_neg (by omega)]
      rw [it] at hown2
      have h2 : OwnB w.heap.size w2 v2 ([] ++ Lib.decDigits (n / 1000000).toNat) := ownB_more hown2
      have q2 : Below w.heap.size w w2 := q0.trans hb2
      have l2 : ([] ++ Lib.decDigits (n / 1000000).toNat).length ≤ 1000 := dec_len10 _ _ (by decide) (by omega) (by omega)
      have H2 := Lib.hid h2
      clear it hown2 hb2 h2
      go_wp2_with fail
      refine (fxFrac w.heap.size (n % 1000000) v2 _ _ (by omega) (by omega) H2.out (by have := q2.size; omega) l2).mono ?_
      rintro e w3 ⟨v3, rfl, h3, hb3⟩
      have q3 : Below w.heap.size w w3 := q2.trans hb3
      obtain ⟨g, cap, rfl, hc⟩ := own_cases h3 (by simp [dec_ne])
      have cv := run_convert_bytes_back (P := Tryz.prog) w3 123 9 5 ⟨g, 0, none⟩ cap _ Tryz.underlying123 Tryz.underlying5 Tryz.underlying9 hc
      clear h3 hb3 hc H2 l2
      generalize hX : [] ++ Lib.decDigits (n / 1000000).toNat ++ frac (n % 1000000) = X at *
      have HX := Lib.hid hX
      clear hX
      go_wp2
      go_ret
      exact ⟨by rw [← HX.out]; rfl, q3⟩
end Go.Proofs.YtciglhecjkeogaaGreatDoor

