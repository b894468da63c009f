
/- The walk of bits.Div64: the quotient of two words by one word. -/
import Derived.Test.YtijakijjeoaikaaWalkA
import Derived.Test.YtijakijjeoaikaaLaid
import Derived.Lib.ItoaNum
set_option linter.unusedVariables false
set_option linter.unusedSimpArgs false
namespace Go.Proofs.Ytijakijjeoaikaa
open Go.RowKit

def dq (hi lo y : Int) : Int := (hi * 18446744073709551616 + lo) / y
def dr (hi lo y : Int) : Int := (hi * 18446744073709551616 + lo) % y

theorem ret_uu {a b c d : Int} (h : a = b) (g : c = d) : Ending.returned (.tuple #[.int .u64 a, .int .u64 c]) = .returned (.tuple #[.int .u64 b, .int .u64 d]) := by rw [h, g]

theorem div64_low (lo y : Int) (l0 : 0 ≤ lo) (l1 : lo < 18446744073709551616) (y0 : 0 < y) (y1 : y < 18446744073709551616) (w : World) :
    Calls Try.prog 60 #[.int .u64 0, .int .u64 lo, .int .u64 y] w fun e w' => e = .returned (.tuple #[.int .u64 (lo / y), .int .u64 (lo % y)]) ∧ ∃ n, w' = w.drewN n := by
  have b1 : (y == 0) = false := beq_eq_false_iff_ne.2 (by omega)
  have b2 : decide (y ≤ 0) = false := decide_eq_false (by omega)
  go_enter Try.func60, Try.ntmps60
  go_wp2
  go_quiet (fail)
  go_wp2
  go_ret2
  exact ⟨rfl, _, rfl⟩

/-- What is known of the shift that brings a word to the top. -/
theorem lz_any (y : Int) (y0 : 0 < y) (y1 : y < 18446744073709551616) :
    ∃ s : Int, 0 ≤ s ∧ s ≤ 63 ∧ 9223372036854775808 ≤ y * 2 ^ s.toNat ∧ y * 2 ^ s.toNat < 18446744073709551616 ∧
      ∀ w, Calls Try.prog 77 #[.int .u64 y] w fun e w' => e = .returned (.int .i64 s) ∧ w = w' := by
  obtain ⟨n, rfl⟩ := Int.eq_ofNat_of_zero_le (Int.le_of_lt y0)
  have b := Lib.bitLenAux_bounds 64 n (by omega) (by omega)
  have b4 := Lib.bitLen_le n 64 (by omega) (by omega)
  have e : Lib.bitLenAux 64 n = Lib.bitLen n := rfl
  rw [e] at b
  obtain ⟨c1, c2, c3⟩ := b
  have es : ((64 : Int) - (Lib.bitLen n : Int)).toNat = 64 - Lib.bitLen n := by omega
  have ep : ((2 : Int) ^ (64 - Lib.bitLen n)) = ((2 ^ (64 - Lib.bitLen n) : Nat) : Int) := (Int.natCast_pow 2 _).symm
  refine ⟨64 - (Lib.bitLen n : Int), by omega, by omega, ?_, ?_, fun w => ?_⟩
  · rw [es, ep, ← Int.natCast_mul]
    have m := Nat.mul_le_mul_right (2 ^ (64 - Lib.bitLen n)) c2
    rw [← Nat.pow_add, show Lib.bitLen n - 1 + (64 - Lib.bitLen n) = 63 from by omega] at m
    omega
  · rw [es, ep, ← Int.natCast_mul]
    have m := Nat.mul_lt_mul_of_pos_right c3 (Nat.two_pow_pos (64 - Lib.bitLen n))
    rw [← Nat.pow_add, show Lib.bitLen n + (64 - Lib.bitLen n) = 64 from by omega] at m
    omega
  · exact (Try.bits_LeadingZeros64 (n : Int) w (by omega) (by omega)).mono fun e w' ⟨h1, h2⟩ => ⟨h1, h2.symm⟩

theorem and_mask (x : Int) (h0 : 0 ≤ x) (h1 : x < 18446744073709551616) : bits .and .u64 x 4294967295 = x % 4294967296 := by
  obtain ⟨n, rfl⟩ := Int.eq_ofNat_of_zero_le h0
  have h := bits_and_u64_nat n 4294967295 (by omega) (by omega)
  have e : n &&& 4294967295 = n % 4294967296 := Nat.and_two_pow_sub_one_eq_mod n 32
  rw [e] at h
  exact h

/-- The two words, shifted: the upper one of them, and the lower one. -/
theorem shift_words (hi lo s : Int) (h0 : 0 ≤ hi) (l0 : 0 ≤ lo) (l1 : lo < 18446744073709551616) (s0 : 0 ≤ s) (s1 : s ≤ 63) (hb : hi * 2 ^ s.toNat + 2 ^ s.toNat ≤ 18446744073709551616) :
    ∃ U L : Int, bits .or .u64 (hi * 2 ^ s.toNat) (lo / 2 ^ (64 - s).toNat) = U ∧ IntKind.u64.wrap (lo * 2 ^ s.toNat) = L ∧ 0 ≤ L ∧ L < 18446744073709551616 ∧ 0 ≤ U ∧
      U * 18446744073709551616 + L = (hi * 18446744073709551616 + lo) * 2 ^ s.toNat := by
  obtain ⟨h, rfl⟩ := Int.eq_ofNat_of_zero_le h0
  obtain ⟨l, rfl⟩ := Int.eq_ofNat_of_zero_le l0
  obtain ⟨k, rfl⟩ := Int.eq_ofNat_of_zero_le s0
  have e2 : ((64 : Int) - (k : Int)).toNat = 64 - k := by omega
  rw [e2, Int.toNat_natCast] at *
  have pk : 0 < 2 ^ k := Nat.two_pow_pos k
  have pj : 0 < 2 ^ (64 - k) := Nat.two_pow_pos (64 - k)
  have pp : 2 ^ (64 - k) * 2 ^ k = 18446744073709551616 := by rw [← Nat.pow_add, show 64 - k + k = 64 from by omega]
  have ek : ((2 : Int) ^ k) = ((2 ^ k : Nat) : Int) := (Int.natCast_pow 2 _).symm
  have ej : ((2 : Int) ^ (64 - k)) = ((2 ^ (64 - k) : Nat) : Int) := (Int.natCast_pow 2 _).symm
  have lk : l / 2 ^ (64 - k) < 2 ^ k := by rw [Nat.div_lt_iff_lt_mul pj, Nat.mul_comm, pp]; omega
  have t := Nat.two_pow_add_eq_or_of_lt lk h
  have d1 : l * 2 ^ k / 18446744073709551616 = l / 2 ^ (64 - k) := by
    rw [← pp, Nat.mul_div_mul_right _ _ pk]
  rw [ek, ej]
  rw [ek] at hb
  generalize 2 ^ k = p at *
  generalize 2 ^ (64 - k) = j at *
  rw [Nat.mul_comm p h] at t
  simp only [← Int.natCast_mul, ← Int.natCast_ediv] at *
  have o := bits_or_u64_nat (h * p) (l / j) (by omega) (by omega)
  rw [← t] at o
  have wE : IntKind.u64.wrap ((l * p : Nat) : Int) = ((l * p % 18446744073709551616 : Nat) : Int) := by
    rw [IntKind.wrap_u64]; omega
  refine ⟨_, _, o, wE, by omega, by omega, by omega, ?_⟩
  have d3 : (h * 18446744073709551616 + l) * p = h * p * 18446744073709551616 + l * p := by
    rw [Nat.add_mul, Nat.mul_right_comm]
  have d4 : ((h : Int) * 18446744073709551616 + (l : Int)) * (p : Int) = (((h * 18446744073709551616 + l) * p : Nat) : Int) := by
    rw [Int.natCast_mul, Int.natCast_add, Int.natCast_mul]; rfl
  rw [d4, d3]
  omega

/-- The rest of the first digit, as the words reckon it. -/
theorem rest_word (U l1 T Y V : Int) (hV : (U * 4294967296 + l1) % Y = V) (hT : (U * 4294967296 + l1) / Y = T) (v1 : V < 18446744073709551616) (v0 : 0 ≤ V) :
    IntKind.u64.wrap (IntKind.u64.wrap (IntKind.u64.wrap (U * 4294967296) + l1) - IntKind.u64.wrap (T * Y)) = V := by
  have d := Int.emod_add_mul_ediv (U * 4294967296 + l1) Y
  rw [hV, hT, Int.mul_comm Y T] at d
  simp only [IntKind.wrap_u64]
  omega

/-- How the test of a digit comes out. -/
theorem digit_ways (a b y0 c T : Int) (tt : a * y0 > 4294967296 * b + c ↔ T < a) (g2 : 0 ≤ y0) (g2' : y0 < 4294967296) (hT : T < 4294967296 ∧ T ≤ a ∧ 0 ≤ T) :
    decide (4294967296 ≤ a) = true ∧ T < a ∨ decide (4294967296 ≤ a) = false ∧ a * y0 < 18446744073709551616 ∧ (T < a ∧ decide (4294967296 * b + c < a * y0) = true ∨ a = T ∧ decide (4294967296 * b + c < a * y0) = false) := by
  by_cases h : 4294967296 ≤ a
  · left; exact ⟨decide_eq_true h, by omega⟩
  · right
    refine ⟨decide_eq_false h, ?_, ?_⟩
    · have := Int.mul_le_mul (show a ≤ 4294967295 by omega) (show y0 ≤ 4294967295 by omega) g2 (by omega)
      omega
    · by_cases h2 : T < a
      · left; exact ⟨h2, decide_eq_true (tt.2 h2)⟩
      · right; exact ⟨by omega, decide_eq_false (fun h3 => h2 (tt.1 h3))⟩

/-- What the loop over a digit keeps. -/
def Dig (U y1 T a b : Int) : Prop := a * y1 + b = U ∧ T ≤ a ∧ a ≤ 4294967297 ∧ 0 ≤ b ∧ b < 4294967296

set_option maxHeartbeats 2000000 in
theorem div64_high (hi lo y : Int) (h0 : 0 < hi) (h1 : hi < y) (l0 : 0 ≤ lo) (l1 : lo < 18446744073709551616) (y1 : y < 18446744073709551616) (w : World) :
    Calls Try.prog 60 #[.int .u64 hi, .int .u64 lo, .int .u64 y] w fun e w' => e = .returned (.tuple #[.int .u64 (dq hi lo y), .int .u64 (dr hi lo y)]) ∧ w = w' := by
  obtain ⟨s, s0, s1, sa, sb, hs⟩ := lz_any y (by omega) y1
  have b1 : (y == 0) = false := beq_eq_false_iff_ne.2 (by omega)
  have b2 : decide (y ≤ hi) = false := decide_eq_false (by omega)
  have b3 : (hi == 0) = false := beq_eq_false_iff_ne.2 (by omega)
  have Hs := Lib.hid hs
  clear hs
  have pp : (0 : Int) < 2 ^ s.toNat := Int.pow_pos (by omega)
  have ph : (hi + 1) * 2 ^ s.toNat ≤ y * 2 ^ s.toNat := Int.mul_le_mul_of_nonneg_right (by omega) (by omega)
  rw [Int.add_mul, Int.one_mul] at ph
  have ph0 : 0 ≤ hi * 2 ^ s.toNat := Int.mul_nonneg (by omega) (by omega)
  obtain ⟨U, L, eU, eL, L0, L1, U0, eN⟩ := shift_words hi lo s (by omega) l0 l1 s0 s1 (by omega)
  have UY : U < y * 2 ^ s.toNat := by
    have m : (hi * 18446744073709551616 + lo) * 2 ^ s.toNat < y * 2 ^ s.toNat * 18446744073709551616 := by
      rw [Int.mul_right_comm]
      exact Int.mul_lt_mul_of_pos_right (by omega) pp
    rw [← eN] at m
    omega
  obtain ⟨eQ, eR⟩ := Mth.shifted (hi * 18446744073709551616 + lo) y (2 ^ s.toNat) pp
  have ph1 : hi * 2 ^ s.toNat < 18446744073709551616 := by omega
  obtain ⟨Y, eY⟩ : ∃ Y, y * 2 ^ s.toNat = Y := ⟨_, rfl⟩
  rw [eY] at sa sb UY eQ eR
  obtain ⟨y1', ey1⟩ : ∃ Y1, Y / 4294967296 = Y1 := ⟨_, rfl⟩
  obtain ⟨y0', ey0⟩ : ∃ Y0, bits .and .u64 Y 4294967295 = Y0 := ⟨_, rfl⟩
  obtain ⟨c1, ec1⟩ : ∃ c1, L / 4294967296 = c1 := ⟨_, rfl⟩
  obtain ⟨c0, ec0⟩ : ∃ c0, bits .and .u64 L 4294967295 = c0 := ⟨_, rfl⟩
  have fy0 := and_mask Y (by omega) sb
  have fc0 := and_mask L L0 L1
  rw [ey0] at fy0; rw [ec0] at fc0
  have hY : Y = y1' * 4294967296 + y0' := by omega
  have hL : L = c1 * 4294967296 + c0 := by omega
  have g1 : 2147483648 ≤ y1' := by omega
  have g1' : y1' < 4294967296 := by omega
  have g2 : 0 ≤ y0' := by omega
  have g2' : y0' < 4294967296 := by omega
  have k1 : 0 ≤ c1 := by omega
  have k1' : c1 < 4294967296 := by omega
  have k2 : 0 ≤ c0 := by omega
  have k2' : c0 < 4294967296 := by omega
  obtain ⟨q0, q1, r0, r1, t1⟩ := Mth.digit_guess U c1 y1' y0' Y hY g1 g2 g2' U0 UY k1 k1'
  have tn := Mth.digit_nonneg U c1 Y (by omega) U0 k1
  have ts := Mth.digit_small U c1 Y (by omega) UY k1'
  obtain ⟨D1, D2⟩ := Mth.two_digits U c1 c0 Y (by omega) k2 k2'
  obtain ⟨T, eT⟩ : ∃ T, (U * 4294967296 + c1) / Y = T := ⟨_, rfl⟩
  obtain ⟨V, eV⟩ : ∃ V, (U * 4294967296 + c1) % Y = V := ⟨_, rfl⟩
  have V0 : 0 ≤ V := by rw [← eV]; exact Int.emod_nonneg _ (by omega)
  have VY : V < Y := by rw [← eV]; exact Int.emod_lt_of_pos _ (by omega)
  rw [eT] at t1 tn ts
  have fV := rest_word U c1 T Y V eV eT (by omega) V0
  obtain ⟨Q0, Q1, R0, R1, T1⟩ := Mth.digit_guess V c0 y1' y0' Y hY g1 g2 g2' V0 VY k2 k2'
  have Tn := Mth.digit_nonneg V c0 Y (by omega) V0 k2
  have Ts := Mth.digit_small V c0 Y (by omega) VY k2'
  rw [eT, eV] at D1
  rw [eV] at D2
  obtain ⟨S, eS⟩ : ∃ S, (V * 4294967296 + c0) / Y = S := ⟨_, rfl⟩
  obtain ⟨X, eX⟩ : ∃ X, (V * 4294967296 + c0) % Y = X := ⟨_, rfl⟩
  have X0 : 0 ≤ X := by rw [← eX]; exact Int.emod_nonneg _ (by omega)
  have XY : X < Y := by rw [← eX]; exact Int.emod_lt_of_pos _ (by omega)
  rw [eS] at T1 Tn Ts D1
  rw [eX] at D2
  have fX := rest_word V c0 S Y X eX eS (by omega) X0
  have eM : (U * 4294967296 + c1) * 4294967296 + c0 = (hi * 18446744073709551616 + lo) * 2 ^ s.toNat := by rw [← eN]; omega
  rw [eM] at D1 D2
  have F1 : T * 4294967296 + S = dq hi lo y := by rw [D1, eQ]; rfl
  have F2 : X / 2 ^ s.toNat = dr hi lo y := by rw [D2, eR, Int.mul_ediv_cancel _ (by omega)]; rfl
  have HF1 := Lib.hid F1; have HF2 := Lib.hid F2
  have step1 : ∀ a b : Int, a * y1' + b = U → (a * y0' > 4294967296 * b + c1 ↔ T < a) := fun a b h => by
    rw [← eT]; exact Mth.digit_test U c1 a b y1' y0' Y hY (by omega) h
  have last1 : ∀ a b : Int, a * y1' + b = U → 4294967296 ≤ b → 0 ≤ a → a ≤ 4294967296 → T ≤ a → T = a := fun a b h h2 h3 h4 h5 => by
    rw [← eT] at h5 ⊢; exact Mth.digit_last U c1 a b y1' y0' Y hY (by omega) h h2 g2 g2' h3 h4 k1 h5
  have step2 : ∀ a b : Int, a * y1' + b = V → (a * y0' > 4294967296 * b + c0 ↔ S < a) := fun a b h => by
    rw [← eS]; exact Mth.digit_test V c0 a b y1' y0' Y hY (by omega) h
  have last2 : ∀ a b : Int, a * y1' + b = V → 4294967296 ≤ b → 0 ≤ a → a ≤ 4294967296 → S ≤ a → S = a := fun a b h h2 h3 h4 h5 => by
    rw [← eS] at h5 ⊢; exact Mth.digit_last V c0 a b y1' y0' Y hY (by omega) h h2 g2 g2' h3 h4 k2 h5
  have St1 := Lib.hid step1; have La1 := Lib.hid last1; have St2 := Lib.hid step2; have La2 := Lib.hid last2
  clear step1 last1 step2 last2 F1 F2 D1 D2 eM eT eV eS eX eQ eR eN hY hL fy0 fc0 ph pp
  have q2 : 0 ≤ U / y1' * y1' := Int.mul_nonneg q0 (by omega)
  have Q2 : 0 ≤ V / y1' * y1' := Int.mul_nonneg Q0 (by omega)
  go_enter Try.func60, Try.ntmps60
  go_wp2_with (go_at_call 77; refine (Hs.out _).mono ?_; rintro e w' ⟨rfl, rfl⟩)
  go_loop [15, 16] (fun q r => ∃ a b : Int, q = .int .u64 a ∧ r = .int .u64 b ∧ Dig U y1' T a b) (fun q _ => (intOf q).toNat)
  case atStart => exact ⟨_, _, rfl, rfl, by omega, t1, q1, r0, by omega⟩
  case round =>
    obtain ⟨a, b, rfl, rfl, he, ha, ha', hb, hb'⟩ := hrel
    have tt := St1.out a b he
    have He := Lib.hid he
    have p0 : 0 ≤ a * y0' := Int.mul_nonneg (by omega) (by omega)
    clear he
    have ways : (T < a ∧ b + y1' < 4294967296) ∨ (a = T + 1 ∧ 4294967296 ≤ b + y1') ∨ a = T := by
      by_cases hlt : T < a
      · by_cases hbr : 4294967296 ≤ b + y1'
        · have hT := La1.out (a - 1) (b + y1') (by rw [Int.sub_mul, Int.one_mul]; have := He.out; omega) hbr (by omega) (by omega) (by omega)
          right; left; exact ⟨by omega, hbr⟩
        · left; exact ⟨hlt, by omega⟩
      · right; right; omega
    have hbig := digit_ways a b y0' c1 T tt g2 g2' (by omega)
    clear tt
    rcases hbig with ⟨d1, hlt⟩ | ⟨d1, pb, ⟨hlt, d2⟩ | ⟨hq, d2⟩⟩
    · rcases ways with ⟨-, hr⟩ | ⟨rfl, hr⟩ | hq
      · go_wp2
        go_round
        case rel => exact ⟨_, _, rfl, rfl, by rw [Int.sub_mul, Int.one_mul]; have := He.out; omega, by omega, by omega, by omega, by omega⟩
        case measure => simp [intOf]; omega
      · clear hlt
        go_wp2
        clear d1 p0 He
        go_loop [18, 16] (fun q r => ∃ a b : Int, q = .int .u64 a ∧ r = .int .u64 b ∧ Dig V y1' S a b) (fun q _ => (intOf q).toNat)
        case atStart => exact ⟨_, _, rfl, rfl, by omega, T1, Q1, R0, by omega⟩
        case round =>
          obtain ⟨a, b, rfl, rfl, he, ha, ha', hb, hb'⟩ := hrel
          have tt := St2.out a b he
          have He := Lib.hid he
          have p0 : 0 ≤ a * y0' := Int.mul_nonneg (by omega) (by omega)
          clear he
          have ways : (S < a ∧ b + y1' < 4294967296) ∨ (a = S + 1 ∧ 4294967296 ≤ b + y1') ∨ a = S := by
            by_cases hlt : S < a
            · by_cases hbr : 4294967296 ≤ b + y1'
              · have hT := La2.out (a - 1) (b + y1') (by rw [Int.sub_mul, Int.one_mul]; have := He.out; omega) hbr (by omega) (by omega) (by omega)
                right; left; exact ⟨by omega, hbr⟩
              · left; exact ⟨hlt, by omega⟩
            · right; right; omega
          have hbig := digit_ways a b y0' c0 S tt g2 g2' (by omega)
          clear tt
          rcases hbig with ⟨d1, hlt⟩ | ⟨d1, pb, ⟨hlt, d2⟩ | ⟨hq, d2⟩⟩
          · rcases ways with ⟨-, hr⟩ | ⟨rfl, hr⟩ | hq
            · go_wp2
              go_round
              case rel => exact ⟨_, _, rfl, rfl, by rw [Int.sub_mul, Int.one_mul]; have := He.out; omega, by omega, by omega, by omega, by omega⟩
              case measure => simp [intOf]; omega
            · clear hlt
              go_wp2
              go_ret2
              exact ⟨ret_uu HF1.out HF2.out, rfl⟩
            · omega
          · rcases ways with ⟨-, hr⟩ | ⟨rfl, hr⟩ | hq
            · go_wp2
              go_round
              case rel => exact ⟨_, _, rfl, rfl, by rw [Int.sub_mul, Int.one_mul]; have := He.out; omega, by omega, by omega, by omega, by omega⟩
              case measure => simp [intOf]; omega
            · clear hlt
              go_wp2
              go_ret2
              exact ⟨ret_uu HF1.out HF2.out, rfl⟩
            · omega
          · subst hq
            clear ways
            go_wp2
            go_ret2
            exact ⟨ret_uu HF1.out HF2.out, rfl⟩
      · omega
    · rcases ways with ⟨-, hr⟩ | ⟨rfl, hr⟩ | hq
      · go_wp2
        go_round
        case rel => exact ⟨_, _, rfl, rfl, by rw [Int.sub_mul, Int.one_mul]; have := He.out; omega, by omega, by omega, by omega, by omega⟩
        case measure => simp [intOf]; omega
      · clear hlt
        go_wp2
        clear d1 pb d2 p0 He
        go_loop [18, 16] (fun q r => ∃ a b : Int, q = .int .u64 a ∧ r = .int .u64 b ∧ Dig V y1' S a b) (fun q _ => (intOf q).toNat)
        case atStart => exact ⟨_, _, rfl, rfl, by omega, T1, Q1, R0, by omega⟩
        case round =>
          obtain ⟨a, b, rfl, rfl, he, ha, ha', hb, hb'⟩ := hrel
          have tt := St2.out a b he
          have He := Lib.hid he
          have p0 : 0 ≤ a * y0' := Int.mul_nonneg (by omega) (by omega)
          clear he
          have ways : (S < a ∧ b + y1' < 4294967296) ∨ (a = S + 1 ∧ 4294967296 ≤ b + y1') ∨ a = S := by
            by_cases hlt : S < a
            · by_cases hbr : 4294967296 ≤ b + y1'
              · have hT := La2.out (a - 1) (b + y1') (by rw [Int.sub_mul, Int.one_mul]; have := He.out; omega) hbr (by omega) (by omega) (by omega)
                right; left; exact ⟨by omega, hbr⟩
              · left; exact ⟨hlt, by omega⟩
            · right; right; omega
          have hbig := digit_ways a b y0' c0 S tt g2 g2' (by omega)
          clear tt
          rcases hbig with ⟨d1, hlt⟩ | ⟨d1, pb, ⟨hlt, d2⟩ | ⟨hq, d2⟩⟩
          · rcases ways with ⟨-, hr⟩ | ⟨rfl, hr⟩ | hq
            · go_wp2
              go_round
              case rel => exact ⟨_, _, rfl, rfl, by rw [Int.sub_mul, Int.one_mul]; have := He.out; omega, by omega, by omega, by omega, by omega⟩
              case measure => simp [intOf]; omega
            · clear hlt
              go_wp2
              go_ret2
              exact ⟨ret_uu HF1.out HF2.out, rfl⟩
            · omega
          · rcases ways with ⟨-, hr⟩ | ⟨rfl, hr⟩ | hq
            · go_wp2
              go_round
              case rel => exact ⟨_, _, rfl, rfl, by rw [Int.sub_mul, Int.one_mul]; have := He.out; omega, by omega, by omega, by omega, by omega⟩
              case measure => simp [intOf]; omega
            · clear hlt
              go_wp2
              go_ret2
              exact ⟨ret_uu HF1.out HF2.out, rfl⟩
            · omega
          · subst hq
            clear ways
            go_wp2
            go_ret2
            exact ⟨ret_uu HF1.out HF2.out, rfl⟩
      · omega
    · subst hq
      clear ways
      go_wp2
      clear d1 pb d2 p0 He
      go_loop [18, 16] (fun q r => ∃ a b : Int, q = .int .u64 a ∧ r = .int .u64 b ∧ Dig V y1' S a b) (fun q _ => (intOf q).toNat)
      case atStart => exact ⟨_, _, rfl, rfl, by omega, T1, Q1, R0, by omega⟩
      case round =>
        obtain ⟨a, b, rfl, rfl, he, ha, ha', hb, hb'⟩ := hrel
        have tt := St2.out a b he
        have He := Lib.hid he
        have p0 : 0 ≤ a * y0' := Int.mul_nonneg (by omega) (by omega)
        clear he
        have ways : (S < a ∧ b + y1' < 4294967296) ∨ (a = S + 1 ∧ 4294967296 ≤ b + y1') ∨ a = S := by
          by_cases hlt : S < a
          · by_cases hbr : 4294967296 ≤ b + y1'
            · have hT := La2.out (a - 1) (b + y1') (by rw [Int.sub_mul, Int.one_mul]; have := He.out; omega) hbr (by omega) (by omega) (by omega)
              right; left; exact ⟨by omega, hbr⟩
            · left; exact ⟨hlt, by omega⟩
          · right; right; omega
        have hbig := digit_ways a b y0' c0 S tt g2 g2' (by omega)
        clear tt
        rcases hbig with ⟨d1, hlt⟩ | ⟨d1, pb, ⟨hlt, d2⟩ | ⟨hq, d2⟩⟩
        · rcases ways with ⟨-, hr⟩ | ⟨rfl, hr⟩ | hq
          · go_wp2
            go_round
            case rel => exact ⟨_, _, rfl, rfl, by rw [Int.sub_mul, Int.one_mul]; have := He.out; omega, by omega, by omega, by omega, by omega⟩
            case measure => simp [intOf]; omega
          · clear hlt
            go_wp2
            go_ret2
            exact ⟨ret_uu HF1.out HF2.out, rfl⟩
          · omega
        · rcases ways with ⟨-, hr⟩ | ⟨rfl, hr⟩ | hq
          · go_wp2
            go_round
            case rel => exact ⟨_, _, rfl, rfl, by rw [Int.sub_mul, Int.one_mul]; have := He.out; omega, by omega, by omega, by omega, by omega⟩
            case measure => simp [intOf]; omega
          · clear hlt
            go_wp2
            go_ret2
            exact ⟨ret_uu HF1.out HF2.out, rfl⟩
          · omega
        · subst hq
          clear ways
          go_wp2
          go_ret2
          exact ⟨ret_uu HF1.out HF2.out, rfl⟩

end Go.Proofs.Ytijakijjeoaikaa
