/- SyntaxRight of layer 6: what Depth, Right and Print return for any expression.
   Conditions: the five listed tables lie as the program's own text lays them (the card ties them); every input. -/
import Derived.Test.YtbcbnkapipimmaaGreatDoorZRg4
import Derived.Test.YtbcbnkapipimmaaGreatDoorZRg16
import Derived.Test.YtbcbnkapipimmaaGreatDoorZRg22
import Derived.Test.YtbcbnkapipimmaaGreatDoorZRg24
import Derived.Test.YtbcbnkapipimmaaGreatDoorZRg25
import Derived.Deep.Cut

set_option linter.unusedVariables false
set_option linter.unusedSimpArgs false
namespace Go.Proofs.YtbcbnkapipimmaaGreatDoor
open Go.ChangeShapes Go.WideShapes Go.ChangeAt Go.RowKit
theorem exprB6 (B : Nat) (v : Value) (zs : List Int) (k : Nat) {w : World} (hT : TapeAt w B v zs k) : Calls Tryz.prog 19 #[.pointer (some ⟨B, 0, none⟩), .int .i64 6] w fun e w' => ∃ (x : Sy.Ex) (ka : Option Addr) (kc : Nat),
    e = .returned (.agg #[.int .i64 x.op, .int .i64 x.n, .slice ka x.ks.length kc]) ∧ KidsB w' (fun k => w.heap.size ≤ k) ka kc x.ks ∧ Below B w w' := by
  have hB : B < w.heap.size := TpB.lt ⟨k, hT⟩
  refine (exprA 6 w (by decide) (by decide) ⟨k, hT⟩).mono ?_
  rintro e w' ⟨x, ka, kc, rfl, ok, dp, K, _, q⟩
  exact ⟨x, ka, kc, rfl, K, q.below (Nat.le_of_lt hB)⟩
theorem bx_at (w : World) (cs : Array Value) (t : TypeId) (n : Nat) (h : w.heap.size = n) : Bx (w.alloc (.cells cs t)) n cs t := h ▸ Bx.new w cs t
theorem KidsB.lt {w : World} {S : Nat → Prop} {a : Option Addr} {cap : Nat} {ks : List Sy.Ex} (h : KidsB w S a cap ks) : KidsB w (fun b => b < w.heap.size) a cap ks := h.go fun b _ hb => ⟨rfl, hb⟩
theorem IntsB.then {w w' : World} {v : Value} {zs : List Int} (h : IntsB w.heap.size w v zs) (q : Qw w w') : IntsB w'.heap.size w' v zs := (h.kept q (Nat.le_refl _)).mono q.size
set_option maxRecDepth 100000 in
set_option maxHeartbeats 4000000 in
theorem walk_syntaxRight (v0 : Value) (x : Sy.Ex) (v1 : Value) (zs : List Int) (k : Int) (k1 : -9223372036854775808 ≤ k) (k2 : k ≤ 9223372036854775807) (w : World) (hx : ExprB w v0 x) (hv : IntsB w.heap.size w v1 zs) (hb : Tb w) (ht : Tn w) (ho : Ow w) :
    Calls Tryz.prog 4 #[v0, v1, .int .i64 k] w fun e w' => e = .returned (.bool true) ∧ Qw w w' := by
  obtain ⟨xa, xc, rfl, hK⟩ := hx
  have aw : ∀ w1, Qw w w1 → _ := fun w1 q => awake6 w1 (ht.kept q) (ho.kept q) (hb.kept q)
  have AW := Lib.hid aw
  have HV := Lib.hid hv
  have HO := Lib.hid ho
  have HB := Lib.hid hb
  have TX := Lib.hid (fun w1 (q : Qw w w1) => told6 x.op x.n x.ks xa xc _ w1 (ho.kept q) (hb.kept q) (hK.kept q))
  have eX : Sy.lgt 6 (.mk x.op x.n x.ks) = Sy.lgt 6 x := by cases x; rfl
  have lx : ∀ w1, Qw w w1 → Calls Tryz.prog 17 #[.agg #[.int .i64 x.op, .int .i64 x.n, .slice xa x.ks.length xc], .int .i64 6] w1 fun e w' => e = .returned (.bool (Sy.lgt 6 (.mk x.op x.n x.ks))) ∧ Qw w1 w' := fun w1 q => sx_light 6 x.op x.n x.ks xa xc _ w1 (by decide) (hK.kept q)
  rw [eX] at lx
  have m0 := Int.emod_nonneg k (show (20 : Int) ≠ 0 by decide)
  have m1 := Int.emod_lt_of_pos k (show (0 : Int) < 20 by decide)
  have MD := Lib.hid (fun w => modW k 20 k1 k2 (by decide) (by decide) w)
  obtain ⟨m, hm⟩ : ∃ m : Nat, k % 20 = m := ⟨(k % 20).toNat, by omega⟩
  rw [hm] at MD
  have hm20 : m < 20 := by omega
  obtain ⟨xl1, xl2⟩ := hK.cap
  clear hv ht ho hb aw hK eX m0 m1 k1 k2 hm
  cases hl : Sy.lgt 6 x with
  | false =>
    rw [hl] at lx
    have LX := Lib.hid lx
    clear lx hl
    go_enter Tryz.func4, Tryz.ntmps4
    go_upto_region 1 with fail
    refine code_of (fun w1 => Hid (Bx w1 w.heap.size #[.int .i64 x.op, .int .i64 x.n, .slice xa x.ks.length xc] 27) ∧ Hid (Qw w w1)) ⟨Lib.hid (Bx.new w _ _), Lib.hid (Qw.al (Qw.refl w) _)⟩ ?_
    rintro w1 ⟨BX, QB⟩
    obtain ⟨D, hD⟩ : ∃ D, D = w.heap.size := ⟨_, rfl⟩
    rw [← hD] at BX ⊢
    replace hD := Lib.hid hD
    have c0 := BX.out.cell' 0 _ rfl
    have c1 := BX.out.cell' 1 _ rfl
    have c2 := BX.out.cell' 2 _ rfl
    go_wp2_with (first
    | (go_at_call 17; ((with_reducible refine (LX.out _ QB.out).mono ?_); rintro e wl ⟨rfl, q⟩; have QL := Lib.hid (Qw.trans QB.out q); have UB := Lib.hid q; clear q))
    | (go_at_call 15; ((with_reducible refine (AW.out _ QL.out).mono ?_); rintro e wa ⟨rfl, q⟩; have Q1 := Lib.hid (Qw.trans QL.out q); clear q)))
    go_ret
    exact ⟨rfl, Q1.out⟩
  | true =>
    rw [hl] at lx
    have LX := Lib.hid lx
    clear lx hl
    by_cases hz : zs.length ≤ 120
    · have dz : decide (zs.length ≤ 120) = true := decide_eq_true hz
      go_enter Tryz.func4, Tryz.ntmps4
      go_upto_region 1 with fail
      refine code_of (fun w1 => Hid (Bx w1 w.heap.size #[.int .i64 x.op, .int .i64 x.n, .slice xa x.ks.length xc] 27) ∧ Hid (Qw w w1)) ⟨Lib.hid (Bx.new w _ _), Lib.hid (Qw.al (Qw.refl w) _)⟩ ?_
      rintro w1 ⟨BX, QB⟩
      obtain ⟨D, hD⟩ : ∃ D, D = w.heap.size := ⟨_, rfl⟩
      rw [← hD] at BX ⊢
      replace hD := Lib.hid hD
      have c0 := BX.out.cell' 0 _ rfl
      have c1 := BX.out.cell' 1 _ rfl
      have c2 := BX.out.cell' 2 _ rfl
      go_upto_region 5 with (first
    | (go_at_call 17; ((with_reducible refine (LX.out _ QB.out).mono ?_); rintro e wl ⟨rfl, q⟩; have QL := Lib.hid (Qw.trans QB.out q); have UB := Lib.hid q; clear q))
    | (go_at_call 18; ((with_reducible refine (lightF _ _ _ _ (HV.out.then QL.out)).mono ?_); rintro e w' ⟨rfl, rfl⟩))
    | (go_at_call 20; ((with_reducible refine (newF _ _ _ (HV.out.then QL.out)).mono ?_); rintro e wn ⟨rfl, tp, q⟩; have TP := Lib.hid tp; have QN := Lib.hid q; clear tp q))
    | (go_at_call 19; ((with_reducible refine (exprB6 _ _ _ _ TP.out).mono ?_); rintro e we ⟨y, ya, yc, rfl, hy, q⟩; have KY := Lib.hid hy; have QE := Lib.hid q; clear hy q)))
      have Q1E : Hid (Qw w1 we) := Lib.hid (Below.trans (Qw.trans UB.out QN.out) (Below.mono QE.out UB.out.size))
      refine code_of (fun w2 => Hid (Bx w2 D #[.int .i64 x.op, .int .i64 x.n, .slice xa x.ks.length xc] 27) ∧ Hid (Bx w2 we.heap.size #[.int .i64 y.op, .int .i64 y.n, .slice ya y.ks.length yc] 27) ∧ Hid (Bx w2 (we.heap.size + 1) #[.int .i64 y.op, .int .i64 y.n, .slice ya y.ks.length yc] 27) ∧ Hid (KidsB w2 (fun b => b ≠ we.heap.size + 1) ya yc y.ks) ∧ Hid (Qw w w2)) ⟨Lib.hid (((BX.out.kept Q1E.out).alloc _).alloc _), Lib.hid ((Bx.new we _ _).alloc _), Lib.hid (by have h := Bx.new (we.alloc (.cells #[.int .i64 y.op, .int .i64 y.n, .slice ya y.ks.length yc] 27)) #[.int .i64 y.op, .int .i64 y.n, .slice ya y.ks.length yc] 27; rw [show (we.alloc (.cells #[.int .i64 y.op, .int .i64 y.n, .slice ya y.ks.length yc] 27)).heap.size = we.heap.size + 1 by simp] at h; exact h), Lib.hid ((KY.out.lt.kept (Qw.al (Qw.al (Qw.refl we) _) _)).mono (fun b h => by omega)), Lib.hid (Qw.trans QB.out (Qw.al (Qw.al Q1E.out _) _))⟩ ?_
      have hDY : D < we.heap.size + 1 := by have := (BX.out.kept Q1E.out).lt; omega
      obtain ⟨Y, hY⟩ : ∃ Y, Y = we.heap.size := ⟨_, rfl⟩
      rw [← hY] at hDY ⊢
      have ZN : Hid (D ≠ Y + 1 ∧ Y ≠ Y + 1 ∧ w.heap.size ≤ Y + 1) := Lib.hid ⟨by omega, by omega, by have := QB.out.size; have := Q1E.out.size; omega⟩
      clear hDY hY KY QE QN UB QL TP Q1E BX c0 c1 c2
      generalize hZ : Y + 1 = Z at ZN ⊢
      clear hZ
      rintro w2 ⟨BD, BY, BZ, KY, QQ⟩
      go_upto_region 6 with (first
    | (go_at_call 11; ((with_reducible refine (MD.out _).mono ?_); rintro e w' ⟨rfl, rfl⟩)))
      go_loopw [9] (fun iv wr => ∃ (n : Nat) (d : Sy.Ex) (da : Option Addr) (dc : Nat), iv = .int .i64 (n : Int) ∧ n < 20 ∧ Hid (Bx wr D #[.int .i64 x.op, .int .i64 x.n, .slice xa x.ks.length xc] 27) ∧ Hid (Bx wr Y #[.int .i64 y.op, .int .i64 y.n, .slice ya y.ks.length yc] 27) ∧ Hid (Bx wr Z #[.int .i64 d.op, .int .i64 d.n, .slice da d.ks.length dc] 27) ∧ Hid (KidsB wr (fun b => b ≠ Z) ya yc y.ks) ∧ Hid (KidsB wr (fun b => b ≠ Z) da dc d.ks) ∧ Hid (Qw w wr)) (fun iv _ => (intOf iv).toNat)
      case atStart => exact ⟨m, y, ya, yc, rfl, hm20, BD, BY, BZ, KY, KY, QQ⟩
      case round =>
        clear BD BY BZ KY QQ
        obtain ⟨n, d, da, dc, rfl, hn, BD, BY, BZ, KY, KZ, QQ⟩ := hrel
        by_cases h0 : n = 0
        · subst h0
          go_wp2_with (first
    | (go_at_call 15; ((with_reducible refine (AW.out _ QQ.out).mono ?_); rintro e wa ⟨rfl, q⟩; have Q1 := Lib.hid (Qw.trans QQ.out q); have bx := BD.out.kept q; have d0 := bx.cell' 0 _ rfl; have d1 := bx.cell' 1 _ rfl; have d2 := bx.cell' 2 _ rfl; have BY1 := Lib.hid (BY.out.kept q); have BZ1 := Lib.hid (BZ.out.kept q); have KY1 := Lib.hid (KY.out.kept q); have KZ1 := Lib.hid (KZ.out.kept q); clear bx q))
    | (go_at_call 21; ((with_reducible refine (TX.out _ Q1.out).mono ?_); rintro e wb ⟨rfl, q⟩; have Q2 := Lib.hid (Qw.trans Q1.out q); have bx := BY1.out.kept q; have e0 := bx.cell' 0 _ rfl; have e1 := bx.cell' 1 _ rfl; have e2 := bx.cell' 2 _ rfl; have BZ2 := Lib.hid (BZ1.out.kept q); have KY2 := Lib.hid (KY1.out.kept q); have KZ2 := Lib.hid (KZ1.out.kept q); clear bx q))
    | (go_at_call 21; ((with_reducible refine (told6 y.op y.n y.ks ya yc _ wb (HO.out.kept Q2.out) (HB.out.kept Q2.out) KY2.out).mono ?_); rintro e wc ⟨rfl, q⟩; have Q3 := Lib.hid (Qw.trans Q2.out q); have bx := BZ2.out.kept q; have g0 := bx.cell' 0 _ rfl; have g1 := bx.cell' 1 _ rfl; have g2 := bx.cell' 2 _ rfl; have KZ3 := Lib.hid (KZ2.out.kept q); clear bx q))
    | (go_at_call 21; ((with_reducible refine (told6 d.op d.n d.ks da dc _ wc (HO.out.kept Q3.out) (HB.out.kept Q3.out) KZ3.out).mono ?_); rintro e wd ⟨rfl, q⟩; have Q4 := Lib.hid (Qw.trans Q3.out q); clear q)))
          go_ret
          exact ⟨rfl, Q4.out⟩
        · obtain ⟨j, rfl⟩ : ∃ j, n = j + 1 := ⟨n - 1, by omega⟩
          have hj : (0 : Int) < ((j + 1 : Nat) : Int) := by omega
          have z0 := BZ.out.cell' 0 _ rfl
          have z1 := BZ.out.cell' 1 _ rfl
          have z2 := BZ.out.cell' 2 _ rfl
          have f0 := BZ.out.free 0
          have f1 := BZ.out.free 1
          have f2 := BZ.out.free 2
          have zl := BZ.out.lt
          have zn : Z ≠ wr.heap.size := by omega
          clear h0
          go_wp2_with fail
          go_roundw
          case rel =>
            exact ⟨j, .mk 2 0 [d], some ⟨wr.heap.size, 0, none⟩, 1, by go_num, by omega, Lib.hid ((((BD.out.other ZN.out.1 _).other ZN.out.1 _).other ZN.out.1 _).alloc _), Lib.hid ((((BY.out.other ZN.out.2.1 _).other ZN.out.2.1 _).other ZN.out.2.1 _).alloc _), Lib.hid ((((BZ.out.set 0 _).set 1 _).set 2 _).alloc _), Lib.hid (KidsB.alloc (((KY.out.set (by simp) _).set (by simp) _).set (by simp) _) _), Lib.hid (KidsB.one (S := fun b => b ≠ Z) (x := d) (bx_at _ _ _ _ (by simp)) (by show wr.heap.size ≠ Z; omega) (KidsB.alloc (((KZ.out.set (by simp) _).set (by simp) _).set (by simp) _) _)), Lib.hid (Qw.al (Qw.sc (Qw.sc (Qw.sc QQ.out ZN.out.2.2 _) ZN.out.2.2 _) ZN.out.2.2 _) _)⟩
          case measure => simp [intOf]
    · have dz : decide (zs.length ≤ 120) = false := decide_eq_false hz
      go_enter Tryz.func4, Tryz.ntmps4
      go_upto_region 1 with fail
      refine code_of (fun w1 => Hid (Bx w1 w.heap.size #[.int .i64 x.op, .int .i64 x.n, .slice xa x.ks.length xc] 27) ∧ Hid (Qw w w1)) ⟨Lib.hid (Bx.new w _ _), Lib.hid (Qw.al (Qw.refl w) _)⟩ ?_
      rintro w1 ⟨BX, QB⟩
      obtain ⟨D, hD⟩ : ∃ D, D = w.heap.size := ⟨_, rfl⟩
      rw [← hD] at BX ⊢
      replace hD := Lib.hid hD
      have c0 := BX.out.cell' 0 _ rfl
      have c1 := BX.out.cell' 1 _ rfl
      have c2 := BX.out.cell' 2 _ rfl
      go_wp2_with (first
    | (go_at_call 17; ((with_reducible refine (LX.out _ QB.out).mono ?_); rintro e wl ⟨rfl, q⟩; have QL := Lib.hid (Qw.trans QB.out q); have UB := Lib.hid q; clear q))
    | (go_at_call 18; ((with_reducible refine (lightF _ _ _ _ (HV.out.then QL.out)).mono ?_); rintro e w' ⟨rfl, rfl⟩))
    | (go_at_call 15; ((with_reducible refine (AW.out _ QL.out).mono ?_); rintro e wa ⟨rfl, q⟩; have Q1 := Lib.hid (Qw.trans QL.out q); clear q)))
      go_ret
      exact ⟨rfl, Q1.out⟩
/-! ### the row and the card -/
theorem reads_syntaxRight (os : Os) {H : Type} (enc : TypeId × Value → H) : ∃ places, DataW.whole enc Tryz.prog ((laidWorldS os).forCall (fun _ _ => 0) ⟨#[], #[.agg #[.int .i64 0, .int .i64 0, .slice none 0 0], .slice none 0 0, .int .i64 0], []⟩).memory Tryz.f4.params.toList Rows.syntaxRightSpec.vars false #[(.agg #[.int .i64 0, .int .i64 0, .slice none 0 0] : Value), .slice none 0 0, .int .i64 0].toList 8 = some ([.agg [.lit (.int .i64 0), .lit (.int .i64 0), .nil], .nil, .lit (.int .i64 0)], [], places) :=
  ⟨[], by kernel_rfl⟩
set_option maxRecDepth 100000 in
theorem lifted_syntaxRight (os : Os) (started : os.Started) (H : Type) (enc : TypeId × Value → H) (F : Stop.Interp) :
    ReturnsInHanded {} Tryz.checked os 4 .any ((OpenSpec.ofChange Rows.syntaxRightSpec).preRow enc Tryz.prog Tryz.f4 Rows.syntaxRightRow.domain false Rows.syntaxRightRow.laid) (((OpenSpec.ofChange Rows.syntaxRightSpec).at F).post enc Tryz.prog Tryz.f4 false true false false) := by
  obtain ⟨places, hx⟩ := reads_syntaxRight os enc
  refine returnsInHanded_of_row (C := Tryz.checked) (s := OpenSpec.ofChange Rows.syntaxRightSpec) ownS started (by kernel_rfl) Tryz.func4
    (witness_row_at (enc := enc) (C := Tryz.checked) false (laidWorldS os) #[.agg #[.int .i64 0, .int .i64 0, .slice none 0 0], .slice none 0 0, .int .i64 0] rfl (by kernel_rfl) (by kernel_rfl) (by kernel_rfl)
      (OpenSpec.preRow_of_cond 8 hx (by kernel_rfl) (fun k hk => by cases hk) (by kernel_rfl) (laid_metS os _))) ?_
  intro W base args ds gs before hval0 hW _ _ _ hL _ _
  obtain ⟨hb, ht, ho⟩ := tableS hL
  have hval : ∀ (j : Nat) t v, Tryz.f4.params[j]? = some t → args[j]? = some v → Value.okWide Tryz.prog W .any base t v := hval0
  have hW' := hW
  obtain ⟨p, q, hA0, hV, rfl, hfz, hnd⟩ := hW
  have hA : DataW.TrodAll enc Tryz.prog W 0 (fun _ => true) true Tryz.f4.params.toList args.toList ds p := hA0
  rw [Tryz.params4] at hA hval
  obtain ⟨v0, vs0, d0, ds0, p0, q0, hargs, rfl, rfl, h0, r0⟩ := trodAll_cons hA
  obtain ⟨v1, vs1, d1, ds1, p1, q1, rfl, rfl, rfl, h1, r1⟩ := trodAll_cons r0
  obtain ⟨v2, vs2, d2, ds2, p2, q2, rfl, rfl, rfl, h2, r2⟩ := trodAll_cons r1
  obtain ⟨rfl, rfl, rfl⟩ := trodAll_nil r2
  obtain rfl : args = #[v0, v1, v2] := by cases args; simp_all
  obtain ⟨rfl, rfl⟩ := trodVars_none hV
  obtain ⟨u0, hu0⟩ := in_expr (hval 0 27 v0 rfl rfl) h0
  obtain ⟨u1, hu1⟩ := in_ints (hval 1 23 v1 rfl rfl) h1
  obtain ⟨a2, rfl, rfl, rfl, w2⟩ := open_int Tryz.underlying3 (hval 2 3 v2 rfl rfl) h2
  obtain ⟨x2, y2⟩ := i64_of_wf w2
  clear hA0 hval0 hL
  simp only [List.append_nil] at hW'
  refine (walk_syntaxRight v0 u0 v1 u1 a2 x2 y2 W hu0 hu1 hb ht ho).mono fun e W' ⟨he, bel⟩ => ?_
  subst he
  exact ⟨_, rfl, _, _, _, [], _, [], hW', trodAll_mk1 (shut_bool Tryz.underlying4 _), (trodAll_cons_mk (out_expr h0 bel (fun x hx => hW'.lt x (by first | exact hx | simp [hx]))) (trodAll_cons_mk (out_ints h1 bel (fun x hx => hW'.lt x (by first | exact hx | simp [hx]))) (trodAll_cons_mk (shut_int Tryz.underlying3 w2) trodAll_mk0))), rfl, Below.frame bel _, fun h => by cases h⟩
theorem syntaxRight_said : Rows.SyntaxRightSaid :=
  OpenClaim.holds_of_cond 4 Tryz.f4 rfl rfl rfl rfl rfl rfl rfl ⟨rfl, rfl, rfl, rfl, rfl⟩ rfl rfl rfl rfl rfl (by kernel_rfl) Tryz.func4 (by kernel_rfl)
    (of_decide_eq_true (by kernel_rfl)) (by unfold Func.isWrapper; first | (rw [if_pos (by decide +kernel)]; kernel_rfl) | (rw [if_neg (by decide +kernel)]; exact ⟨rfl, rfl⟩))
    (fun os started H enc _ F => by rw [OpenClaim.pre_eq_preRow]; exact lifted_syntaxRight os started H enc F)
theorem plain_syntaxRight (f : FuncId) (fn : Func) (hf : Tryz.pinned.checked.prog.funcNamed "cnc/cnclaw06.SyntaxRight" = some f) (hfn : Tryz.pinned.checked.prog.funcs[f]? = some fn) :
    true = Tryz.pinned.checked.prog.looks [] ∧ ∀ (j : Nat) t, fn.params[j]? = some t → Tryz.pinned.checked.prog.wantsStandIn t = false := by
  obtain rfl : f = 4 := Option.some.inj ((show Tryz.prog.funcNamed "cnc/cnclaw06.SyntaxRight" = some 4 by kernel_rfl).symm.trans hf) |>.symm
  obtain rfl : fn = Tryz.f4 := (Option.some.inj (Tryz.func4.symm.trans hfn)).symm
  refine ⟨by kernel_rfl, fun j t ht => ?_⟩
  rw [Tryz.params4] at ht
  have hm : t = 27 ∨ t = 23 ∨ t = 3 := by simpa using Array.mem_of_getElem? ht
  rcases hm with rfl | rfl | rfl
  · exact (show Tryz.prog.wantsStandIn 27 = false by kernel_rfl)
  · exact (show Tryz.prog.wantsStandIn 23 = false by kernel_rfl)
  · exact (show Tryz.prog.wantsStandIn 3 = false by kernel_rfl)
/-- The statement. -/
theorem syntaxRight_card : Rows.SyntaxRightCardSaid :=
  Claim7.holds_tied_plain_at .later [] _ _ _ _ syntaxRight_said (fun _ h => by cases h) (by kernel_rfl) (fun _ h => by cases h) syntaxRight_row_tie rfl ⟨rfl, rfl⟩ (by kernel_rfl) rfl plain_syntaxRight (by kernel_rfl)
end Go.Proofs.YtbcbnkapipimmaaGreatDoor

