
/- The walk of package modal's words that are integers. -/
import Derived.Test.YtijakijjeoaikaaMdD
set_option linter.unusedVariables false
set_option linter.unusedSimpArgs false
namespace Go.Proofs.Ytijakijjeoaikaa
open Go.RowKit

def nuS (s : Md.S) (l : Vs.Ar) : Nat → Md.S
  | 0 => s
  | 1 => { s with se := Md.nst l 83 s.se }
  | 2 => { s with se := Md.nst l 83 s.se, tl := Md.nst l 84 s.tl }
  | 3 => { s with se := Md.nst l 83 s.se, tl := Md.nst l 84 s.tl, h := Md.nst l 72 s.h }
  | _ => Md.nus s l
def nuk (l : Vs.Ar) : Nat → Bool
  | 0 => Md.nok l 83 30000
  | 1 => Md.nok l 84 32
  | 2 => Md.nok l 72 32
  | _ => Md.nok l 68 32
theorem nue_bad {l : Vs.Ar} {k : Nat} (hk : k < 4) (h : nuk l k = false) : Md.nue l = 1 := by
  unfold Md.nue
  refine if_neg fun e => ?_
  simp only [Bool.and_eq_true] at e
  obtain ⟨⟨⟨e0, e1⟩, e2⟩, e3⟩ := e
  match k, hk with
  | 0, _ => rw [show nuk l 0 = Md.nok l 83 30000 from rfl, e0] at h; cases h
  | 1, _ => rw [show nuk l 1 = Md.nok l 84 32 from rfl, e1] at h; cases h
  | 2, _ => rw [show nuk l 2 = Md.nok l 72 32 from rfl, e2] at h; cases h
  | 3, _ => rw [show nuk l 3 = Md.nok l 68 32 from rfl, e3] at h; cases h
theorem nue_ok {l : Vs.Ar} (h : ∀ j, j < 4 → nuk l j = true) : Md.nue l = 0 := by
  unfold Md.nue
  refine if_pos ?_
  rw [show Md.nok l 83 30000 = true from h 0 (by decide), show Md.nok l 84 32 = true from h 1 (by decide), show Md.nok l 72 32 = true from h 2 (by decide), show Md.nok l 68 32 = true from h 3 (by decide)]
  rfl
theorem nok_no {l : Vs.Ar} {c m : Int} (h : Md.fo l c = false) : Md.nok l c m = true ∧ ∀ was, Md.nst l c was = was := by
  unfold Md.nok Md.nst
  rw [h]
  exact ⟨rfl, fun _ => rfl⟩
theorem nok_yes {l : Vs.Ar} {c m : Int} (h : Md.fo l c = true) : Md.nok l c m = (whole (Md.fv l c) && decide (0 ≤ wholev (Md.fv l c)) && decide (wholev (Md.fv l c) ≤ m)) ∧ ∀ was, Md.nst l c was = wholev (Md.fv l c) := by
  unfold Md.nok Md.nst
  rw [h]
  exact ⟨rfl, fun _ => rfl⟩
def NuR (s : Md.S) (l : Vs.Ar) (w : World) (e : Ending) (w' : World) : Prop := (∃ r, e = .returned (.tuple #[.agg (mdc r), .int .i64 (Md.nue l)]) ∧ (Md.nue l = 0 → r = Md.nus s l)) ∧ Qw w w'
theorem NuR.bad {s r : Md.S} {l : Vs.Ar} {w w' : World} {e : Ending} (h : Md.nue l = 1) (he : e = .returned (.tuple #[.agg (mdc r), .int .i64 1])) (q : Qw w w') : NuR s l w e w' :=
  ⟨⟨r, he.trans (by rw [h]), fun h0 => by rw [h] at h0; exact absurd h0 (by decide)⟩, q⟩
theorem NuR.ok {s : Md.S} {l : Vs.Ar} {w w' : World} {e : Ending} (h : Md.nue l = 0) (he : e = .returned (.tuple #[.agg (mdc (Md.nus s l)), .int .i64 0])) (q : Qw w w') : NuR s l w e w' :=
  ⟨⟨_, he.trans (by rw [h]), fun _ => rfl⟩, q⟩
def numA (P : Nat) : Array Value := #[.int .i64 83, .int .i64 30000, .pointer (some ⟨P, 17, none⟩), .int .i64 84, .int .i64 32, .pointer (some ⟨P, 18, none⟩), .int .i64 72, .int .i64 32, .pointer (some ⟨P, 20, none⟩), .int .i64 68, .int .i64 32, .pointer (some ⟨P, 21, none⟩)]
theorem up_to {l : Vs.Ar} {k : Nat} (h : ∀ j, j < k → nuk l j = true) (hk : nuk l k = true) : ∀ j, j < k + 1 → nuk l j = true := fun j hj => by
  by_cases e : j = k
  · rw [e]; exact hk
  · exact h j (by omega)
/-- What a round knows. -/
structure NumK (s : Md.S) (l : Vs.Ar) (P k : Nat) (c m : Int) (cl : Nat) (old : Int) : Prop where
  a0 : (numA P)[k * 3]? = some (.int .i64 c)
  a1 : (numA P)[k * 3 + 1]? = some (.int .i64 m)
  a2 : (numA P)[k * 3 + 2]? = some (.pointer (some ⟨P, cl, none⟩))
  nk : nuk l k = Md.nok l c m
  no : Md.fo l c = false → nuS s l (k + 1) = nuS s l k
  yes : Md.fo l c = true → (mdc (nuS s l k)).setIfInBounds cl (.int .i64 (wholev (Md.fv l c))) = mdc (nuS s l (k + 1))
  old : (mdc (nuS s l k))[cl]? = some (.int .i64 old)
theorem numK (s : Md.S) (l : Vs.Ar) (P k : Nat) (hk : k < 4) : ∃ c m cl old, NumK s l P k c m cl old := by
  match k, hk with
  | 0, _ => exact ⟨83, 30000, 17, s.se, rfl, rfl, rfl, rfl, fun h => by show { s with se := Md.nst l 83 s.se } = s; rw [(nok_no (m := 30000) h).2], fun h => by rw [← (nok_yes (m := 30000) h).2 s.se]; rfl, rfl⟩
  | 1, _ => exact ⟨84, 32, 18, s.tl, rfl, rfl, rfl, rfl, fun h => by show { s with se := Md.nst l 83 s.se, tl := Md.nst l 84 s.tl } = { s with se := Md.nst l 83 s.se }; rw [(nok_no (m := 32) h).2], fun h => by rw [← (nok_yes (m := 32) h).2 s.tl]; rfl, rfl⟩
  | 2, _ => exact ⟨72, 32, 20, s.h, rfl, rfl, rfl, rfl, fun h => by show { s with se := Md.nst l 83 s.se, tl := Md.nst l 84 s.tl, h := Md.nst l 72 s.h } = { s with se := Md.nst l 83 s.se, tl := Md.nst l 84 s.tl }; rw [(nok_no (m := 32) h).2], fun h => by rw [← (nok_yes (m := 32) h).2 s.h]; rfl, rfl⟩
  | 3, _ => exact ⟨68, 32, 21, s.d, rfl, rfl, rfl, rfl, fun h => by show { s with se := Md.nst l 83 s.se, tl := Md.nst l 84 s.tl, h := Md.nst l 72 s.h, d := Md.nst l 68 s.d } = { s with se := Md.nst l 83 s.se, tl := Md.nst l 84 s.tl, h := Md.nst l 72 s.h }; rw [(nok_no (m := 32) h).2], fun h => by rw [← (nok_yes (m := 32) h).2 s.d]; rfl, rfl⟩

set_option maxRecDepth 100000 in
set_option maxHeartbeats 4000000 in
theorem mdNumbers (s : Md.S) {w : World} {v : Value} {l : Vs.Ar} (h : Blk w v l) : Calls Try.prog 74 #[.agg (mdc s), v] w (NuR s l w) := by
  have HB := Lib.hid h
  clear h
  go_enter Try.func74, Try.ntmps74
  go_wp2_with (refine two_start 0 rfl ?_; intro w1 P R T; have T1 := Lib.hid T; clear T)
  refine code_of (fun w' => ∃ t, Bx w' w1.heap.size (numA P) t ∧ Two w w' P R s Md.S.zero) ⟨_, Bx.new w1 _ _, T1.out.kept (Qw.al (Qw.refl w1) _)⟩ ?_
  rintro w2 ⟨t, hA, hT⟩
  have KA : Hid (w1.heap.size ≠ P ∧ w1.heap.size ≠ R) := Lib.hid ⟨by have := T1.out.bp.lt; omega, by have := T1.out.br.lt; omega⟩
  generalize w1.heap.size = A at *
  have HA := Lib.hid hA
  have HT := Lib.hid hT
  clear hA hT T1
  go_loopw [21] (fun iv wr => ∃ k : Nat, k ≤ 4 ∧ iv = .int .i64 (k : Int) ∧ Hid (∀ j, j < k → nuk l j = true) ∧ Hid (Two w wr P R (nuS s l k) Md.S.zero) ∧ Hid (Bx wr A (numA P) t)) (fun iv _ => 4 - (intOf iv).toNat)
  case atStart => exact ⟨0, by omega, rfl, Lib.hid (fun j hj => absurd hj (Nat.not_lt_zero _)), HT, HA⟩
  case round =>
    clear HT HA
    obtain ⟨k, hk, rfl, HN, HT, HA⟩ := hrel
    by_cases hlt : k < 4
    · obtain ⟨c, m, cl, old, nk⟩ := numK s l P k hlt
      have c0 := HA.out.cell' _ _ nk.a0
      have c1 := HA.out.cell' _ _ nk.a1
      have c2 := HA.out.cell' _ _ nk.a2
      have ff := fun w' q => HB.out.find w' c q
      have NK := Lib.hid nk
      have hk4 : (k : Int) < 4 := by omega
      have hk0 : 0 ≤ (k : Int) := by omega
      clear nk
      cases hf : Md.fo l c
      · have N1 : Hid (nuk l k = true) := Lib.hid (NK.out.nk.trans (nok_no hf).1)
        have ES := Lib.hid (NK.out.no hf)
        rw [hf] at ff
        have FF := Lib.hid ff
        clear ff hf
        go_wp2_with (go_at_call 23; ((with_reducible refine (FF.out _ (Qw.al HT.out.q _)).mono ?_); rintro e w3 ⟨rfl, q⟩; have Q3 := Lib.hid (Qw.trans (Qw.al (Qw.refl wr) _) q); have T3 := Lib.hid (HT.out.kept Q3.out); clear q))
        go_roundw
        case rel => exact ⟨k + 1, by omega, by go_num, Lib.hid (up_to HN.out N1.out), Lib.hid (by rw [ES.out]; exact T3.out), Lib.hid (HA.out.kept Q3.out)⟩
        case measure => simp [intOf]; omega
      · have NY := Lib.hid (nok_yes (m := m) hf)
        have YS := Lib.hid (NK.out.yes hf)
        rw [hf] at ff
        generalize Md.fv l c = n at *
        have FF := Lib.hid ff
        have ww := fxWhole n
        clear ff hf
        cases hw : whole n
        · have NB : Hid (Md.nue l = 1) := Lib.hid (nue_bad hlt (NK.out.nk.trans (NY.out.1.trans (by rw [hw]; rfl))))
          rw [hw] at ww
          have WW := Lib.hid ww
          clear ww hw NY
          generalize wholev n = x at *
          go_wp2_with (first | (go_at_call 23; ((with_reducible refine (FF.out _ (Qw.al HT.out.q _)).mono ?_); rintro e w3 ⟨rfl, q⟩; have Q3 := Lib.hid (Qw.trans (Qw.al (Qw.refl wr) _) q); have e1 := ((Bx.new wr #[.int .i64 c, .int .i64 m, .pointer (some ⟨P, cl, none⟩)] 99).kept q).cell' 1 (.int .i64 m) rfl; have e2 := ((Bx.new wr #[.int .i64 c, .int .i64 m, .pointer (some ⟨P, cl, none⟩)] 99).kept q).cell' 2 (.pointer (some ⟨P, cl, none⟩)) rfl; have T3 := Lib.hid (HT.out.kept Q3.out); have c5 := T3.out.cell cl _ NK.out.old; have f5 := T3.out.bp.free cl; clear q)) | (go_at_call 55; ((with_reducible refine (WW.out _).mono ?_); rintro e w' ⟨rfl, rfl⟩)) | (refine ld_md 2 rfl T3.out.bp ?_) | (refine st_R 4 51 T3.out rfl rfl ?_; intro w4 T; have T4 := Lib.hid T; clear T))
          exact bodyPost_ret (ret_m2 4 5 Try.results74 rfl rfl T4.out.br) rfl (NuR.bad NB.out rfl T4.out.q)
        · by_cases h0 : wholev n < 0
          · have NB : Hid (Md.nue l = 1) := Lib.hid (nue_bad hlt (NK.out.nk.trans (NY.out.1.trans (by rw [decide_eq_false (show ¬ 0 ≤ wholev n by omega)]; simp))))
            rw [hw] at ww
            have WW := Lib.hid ww
            clear ww hw NY
            generalize wholev n = x at *
            go_wp2_with (first | (go_at_call 23; ((with_reducible refine (FF.out _ (Qw.al HT.out.q _)).mono ?_); rintro e w3 ⟨rfl, q⟩; have Q3 := Lib.hid (Qw.trans (Qw.al (Qw.refl wr) _) q); have e1 := ((Bx.new wr #[.int .i64 c, .int .i64 m, .pointer (some ⟨P, cl, none⟩)] 99).kept q).cell' 1 (.int .i64 m) rfl; have e2 := ((Bx.new wr #[.int .i64 c, .int .i64 m, .pointer (some ⟨P, cl, none⟩)] 99).kept q).cell' 2 (.pointer (some ⟨P, cl, none⟩)) rfl; have T3 := Lib.hid (HT.out.kept Q3.out); have c5 := T3.out.cell cl _ NK.out.old; have f5 := T3.out.bp.free cl; clear q)) | (go_at_call 55; ((with_reducible refine (WW.out _).mono ?_); rintro e w' ⟨rfl, rfl⟩)) | (refine ld_md 2 rfl T3.out.bp ?_) | (refine st_R 4 51 T3.out rfl rfl ?_; intro w4 T; have T4 := Lib.hid T; clear T))
            exact bodyPost_ret (ret_m2 4 5 Try.results74 rfl rfl T4.out.br) rfl (NuR.bad NB.out rfl T4.out.q)
          · by_cases h1 : m < wholev n
            · have NB : Hid (Md.nue l = 1) := Lib.hid (nue_bad hlt (NK.out.nk.trans (NY.out.1.trans (by rw [decide_eq_false (show ¬ wholev n ≤ m by omega)]; simp))))
              rw [hw] at ww
              have WW := Lib.hid ww
              clear ww hw NY
              generalize wholev n = x at *
              go_wp2_with (first | (go_at_call 23; ((with_reducible refine (FF.out _ (Qw.al HT.out.q _)).mono ?_); rintro e w3 ⟨rfl, q⟩; have Q3 := Lib.hid (Qw.trans (Qw.al (Qw.refl wr) _) q); have e1 := ((Bx.new wr #[.int .i64 c, .int .i64 m, .pointer (some ⟨P, cl, none⟩)] 99).kept q).cell' 1 (.int .i64 m) rfl; have e2 := ((Bx.new wr #[.int .i64 c, .int .i64 m, .pointer (some ⟨P, cl, none⟩)] 99).kept q).cell' 2 (.pointer (some ⟨P, cl, none⟩)) rfl; have T3 := Lib.hid (HT.out.kept Q3.out); have c5 := T3.out.cell cl _ NK.out.old; have f5 := T3.out.bp.free cl; clear q)) | (go_at_call 55; ((with_reducible refine (WW.out _).mono ?_); rintro e w' ⟨rfl, rfl⟩)) | (refine ld_md 2 rfl T3.out.bp ?_) | (refine st_R 4 51 T3.out rfl rfl ?_; intro w4 T; have T4 := Lib.hid T; clear T))
              exact bodyPost_ret (ret_m2 4 5 Try.results74 rfl rfl T4.out.br) rfl (NuR.bad NB.out rfl T4.out.q)
            · have N1 : Hid (nuk l k = true) := Lib.hid (NK.out.nk.trans (NY.out.1.trans (by rw [hw, decide_eq_true (show 0 ≤ wholev n by omega), decide_eq_true (show wholev n ≤ m by omega)]; rfl)))
              rw [hw] at ww
              have WW := Lib.hid ww
              clear ww hw NY
              generalize wholev n = x at *
              go_wp2_with (first | (go_at_call 23; ((with_reducible refine (FF.out _ (Qw.al HT.out.q _)).mono ?_); rintro e w3 ⟨rfl, q⟩; have Q3 := Lib.hid (Qw.trans (Qw.al (Qw.refl wr) _) q); have e1 := ((Bx.new wr #[.int .i64 c, .int .i64 m, .pointer (some ⟨P, cl, none⟩)] 99).kept q).cell' 1 (.int .i64 m) rfl; have e2 := ((Bx.new wr #[.int .i64 c, .int .i64 m, .pointer (some ⟨P, cl, none⟩)] 99).kept q).cell' 2 (.pointer (some ⟨P, cl, none⟩)) rfl; have T3 := Lib.hid (HT.out.kept Q3.out); have c5 := T3.out.cell cl _ NK.out.old; have f5 := T3.out.bp.free cl; clear q)) | (go_at_call 55; ((with_reducible refine (WW.out _).mono ?_); rintro e w' ⟨rfl, rfl⟩)))
              go_roundw
              case rel => exact ⟨k + 1, by omega, by go_num, Lib.hid (up_to HN.out N1.out), Lib.hid (T3.out.setP cl _ _ YS.out), Lib.hid ((HA.out.kept Q3.out).other KA.out.1 _)⟩
              case measure => simp [intOf]; omega
    · obtain rfl : k = 4 := by omega
      have N0 : Hid (Md.nue l = 0) := Lib.hid (nue_ok HN.out)
      clear hlt
      go_wp2_with (first | (refine ld_md 2 rfl HT.out.bp ?_) | (refine st_R 4 57 HT.out rfl rfl ?_; intro w4 T; have T4 := Lib.hid T; clear T))
      exact bodyPost_ret (ret_m2 4 5 Try.results74 rfl rfl T4.out.br) rfl (NuR.ok N0.out rfl T4.out.q)
end Go.Proofs.Ytijakijjeoaikaa
