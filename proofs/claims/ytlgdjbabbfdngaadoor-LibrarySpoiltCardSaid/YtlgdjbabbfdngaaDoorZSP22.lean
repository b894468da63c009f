/- LibrarySpoilt of layer 9: what Build makes of blocks with a right structure of which one is changed, removed or doubled.
   Conditions: the listed table lies as the program's own text lays it (the card ties it); every input. -/
import Derived.Test.YtlgdjbabbfdngaaDoorZSP0
import Derived.Test.YtlgdjbabbfdngaaDoorZSP1
import Derived.Test.YtlgdjbabbfdngaaDoorZSP21
import Derived.BigQuiet
import Derived.Deep.Cut

set_option linter.unusedVariables false
set_option linter.unusedSimpArgs false
namespace Go.Proofs.YtlgdjbabbfdngaaDoor
open Go.ChangeShapes Go.WideShapes Go.ChangeAt Go.RowKit
theorem mod_nat {v n : Int} (h : 1 ≤ n) : ∃ k : Nat, v % n = (k : Int) ∧ (k : Int) < n := by
  have h1 := Int.emod_nonneg v (show n ≠ 0 by omega)
  have h2 := Int.emod_lt_of_pos v (show 0 < n by omega)
  exact ⟨(v % n).toNat, by omega, by omega⟩
set_option maxRecDepth 100000 in
set_option maxHeartbeats 4000000 in
theorem walk_librarySpoilt (v0 : Value) (z0 : List Int) (a1 : Int) (x1 : -9223372036854775808 ≤ a1) (y1 : a1 ≤ 9223372036854775807) (a2 : Int) (x2 : -9223372036854775808 ≤ a2) (y2 : a2 ≤ 9223372036854775807) (a3 : Int) (x3 : -9223372036854775808 ≤ a3) (y3 : a3 ≤ 9223372036854775807) (w : World) (hv0 : IntsB w.heap.size w v0 z0) (ht : Ow w) :
    Calls Tryd.prog 4 #[v0, .int .i64 a1, .int .i64 a2, .int .i64 a3] w fun e w' => e = .returned (.bool true) ∧ Qw w w' := by
  have HV0 := Lib.hid hv0
  have HT := Lib.hid ht
  have AW := Lib.hid (fun w1 (q : Qw w w1) => awake9 w1 (ht.kept q))
  clear hv0 ht
  by_cases l0 : z0.length ≤ 120
  · have d0 : decide (z0.length ≤ 120) = true := decide_eq_true l0
    go_enter Tryd.func4, Tryd.ntmps4
    go_upto_region 4 with (first
      | (go_at_call 10; ((with_reducible refine (lightF _ _ _ _ HV0.out).mono ?_); rintro e w' ⟨rfl, rfl⟩))
      | (go_at_call 14; refine (newX w _ HV0.out (Qw.refl _)).mono ?_; intro e w2 hn; obtain ⟨B, rfl, hB, tp, q2⟩ := hn.open_; have TP := Lib.hid (And.intro hB (And.intro tp q2)); clear hn hB tp q2)
      | (go_at_call 15; refine (flowS w _ TP.out.1 TP.out.2.1 TP.out.2.2).mono ?_; intro e w3 hf; obtain ⟨g, cap, ds, rfl, h40, h1, hO, hD, q3⟩ := hf.open_; have HO := Lib.hid hO; have HD := Lib.hid hD; have Q3 := Lib.hid q3; clear hf hO hD q3 TP))
    obtain ⟨k, hk, hkn⟩ := mod_nat (v := a1) (n := (ds.length : Int)) (by omega)
    have hkn' : k < ds.length := by omega
    obtain ⟨j, hj, hj5⟩ := mod_nat (v := a2) (n := 5) (by omega)
    have hj5' : j < 5 := by omega
    have c1 := modW a1 (ds.length : Int) x1 y1 (by omega) (by omega) w3
    have c2 := modW a2 5 x2 y2 (by omega) (by omega) w3
    rw [hk] at c1
    rw [hj] at c2
    have C1 := Lib.hid c1
    have C2 := Lib.hid c2
    clear c1 c2 hk hj
    -- the end, from any blocks
    have fin : ∀ (wx : World) (a : Option Addr) (c : Nat) (l : List Sy.Bl), BlksB wx (fun _ => True) a c l → Qw w wx → ∀ w1, Qw wx w1 → Calls Tryd.prog 12 #[.slice a l.length c] w1 fun e w' => e = .returned (.bool true) ∧ Qw w1 w' := fun wx a c l hb q w1 q1 => builtW l a c _ w1 (HT.out.kept (Qw.trans q q1)) (hb.kept q1)
    have FIN := Lib.hid fin
    clear fin
    have KC := @OwnK.atC
    have OC : Hid (OwnK w.heap.size w3 (.slice (some ⟨g, 0, none⟩) ds.length cap) ds) := HO
    have gl := (HO.out.lt (g := g) rfl)
    have gw : w.heap.size ≤ g := gl.1
    have gl3 : g < w3.heap.size := gl.2.1
    have capl : ds.length ≤ cap ∧ cap ≤ 9223372036854775807 := by
      obtain ⟨a', c', e', f1, f2, _⟩ := HO.out.g.form
      rw [List.length_map] at e' f1
      have : cap = c' := by simpa using (by simpa using e' : _ ∧ _).2
      subst this
      exact ⟨f1, f2⟩
    clear gl KC
    obtain ⟨hd0, hdk⟩ : ∃ dk, dk = ds[k] := ⟨_, rfl⟩
    have hc5 : j = 0 ∨ j = 1 ∨ j = 2 ∨ j = 3 ∨ j = 4 := by omega
    rcases hc5 with rfl | rfl | rfl | rfl | rfl
    · have kc0 : (0 : Int) ≤ (k : Int) := by omega
      have kc01 : (0 : Int) ≤ (k : Int) + 1 := by omega
      have kc1 : (k : Int) ≤ (cap : Int) := by omega
      have kc2 : (k : Int) + 1 ≤ (cap : Int) := by omega
      have kc3 : (k : Int) + 1 ≤ (ds.length : Int) := by omega
      have kc4 : (k : Int) ≤ (ds.length : Int) := by omega
      have ek : IntKind.i64.wrap ((k : Int) + 1) = (k : Int) + 1 := IntWalk.i64_in _ (by omega)
      have et : ((k : Int) + 1).toNat = k + 1 := by omega
      have hnc : (ds.length : Int) ≤ (cap : Int) := by omega
      have kc5 : (k : Int) ≤ (k : Int) + 1 := by omega
      go_upto_region 8 with (first | (go_at_call 16; ((with_reducible refine C1.out.mono ?_); rintro e w' ⟨rfl, rfl⟩)) | (go_at_call 16; ((with_reducible refine C2.out.mono ?_); rintro e w' ⟨rfl, rfl⟩)))
      refine wp_region_M (fun _ => True) 10 (by kernel_rfl) ?_
      have hSS : (fun _ : World => True) (World.drew w3) := trivial
      by_cases hfull : cap = k + 1
      · subst hfull
        refine wpAnyM_take (i := 1) (v := ?_) rfl (by kernel_rfl) (fun _ _ _ h => h) (Or.inl ⟨by rfl, ?_⟩) hSS ?_
        rotate_left 1
        · intro wS hwS
          go_simp
          try with_reducible rfl
        simp only [List.getElem_toArray, List.getElem_cons_succ, List.getElem_cons_zero, Act.put, List.setIfInBounds_toArray, List.set_cons_zero, List.set_cons_succ]
        refine wpAnyM_take (i := 2) (v := ?_) rfl (by kernel_rfl) (fun _ _ _ h => h) (Or.inl ⟨by rfl, ?_⟩) hSS ?_
        rotate_left 1
        · intro wS hwS
          go_simp
          try with_reducible rfl
        simp only [List.getElem_toArray, List.getElem_cons_succ, List.getElem_cons_zero, Act.put, List.setIfInBounds_toArray, List.set_cons_zero, List.set_cons_succ]
        refine wpAnyM_take (i := 5) (v := ?_) rfl (by kernel_rfl) (fun _ _ _ h => h) (Or.inl ⟨by rfl, ?_⟩) hSS ?_
        rotate_left 1
        · intro wS hwS
          go_simp
          try with_reducible rfl
        simp only [List.getElem_toArray, List.getElem_cons_succ, List.getElem_cons_zero, Act.put, List.setIfInBounds_toArray, List.set_cons_zero, List.set_cons_succ]
        refine wpAnyM_take (i := 6) (v := ?_) rfl (by kernel_rfl) (fun _ _ _ h => h) (Or.inl ⟨by rfl, ?_⟩) hSS ?_
        rotate_left 1
        · intro wS hwS
          go_simp
          try with_reducible rfl
        simp only [List.getElem_toArray, List.getElem_cons_succ, List.getElem_cons_zero, Act.put, List.setIfInBounds_toArray, List.set_cons_zero, List.set_cons_succ]
        refine wpAnyM_take (i := 7) (v := ?_) rfl (by kernel_rfl) (fun _ _ _ h => h) (Or.inl ⟨by rfl, ?_⟩) hSS ?_
        rotate_left 1
        · intro wS hwS
          go_simp
          try with_reducible rfl
        simp only [List.getElem_toArray, List.getElem_cons_succ, List.getElem_cons_zero, Act.put, List.setIfInBounds_toArray, List.set_cons_zero, List.set_cons_succ]
        refine wpAnyM_take (i := 3) (v := ?_) rfl (by kernel_rfl) (fun _ _ _ h => h) (Or.inl ⟨by rfl, ?_⟩) hSS ?_
        rotate_left 1
        · intro wS hwS
          go_simp
          try with_reducible rfl
        simp only [List.getElem_toArray, List.getElem_cons_succ, List.getElem_cons_zero, Act.put, List.setIfInBounds_toArray, List.set_cons_zero, List.set_cons_succ]
        refine wpAnyM_take (i := 8) (v := ?_) rfl (by kernel_rfl) (fun _ _ _ h => h) (Or.inl ⟨by rfl, ?_⟩) hSS ?_
        rotate_left 1
        · intro wS hwS
          go_simp
          try with_reducible rfl
        simp only [List.getElem_toArray, List.getElem_cons_succ, List.getElem_cons_zero, Act.put, List.setIfInBounds_toArray, List.set_cons_zero, List.set_cons_succ]
        refine wpAnyM_one (i := 0) rfl (by kernel_rfl) rfl (fun K hK => ?_)
        go_simp
        refine hK _ ((World.drew w3).alloc (.cells #[] 37)) (fun _ => trivial) ?_
        clear hK K
        have Z0 : OwnK w3.heap.size ((World.drew w3).alloc (.cells #[] 37)) (.slice (some ⟨w3.heap.size, 0, none⟩) 0 0) [] := OwnK.zero (Bx.new (World.drew w3) _ _) (Nat.le_refl _)
        have qz : Qw w3 ((World.drew w3).alloc (.cells #[] 37)) := Qw.al (Qw.dr (Qw.refl _)) _
        have hOz : OwnK w.heap.size ((World.drew w3).alloc (.cells #[] 37)) (.slice (some ⟨g, 0, none⟩) ds.length (k + 1)) ds := (HO.out.g.go fun b _ hl => qz.block b hl).k
        obtain ⟨v1, w4, hr1, ho1, hg1, hn1⟩ := part_append Z0 hOz (g := g) rfl ⟨g, 0, none⟩ 0 (k) (k + 1) (by omega) (.inr (by rw [Nat.zero_mul])) (by simp; omega) qz.size
        have hv1 : ∃ va vn vc, v1 = .slice va vn vc := by obtain ⟨va, vc, e, _⟩ := ho1.g.form; exact ⟨va, _, vc, e⟩
        obtain ⟨va, vn, vc, rfl⟩ := hv1
        have q4 : Below w3.heap.size w3 w4 := bel_own qz (Nat.le_refl _) (fun b e => by have e' : w3.heap.size = b := (by simpa [Value.ownBlock] using e); omega) hg1
        have hO4 : OwnK w.heap.size w4 (.slice (some ⟨g, 0, none⟩) ds.length (k + 1)) ds := (HO.out.g.go fun b hb hl => q4.block b hl).k
        obtain ⟨v2, w5, hr2, ho2, hg2, hn2⟩ := part_append ho1 hO4 (g := g) rfl ⟨g, 0, none⟩ (k + 1) (0) (0) (by omega) (.inl (by omega)) (by simp; omega) q4.size
        have hv2 : ∃ va vn vc, v2 = .slice va vn vc := by obtain ⟨va, vc, e, _⟩ := ho2.g.form; exact ⟨va, _, vc, e⟩
        obtain ⟨vb, vm, vd, rfl⟩ := hv2
        have q5 : Below w3.heap.size w3 w5 := Below.trans q4 (by
          have := bel_own (B := w3.heap.size) (Qw.refl w4) q4.size (fun b e => (ho1.lt e).1) hg2
          exact this)
        have bi5 : ∀ d ∈ ds, BiB w5 (fun _ => True) d := fun d hd => (HD.out d hd).go fun b _ hl => ⟨q5.block b hl, trivial⟩
        obtain ⟨L, fa, fc, fe, fb⟩ : ∃ L fa fc, Value.slice vb vm vd = .slice fa (List.length L) fc ∧ BlksB w5 (fun _ => True) fa fc L := ⟨_, ho2.any (S := fun _ => True) (fun d hd => by
          rcases List.mem_append.1 hd with h | h
          · rcases List.mem_append.1 h with h | h
            · cases h
            · exact bi5 d (List.mem_of_mem_drop (List.mem_of_mem_take h))
          · exact bi5 d (List.mem_of_mem_drop (List.mem_of_mem_take h)))⟩
        have QF : Hid (Qw w w5) := Lib.hid (Qw.trans Q3.out q5)
        have BF := Lib.hid fb
        simp only [Value.slice.injEq] at fe
        obtain ⟨rfl, rfl, rfl⟩ := fe
        have hr1' := hr1
        have hr2' := hr2
        clear Z0 hOz ho1 hg1 hn1 hO4 ho2 hg2 hn2 bi5 fb q4 q5 qz
        refine wpAnyM_one (i := 4) rfl (by kernel_rfl) rfl (fun K hK => ?_)
        refine Lib.wp_append_run _ (.tmp 32) (.tmp 35) 22 22 rfl _ _ (by rfl) (by rfl) _ w4 hr1' ?_
        refine hK _ _ (fun _ => trivial) ?_
        clear hK K
        refine wpAnyM_one (i := 9) rfl (by kernel_rfl) rfl (fun K hK => ?_)
        refine Lib.wp_append_run _ (.tmp 36) (.tmp 40) 22 22 rfl _ _ (by rfl) (by rfl) _ w5 hr2' ?_
        refine hK _ _ (fun _ => trivial) ?_
        clear hK K
        refine wpAnyM_one (i := 10) rfl (by kernel_rfl) rfl (fun K hK => ?_)
        go_simp
        refine hK _ _ (fun h => absurd h (by decide)) ?_
        clear hK K
        refine wpAnyM_done (by kernel_rfl) ?_ _
        go_upto_region 15 with fail
        go_wp2_with (first
          | (go_at_call 11; ((with_reducible refine (AW.out _ QF.out).mono ?_); rintro e w8 ⟨rfl, q8⟩; have Q8 := Lib.hid q8; clear q8))
          | (go_at_call 12; ((with_reducible refine (FIN.out _ _ _ _ BF.out QF.out _ Q8.out).mono ?_); rintro e w9 ⟨rfl, q9⟩)))
        go_ret
        exact ⟨rfl, Qw.trans QF.out (Qw.trans Q8.out q9)⟩
      · have hfi : ¬ cap = k + 1 := hfull
        refine wpAnyM_take (i := 1) (v := ?_) rfl (by kernel_rfl) (fun _ _ _ h => h) (Or.inl ⟨by rfl, ?_⟩) hSS ?_
        rotate_left 1
        · intro wS hwS
          go_simp
          try with_reducible rfl
        simp only [List.getElem_toArray, List.getElem_cons_succ, List.getElem_cons_zero, Act.put, List.setIfInBounds_toArray, List.set_cons_zero, List.set_cons_succ]
        refine wpAnyM_take (i := 2) (v := ?_) rfl (by kernel_rfl) (fun _ _ _ h => h) (Or.inl ⟨by rfl, ?_⟩) hSS ?_
        rotate_left 1
        · intro wS hwS
          go_simp
          try with_reducible rfl
        simp only [List.getElem_toArray, List.getElem_cons_succ, List.getElem_cons_zero, Act.put, List.setIfInBounds_toArray, List.set_cons_zero, List.set_cons_succ]
        refine wpAnyM_take (i := 5) (v := ?_) rfl (by kernel_rfl) (fun _ _ _ h => h) (Or.inl ⟨by rfl, ?_⟩) hSS ?_
        rotate_left 1
        · intro wS hwS
          go_simp
          try with_reducible rfl
        simp only [List.getElem_toArray, List.getElem_cons_succ, List.getElem_cons_zero, Act.put, List.setIfInBounds_toArray, List.set_cons_zero, List.set_cons_succ]
        refine wpAnyM_take (i := 6) (v := ?_) rfl (by kernel_rfl) (fun _ _ _ h => h) (Or.inl ⟨by rfl, ?_⟩) hSS ?_
        rotate_left 1
        · intro wS hwS
          go_simp
          try with_reducible rfl
        simp only [List.getElem_toArray, List.getElem_cons_succ, List.getElem_cons_zero, Act.put, List.setIfInBounds_toArray, List.set_cons_zero, List.set_cons_succ]
        refine wpAnyM_take (i := 7) (v := ?_) rfl (by kernel_rfl) (fun _ _ _ h => h) (Or.inl ⟨by rfl, ?_⟩) hSS ?_
        rotate_left 1
        · intro wS hwS
          go_simp
          try with_reducible rfl
        simp only [List.getElem_toArray, List.getElem_cons_succ, List.getElem_cons_zero, Act.put, List.setIfInBounds_toArray, List.set_cons_zero, List.set_cons_succ]
        refine wpAnyM_take (i := 3) (v := ?_) rfl (by kernel_rfl) (fun _ _ _ h => h) (Or.inl ⟨by rfl, ?_⟩) hSS ?_
        rotate_left 1
        · intro wS hwS
          go_simp
          try with_reducible rfl
        simp only [List.getElem_toArray, List.getElem_cons_succ, List.getElem_cons_zero, Act.put, List.setIfInBounds_toArray, List.set_cons_zero, List.set_cons_succ]
        refine wpAnyM_take (i := 8) (v := ?_) rfl (by kernel_rfl) (fun _ _ _ h => h) (Or.inl ⟨by rfl, ?_⟩) hSS ?_
        rotate_left 1
        · intro wS hwS
          go_simp
          try with_reducible rfl
        simp only [List.getElem_toArray, List.getElem_cons_succ, List.getElem_cons_zero, Act.put, List.setIfInBounds_toArray, List.set_cons_zero, List.set_cons_succ]
        refine wpAnyM_one (i := 0) rfl (by kernel_rfl) rfl (fun K hK => ?_)
        go_simp
        refine hK _ ((World.drew w3).alloc (.cells #[] 37)) (fun _ => trivial) ?_
        clear hK K
        have Z0 : OwnK w3.heap.size ((World.drew w3).alloc (.cells #[] 37)) (.slice (some ⟨w3.heap.size, 0, none⟩) 0 0) [] := OwnK.zero (Bx.new (World.drew w3) _ _) (Nat.le_refl _)
        have qz : Qw w3 ((World.drew w3).alloc (.cells #[] 37)) := Qw.al (Qw.dr (Qw.refl _)) _
        have hOz : OwnK w.heap.size ((World.drew w3).alloc (.cells #[] 37)) (.slice (some ⟨g, 0, none⟩) ds.length cap) ds := (HO.out.g.go fun b _ hl => qz.block b hl).k
        obtain ⟨v1, w4, hr1, ho1, hg1, hn1⟩ := part_append Z0 hOz (g := g) rfl ⟨g, 0, none⟩ 0 (k) cap (by omega) (.inr (by rw [Nat.zero_mul])) (by simp; omega) qz.size
        have hv1 : ∃ va vn vc, v1 = .slice va vn vc := by obtain ⟨va, vc, e, _⟩ := ho1.g.form; exact ⟨va, _, vc, e⟩
        obtain ⟨va, vn, vc, rfl⟩ := hv1
        have q4 : Below w3.heap.size w3 w4 := bel_own qz (Nat.le_refl _) (fun b e => by have e' : w3.heap.size = b := (by simpa [Value.ownBlock] using e); omega) hg1
        have hO4 : OwnK w.heap.size w4 (.slice (some ⟨g, 0, none⟩) ds.length cap) ds := (HO.out.g.go fun b hb hl => q4.block b hl).k
        obtain ⟨v2, w5, hr2, ho2, hg2, hn2⟩ := part_append ho1 hO4 (g := g) rfl ⟨g, (k + 1) * 11, none⟩ (k + 1) (ds.length - (k + 1)) (cap - (k + 1)) (by omega) (.inr rfl) (by simp; omega) q4.size
        have hv2 : ∃ va vn vc, v2 = .slice va vn vc := by obtain ⟨va, vc, e, _⟩ := ho2.g.form; exact ⟨va, _, vc, e⟩
        obtain ⟨vb, vm, vd, rfl⟩ := hv2
        have q5 : Below w3.heap.size w3 w5 := Below.trans q4 (by
          have := bel_own (B := w3.heap.size) (Qw.refl w4) q4.size (fun b e => (ho1.lt e).1) hg2
          exact this)
        have bi5 : ∀ d ∈ ds, BiB w5 (fun _ => True) d := fun d hd => (HD.out d hd).go fun b _ hl => ⟨q5.block b hl, trivial⟩
        obtain ⟨L, fa, fc, fe, fb⟩ : ∃ L fa fc, Value.slice vb vm vd = .slice fa (List.length L) fc ∧ BlksB w5 (fun _ => True) fa fc L := ⟨_, ho2.any (S := fun _ => True) (fun d hd => by
          rcases List.mem_append.1 hd with h | h
          · rcases List.mem_append.1 h with h | h
            · cases h
            · exact bi5 d (List.mem_of_mem_drop (List.mem_of_mem_take h))
          · exact bi5 d (List.mem_of_mem_drop (List.mem_of_mem_take h)))⟩
        have QF : Hid (Qw w w5) := Lib.hid (Qw.trans Q3.out q5)
        have BF := Lib.hid fb
        simp only [Value.slice.injEq] at fe
        obtain ⟨rfl, rfl, rfl⟩ := fe
        have hr1' := hr1
        have hr2' := hr2
        clear Z0 hOz ho1 hg1 hn1 hO4 ho2 hg2 hn2 bi5 fb q4 q5 qz
        refine wpAnyM_one (i := 4) rfl (by kernel_rfl) rfl (fun K hK => ?_)
        refine Lib.wp_append_run _ (.tmp 32) (.tmp 35) 22 22 rfl _ _ (by rfl) (by rfl) _ w4 hr1' ?_
        refine hK _ _ (fun _ => trivial) ?_
        clear hK K
        refine wpAnyM_one (i := 9) rfl (by kernel_rfl) rfl (fun K hK => ?_)
        refine Lib.wp_append_run _ (.tmp 36) (.tmp 40) 22 22 rfl _ _ (by rfl) (by rfl) _ w5 hr2' ?_
        refine hK _ _ (fun _ => trivial) ?_
        clear hK K
        refine wpAnyM_one (i := 10) rfl (by kernel_rfl) rfl (fun K hK => ?_)
        go_simp
        refine hK _ _ (fun h => absurd h (by decide)) ?_
        clear hK K
        refine wpAnyM_done (by kernel_rfl) ?_ _
        go_upto_region 15 with fail
        go_wp2_with (first
          | (go_at_call 11; ((with_reducible refine (AW.out _ QF.out).mono ?_); rintro e w8 ⟨rfl, q8⟩; have Q8 := Lib.hid q8; clear q8))
          | (go_at_call 12; ((with_reducible refine (FIN.out _ _ _ _ BF.out QF.out _ Q8.out).mono ?_); rintro e w9 ⟨rfl, q9⟩)))
        go_ret
        exact ⟨rfl, Qw.trans QF.out (Qw.trans Q8.out q9)⟩
    · have kc0 : (0 : Int) ≤ (k : Int) := by omega
      have kc01 : (0 : Int) ≤ (k : Int) + 1 := by omega
      have kc1 : (k : Int) ≤ (cap : Int) := by omega
      have kc2 : (k : Int) + 1 ≤ (cap : Int) := by omega
      have kc3 : (k : Int) + 1 ≤ (ds.length : Int) := by omega
      have kc4 : (k : Int) ≤ (ds.length : Int) := by omega
      have ek : IntKind.i64.wrap ((k : Int) + 1) = (k : Int) + 1 := IntWalk.i64_in _ (by omega)
      have et : ((k : Int) + 1).toNat = k + 1 := by omega
      have hnc : (ds.length : Int) ≤ (cap : Int) := by omega
      have kc5 : (k : Int) ≤ (k : Int) + 1 := by omega
      go_upto_region 10 with (first | (go_at_call 16; ((with_reducible refine C1.out.mono ?_); rintro e w' ⟨rfl, rfl⟩)) | (go_at_call 16; ((with_reducible refine C2.out.mono ?_); rintro e w' ⟨rfl, rfl⟩)))
      refine wp_region_M (fun _ => True) 10 (by kernel_rfl) ?_
      have hSS : (fun _ : World => True) (World.drew w3) := trivial
      have hfi : ¬ cap = k := by omega
      refine wpAnyM_take (i := 1) (v := ?_) rfl (by kernel_rfl) (fun _ _ _ h => h) (Or.inl ⟨by rfl, ?_⟩) hSS ?_
      rotate_left 1
      · intro wS hwS
        go_simp
        try with_reducible rfl
      simp only [List.getElem_toArray, List.getElem_cons_succ, List.getElem_cons_zero, Act.put, List.setIfInBounds_toArray, List.set_cons_zero, List.set_cons_succ]
      refine wpAnyM_take (i := 2) (v := ?_) rfl (by kernel_rfl) (fun _ _ _ h => h) (Or.inl ⟨by rfl, ?_⟩) hSS ?_
      rotate_left 1
      · intro wS hwS
        go_simp
        try with_reducible rfl
      simp only [List.getElem_toArray, List.getElem_cons_succ, List.getElem_cons_zero, Act.put, List.setIfInBounds_toArray, List.set_cons_zero, List.set_cons_succ]
      refine wpAnyM_take (i := 3) (v := ?_) rfl (by kernel_rfl) (fun _ _ _ h => h) (Or.inl ⟨by rfl, ?_⟩) hSS ?_
      rotate_left 1
      · intro wS hwS
        go_simp
        try with_reducible rfl
      simp only [List.getElem_toArray, List.getElem_cons_succ, List.getElem_cons_zero, Act.put, List.setIfInBounds_toArray, List.set_cons_zero, List.set_cons_succ]
      refine wpAnyM_take (i := 6) (v := ?_) rfl (by kernel_rfl) (fun _ _ _ h => h) (Or.inl ⟨by rfl, ?_⟩) hSS ?_
      rotate_left 1
      · intro wS hwS
        go_simp
        try with_reducible rfl
      simp only [List.getElem_toArray, List.getElem_cons_succ, List.getElem_cons_zero, Act.put, List.setIfInBounds_toArray, List.set_cons_zero, List.set_cons_succ]
      refine wpAnyM_take (i := 7) (v := ?_) rfl (by kernel_rfl) (fun _ _ _ h => h) (Or.inl ⟨by rfl, ?_⟩) hSS ?_
      rotate_left 1
      · intro wS hwS
        go_simp
        try with_reducible rfl
      simp only [List.getElem_toArray, List.getElem_cons_succ, List.getElem_cons_zero, Act.put, List.setIfInBounds_toArray, List.set_cons_zero, List.set_cons_succ]
      refine wpAnyM_take (i := 4) (v := ?_) rfl (by kernel_rfl) (fun _ _ _ h => h) (Or.inl ⟨by rfl, ?_⟩) hSS ?_
      rotate_left 1
      · intro wS hwS
        go_simp
        try with_reducible rfl
      simp only [List.getElem_toArray, List.getElem_cons_succ, List.getElem_cons_zero, Act.put, List.setIfInBounds_toArray, List.set_cons_zero, List.set_cons_succ]
      refine wpAnyM_take (i := 8) (v := ?_) rfl (by kernel_rfl) (fun _ _ _ h => h) (Or.inl ⟨by rfl, ?_⟩) hSS ?_
      rotate_left 1
      · intro wS hwS
        go_simp
        try with_reducible rfl
      simp only [List.getElem_toArray, List.getElem_cons_succ, List.getElem_cons_zero, Act.put, List.setIfInBounds_toArray, List.set_cons_zero, List.set_cons_succ]
      refine wpAnyM_one (i := 0) rfl (by kernel_rfl) rfl (fun K hK => ?_)
      go_simp
      refine hK _ ((World.drew w3).alloc (.cells #[] 37)) (fun _ => trivial) ?_
      clear hK K
      have Z0 : OwnK w3.heap.size ((World.drew w3).alloc (.cells #[] 37)) (.slice (some ⟨w3.heap.size, 0, none⟩) 0 0) [] := OwnK.zero (Bx.new (World.drew w3) _ _) (Nat.le_refl _)
      have qz : Qw w3 ((World.drew w3).alloc (.cells #[] 37)) := Qw.al (Qw.dr (Qw.refl _)) _
      have hOz : OwnK w.heap.size ((World.drew w3).alloc (.cells #[] 37)) (.slice (some ⟨g, 0, none⟩) ds.length cap) ds := (HO.out.g.go fun b _ hl => qz.block b hl).k
      obtain ⟨v1, w4, hr1, ho1, hg1, hn1⟩ := part_append Z0 hOz (g := g) rfl ⟨g, 0, none⟩ 0 (k + 1) cap (by omega) (.inr (by rw [Nat.zero_mul])) (by simp; omega) qz.size
      have hv1 : ∃ va vn vc, v1 = .slice va vn vc := by obtain ⟨va, vc, e, _⟩ := ho1.g.form; exact ⟨va, _, vc, e⟩
      obtain ⟨va, vn, vc, rfl⟩ := hv1
      have q4 : Below w3.heap.size w3 w4 := bel_own qz (Nat.le_refl _) (fun b e => by have e' : w3.heap.size = b := (by simpa [Value.ownBlock] using e); omega) hg1
      have hO4 : OwnK w.heap.size w4 (.slice (some ⟨g, 0, none⟩) ds.length cap) ds := (HO.out.g.go fun b hb hl => q4.block b hl).k
      obtain ⟨v2, w5, hr2, ho2, hg2, hn2⟩ := part_append ho1 hO4 (g := g) rfl ⟨g, (k) * 11, none⟩ (k) (ds.length - k) (cap - (k)) (by omega) (.inr rfl) (by simp; omega) q4.size
      have hv2 : ∃ va vn vc, v2 = .slice va vn vc := by obtain ⟨va, vc, e, _⟩ := ho2.g.form; exact ⟨va, _, vc, e⟩
      obtain ⟨vb, vm, vd, rfl⟩ := hv2
      have q5 : Below w3.heap.size w3 w5 := Below.trans q4 (by
        have := bel_own (B := w3.heap.size) (Qw.refl w4) q4.size (fun b e => (ho1.lt e).1) hg2
        exact this)
      have bi5 : ∀ d ∈ ds, BiB w5 (fun _ => True) d := fun d hd => (HD.out d hd).go fun b _ hl => ⟨q5.block b hl, trivial⟩
      obtain ⟨L, fa, fc, fe, fb⟩ : ∃ L fa fc, Value.slice vb vm vd = .slice fa (List.length L) fc ∧ BlksB w5 (fun _ => True) fa fc L := ⟨_, ho2.any (S := fun _ => True) (fun d hd => by
        rcases List.mem_append.1 hd with h | h
        · rcases List.mem_append.1 h with h | h
          · cases h
          · exact bi5 d (List.mem_of_mem_drop (List.mem_of_mem_take h))
        · exact bi5 d (List.mem_of_mem_drop (List.mem_of_mem_take h)))⟩
      have QF : Hid (Qw w w5) := Lib.hid (Qw.trans Q3.out q5)
      have BF := Lib.hid fb
      simp only [Value.slice.injEq] at fe
      obtain ⟨rfl, rfl, rfl⟩ := fe
      have hr1' := hr1
      have hr2' := hr2
      clear Z0 hOz ho1 hg1 hn1 hO4 ho2 hg2 hn2 bi5 fb q4 q5 qz
      refine wpAnyM_one (i := 5) rfl (by kernel_rfl) rfl (fun K hK => ?_)
      refine Lib.wp_append_run _ (.tmp 44) (.tmp 48) 22 22 rfl _ _ (by rfl) (by rfl) _ w4 hr1' ?_
      refine hK _ _ (fun _ => trivial) ?_
      clear hK K
      refine wpAnyM_one (i := 9) rfl (by kernel_rfl) rfl (fun K hK => ?_)
      refine Lib.wp_append_run _ (.tmp 49) (.tmp 52) 22 22 rfl _ _ (by rfl) (by rfl) _ w5 hr2' ?_
      refine hK _ _ (fun _ => trivial) ?_
      clear hK K
      refine wpAnyM_one (i := 10) rfl (by kernel_rfl) rfl (fun K hK => ?_)
      go_simp
      refine hK _ _ (fun h => absurd h (by decide)) ?_
      clear hK K
      refine wpAnyM_done (by kernel_rfl) ?_ _
      go_upto_region 15 with fail
      go_wp2_with (first
        | (go_at_call 11; ((with_reducible refine (AW.out _ QF.out).mono ?_); rintro e w8 ⟨rfl, q8⟩; have Q8 := Lib.hid q8; clear q8))
        | (go_at_call 12; ((with_reducible refine (FIN.out _ _ _ _ BF.out QF.out _ Q8.out).mono ?_); rintro e w9 ⟨rfl, q9⟩)))
      go_ret
      exact ⟨rfl, Qw.trans QF.out (Qw.trans Q8.out q9)⟩
    · obtain ⟨m, hm, hml⟩ := mod_nat (v := a3) (n := 3) (by omega)
      have c3 := modW a3 3 x3 y3 (by omega) (by omega) w3
      rw [hm] at c3
      have C3 := Lib.hid c3
      obtain ⟨mm, hmm⟩ : ∃ mm : Int, 1 + ((m : Nat) : Int) = mm := ⟨_, rfl⟩
      have cc : w3.cell? ⟨g, k * 11 + 10, none⟩ = some (.int .i64 ds[k].b.n) := HO.out.atC hkn' (j := 10) rfl
      have cf : w3.frozen? ⟨g, k * 11 + 10, none⟩ = false := HO.out.g.free (g := g) rfl (k * 11 + 10)
      have on := HO.out.setC hkn' (j := 10) (by decide) (.int .i64 (mm)) ⟨{ ds[k].b with n := mm }, ds[k].wa, ds[k].wc, ds[k].la, ds[k].lc, ds[k].xa, ds[k].xc⟩ rfl
      have hd2 : ∀ d ∈ ds.set k ⟨{ ds[k].b with n := mm }, ds[k].wa, ds[k].wc, ds[k].la, ds[k].lc, ds[k].xa, ds[k].xc⟩, BiB (w3.setCell ⟨g, k * 11 + 10, none⟩ (.int .i64 (mm))) (fun k => g ≠ k) d := fun d hd => by
        have key : ∀ d, BiB w3 (fun k => g ≠ k) d → BiB (w3.setCell ⟨g, k * 11 + 10, none⟩ (.int .i64 (mm))) (fun k => g ≠ k) d := fun d h => h.go fun b hb _ => ⟨Below.heap_setCell _ _ _ b (by show b ≠ g; omega), hb⟩
        rcases List.mem_or_eq_of_mem_set hd with h | h
        · exact key d (HD.out d h)
        · rw [h]; exact key _ (HD.out ds[k] (List.getElem_mem hkn'))
      obtain ⟨L, fa, fc, fe, fb⟩ : ∃ L fa fc, Value.slice (some ⟨g, 0, none⟩) ds.length cap = .slice fa (List.length L) fc ∧ BlksB (w3.setCell ⟨g, k * 11 + 10, none⟩ (.int .i64 (mm))) (fun _ => True) fa fc L := by
        obtain ⟨fa, fc, fe, fb⟩ := on.any hd2
        exact ⟨_, fa, fc, fe, fb⟩
      obtain ⟨rfl, fl, rfl⟩ : some ⟨g, 0, none⟩ = fa ∧ ds.length = L.length ∧ cap = fc := by simpa using fe
      have QF : Hid (Qw w (w3.setCell ⟨g, k * 11 + 10, none⟩ (.int .i64 (mm)))) := Lib.hid (Qw.sc Q3.out gw _)
      have BF := Lib.hid fb
      have FL := Lib.hid fl
      clear c3 hm on hd2 fe fb fl
      go_upto_region 15 with (first | (go_at_call 16; ((with_reducible refine C1.out.mono ?_); rintro e w' ⟨rfl, rfl⟩)) | (go_at_call 16; ((with_reducible refine C2.out.mono ?_); rintro e w' ⟨rfl, rfl⟩)) | (go_at_call 16; ((with_reducible refine C3.out.mono ?_); rintro e w' ⟨rfl, rfl⟩)))
      clear cc cf
      rw [FL.out]
      go_wp2_with (first
        | (go_at_call 11; ((with_reducible refine (AW.out _ QF.out).mono ?_); rintro e w8 ⟨rfl, q8⟩; have Q8 := Lib.hid q8; clear q8))
        | (go_at_call 12; ((with_reducible refine (FIN.out _ _ _ _ BF.out QF.out _ Q8.out).mono ?_); rintro e w9 ⟨rfl, q9⟩)))
      go_ret
      exact ⟨rfl, Qw.trans QF.out (Qw.trans Q8.out q9)⟩
    · obtain ⟨m, hm, hml⟩ := mod_nat (v := a3) (n := 12) (by omega)
      have c3 := modW a3 12 x3 y3 (by omega) (by omega) w3
      rw [hm] at c3
      have C3 := Lib.hid c3
      have cc : w3.cell? ⟨g, k * 11 + 1, none⟩ = some (.int .i64 ds[k].b.label) := HO.out.atC hkn' (j := 1) rfl
      have cf : w3.frozen? ⟨g, k * 11 + 1, none⟩ = false := HO.out.g.free (g := g) rfl (k * 11 + 1)
      have on := HO.out.setC hkn' (j := 1) (by decide) (.int .i64 (((m : Nat) : Int))) ⟨{ ds[k].b with label := (m : Nat) }, ds[k].wa, ds[k].wc, ds[k].la, ds[k].lc, ds[k].xa, ds[k].xc⟩ rfl
      have hd2 : ∀ d ∈ ds.set k ⟨{ ds[k].b with label := (m : Nat) }, ds[k].wa, ds[k].wc, ds[k].la, ds[k].lc, ds[k].xa, ds[k].xc⟩, BiB (w3.setCell ⟨g, k * 11 + 1, none⟩ (.int .i64 (((m : Nat) : Int)))) (fun k => g ≠ k) d := fun d hd => by
        have key : ∀ d, BiB w3 (fun k => g ≠ k) d → BiB (w3.setCell ⟨g, k * 11 + 1, none⟩ (.int .i64 (((m : Nat) : Int)))) (fun k => g ≠ k) d := fun d h => h.go fun b hb _ => ⟨Below.heap_setCell _ _ _ b (by show b ≠ g; omega), hb⟩
        rcases List.mem_or_eq_of_mem_set hd with h | h
        · exact key d (HD.out d h)
        · rw [h]; exact key _ (HD.out ds[k] (List.getElem_mem hkn'))
      obtain ⟨L, fa, fc, fe, fb⟩ : ∃ L fa fc, Value.slice (some ⟨g, 0, none⟩) ds.length cap = .slice fa (List.length L) fc ∧ BlksB (w3.setCell ⟨g, k * 11 + 1, none⟩ (.int .i64 (((m : Nat) : Int)))) (fun _ => True) fa fc L := by
        obtain ⟨fa, fc, fe, fb⟩ := on.any hd2
        exact ⟨_, fa, fc, fe, fb⟩
      obtain ⟨rfl, fl, rfl⟩ : some ⟨g, 0, none⟩ = fa ∧ ds.length = L.length ∧ cap = fc := by simpa using fe
      have QF : Hid (Qw w (w3.setCell ⟨g, k * 11 + 1, none⟩ (.int .i64 (((m : Nat) : Int))))) := Lib.hid (Qw.sc Q3.out gw _)
      have BF := Lib.hid fb
      have FL := Lib.hid fl
      clear c3 hm on hd2 fe fb fl
      go_upto_region 15 with (first | (go_at_call 16; ((with_reducible refine C1.out.mono ?_); rintro e w' ⟨rfl, rfl⟩)) | (go_at_call 16; ((with_reducible refine C2.out.mono ?_); rintro e w' ⟨rfl, rfl⟩)) | (go_at_call 16; ((with_reducible refine C3.out.mono ?_); rintro e w' ⟨rfl, rfl⟩)))
      clear cc cf
      rw [FL.out]
      go_wp2_with (first
        | (go_at_call 11; ((with_reducible refine (AW.out _ QF.out).mono ?_); rintro e w8 ⟨rfl, q8⟩; have Q8 := Lib.hid q8; clear q8))
        | (go_at_call 12; ((with_reducible refine (FIN.out _ _ _ _ BF.out QF.out _ Q8.out).mono ?_); rintro e w9 ⟨rfl, q9⟩)))
      go_ret
      exact ⟨rfl, Qw.trans QF.out (Qw.trans Q8.out q9)⟩
    · obtain ⟨m, hm, hml⟩ := mod_nat (v := a3) (n := 7) (by omega)
      have c3 := modW a3 7 x3 y3 (by omega) (by omega) w3
      rw [hm] at c3
      have C3 := Lib.hid c3
      have cc : w3.cell? ⟨g, k * 11, none⟩ = some (.int .i64 ds[k].b.kind) := HO.out.atC hkn' (j := 0) rfl
      have cf : w3.frozen? ⟨g, k * 11, none⟩ = false := HO.out.g.free (g := g) rfl (k * 11)
      have on := HO.out.setC hkn' (j := 0) (by decide) (.int .i64 (((m : Nat) : Int))) ⟨{ ds[k].b with kind := (m : Nat) }, ds[k].wa, ds[k].wc, ds[k].la, ds[k].lc, ds[k].xa, ds[k].xc⟩ rfl
      have hd2 : ∀ d ∈ ds.set k ⟨{ ds[k].b with kind := (m : Nat) }, ds[k].wa, ds[k].wc, ds[k].la, ds[k].lc, ds[k].xa, ds[k].xc⟩, BiB (w3.setCell ⟨g, k * 11, none⟩ (.int .i64 (((m : Nat) : Int)))) (fun k => g ≠ k) d := fun d hd => by
        have key : ∀ d, BiB w3 (fun k => g ≠ k) d → BiB (w3.setCell ⟨g, k * 11, none⟩ (.int .i64 (((m : Nat) : Int)))) (fun k => g ≠ k) d := fun d h => h.go fun b hb _ => ⟨Below.heap_setCell _ _ _ b (by show b ≠ g; omega), hb⟩
        rcases List.mem_or_eq_of_mem_set hd with h | h
        · exact key d (HD.out d h)
        · rw [h]; exact key _ (HD.out ds[k] (List.getElem_mem hkn'))
      obtain ⟨L, fa, fc, fe, fb⟩ : ∃ L fa fc, Value.slice (some ⟨g, 0, none⟩) ds.length cap = .slice fa (List.length L) fc ∧ BlksB (w3.setCell ⟨g, k * 11, none⟩ (.int .i64 (((m : Nat) : Int)))) (fun _ => True) fa fc L := by
        obtain ⟨fa, fc, fe, fb⟩ := on.any hd2
        exact ⟨_, fa, fc, fe, fb⟩
      obtain ⟨rfl, fl, rfl⟩ : some ⟨g, 0, none⟩ = fa ∧ ds.length = L.length ∧ cap = fc := by simpa using fe
      have QF : Hid (Qw w (w3.setCell ⟨g, k * 11, none⟩ (.int .i64 (((m : Nat) : Int))))) := Lib.hid (Qw.sc Q3.out gw _)
      have BF := Lib.hid fb
      have FL := Lib.hid fl
      clear c3 hm on hd2 fe fb fl
      go_upto_region 15 with (first | (go_at_call 16; ((with_reducible refine C1.out.mono ?_); rintro e w' ⟨rfl, rfl⟩)) | (go_at_call 16; ((with_reducible refine C2.out.mono ?_); rintro e w' ⟨rfl, rfl⟩)) | (go_at_call 16; ((with_reducible refine C3.out.mono ?_); rintro e w' ⟨rfl, rfl⟩)))
      clear cc cf
      rw [FL.out]
      go_wp2_with (first
        | (go_at_call 11; ((with_reducible refine (AW.out _ QF.out).mono ?_); rintro e w8 ⟨rfl, q8⟩; have Q8 := Lib.hid q8; clear q8))
        | (go_at_call 12; ((with_reducible refine (FIN.out _ _ _ _ BF.out QF.out _ Q8.out).mono ?_); rintro e w9 ⟨rfl, q9⟩)))
      go_ret
      exact ⟨rfl, Qw.trans QF.out (Qw.trans Q8.out q9)⟩
  · have d0 : decide (z0.length ≤ 120) = false := decide_eq_false l0
    go_enter Tryd.func4, Tryd.ntmps4
    go_wp2_with (first
      | (go_at_call 10; ((with_reducible refine (lightF _ _ _ _ HV0.out).mono ?_); rintro e w' ⟨rfl, rfl⟩))
      | (go_at_call 11; ((with_reducible refine (AW.out w (Qw.refl w)).mono ?_); rintro e w' ⟨rfl, q⟩)))
    go_ret
    exact ⟨rfl, q⟩
/-! ### the row and the card -/
theorem reads_librarySpoilt (os : Os) {H : Type} (enc : TypeId × Value → H) : ∃ places, DataW.whole enc Tryd.prog ((laidWorldO os).forCall (fun _ _ => 0) ⟨#[], #[.slice none 0 0, .int .i64 0, .int .i64 0, .int .i64 0], []⟩).memory Tryd.f4.params.toList Rows.librarySpoiltSpec.vars false #[(.slice none 0 0 : Value), .int .i64 0, .int .i64 0, .int .i64 0].toList 8 = some ([.nil, .lit (.int .i64 0), .lit (.int .i64 0), .lit (.int .i64 0)], [], places) :=
  ⟨[], by kernel_rfl⟩
set_option maxRecDepth 100000 in
theorem lifted_librarySpoilt (os : Os) (started : os.Started) (H : Type) (enc : TypeId × Value → H) (F : Stop.Interp) :
    ReturnsInHanded {} Tryd.checked os 4 .any ((OpenSpec.ofChange Rows.librarySpoiltSpec).preRow enc Tryd.prog Tryd.f4 Rows.librarySpoiltRow.domain false Rows.librarySpoiltRow.laid) (((OpenSpec.ofChange Rows.librarySpoiltSpec).at F).post enc Tryd.prog Tryd.f4 false true false false) := by
  obtain ⟨places, hx⟩ := reads_librarySpoilt os enc
  refine returnsInHanded_of_row (C := Tryd.checked) (s := OpenSpec.ofChange Rows.librarySpoiltSpec) ownO started (by kernel_rfl) Tryd.func4
    (witness_row_at (enc := enc) (C := Tryd.checked) false (laidWorldO os) #[.slice none 0 0, .int .i64 0, .int .i64 0, .int .i64 0] rfl (by kernel_rfl) (by kernel_rfl) (by kernel_rfl)
      (OpenSpec.preRow_of_cond 8 hx (by kernel_rfl) (fun k hk => by cases hk) (by kernel_rfl) (laid_metO os _))) ?_
  intro W base args ds gs before hval0 hW _ _ _ hL _ _
  have ht : Ow W := tableO hL
  have hval : ∀ (j : Nat) t v, Tryd.f4.params[j]? = some t → args[j]? = some v → Value.okWide Tryd.prog W .any base t v := hval0
  have hW' := hW
  obtain ⟨p, q, hA0, hV, rfl, hfz, hnd⟩ := hW
  have hA : DataW.TrodAll enc Tryd.prog W 0 (fun _ => true) true Tryd.f4.params.toList args.toList ds p := hA0
  rw [Tryd.params4] at hA hval
  obtain ⟨v0, vs0, d0, ds0, p0, q0, hargs, rfl, rfl, h0, r0⟩ := trodAll_cons hA
  obtain ⟨v1, vs1, d1, ds1, p1, q1, rfl, rfl, rfl, h1, r1⟩ := trodAll_cons r0
  obtain ⟨v2, vs2, d2, ds2, p2, q2, rfl, rfl, rfl, h2, r2⟩ := trodAll_cons r1
  obtain ⟨v3, vs3, d3, ds3, p3, q3, rfl, rfl, rfl, h3, r3⟩ := trodAll_cons r2
  obtain ⟨rfl, rfl, rfl⟩ := trodAll_nil r3
  obtain rfl : args = #[v0, v1, v2, v3] := by cases args; simp_all
  obtain ⟨rfl, rfl⟩ := trodVars_none hV
  obtain ⟨u0, hu0⟩ := in_ints (hval 0 23 v0 rfl rfl) h0
  obtain ⟨a1, rfl, rfl, rfl, w1⟩ := open_int Tryd.underlying3 (hval 1 3 v1 rfl rfl) h1
  obtain ⟨x1, y1⟩ := i64_of_wf w1
  obtain ⟨a2, rfl, rfl, rfl, w2⟩ := open_int Tryd.underlying3 (hval 2 3 v2 rfl rfl) h2
  obtain ⟨x2, y2⟩ := i64_of_wf w2
  obtain ⟨a3, rfl, rfl, rfl, w3⟩ := open_int Tryd.underlying3 (hval 3 3 v3 rfl rfl) h3
  obtain ⟨x3, y3⟩ := i64_of_wf w3
  clear hA0 hval0 hL
  simp only [List.append_nil] at hW'
  refine (walk_librarySpoilt v0 u0 a1 x1 y1 a2 x2 y2 a3 x3 y3 W hu0 ht).mono fun e W' ⟨he, bel⟩ => ?_
  subst he
  exact ⟨_, rfl, _, _, _, [], _, [], hW', trodAll_mk1 (shut_bool Tryd.underlying4 _), (trodAll_cons_mk (out_ints h0 bel (fun x hx => hW'.lt x (by first | exact hx | simp [hx]))) (trodAll_cons_mk (shut_int Tryd.underlying3 w1) (trodAll_cons_mk (shut_int Tryd.underlying3 w2) (trodAll_cons_mk (shut_int Tryd.underlying3 w3) trodAll_mk0)))), rfl, Below.frame bel _, fun h => by cases h⟩
theorem librarySpoilt_said : Rows.LibrarySpoiltSaid :=
  OpenClaim.holds_of_cond 4 Tryd.f4 rfl rfl rfl rfl rfl rfl rfl ⟨rfl, rfl, rfl, rfl, rfl⟩ rfl rfl rfl rfl rfl (by kernel_rfl) Tryd.func4 (by kernel_rfl)
    (of_decide_eq_true (by kernel_rfl)) (by unfold Func.isWrapper; first | (rw [if_pos (by decide +kernel)]; kernel_rfl) | (rw [if_neg (by decide +kernel)]; exact ⟨rfl, rfl⟩))
    (fun os started H enc _ F => by rw [OpenClaim.pre_eq_preRow]; exact lifted_librarySpoilt os started H enc F)
theorem plain_librarySpoilt (f : FuncId) (fn : Func) (hf : Tryd.pinned.checked.prog.funcNamed "cnc/cnclaw09.LibrarySpoilt" = some f) (hfn : Tryd.pinned.checked.prog.funcs[f]? = some fn) :
    false = Tryd.pinned.checked.prog.looks [] ∧ ∀ (j : Nat) t, fn.params[j]? = some t → Tryd.pinned.checked.prog.wantsStandIn t = false := by
  obtain rfl : f = 4 := Option.some.inj ((show Tryd.prog.funcNamed "cnc/cnclaw09.LibrarySpoilt" = some 4 by kernel_rfl).symm.trans hf) |>.symm
  obtain rfl : fn = Tryd.f4 := (Option.some.inj (Tryd.func4.symm.trans hfn)).symm
  refine ⟨by kernel_rfl, fun j t ht => ?_⟩
  rw [Tryd.params4] at ht
  have hm : t = 23 ∨ t = 3 := by simpa using Array.mem_of_getElem? ht
  rcases hm with rfl | rfl
  · exact (show Tryd.prog.wantsStandIn 23 = false by kernel_rfl)
  · exact (show Tryd.prog.wantsStandIn 3 = false by kernel_rfl)
/-- The statement. -/
theorem librarySpoilt_card : Rows.LibrarySpoiltCardSaid :=
  Claim7.holds_tied_plain_at .later [] _ _ _ _ librarySpoilt_said (fun _ h => by cases h) (by kernel_rfl) (fun _ h => by cases h) librarySpoilt_row_tie rfl ⟨rfl, rfl⟩ (by kernel_rfl) rfl plain_librarySpoilt (by kernel_rfl)
end Go.Proofs.YtlgdjbabbfdngaaDoor

