
/- The arguments of an act. -/
import Derived.Test.YtmfhiabajkdikaaDoorVlB
set_option linter.unusedVariables false
set_option linter.unusedSimpArgs false
namespace Go.Proofs.YtmfhiabajkdikaaDoor
open Go.RowKit


def vcells (l : Vs.Ar) : List Value := l.flatMap fun p => [.int .i64 p.1, .int .i64 p.2]
theorem vcells_length (l : Vs.Ar) : (vcells l).length = l.length * 2 := by
  induction l with
  | nil => rfl
  | cons p l ih =>
    have : vcells (p :: l) = [.int .i64 p.1, .int .i64 p.2] ++ vcells l := rfl
    rw [this, List.length_append, ih, List.length_cons]
    simp only [List.length_cons, List.length_nil]
    omega
theorem vcells_at (l : Vs.Ar) (i : Nat) (h : i < l.length) : (vcells l)[i * 2]? = some (.int .i64 (Vs.ltr l i)) ∧ (vcells l)[i * 2 + 1]? = some (.int .i64 (Vs.num l i)) := by
  induction l generalizing i with
  | nil => simp at h
  | cons p l ih =>
    have e : vcells (p :: l) = .int .i64 p.1 :: .int .i64 p.2 :: vcells l := rfl
    rw [e]
    cases i with
    | zero => exact ⟨rfl, rfl⟩
    | succ i =>
      have k := ih i (by simpa using h)
      have e2 : (i + 1) * 2 = i * 2 + 1 + 1 := by omega
      rw [e2]
      exact k
theorem info_val : (Tryd.prog.info? 52).map (fun i => (i.zero, i.size, i.bytes)) = some (some (.agg #[.int .i64 0, .int .i64 0]), 2, 16) := by kernel_rfl

theorem own_vals {w : World} {base : Nat} {v : Value} {l : Vs.Ar} (own : w.ownsRow base 52 2 v l.length (vcells l)) (hb : ∀ i, i < l.length → -9223372036854775808 ≤ Vs.num l i ∧ Vs.num l i ≤ 9223372036854775807) : ValsB w.heap.size w v l := by
  rcases own.2 with ⟨rfl, h⟩ | ⟨g, cap, cur, rfl, hbg, hg, h1, h2, h3, h4⟩
  · have : l = [] := List.eq_nil_of_length_eq_zero h
    subst this
    exact ⟨none, 0, rfl, Nat.le_refl _, by decide, .inl rfl⟩
  · refine ⟨_, cap, rfl, h1, by unfold maxLen at h2; omega, .inr ⟨g, 0, rfl, (Array.getElem?_eq_some_iff.1 hg).1, fun i hi => ?_⟩⟩
    have k := vcells_at l i hi
    have c := own.cells (g := g) rfl
    have c0 := c _ _ k.1
    have c1 := c _ _ k.2
    rw [Addr.add_mid] at c0 c1
    rw [← Nat.add_assoc] at c1
    exact ⟨c0, c1, hb i hi⟩

theorem btw_bd (x : Int) : -1000000000000000 ≤ Vs.btw x ∧ Vs.btw x ≤ 1000000000000000 := by
  unfold Vs.btw
  have a := Int.emod_nonneg x (show (1000000000000000 - -1000000000000000 + 1 : Int) ≠ 0 by decide)
  have b := Int.emod_lt_of_pos x (show (0 : Int) < 1000000000000000 - -1000000000000000 + 1 by decide)
  generalize x % (1000000000000000 - -1000000000000000 + 1) = z at *
  omega
theorem nar_num (l : Vs.Ar) (m i : Nat) (h : i < m) : -1000000000000000 ≤ Vs.num (Vs.nar l m) i ∧ Vs.num (Vs.nar l m) i ≤ 1000000000000000 := by
  induction m with
  | zero => omega
  | succ m ih =>
    have hl := Vs.nar_length l m
    unfold Vs.num
    show -1000000000000000 ≤ ((Vs.nar l m ++ [(Vs.ltrs.getD m 0, Vs.btw (Vs.num l m))]).getD i (0, 0)).2 ∧ ((Vs.nar l m ++ [(Vs.ltrs.getD m 0, Vs.btw (Vs.num l m))]).getD i (0, 0)).2 ≤ 1000000000000000
    rw [List.getD_eq_getElem?_getD]
    by_cases e : i < m
    · rw [List.getElem?_append_left (by omega), ← List.getD_eq_getElem?_getD]
      exact ih e
    · obtain rfl : i = m := by omega
      rw [List.getElem?_append_right (by omega), hl, Nat.sub_self]
      exact btw_bd _

theorem ltr_at (i : Nat) (h : i < 4) : ((({ data := #[65, 73, 88, 90] } : ByteArray)[i]'h).toNat : Int) = Vs.ltrs.getD i 0 ∧ (({ data := #[65, 73, 88, 90] } : ByteArray)[i]'h).toNat ≤ 255 := by
  match i, h with
  | 0, _ => exact ⟨rfl, show (65 : Nat) ≤ 255 by decide⟩
  | 1, _ => exact ⟨rfl, show (73 : Nat) ≤ 255 by decide⟩
  | 2, _ => exact ⟨rfl, show (88 : Nat) ≤ 255 by decide⟩
  | 3, _ => exact ⟨rfl, show (90 : Nat) ≤ 255 by decide⟩

set_option maxRecDepth 100000 in
set_option maxHeartbeats 4000000 in
theorem vlArs {C : Nat} {w : World} {u : Value} {a : Vs.A} (h : ActV C w u a) (hC : C ≤ w.heap.size) :
    Calls Tryd.prog 33 #[u] w fun e w' => (∃ sv, e = .returned sv ∧ ValsB w'.heap.size w' sv a.ars) ∧ Qw w w' := by
  obtain ⟨sv, rfl, hv, -⟩ := h
  unfold Vs.A.ars
  obtain ⟨x, n, v, near, l⟩ := a
  simp only at hv ⊢
  have hv2 := hv
  obtain ⟨sa, sc, rfl, l1, l2, hA⟩ := hv
  cases near with
  | false =>
    simp only [Bool.false_eq_true, if_false]
    have HV := Lib.hid hv2
    clear hv2 hA
    go_enter Tryd.func33, Tryd.ntmps33
    go_wp2
    go_ret
    exact ⟨⟨_, rfl, (HV.out.kept (Below.mono (Qw.al (Qw.refl w) _) hC) (Nat.le_refl _)).mono (by simp; omega)⟩, Qw.al (Qw.refl w) _⟩
  | true =>
    simp only [if_true]
    have HA := Lib.hid hA
    clear hv2 hA
    go_enter Tryd.func33, Tryd.ntmps33
    go_wp2
    refine code_of (fun w' => ∃ t, Bx w' w.heap.size #[.int .i64 x, .int .i64 n, .int .i64 v, .bool true, .slice sa l.length sc] t ∧ Qw w w') ⟨_, Bx.new w _ _, Qw.al (Qw.refl w) _⟩ ?_
    rintro w1 ⟨t, hX, hq⟩
    obtain ⟨D, hD⟩ : ∃ D, D = w.heap.size := ⟨_, rfl⟩
    rw [← hD] at hX ⊢
    have HX := Lib.hid hX
    have HQ := Lib.hid hq
    have KD := Lib.hid hD
    clear hX hq hD
    go_loopw [3, 4] (fun lv iv wr => ∃ (i : Nat) (sl : Value), i ≤ min l.length 4 ∧ sl = lv ∧ iv = .int .i64 (i : Int) ∧ Hid (wr.ownsRow (D + 1) 52 2 sl i (vcells (Vs.nar l i))) ∧ Hid (Bx wr D #[.int .i64 x, .int .i64 n, .int .i64 v, .bool true, .slice sa l.length sc] t) ∧ Hid (Qw w wr)) (fun _ iv _ => 4 - (intOf iv).toNat)
    case atStart => exact ⟨0, _, by omega, rfl, rfl, Lib.hid (World.ownsRow_nil _ _ _ _), HX, HQ⟩
    case round =>
      clear HX HQ
      obtain ⟨i, sl, hi, rfl, rfl, HO, HX, HQ⟩ := hrel
      have c4 := HX.out.cell' 4 _ rfl
      by_cases hlt : i < min l.length 4
      · rcases HA.out with h | ⟨b, off, rfl, hb, hc⟩
        · rw [h] at hlt; simp at hlt
        · obtain ⟨_, c1, b1, b2⟩ := hc i (by omega)
          have bt : ∀ w, Calls Tryd.prog 22 #[.int .i64 (Vs.num l i), .int .i64 (-1000000000000000), .int .i64 1000000000000000] w fun e w' => e = .returned (.int .i64 (Vs.btw (Vs.num l i))) ∧ w = w' := fun w => betweenW (Vs.num l i) (-1000000000000000) 1000000000000000 b1 b2 (by decide) (by decide) (by decide) (by decide) w
          have BT := Lib.hid bt
          clear bt
          have NC : Hid (Vs.nar l (i + 1) = Vs.nar l i ++ [(Vs.ltrs.getD i 0, Vs.btw (Vs.num l i))]) := Lib.hid rfl
          have hl1 : (i : Int) < (l.length : Int) := by omega
          have hl4 : (i : Int) < 4 := by omega
          have hl4n : i < 4 := by omega
          have hl0 : 0 ≤ (i : Int) := by omega
          have hi63 : (i : Int) ≤ 9223372036854775806 := by omega
          obtain ⟨S, hS⟩ : ∃ S : World → Prop, ∀ w', S w' ↔ Qw wr w' := ⟨_, fun _ => Iff.rfl⟩
          have HS := Lib.hid hS
          have hDl := HX.out.lt
          have C1 := Lib.hid (fun w' (q : S w') => ((HQ.out.trans ((hS w').1 q)).cell (p := ⟨b, off + i * 2 + 1, none⟩) (by show b < w.heap.size; omega)).trans c1)
          have C4 := Lib.hid (fun w' (q : S w') => (((hS w').1 q).cell (p := ⟨D, 4, none⟩) hDl).trans c4)
          clear hc c1 hS b1 b2
          generalize Vs.num l i = y at *
          generalize Vs.btw y = bb at *
          go_wp2
          refine wp_region_M S 13 (by kernel_rfl) ?_
          have hSS : S (World.drew wr) := (HS.out _).2 (Qw.dr (Qw.refl wr))
          refine wpAnyM_take (i := 0) (v := ?_) rfl (by kernel_rfl) (fun _ _ _ h => h) (Or.inl ⟨by rfl, ?_⟩) hSS ?_
          rotate_left 1
          · intro wS hwS
            go_simp
            try with_reducible rfl
          simp only [List.getElem_toArray, List.getElem_cons_succ, List.getElem_cons_zero, Act.put, List.setIfInBounds_toArray, List.set_cons_zero, List.set_cons_succ]
          refine wpAnyM_take (i := 1) (v := ?_) rfl (by kernel_rfl) (fun _ _ _ h => h) (Or.inl ⟨by rfl, ?_⟩) hSS ?_
          rotate_left 1
          · intro wS hwS
            go_simp
            try with_reducible rfl
          simp only [List.getElem_toArray, List.getElem_cons_succ, List.getElem_cons_zero, Act.put, List.setIfInBounds_toArray, List.set_cons_zero, List.set_cons_succ]
          refine wpAnyM_take (i := 2) (v := ?_) rfl (by kernel_rfl) (fun _ _ _ h => h) (Or.inl ⟨by rfl, ?_⟩) hSS ?_
          rotate_left 1
          · intro wS hwS
            go_simp
            try with_reducible rfl
          simp only [List.getElem_toArray, List.getElem_cons_succ, List.getElem_cons_zero, Act.put, List.setIfInBounds_toArray, List.set_cons_zero, List.set_cons_succ]
          have hz := ltr_at i hl4n
          generalize (({ data := #[65, 73, 88, 90] } : ByteArray)[i]'hl4n).toNat = z at *
          obtain ⟨hz, hzb⟩ := hz
          have z1 : (z : Int) ≤ 255 := by omega
          have z0 : (0 : Int) ≤ (z : Int) := by omega
          rw [← hz] at NC
          clear hz
          have zw : IntKind.i64.wrap (z : Int) = z := IntWalk.i64_in _ (by omega)
          refine wpAnyM_take (i := 3) (v := ?_) rfl (by kernel_rfl) (fun _ _ _ h => h) (Or.inl ⟨by rfl, ?_⟩) hSS ?_
          rotate_left 1
          · intro wS hwS
            go_simp
            try with_reducible rfl
          simp only [List.getElem_toArray, List.getElem_cons_succ, List.getElem_cons_zero, Act.put, List.setIfInBounds_toArray, List.set_cons_zero, List.set_cons_succ]
          refine wpAnyM_take (i := 4) (v := ?_) rfl (by kernel_rfl) (fun _ _ _ h => h) (Or.inl ⟨by rfl, ?_⟩) hSS ?_
          rotate_left 1
          · intro wS hwS
            go_simp
            try with_reducible rfl
          simp only [List.getElem_toArray, List.getElem_cons_succ, List.getElem_cons_zero, Act.put, List.setIfInBounds_toArray, List.set_cons_zero, List.set_cons_succ]
          refine wpAnyM_take (i := 5) (v := ?_) rfl (by kernel_rfl) (fun _ _ _ h => h) (Or.inl ⟨by rfl, ?_⟩) hSS ?_
          rotate_left 1
          · intro wS hwS
            have c := C4.out wS hwS; go_simp
            try with_reducible rfl
          simp only [List.getElem_toArray, List.getElem_cons_succ, List.getElem_cons_zero, Act.put, List.setIfInBounds_toArray, List.set_cons_zero, List.set_cons_succ]
          refine wpAnyM_take (i := 6) (v := ?_) rfl (by kernel_rfl) (fun _ _ _ h => h) (Or.inl ⟨by rfl, ?_⟩) hSS ?_
          rotate_left 1
          · intro wS hwS
            go_simp
            try with_reducible rfl
          simp only [List.getElem_toArray, List.getElem_cons_succ, List.getElem_cons_zero, Act.put, List.setIfInBounds_toArray, List.set_cons_zero, List.set_cons_succ]
          refine wpAnyM_take (i := 7) (v := ?_) rfl (by kernel_rfl) (fun _ _ _ h => h) (Or.inl ⟨by rfl, ?_⟩) hSS ?_
          rotate_left 1
          · intro wS hwS
            go_simp
            try with_reducible rfl
          simp only [List.getElem_toArray, List.getElem_cons_succ, List.getElem_cons_zero, Act.put, List.setIfInBounds_toArray, List.set_cons_zero, List.set_cons_succ]
          refine wpAnyM_take (i := 8) (v := ?_) rfl (by kernel_rfl) (fun _ _ _ h => h) (Or.inl ⟨by rfl, ?_⟩) hSS ?_
          rotate_left 1
          · intro wS hwS
            go_simp
            try with_reducible rfl
          simp only [List.getElem_toArray, List.getElem_cons_succ, List.getElem_cons_zero, Act.put, List.setIfInBounds_toArray, List.set_cons_zero, List.set_cons_succ]
          refine wpAnyM_take (i := 9) (v := ?_) rfl (by kernel_rfl) (fun _ _ _ h => h) (Or.inl ⟨by rfl, ?_⟩) hSS ?_
          rotate_left 1
          · intro wS hwS
            have c := C1.out wS hwS; go_simp
            try with_reducible rfl
          simp only [List.getElem_toArray, List.getElem_cons_succ, List.getElem_cons_zero, Act.put, List.setIfInBounds_toArray, List.set_cons_zero, List.set_cons_succ]
          refine wpAnyM_one (i := 10) rfl (by kernel_rfl) rfl (fun K hK => ?_)
          go_simp
          refine (BT.out _).mono ?_
          rintro e w5 ⟨rfl, rfl⟩
          refine hK _ _ (fun _ => hSS) ?_
          clear hK K
          try simp only [List.getElem_toArray, List.getElem_cons_succ, List.getElem_cons_zero, Act.put, List.setIfInBounds_toArray, List.set_cons_zero, List.set_cons_succ]
          refine wpAnyM_take (i := 11) (v := ?_) rfl (by kernel_rfl) (fun _ _ _ h => h) (Or.inl ⟨by rfl, ?_⟩) hSS ?_
          rotate_left 1
          · intro wS hwS
            go_simp
            try with_reducible rfl
          simp only [List.getElem_toArray, List.getElem_cons_succ, List.getElem_cons_zero, Act.put, List.setIfInBounds_toArray, List.set_cons_zero, List.set_cons_succ]
          refine wpAnyM_one (i := 12) rfl (by kernel_rfl) rfl (fun K hK => ?_)
          go_simp
          have hSS1 : S (World.drew (wr.alloc (.cells #[.int .i64 (z : Int), .int .i64 bb] 52))) := (HS.out _).2 (Qw.dr (Qw.al (Qw.refl wr) _))
          refine hK _ _ (fun _ => hSS1) ?_
          clear hK K hSS
          try simp only [List.getElem_toArray, List.getElem_cons_succ, List.getElem_cons_zero, Act.put, List.setIfInBounds_toArray, List.set_cons_zero, List.set_cons_succ]
          obtain ⟨i0, hi0, hz0, hz1, hz2⟩ := info_parts info_val
          refine wpAnyM_one (i := 13) rfl (by kernel_rfl) rfl (fun K hK => ?_)
          refine wp_append_own _ (.tmp 21) (.tmp 33) 32 rfl (D + 1) 52 i0 _ 2 16 Tryd.underlying32 hi0 hz0 hz1 hz2 rfl (by decide) sl i (vcells (Vs.nar l i)) rfl (World.ownsRow.alloc HO.out _) ⟨wr.heap.size, 0, none⟩ 1 1 [.int .i64 (z : Int), .int .i64 bb] rfl rfl (fun j u hj => by
            have hc := (Bx.new wr #[.int .i64 (z : Int), .int .i64 bb] 52).cell j
            rw [Addr.add_mid, Nat.zero_add]
            exact hc.trans (by simpa using hj)) (by intro u hu; simp at hu; rcases hu with rfl | rfl <;> rfl) (by unfold maxLen; omega) (by omega) (by have := HQ.out.size; have := KD.out; have := HX.out.lt; simp; omega) ?_
          intro v' w6 own gb _
          refine hK _ _ (fun h => absurd h (by decide)) ?_
          clear hK K hSS1
          have ob : ∀ k, sl.ownBlock = some k → D + 1 ≤ k := fun k hk => (World.ownsRow.lt HO.out k hk).1
          have XD : Bx w6 D #[.int .i64 x, .int .i64 n, .int .i64 v, .bool true, .slice (some ⟨b, off, none⟩) l.length sc] t := (gb.block D (by have := HX.out.lt; simp; omega) (fun e => by have := ob D e.symm; omega)).trans (Bx.dr (HX.out.alloc _))
          have Q6 : Qw w w6 := ⟨gb.os.trans HQ.out.os, gb.tape.trans HQ.out.tape, gb.output.trans HQ.out.output, Nat.le_trans HQ.out.size (Nat.le_trans (by simp) gb.size), fun k hk => (gb.block k (by have := HQ.out.size; simp; omega) (fun e => by have := ob k e.symm; have := KD.out; omega)).trans ((Below.heap_alloc wr _ k (by have := HQ.out.size; omega)).trans (HQ.out.block k hk))⟩
          have OWN : Hid (w6.ownsRow (D + 1) 52 2 v' (i + 1) (vcells (Vs.nar l (i + 1)))) := Lib.hid (by
            rw [NC.out, show vcells (Vs.nar l i ++ [((z : Int), bb)]) = vcells (Vs.nar l i) ++ [.int .i64 (z : Int), .int .i64 bb] from by simp [vcells]]
            exact own)
          replace XD := Lib.hid XD
          replace Q6 := Lib.hid Q6
          clear own gb ob hi0 hz0 hz1 hz2
          try simp only [List.getElem_toArray, List.getElem_cons_succ, List.getElem_cons_zero, Act.put, List.setIfInBounds_toArray, List.set_cons_zero, List.set_cons_succ]
          refine wpAnyM_one (i := 14) rfl (by kernel_rfl) rfl (fun K hK => ?_)
          go_simp
          refine hK _ _ (fun h => absurd h (by decide)) ?_
          clear hK K
          refine wpAnyM_done (by kernel_rfl) ?_ _
          go_wp2
          go_roundw
          case rel => exact ⟨i + 1, _, by omega, rfl, by go_num, OWN, XD, Q6⟩
          case measure => simp [intOf]; omega
      · obtain rfl : i = min l.length 4 := by omega
        have hOV : ValsB wr.heap.size wr sl (Vs.nar l (min l.length 4)) := own_vals (by rw [Vs.nar_length]; exact HO.out) (fun i hi => by rw [Vs.nar_length] at hi; have := nar_num l _ i hi; omega)
        have HOV := Lib.hid hOV
        by_cases h4 : l.length ≤ 4
        · have e : min l.length 4 = l.length := by omega
          rw [e]
          clear hOV hi hlt
          go_wp2
          go_ret
          exact ⟨⟨_, rfl, HOV.out⟩, HQ.out⟩
        · have e : min l.length 4 = 4 := by omega
          rw [e]
          have h5 : (4 : Int) < (l.length : Int) := by omega
          clear hOV hi hlt
          go_wp2
          go_ret
          exact ⟨⟨_, rfl, HOV.out⟩, HQ.out⟩

end Go.Proofs.YtmfhiabajkdikaaDoor
