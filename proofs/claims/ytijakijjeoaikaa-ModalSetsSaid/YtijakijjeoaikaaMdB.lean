
/- The walk of package modal's Check. -/
import Derived.Test.YtijakijjeoaikaaMdA
set_option linter.unusedVariables false
set_option linter.unusedSimpArgs false
namespace Go.Proofs.Ytijakijjeoaikaa
open Go.RowKit

theorem hg_snoc (l : Vs.Ar) (p : Int × Int) (g : Int) : Md.hg (l ++ [p]) g = (Md.hg l g || decide (Md.gof p = g)) := by
  unfold Md.hg
  rw [List.any_append]
  simp
theorem fo_any (l : Vs.Ar) (c : Int) : Md.fo l c = l.any fun p => decide (p.1 = c) := by
  induction l with
  | nil => rfl
  | cons p l ih => rw [(fo_cons p l c).1, List.any_cons, ih]
theorem fo_snoc (l : Vs.Ar) (p : Int × Int) (c : Int) : Md.fo (l ++ [p]) c = (Md.fo l c || decide (p.1 = c)) := by
  rw [fo_any, fo_any, List.any_append]
  simp

/-- What is marked. -/
def gmk (l : Vs.Ar) (i : Nat) : Bool := decide (i ≠ 0) && Md.hg l i
def lmk (l : Vs.Ar) (i : Nat) : Bool := decide (i ≠ 71 ∧ i ≠ 77) && Md.fo l i
def cmk (l : Vs.Ar) (i : Nat) : Bool := if i < 26 then gmk l i else lmk l (i - 26)
def cnt (l : Vs.Ar) : Array Value := ((List.range 117).map fun i => Value.bool (cmk l i)).toArray
theorem cnt_at (l : Vs.Ar) {i : Nat} (h : i < 117) : (cnt l)[i]? = some (.bool (cmk l i)) := by simp [cnt, h]
theorem cnt_set (l : Vs.Ar) (p : Int × Int) (i : Nat) (h : ∀ j, j < 117 → cmk (l ++ [p]) j = if j = i then true else cmk l j) : (cnt l).setIfInBounds i (.bool true) = cnt (l ++ [p]) := by
  apply Array.ext'
  unfold cnt
  rw [Array.toList_setIfInBounds]
  apply List.ext_getElem?
  intro j
  rw [List.getElem?_set]
  by_cases hj : j < 117
  · by_cases e : i = j
    · subst e
      simp [hj, h i hj]
    · have e2 : ¬ j = i := fun h => e h.symm
      simp [hj, h j hj, e, e2]
  · by_cases e : i = j
    · subst e
      simp [hj]
    · simp [hj, e]
theorem cnt_setg (l : Vs.Ar) (p : Int × Int) {G : Nat} (h : Md.gof p = G) (h0 : G ≠ 0) (h1 : G ≤ 25) (hx : p.1 = 71 ∨ p.1 = 77) : (cnt l).setIfInBounds G (.bool true) = cnt (l ++ [p]) := by
  refine cnt_set l p G fun j hj => ?_
  unfold cmk
  by_cases k : j < 26
  · rw [if_pos k, if_pos k]
    unfold gmk
    rw [hg_snoc, h]
    by_cases e : j = G
    · subst e; simp [h0]
    · have : ¬ ((G : Int) = j) := by omega
      simp [e, this]
  · rw [if_neg k, if_neg k, if_neg (by omega)]
    unfold lmk
    rw [fo_snoc]
    by_cases e : j - 26 = 71 ∨ j - 26 = 77
    · have : ¬ (j - 26 ≠ 71 ∧ j - 26 ≠ 77) := by omega
      simp only [decide_eq_false this, Bool.false_and]
    · have : ¬ p.1 = ((j - 26 : Nat) : Int) := by omega
      simp [this]
theorem cnt_setl (l : Vs.Ar) (p : Int × Int) {X : Nat} (h : p.1 = X) (h1 : X ≠ 71) (h2 : X ≠ 77) (hX : X ≤ 90) : (cnt l).setIfInBounds (26 + X) (.bool true) = cnt (l ++ [p]) := by
  refine cnt_set l p (26 + X) fun j hj => ?_
  unfold cmk
  by_cases k : j < 26
  · rw [if_pos k, if_pos k, if_neg (by omega)]
    unfold gmk
    rw [hg_snoc]
    have : Md.gof p = 0 := by
      unfold Md.gof Md.isC
      have : (decide (p.1 = 71) || decide (p.1 = 77)) = false := by simp; omega
      rw [this, Bool.false_and]; rfl
    rw [this]
    by_cases e : j = 0
    · subst e; rfl
    · have : ¬ ((0 : Int) = j) := by omega
      simp [this]
  · rw [if_neg k, if_neg k]
    unfold lmk
    rw [fo_snoc, h]
    by_cases e : j = 26 + X
    · subst e
      rw [if_pos rfl, show 26 + X - 26 = X by omega]
      simp [h1, h2]
    · rw [if_neg e]
      have : ¬ ((X : Int) = ((j - 26 : Nat) : Int)) := by omega
      simp [this]
theorem cnt_nil : cnt [] = (List.replicate 117 (Value.bool false)).toArray := by kernel_rfl

/-- What add leaves. -/
def AddR (B : Nat) (l : Vs.Ar) (p : Int × Int) (w : World) (e : Ending) (w' : World) : Prop :=
  e = .returned (.int .i64 (Md.cke l p)) ∧ (Md.cke l p = 0 → Bx w' B (cnt (l ++ [p])) 66) ∧ Ty B B w w'
theorem AddR.bad {B : Nat} {l : Vs.Ar} {p : Int × Int} {w w' : World} {e : Ending} (n : Int) (h : Md.cke l p = n) (hn : n ≠ 0) (he : e = .returned (.int .i64 n)) (q : Ty B B w w') : AddR B l p w e w' :=
  ⟨he.trans (by rw [h]), fun h0 => absurd (h.symm.trans h0) hn, q⟩
theorem AddR.ok {B : Nat} {l : Vs.Ar} {p : Int × Int} {w w' : World} {e : Ending} (h : Md.cke l p = 0) (he : e = .returned (.int .i64 0)) (hb : Bx w' B (cnt (l ++ [p])) 66) (q : Ty B B w w') : AddR B l p w e w' :=
  ⟨he.trans (by rw [h]), fun _ => hb, q⟩

set_option maxRecDepth 100000 in
set_option maxHeartbeats 4000000 in
theorem mdAddCode {B : Nat} {l : Vs.Ar} {w : World} (h : Bx w B (cnt l) 66) (x y : Int) (hx : x = 71 ∨ x = 77) (hv : vld y = true) :
    Calls Try.prog 56 #[.pointer (some ⟨B, 0, none⟩), .agg #[.int .i64 x, .int .i64 y]] w (AddR B l (x, y) w) := by
  have hk : Md.cke l (x, y) = if Md.isC (x, y) = false ∨ Md.gof (x, y) = 0 then 6 else if Md.hg l (Md.gof (x, y)) = true then 8 else 0 := by
    unfold Md.cke
    rw [if_neg (by simp only [hv]; simp; omega), if_pos hx]
  have hgo : Md.isC (x, y) = true → Md.gof (x, y) = Md.grp x (Md.cv (x, y)) := fun h => by unfold Md.gof Md.cv; rw [if_pos h, if_pos h]
  have H := Lib.hid h
  have hB := h.lt
  have hBn : B ≠ w.heap.size := by omega
  have CC := Lib.hid (mdCode x y)
  have GG := Lib.hid (mdGroup x (Md.cv (x, y)))
  have HK := Lib.hid hk
  have HG := Lib.hid hgo
  have kb := Md.grp_bd x (Md.cv (x, y))
  have hx' := Lib.hid hx
  clear h hk hgo hx
  generalize Md.cv (x, y) = c at *
  generalize hgr : Md.grp x c = g at *
  have HGR := Lib.hid hgr
  clear hgr
  cases hic : Md.isC (x, y)
  · have K6 : Hid (Md.cke l (x, y) = 6) := Lib.hid (HK.out.trans (if_pos (.inl hic)))
    rw [hic] at CC
    clear hic
    go_enter Try.func56, Try.ntmps56
    go_wp2_with (first | (go_at_call 40; ((with_reducible refine (CC.out _).mono ?_); rintro e w1 ⟨rfl, q⟩; have Q1 := Lib.hid q; have c0 := (Bx.new w #[.int .i64 x, .int .i64 y] 50).kept q |>.cell' 0 _ rfl; clear q)) | (go_at_call 19; ((with_reducible refine (GG.out _).mono ?_); rintro e w' ⟨rfl, rfl⟩)))
    go_ret
    exact AddR.bad 6 K6.out (by decide) rfl (Ty.of (Qw.trans (Qw.al (Qw.refl w) _) Q1.out))
  · have HGE := Lib.hid (HG.out hic)
    rw [hic] at CC
    by_cases hg0 : g = 0
    · have K6 : Hid (Md.cke l (x, y) = 6) := Lib.hid (HK.out.trans (if_pos (.inr (HGE.out.trans hg0))))
      subst hg0
      clear hic
      go_enter Try.func56, Try.ntmps56
      go_wp2_with (first | (go_at_call 40; ((with_reducible refine (CC.out _).mono ?_); rintro e w1 ⟨rfl, q⟩; have Q1 := Lib.hid q; have c0 := (Bx.new w #[.int .i64 x, .int .i64 y] 50).kept q |>.cell' 0 _ rfl; clear q)) | (go_at_call 19; ((with_reducible refine (GG.out _).mono ?_); rintro e w' ⟨rfl, rfl⟩)))
      go_ret
      exact AddR.bad 6 K6.out (by decide) rfl (Ty.of (Qw.trans (Qw.al (Qw.refl w) _) Q1.out))
    · have K2 : Hid (Md.cke l (x, y) = if Md.hg l g = true then 8 else 0) := Lib.hid (HK.out.trans ((if_neg (fun h => by rcases h with h | h; (rw [hic] at h; cases h); exact hg0 (HGE.out.symm.trans h))).trans (by rw [HGE.out])))
      obtain ⟨G, rfl⟩ := Int.eq_ofNat_of_zero_le kb.1
      have hG0 : G ≠ 0 := by omega
      have hG : G ≤ 25 := by omega
      have zg : ((G : Int) == 0) = false := beq_eq_false_iff_ne.2 hg0
      have hGi : (G : Int) < 26 := by omega
      have hG2 : G < 26 := by omega
      have cg := H.out.cell' G _ (cnt_at l (by omega))
      have fg := H.out.free G
      have eg : cmk l G = Md.hg l G := by unfold cmk gmk; rw [if_pos hG2]; simp [hG0]
      rw [eg] at cg
      have CG := Lib.hid cg
      have FG := Lib.hid fg
      clear hic eg hg0 kb cg fg
      cases hh : Md.hg l (G : Int)
      · have K0 : Hid (Md.cke l (x, y) = 0) := Lib.hid (K2.out.trans (by rw [hh]; rfl))
        rw [hh] at CG
        clear hh
        go_enter Try.func56, Try.ntmps56
        go_wp2_with (first | (go_at_call 40; ((with_reducible refine (CC.out _).mono ?_); rintro e w1 ⟨rfl, q⟩; have Q1 := Lib.hid (Qw.trans (Qw.al (Qw.refl w) _) q); have c0 := (Bx.new w #[.int .i64 x, .int .i64 y] 50).kept q |>.cell' 0 _ rfl; clear q; have cg := (Q1.out.cell (p := ⟨B, G, none⟩) hB).trans CG.out; have fg := (Q1.out.frozen (p := ⟨B, G, none⟩) hB).trans FG.out)) | (go_at_call 19; ((with_reducible refine (GG.out _).mono ?_); rintro e w' ⟨rfl, rfl⟩)))
        go_ret
        refine AddR.ok K0.out rfl ?_ (Ty.trans (Ty.of Q1.out) (Ty.setB B B _ _ _))
        rw [← cnt_setg l (x, y) (HGE.out) hG0 hG hx'.out]
        exact (H.out.kept Q1.out).set G _
      · have K8 : Hid (Md.cke l (x, y) = 8) := Lib.hid (K2.out.trans (by rw [hh]; rfl))
        rw [hh] at CG
        clear hh
        go_enter Try.func56, Try.ntmps56
        go_wp2_with (first | (go_at_call 40; ((with_reducible refine (CC.out _).mono ?_); rintro e w1 ⟨rfl, q⟩; have Q1 := Lib.hid (Qw.trans (Qw.al (Qw.refl w) _) q); have c0 := (Bx.new w #[.int .i64 x, .int .i64 y] 50).kept q |>.cell' 0 _ rfl; clear q; have cg := (Q1.out.cell (p := ⟨B, G, none⟩) hB).trans CG.out)) | (go_at_call 19; ((with_reducible refine (GG.out _).mono ?_); rintro e w' ⟨rfl, rfl⟩)))
        go_ret
        exact AddR.bad 8 K8.out (by decide) rfl (Ty.of Q1.out)

set_option maxRecDepth 100000 in
set_option maxHeartbeats 4000000 in
theorem mdAdd {B : Nat} {l : Vs.Ar} {w : World} (h : Bx w B (cnt l) 66) (x y : Int) :
    Calls Try.prog 42 #[.pointer (some ⟨B, 0, none⟩), .agg #[.int .i64 x, .int .i64 y]] w (AddR B l (x, y) w) := by
  have H := Lib.hid h
  have hB := h.lt
  have hBn : B ≠ w.heap.size := by omega
  have VV := Lib.hid (fxValid y)
  have Q1 := Lib.hid (Qw.al (Qw.refl w) (.cells #[.int .i64 x, .int .i64 y] 50))
  clear h
  by_cases h1 : x < 65
  · have K : Hid (Md.cke l (x, y) = 1) := Lib.hid (if_pos (.inl h1))
    go_enter Try.func42, Try.ntmps42
    go_wp2
    go_ret
    exact AddR.bad 1 K.out (by decide) rfl (Ty.of Q1.out)
  by_cases h2 : 90 < x
  · have K : Hid (Md.cke l (x, y) = 1) := Lib.hid (if_pos (.inr (.inl h2)))
    go_enter Try.func42, Try.ntmps42
    go_wp2
    go_ret
    exact AddR.bad 1 K.out (by decide) rfl (Ty.of Q1.out)
  cases hv : vld y
  · have K : Hid (Md.cke l (x, y) = 1) := Lib.hid (if_pos (.inr (.inr hv)))
    rw [hv] at VV
    clear hv
    go_enter Try.func42, Try.ntmps42
    go_wp2_with (go_at_call 46; ((with_reducible refine (VV.out _).mono ?_); rintro e w' ⟨rfl, rfl⟩))
    go_ret
    exact AddR.bad 1 K.out (by decide) rfl (Ty.of Q1.out)
  · rw [hv] at VV
    by_cases hx : x = 71 ∨ x = 77
    · have AC := Lib.hid (mdAddCode (H.out.kept Q1.out) x y hx hv)
      clear hv
      rcases hx with rfl | rfl
      all_goals
        go_enter Try.func42, Try.ntmps42
        go_wp2_with (first | (go_at_call 46; ((with_reducible refine (VV.out _).mono ?_); rintro e w' ⟨rfl, rfl⟩)) | (go_at_call 56; ((with_reducible refine (AC.out).mono ?_); rintro e w1 ⟨rfl, r1, r2⟩; have R1 := Lib.hid r1; have R2 := Lib.hid r2; clear r1 r2)))
        go_ret
        exact ⟨rfl, R1.out, Ty.trans (Ty.of Q1.out) R2.out⟩
    · have hx1 : x ≠ 71 := fun h => hx (.inl h)
      have hx2 : x ≠ 77 := fun h => hx (.inr h)
      have K2 : Hid (Md.cke l (x, y) = if Md.fo l x = true then 7 else 0) := Lib.hid ((if_neg (by simp only [hv]; simp; omega)).trans (if_neg hx))
      obtain ⟨X, rfl⟩ := Int.eq_ofNat_of_zero_le (show 0 ≤ x by omega)
      have z1 : ((X : Int) == 71) = false := beq_eq_false_iff_ne.2 hx1
      have z2 : ((X : Int) == 77) = false := beq_eq_false_iff_ne.2 hx2
      have X1 := Lib.hid (show X ≠ 71 by omega)
      have X2 := Lib.hid (show X ≠ 77 by omega)
      have hXi : (X : Int) < 91 := by omega
      have hX2 : X < 91 := by omega
      have hX0 : (0 : Int) ≤ X := by omega
      have cg := H.out.cell' (26 + X) _ (cnt_at l (by omega))
      have fg := H.out.free (26 + X)
      have eg : cmk l (26 + X) = Md.fo l X := by unfold cmk lmk; rw [if_neg (by omega), show 26 + X - 26 = X by omega]; have := X1.out; have := X2.out; simp [*]
      rw [eg] at cg
      clear eg hv hx hx1 hx2
      cases hh : Md.fo l (X : Int)
      · have K0 : Hid (Md.cke l (X, y) = 0) := Lib.hid (K2.out.trans (by rw [hh]; rfl))
        rw [hh] at cg
        clear hh
        go_enter Try.func42, Try.ntmps42
        go_wp2_with (go_at_call 46; ((with_reducible refine (VV.out _).mono ?_); rintro e w' ⟨rfl, rfl⟩))
        go_quiet (fail)
        go_wp2
        refine wp_region_still_tail 6 (by kernel_rfl) (by kernel_rfl) ?_
        change wpStill _ _ (World.drew _) _ _ _
        simp only [List.take_succ_cons, List.take_zero, List.drop_succ_cons, List.drop_zero]
        repeat still_step
        refine wpStill_nil ?_
        change wpList _ _ _ _ _ (World.drew _)
        go_wp2
        go_ret
        refine AddR.ok K0.out rfl ?_ (Ty.trans (Ty.of (Qw.trans Q1.out (Qw.dr (Qw.dn (Qw.refl _) _)))) (Ty.setB B B _ _ _))
        rw [← cnt_setl l ((X : Int), y) rfl X1.out X2.out (by omega)]
        exact ((H.out.kept Q1.out).kept (Qw.dr (Qw.dn (Qw.refl _) _))).set (26 + X) _
      · have K7 : Hid (Md.cke l (X, y) = 7) := Lib.hid (K2.out.trans (by rw [hh]; rfl))
        rw [hh] at cg
        clear hh
        go_enter Try.func42, Try.ntmps42
        go_wp2_with (go_at_call 46; ((with_reducible refine (VV.out _).mono ?_); rintro e w' ⟨rfl, rfl⟩))
        go_quiet (fail)
        go_wp2
        go_ret
        exact AddR.bad 7 K7.out (by decide) rfl (Ty.of (Qw.trans Q1.out (Qw.dn (Qw.refl _) _)))

theorem chf_rest (l : Vs.Ar) (i : Nat) (h : i < l.length) : Md.chf (l.take i) (l.drop i) = if Md.cke (l.take i) (Vs.ltr l i, Vs.num l i) ≠ 0 then Md.cke (l.take i) (Vs.ltr l i, Vs.num l i) else Md.chf (l.take (i + 1)) (l.drop (i + 1)) := by
  rw [Md.chf_step l i h, v_at l i h]
theorem ty_new {w wr wz : World} {D : Nat} {o : Obj} (h : Qw w wr) (hD : w.heap.size ≤ D) (q : Ty D D (wr.alloc o) wz) : Qw w wz :=
  ⟨q.os.trans h.os, q.tape.trans h.tape, q.output.trans h.output, Nat.le_trans h.size (Nat.le_trans (by simp) q.size), fun k hk => (q.block k (by have := h.size; simp; omega) (by omega) (by omega)).trans ((Below.heap_alloc wr _ k (by have := h.size; omega)).trans (h.block k hk))⟩
set_option maxRecDepth 100000 in
set_option maxHeartbeats 4000000 in
theorem mdCheck {C : Nat} {w : World} {v : Value} {l : Vs.Ar} (h : ValsB C w v l) (hC : C ≤ w.heap.size) :
    Calls Try.prog 27 #[v] w fun e w' => e = .returned (.int .i64 (Md.chk l)) ∧ Qw w w' := by
  obtain ⟨a, cap, rfl, l1, l2, hA⟩ := h
  have HA := Lib.hid hA
  clear hA
  have CN := Lib.hid cnt_nil
  go_enter Try.func27, Try.ntmps27
  go_wp2
  refine code_of (fun w' => Bx w' w.heap.size (cnt []) 66 ∧ Qw w w') ⟨by rw [CN.out]; exact Bx.new w _ _, Qw.al (Qw.refl w) _⟩ ?_
  rintro w1 ⟨hX, hq⟩
  obtain ⟨D, hD⟩ : ∃ D, D = w.heap.size := ⟨_, rfl⟩
  rw [← hD] at hX ⊢
  have HX := Lib.hid hX
  have HQ := Lib.hid hq
  have KD := Lib.hid hD
  clear hX hq hD CN
  go_loopw [9] (fun iv wr => ∃ i : Nat, i ≤ l.length ∧ iv = .int .i64 (i : Int) ∧ Hid (Md.chk l = Md.chf (l.take i) (l.drop i)) ∧ Hid (Bx wr D (cnt (l.take i)) 66) ∧ Hid (Qw w wr)) (fun iv _ => l.length - (intOf iv).toNat)
  case atStart => exact ⟨0, by omega, rfl, Lib.hid rfl, HX, HQ⟩
  case round =>
    clear HX HQ
    obtain ⟨i, hi, rfl, HE, HX, HQ⟩ := hrel
    by_cases hlt : i < l.length
    · rcases HA.out with hn | ⟨b, off, rfl, hb, hc⟩
      · rw [hn] at hlt; simp at hlt
      · obtain ⟨c0, c1, _, _⟩ := hc i hlt
        have d0 := (HQ.out.cell (p := ⟨b, off + i * 2, none⟩) (by show b < w.heap.size; omega)).trans c0
        have d1 := (HQ.out.cell (p := ⟨b, off + i * 2 + 1, none⟩) (by show b < w.heap.size; omega)).trans c1
        have hE := HE.out.trans (chf_rest l i hlt)
        have hT := v_take l i hlt
        generalize Vs.ltr l i = x at *
        generalize Vs.num l i = y at *
        have HE2 := Lib.hid hE
        have HT := Lib.hid hT
        have hl1 : (i : Int) < (l.length : Int) := by omega
        clear hc c0 c1 hE HE hT
        have AA := Lib.hid (fun o => mdAdd (HX.out.alloc o) x y)
        have fin : ∀ (wz : World) o, Ty D D (wr.alloc o) wz → Hid (Qw w wz) := fun wz o q => Lib.hid (ty_new HQ.out (by rw [KD.out]; exact Nat.le_refl _) q)
        have FIN := Lib.hid fin
        clear fin
        unfold AddR at AA
        cases hz : decide (Md.cke (l.take i) (x, y) = 0)
        · have hz' := of_decide_eq_false hz
          have EE : Hid (Md.chk l = Md.cke (l.take i) (x, y)) := Lib.hid (HE2.out.trans (if_pos hz'))
          clear hz
          generalize Md.cke (l.take i) (x, y) = k at *
          have z1 : (k != 0) = true := by rw [bne_iff_ne]; exact hz'
          clear hz'
          go_wp2_with (go_at_call 42; ((with_reducible refine (AA.out _).mono ?_); rintro e w1 ⟨rfl, r1, r2⟩; have R2 := Lib.hid r2; clear r1 r2))
          go_ret
          exact ⟨ret_in EE.out.symm, (FIN.out _ _ R2.out).out⟩
        · have hz' := of_decide_eq_true hz
          have HE3 : Hid (Md.chk l = Md.chf (l.take (i + 1)) (l.drop (i + 1))) := Lib.hid (HE2.out.trans (if_neg (fun h => h hz')))
          rw [← HT.out] at AA
          clear hz
          have HZ := Lib.hid hz'
          rw [hz'] at AA
          clear hz'
          go_wp2_with (go_at_call 42; ((with_reducible refine (AA.out _).mono ?_); rintro e w1 ⟨rfl, r1, r2⟩; have R1 := Lib.hid (r1 rfl); have R2 := Lib.hid r2; clear r1 r2))
          go_roundw
          case rel => exact ⟨i + 1, by omega, by go_num, HE3, R1, FIN.out _ _ R2.out⟩
          case measure => simp [intOf]; omega
    · obtain rfl : i = l.length := by omega
      have hE := HE.out.trans (Md.chf_end l)
      rw [List.take_length] at HX
      have c14 := HX.out.cell' 14 _ (cnt_at l (by omega))
      have c1 := HX.out.cell' 1 _ (cnt_at l (by omega))
      have c13 := HX.out.cell' 13 _ (cnt_at l (by omega))
      have e14 : cmk l 14 = Md.hg l 14 := rfl
      have e1 : cmk l 1 = Md.hg l 1 := rfl
      have e13 : cmk l 13 = Md.hg l 13 := rfl
      rw [e14] at c14
      rw [e1] at c1
      rw [e13] at c13
      unfold Md.cend at hE
      clear e14 e1 e13 HE
      generalize Md.hg l 14 = b14 at *
      generalize Md.hg l 1 = b1 at *
      generalize Md.hg l 13 = b13 at *
      cases b14
      · have EE : Hid (Md.chk l = 0) := Lib.hid (hE.trans (by simp))
        clear hE
        go_wp2
        go_ret
        exact ⟨ret_in EE.out.symm, HQ.out⟩
      · cases b1
        · cases b13
          · have EE : Hid (Md.chk l = 0) := Lib.hid (hE.trans (by simp))
            clear hE
            go_wp2
            go_ret
            exact ⟨ret_in EE.out.symm, HQ.out⟩
          · have EE : Hid (Md.chk l = 8) := Lib.hid (hE.trans (by simp))
            clear hE
            go_wp2
            go_ret
            exact ⟨ret_in EE.out.symm, HQ.out⟩
        · have EE : Hid (Md.chk l = 8) := Lib.hid (hE.trans (by simp))
          clear hE
          go_wp2
          go_ret
          exact ⟨ret_in EE.out.symm, HQ.out⟩
end Go.Proofs.Ytijakijjeoaikaa
