
/- Push of the specification. -/
import Derived.Test.YtmfhiabajkdikaaDoorVrD
set_option linter.unusedVariables false
set_option linter.unusedSimpArgs false
namespace Go.Proofs.YtmfhiabajkdikaaDoor
open Go.RowKit


/-- What Push leaves behind its last store. -/
theorem PushR.fin {w wr w5 : World} {B L cap L' cap' : Nat} {s : Vs.St} {l : Vs.Ar} {v0 : Value} (H : Rst w B L cap s) (q : Qw w wr) (e1 : Vs.perr s l = 0) (e2 : s.push l = { s with n := s.n + 1, ls := s.ls ++ Vs.vals l l.length }) (ok : (s.push l).ok) (hB : B < w.heap.size)
    (q5 : Qw wr w5) (XB : Bx w5 B (stc v0 s) 61) (nr : wr.heap.size ≤ L')
    (own : w5.ownsRow L' 72 33 (.slice (some ⟨L', 0, none⟩) (s.n + 1) cap') (s.n + 1) ((s.ls ++ Vs.vals l l.length).map (Value.int .i64))) :
    PushR B L s l Rst w (.returned (.int .i64 0)) (w5.setCell ⟨B, 0, none⟩ (.slice (some ⟨L', 0, none⟩) (s.n + 1) cap')) := by
  have hw := q.size
  rw [e2] at ok
  have k := Stb.putRow XB (L' := L') (cap' := cap') (n' := s.n + 1) (ls' := s.ls ++ Vs.vals l l.length) (by omega) own ok
  exact ⟨ret_n e1.symm, ⟨L', cap', by rw [e2]; exact k, .inr (by omega)⟩, Ty.one (q.trans q5) (.inl rfl) _ _⟩

set_option maxRecDepth 100000 in
set_option maxHeartbeats 4000000 in
theorem vrPush {w : World} {B L cap : Nat} {s : Vs.St} {v : Value} {l : Vs.Ar} (h : Rst w B L cap s) (hv : ValsB w.heap.size w v l) :
    Calls Tryd.prog 34 #[.pointer (some ⟨B, 0, none⟩), v] w (PushR B L s l Rst w) := by
  have hl := vrLevel h
  have ha := vrArgs hv
  have H := Lib.hid h
  have hB := h.ltB
  have hL := h.ltL
  have o1 := h.ok.n1
  have o2 := h.ok.n2
  by_cases h9 : s.n = 9
  · have E : Hid (Vs.perr s l = 10 ∧ s.push l = s) := Lib.hid (by
      have e : Vs.perr s l = 10 := by unfold Vs.perr; rw [if_pos h9]
      exact ⟨e, by unfold Vs.St.push; rw [if_neg (by rw [e]; decide)]⟩)
    have en : ((s.n : Int) - 1) = 8 := by omega
    rw [en] at hl
    have HL := Lib.hid hl
    clear hl ha h hv o1 o2 en h9
    go_enter Tryd.func34, Tryd.ntmps34
    go_wp2_with (go_at_call 29; ((with_reducible refine HL.out.mono ?_); rintro e w' ⟨rfl, rfl⟩))
    go_ret
    exact ⟨ret_n E.out.1.symm, ⟨L, cap, by rw [E.out.2]; exact H.out, .inl rfl⟩, Ty.refl _ _ _⟩
  · have h8 : s.n ≤ 8 := by omega
    have HL := Lib.hid hl
    have HA := Lib.hid ha
    have E1 : Hid (Vs.perr s l = Vs.err l) := Lib.hid (by unfold Vs.perr; rw [if_neg h9])
    have h8' : (s.n : Int) - 1 < 8 := by omega
    have d8 : decide ((8 : Int) ≤ (s.n : Int) - 1) = false := decide_eq_false (by omega)
    clear hl ha h9
    by_cases e0 : Vs.err l = 0
    · have E2 : Hid (s.push l = { s with n := s.n + 1, ls := s.ls ++ Vs.vals l l.length }) := Lib.hid (by unfold Vs.St.push; rw [if_pos (E1.out.trans e0)])
      have OK : Hid ((s.push l).ok) := Lib.hid (Vs.push_ok h.ok l)
      rw [e0] at E1
      replace e0 := Lib.hid e0
      obtain ⟨a, vc, rfl, l1, l2, hA⟩ := hv
      have HC := Lib.hid hA
      clear h o2 hA
      go_enter Tryd.func34, Tryd.ntmps34
      go_wp2_with (first | (go_at_call 29; ((with_reducible refine HL.out.mono ?_); rintro e w' ⟨rfl, rfl⟩)) | (go_at_call 45; ((with_reducible refine HA.out.mono ?_); rintro e w' ⟨rfl, q⟩; rw [e0.out]; have q0 := Lib.hid q; clear q)))
      refine code_of (fun w3 => Bx w3 w'.heap.size (ivs (Vs.zer 33)) 72 ∧ Qw w w3) ⟨Bx.new' w' _ _ _ (by kernel_rfl), Qw.al q0.out _⟩ ?_
      rintro w3 ⟨X, q3⟩
      obtain ⟨D, hD⟩ : ∃ D, D = w'.heap.size := ⟨_, rfl⟩
      rw [← hD] at X ⊢
      have hDW : w.heap.size ≤ D := by have := q0.out.size; omega
      have X := Lib.hid X
      replace q3 := Lib.hid q3
      clear hD q0
      go_loopw [7] (fun iv wr => ∃ i : Nat, i ≤ l.length ∧ iv = .int .i64 (i : Int) ∧ Hid (Bx wr D (ivs (Vs.vals l i)) 72) ∧ Hid (Qw w wr)) (fun iv _ => l.length - (intOf iv).toNat)
      case atStart => exact ⟨0, by omega, rfl, X, q3⟩
      case round =>
        obtain ⟨i, hi, rfl, HX, HQ⟩ := hrel
        by_cases hlt : i < l.length
        · rcases HC.out with h | ⟨b, off, rfl, hb, hc⟩
          · rw [h] at hlt; simp at hlt
          · obtain ⟨c0, c1, _, _⟩ := hc i hlt
            have e3 := Vs.errTo_all e0.out i hlt
            have e1 := Vs.errAt_loc e3
            have bd := Vs.loc_bd (Vs.ltr l i)
            have el : Vs.loc (Vs.ltr l i) = ((Vs.slot l i : Nat) : Int) + 1 := by unfold Vs.slot; omega
            have lk := Vs.slot_lt l i
            have hloc : ∀ w', Calls Tryd.prog 17 #[.int .i64 (Vs.ltr l i)] w' fun e w'' => e = .returned (.int .i64 (Vs.loc (Vs.ltr l i))) ∧ Qw w' w'' := fun w' => vrTab _ _
            rw [el] at hloc
            have HLO := Lib.hid hloc
            have NV : Hid (ivs (Vs.vals l (i + 1)) = (ivs (Vs.vals l i)).setIfInBounds (Vs.slot l i) (.int .i64 (Vs.num l i))) := Lib.hid (by rw [ivs_set]; rfl)
            have v0 := HX.out.cell' _ _ (ivs_at (l := Vs.vals l i) (i := Vs.slot l i) (by rw [Vs.vals_length]; exact lk))
            have v1 := HX.out.free (Vs.slot l i)
            have hlt' : (i : Int) < (l.length : Int) := by omega
            have hi63 : (i : Int) ≤ 9223372036854775806 := by omega
            generalize Vs.slot l i = k at *
            generalize Vs.ltr l i = x at *
            generalize Vs.num l i = y at *
            generalize (Vs.vals l i).getD k 0 = z at *
            have f1 : IntKind.i64.wrap ((k : Int) + 1 - 1) = k := (IntWalk.i64_in _ (by omega)).trans (by omega)
            have f4 : IntKind.i64.wrap (k : Int) = k := IntWalk.i64_in _ (by omega)
            have f2 : (k : Int) < 33 := by omega
            have f3 : 0 ≤ (k : Int) := by omega
            obtain ⟨S, hS⟩ : ∃ S : World → Prop, ∀ w', S w' ↔ Qw wr w' := ⟨_, fun _ => Iff.rfl⟩
            have HS := Lib.hid hS
            have C0 := Lib.hid (fun w' (q : S w') => ((HQ.out.trans ((hS w').1 q)).cell (p := ⟨b, off + i * 2, none⟩) hb).trans c0)
            have C1 := Lib.hid (fun w' (q : S w') => ((HQ.out.trans ((hS w').1 q)).cell (p := ⟨b, off + i * 2 + 1, none⟩) hb).trans c1)
            have hDl := HX.out.lt
            have V0 := Lib.hid (fun w' (q : S w') => (((hS w').1 q).cell (p := ⟨D, k, none⟩) hDl).trans v0)
            have V1 := Lib.hid (fun w' (q : S w') => (((hS w').1 q).frozen (p := ⟨D, k, none⟩) hDl).trans v1)
            clear hc c0 c1 e3 e1 bd el hloc v0 v1 hS
            go_wp2
            refine wp_region_M S 14 (by kernel_rfl) ?_
            have hSS : S (World.drew wr) := (HS.out _).2 (Qw.dr (Qw.refl wr))
            refine wpAnyM_take (i := 0) (v := ?_) rfl (by kernel_rfl) (fun _ _ _ h => h) (Or.inl ⟨by rfl, ?_⟩) hSS ?_
            rotate_left 1
            · intro wS hwS
              go_simp
              try with_reducible rfl
            simp only [List.getElem_toArray, List.getElem_cons_succ, List.getElem_cons_zero, Act.put, List.setIfInBounds_toArray, List.set_cons_zero, List.set_cons_succ]
            refine wpAnyM_take (i := 1) (v := ?_) rfl (by kernel_rfl) (fun _ _ _ h => h) (Or.inl ⟨by rfl, ?_⟩) hSS ?_
            rotate_left 1
            · intro wS hwS
              go_simp
              try with_reducible rfl
            simp only [List.getElem_toArray, List.getElem_cons_succ, List.getElem_cons_zero, Act.put, List.setIfInBounds_toArray, List.set_cons_zero, List.set_cons_succ]
            refine wpAnyM_take (i := 2) (v := ?_) rfl (by kernel_rfl) (fun _ _ _ h => h) (Or.inl ⟨by rfl, ?_⟩) hSS ?_
            rotate_left 1
            · intro wS hwS
              go_simp
              try with_reducible rfl
            simp only [List.getElem_toArray, List.getElem_cons_succ, List.getElem_cons_zero, Act.put, List.setIfInBounds_toArray, List.set_cons_zero, List.set_cons_succ]
            refine wpAnyM_take (i := 3) (v := ?_) rfl (by kernel_rfl) (fun _ _ _ h => h) (Or.inl ⟨by rfl, ?_⟩) hSS ?_
            rotate_left 1
            · intro wS hwS
              go_simp
              try with_reducible rfl
            simp only [List.getElem_toArray, List.getElem_cons_succ, List.getElem_cons_zero, Act.put, List.setIfInBounds_toArray, List.set_cons_zero, List.set_cons_succ]
            refine wpAnyM_take (i := 4) (v := ?_) rfl (by kernel_rfl) (fun _ _ _ h => h) (Or.inl ⟨by rfl, ?_⟩) hSS ?_
            rotate_left 1
            · intro wS hwS
              have c := C0.out wS hwS; go_simp
              try with_reducible rfl
            simp only [List.getElem_toArray, List.getElem_cons_succ, List.getElem_cons_zero, Act.put, List.setIfInBounds_toArray, List.set_cons_zero, List.set_cons_succ]
            refine wpAnyM_take (i := 7) (v := ?_) rfl (by kernel_rfl) (fun _ _ _ h => h) (Or.inl ⟨by rfl, ?_⟩) hSS ?_
            rotate_left 1
            · intro wS hwS
              go_simp
              try with_reducible rfl
            simp only [List.getElem_toArray, List.getElem_cons_succ, List.getElem_cons_zero, Act.put, List.setIfInBounds_toArray, List.set_cons_zero, List.set_cons_succ]
            refine wpAnyM_take (i := 8) (v := ?_) rfl (by kernel_rfl) (fun _ _ _ h => h) (Or.inl ⟨by rfl, ?_⟩) hSS ?_
            rotate_left 1
            · intro wS hwS
              go_simp
              try with_reducible rfl
            simp only [List.getElem_toArray, List.getElem_cons_succ, List.getElem_cons_zero, Act.put, List.setIfInBounds_toArray, List.set_cons_zero, List.set_cons_succ]
            refine wpAnyM_take (i := 9) (v := ?_) rfl (by kernel_rfl) (fun _ _ _ h => h) (Or.inl ⟨by rfl, ?_⟩) hSS ?_
            rotate_left 1
            · intro wS hwS
              go_simp
              try with_reducible rfl
            simp only [List.getElem_toArray, List.getElem_cons_succ, List.getElem_cons_zero, Act.put, List.setIfInBounds_toArray, List.set_cons_zero, List.set_cons_succ]
            refine wpAnyM_take (i := 10) (v := ?_) rfl (by kernel_rfl) (fun _ _ _ h => h) (Or.inl ⟨by rfl, ?_⟩) hSS ?_
            rotate_left 1
            · intro wS hwS
              go_simp
              try with_reducible rfl
            simp only [List.getElem_toArray, List.getElem_cons_succ, List.getElem_cons_zero, Act.put, List.setIfInBounds_toArray, List.set_cons_zero, List.set_cons_succ]
            refine wpAnyM_take (i := 11) (v := ?_) rfl (by kernel_rfl) (fun _ _ _ h => h) (Or.inl ⟨by rfl, ?_⟩) hSS ?_
            rotate_left 1
            · intro wS hwS
              have c := C1.out wS hwS; go_simp
              try with_reducible rfl
            simp only [List.getElem_toArray, List.getElem_cons_succ, List.getElem_cons_zero, Act.put, List.setIfInBounds_toArray, List.set_cons_zero, List.set_cons_succ]
            refine wpAnyM_take (i := 12) (v := ?_) rfl (by kernel_rfl) (fun _ _ _ h => h) (Or.inl ⟨by rfl, ?_⟩) hSS ?_
            rotate_left 1
            · intro wS hwS
              go_simp
              try with_reducible rfl
            simp only [List.getElem_toArray, List.getElem_cons_succ, List.getElem_cons_zero, Act.put, List.setIfInBounds_toArray, List.set_cons_zero, List.set_cons_succ]
            refine wpAnyM_one (i := 5) rfl (by kernel_rfl) rfl (fun K hK => ?_)
            go_simp
            refine (HLO.out _).mono ?_
            rintro e w5 ⟨rfl, q5⟩
            have q6 : Qw wr w5 := Qw.trans (Qw.dr (Qw.refl wr)) q5
            have hSS1 := (HS.out _).2 q6
            refine hK _ _ (fun _ => hSS1) ?_
            clear hK K hSS
            replace q6 := Lib.hid q6
            clear q5
            have hSS := hSS1
            refine wpAnyM_take (i := 6) (v := ?_) rfl (by kernel_rfl) (fun _ _ _ h => h) (Or.inl ⟨by rfl, ?_⟩) hSS ?_
            rotate_left 1
            · intro wS hwS
              go_simp
              try with_reducible rfl
            simp only [List.getElem_toArray, List.getElem_cons_succ, List.getElem_cons_zero, Act.put, List.setIfInBounds_toArray, List.set_cons_zero, List.set_cons_succ]
            refine wpAnyM_take (i := 13) (v := ?_) rfl (by kernel_rfl) (fun _ _ _ h => h) (Or.inl ⟨by rfl, ?_⟩) hSS ?_
            rotate_left 1
            · intro wS hwS
              go_simp
              try with_reducible rfl
            simp only [List.getElem_toArray, List.getElem_cons_succ, List.getElem_cons_zero, Act.put, List.setIfInBounds_toArray, List.set_cons_zero, List.set_cons_succ]
            refine wpAnyM_one (i := 14) rfl (by kernel_rfl) rfl (fun K hK => ?_)
            have z0 := V0.out _ hSS
            have z1 := V1.out _ hSS
            go_simp
            refine hK _ _ (fun h => absurd h (by decide)) ?_
            clear hK K hSS hSS1
            refine wpAnyM_done (by kernel_rfl) ?_ _
            go_wp2
            go_roundw
            case rel => exact ⟨i + 1, by omega, by go_num, Lib.hid (by rw [NV.out]; exact (HX.out.kept q6.out).set _ _), Lib.hid (Qw.sc (HQ.out.trans q6.out) (p := ⟨D, k, none⟩) hDW _)⟩
            case measure => simp [intOf]; omega
        · obtain rfl : i = l.length := by omega
          go_wp2
          obtain ⟨S, hS⟩ : ∃ S : World → Prop, ∀ w', S w' ↔ Qw wr w' := ⟨_, fun _ => Iff.rfl⟩
          have HS := Lib.hid hS
          have n1 := o1
          have CS := Lib.hid (fun w' (q : S w') => (H.out.kept (HQ.out.trans ((hS w').1 q))).cell0)
          have CX := Lib.hid (fun w' (q : S w') => HX.out.kept ((hS w').1 q))
          have ll := H.out.ok.hl
          have LL := Lib.hid ll
          clear hS ll hlt hi
          refine wp_region_M S 12 (by kernel_rfl) ?_
          have hSS : S (World.drew wr) := (HS.out _).2 (Qw.dr (Qw.refl wr))
          refine wpAnyM_take (i := 0) (v := ?_) rfl (by kernel_rfl) (fun _ _ _ h => h) (Or.inl ⟨by rfl, ?_⟩) hSS ?_
          rotate_left 1
          · intro wS hwS
            go_simp
            try with_reducible rfl
          simp only [List.getElem_toArray, List.getElem_cons_succ, List.getElem_cons_zero, Act.put, List.setIfInBounds_toArray, List.set_cons_zero, List.set_cons_succ]
          refine wpAnyM_take (i := 2) (v := ?_) rfl (by kernel_rfl) (fun _ _ _ h => h) (Or.inl ⟨by rfl, ?_⟩) hSS ?_
          rotate_left 1
          · intro wS hwS
            go_simp
            try with_reducible rfl
          simp only [List.getElem_toArray, List.getElem_cons_succ, List.getElem_cons_zero, Act.put, List.setIfInBounds_toArray, List.set_cons_zero, List.set_cons_succ]
          refine wpAnyM_take (i := 3) (v := ?_) rfl (by kernel_rfl) (fun _ _ _ h => h) (Or.inl ⟨by rfl, ?_⟩) hSS ?_
          rotate_left 1
          · intro wS hwS
            go_simp
            try with_reducible rfl
          simp only [List.getElem_toArray, List.getElem_cons_succ, List.getElem_cons_zero, Act.put, List.setIfInBounds_toArray, List.set_cons_zero, List.set_cons_succ]
          refine wpAnyM_take (i := 4) (v := ?_) rfl (by kernel_rfl) (fun _ _ _ h => h) (Or.inl ⟨by rfl, ?_⟩) hSS ?_
          rotate_left 1
          · intro wS hwS
            go_simp
            try with_reducible rfl
          simp only [List.getElem_toArray, List.getElem_cons_succ, List.getElem_cons_zero, Act.put, List.setIfInBounds_toArray, List.set_cons_zero, List.set_cons_succ]
          refine wpAnyM_take (i := 5) (v := ?_) rfl (by kernel_rfl) (fun _ _ _ h => h) (Or.inl ⟨by rfl, ?_⟩) hSS ?_
          rotate_left 1
          · intro wS hwS
            have c := CS.out wS hwS; go_simp
            try with_reducible rfl
          simp only [List.getElem_toArray, List.getElem_cons_succ, List.getElem_cons_zero, Act.put, List.setIfInBounds_toArray, List.set_cons_zero, List.set_cons_succ]
          refine wpAnyM_take (i := 7) rfl (by kernel_rfl) (fun _ _ _ h => h) (yi_lev 6 rfl CX.out (Vs.vals_length _ _)) hSS ?_
          simp only [List.getElem_toArray, List.getElem_cons_succ, List.getElem_cons_zero, Act.put, List.setIfInBounds_toArray, List.set_cons_zero, List.set_cons_succ]
          refine wpAnyM_two (i := 1) (j := 8) rfl rfl (by kernel_rfl) rfl rfl (fun K hK => ?_) (fun K hK => ?_)
          · go_simp
            have q1 : Qw wr (World.drew (wr.alloc (.cells #[] 72))) := Qw.dr (Qw.al (Qw.refl wr) _)
            have hSS1 := (HS.out _).2 q1
            refine hK _ _ (fun _ => hSS1) ?_
            clear hK K hSS
            have own0 : (World.drew (wr.alloc (.cells #[] 72))).ownsRow wr.heap.size 72 33 (.slice (some ⟨wr.heap.size, 0, none⟩) 0 0) 0 (([] : List Int).map (Value.int .i64)) := World.ownsRow_made wr #[] 0 (Nat.le_refl _) (by decide) rfl
            try simp only [List.getElem_toArray, List.getElem_cons_succ, List.getElem_cons_zero, Act.put, List.setIfInBounds_toArray, List.set_cons_zero, List.set_cons_succ]
            refine wpAnyM_two (i := 6) (j := 8) rfl rfl (by kernel_rfl) rfl rfl (fun K hK => ?_) (fun K hK => ?_)
            · refine wapm_lev 37 41 (n := 0) (ls := []) rfl rfl LL.out (by omega) n1 own0 (H.out.kept (HQ.out.trans q1)).owns_cells ?_
              intro L1 cap1 w4 own4 gb4 nr4
              rw [List.nil_append, Nat.zero_add] at own4
              simp only [Nat.zero_add]
              have q4 : Qw wr w4 := Qw.gbn q1 gb4 (by omega)
              have NR1 : wr.heap.size ≤ L1 ∧ L1 < w4.heap.size := ⟨by rcases nr4 with k | k; omega; (simp at k; omega), (own4.lt L1 rfl).2⟩
              refine hK _ _ (fun _ => (HS.out _).2 q4) ?_
              clear hK K hSS1
              try simp only [List.getElem_toArray, List.getElem_cons_succ, List.getElem_cons_zero, Act.put, List.setIfInBounds_toArray, List.set_cons_zero, List.set_cons_succ]
              refine wpAnyM_one (i := 8) rfl (by kernel_rfl) rfl (fun K hK => ?_)
              have q4' := q4
              replace q4 : Qw wr (w4.alloc (.cells (ivs (Vs.vals l l.length)) 72)) := Qw.al q4' _
              refine wbs_lev 43 rfl (Vs.vals_length _ _) (hK _ _ (fun _ => (HS.out _).2 q4) ?_)
              clear hK K
              try simp only [List.getElem_toArray, List.getElem_cons_succ, List.getElem_cons_zero, Act.put, List.setIfInBounds_toArray, List.set_cons_zero, List.set_cons_succ]
              refine wpAnyM_one (i := 9) rfl (by kernel_rfl) rfl (fun K hK => ?_)
              refine wap_lev 42 44 rfl rfl (Vs.vals_length _ _) (by omega) (World.ownsRow.alloc own4 _) (Bx.new w4 _ _) ?_
              intro L' cap' w5 own5 gb5 nr5
              have q5 : Qw wr w5 := Qw.gbn q4 gb5 NR1.1
              clear own0 gb4 nr4 q1 q4'
              have XB := (H.out.bx.kept (HQ.out.trans q5))
              have c5 := XB.cell' 0 _ (stc_0 _ _)
              have z5 := XB.free 0
              have hSS := (HS.out _).2 q5
              refine hK _ _ (fun _ => hSS) ?_
              clear hK K
              replace XB := Lib.hid XB
              have OWN := Lib.hid own5
              have NR5 : Hid (wr.heap.size ≤ L') := Lib.hid (by rcases nr5 with k | k; (rw [k]; exact NR1.1); exact Nat.le_trans q4.size k)
              replace q5 := Lib.hid q5
              clear own5 gb5 nr5 q4 own4
              try simp only [List.getElem_toArray, List.getElem_cons_succ, List.getElem_cons_zero, Act.put, List.setIfInBounds_toArray, List.set_cons_zero, List.set_cons_succ]
              refine wpAnyM_take (i := 10) (v := ?_) rfl (by kernel_rfl) (fun _ _ _ h => h) (Or.inl ⟨by rfl, ?_⟩) hSS ?_
              rotate_left 1
              · intro wS hwS
                go_simp
                try with_reducible rfl
              simp only [List.getElem_toArray, List.getElem_cons_succ, List.getElem_cons_zero, Act.put, List.setIfInBounds_toArray, List.set_cons_zero, List.set_cons_succ]
              refine wpAnyM_take (i := 11) (v := ?_) rfl (by kernel_rfl) (fun _ _ _ h => h) (Or.inl ⟨by rfl, ?_⟩) hSS ?_
              rotate_left 1
              · intro wS hwS
                go_simp
                try with_reducible rfl
              simp only [List.getElem_toArray, List.getElem_cons_succ, List.getElem_cons_zero, Act.put, List.setIfInBounds_toArray, List.set_cons_zero, List.set_cons_succ]
              refine wpAnyM_one (i := 12) rfl (by kernel_rfl) rfl (fun K hK => ?_)
              go_simp
              refine hK _ _ (fun h => absurd h (by decide)) ?_
              clear hK K hSS
              refine wpAnyM_done (by kernel_rfl) ?_ _
              go_wp2
              go_ret
              exact PushR.fin H.out HQ.out E1.out E2.out OK.out hB q5.out XB.out NR5.out OWN.out
            · have q2 : Qw wr ((World.drew (wr.alloc (.cells #[] 72))).alloc (.cells (ivs (Vs.vals l l.length)) 72)) := Qw.al q1 _
              refine wbs_lev 43 rfl (Vs.vals_length _ _) (hK _ _ (fun _ => (HS.out _).2 q2) ?_)
              clear hK K hSS1
              try simp only [List.getElem_toArray, List.getElem_cons_succ, List.getElem_cons_zero, Act.put, List.setIfInBounds_toArray, List.set_cons_zero, List.set_cons_succ]
              refine wpAnyM_one (i := 6) rfl (by kernel_rfl) rfl (fun K hK => ?_)
              refine wapm_lev 37 41 (n := 0) (ls := []) rfl rfl LL.out (by omega) n1 (World.ownsRow.alloc own0 _) (H.out.kept (HQ.out.trans q2)).owns_cells ?_
              intro L1 cap1 w4 own4 gb4 nr4
              rw [List.nil_append, Nat.zero_add] at own4
              simp only [Nat.zero_add]
              have q4 : Qw wr w4 := Qw.gbn q2 gb4 (by omega)
              have NR1 : wr.heap.size ≤ L1 ∧ L1 < w4.heap.size := ⟨by rcases nr4 with k | k; omega; (simp at k; omega), (own4.lt L1 rfl).2⟩
              have XN := Bx.gb (Bx.new (World.drew (wr.alloc (.cells #[] 72))) (ivs (Vs.vals l l.length)) 72) gb4 (by simp)
              refine hK _ _ (fun _ => (HS.out _).2 q4) ?_
              clear hK K
              try simp only [List.getElem_toArray, List.getElem_cons_succ, List.getElem_cons_zero, Act.put, List.setIfInBounds_toArray, List.set_cons_zero, List.set_cons_succ]
              refine wpAnyM_one (i := 9) rfl (by kernel_rfl) rfl (fun K hK => ?_)
              refine wap_lev 42 44 rfl rfl (Vs.vals_length _ _) (by omega) own4 XN ?_
              intro L' cap' w5 own5 gb5 nr5
              have q5 : Qw wr w5 := Qw.gbn q4 gb5 NR1.1
              clear own0 gb4 nr4 q1 q2 XN
              have XB := (H.out.bx.kept (HQ.out.trans q5))
              have c5 := XB.cell' 0 _ (stc_0 _ _)
              have z5 := XB.free 0
              have hSS := (HS.out _).2 q5
              refine hK _ _ (fun _ => hSS) ?_
              clear hK K
              replace XB := Lib.hid XB
              have OWN := Lib.hid own5
              have NR5 : Hid (wr.heap.size ≤ L') := Lib.hid (by rcases nr5 with k | k; (rw [k]; exact NR1.1); exact Nat.le_trans q4.size k)
              replace q5 := Lib.hid q5
              clear own5 gb5 nr5 q4 own4
              try simp only [List.getElem_toArray, List.getElem_cons_succ, List.getElem_cons_zero, Act.put, List.setIfInBounds_toArray, List.set_cons_zero, List.set_cons_succ]
              refine wpAnyM_take (i := 10) (v := ?_) rfl (by kernel_rfl) (fun _ _ _ h => h) (Or.inl ⟨by rfl, ?_⟩) hSS ?_
              rotate_left 1
              · intro wS hwS
                go_simp
                try with_reducible rfl
              simp only [List.getElem_toArray, List.getElem_cons_succ, List.getElem_cons_zero, Act.put, List.setIfInBounds_toArray, List.set_cons_zero, List.set_cons_succ]
              refine wpAnyM_take (i := 11) (v := ?_) rfl (by kernel_rfl) (fun _ _ _ h => h) (Or.inl ⟨by rfl, ?_⟩) hSS ?_
              rotate_left 1
              · intro wS hwS
                go_simp
                try with_reducible rfl
              simp only [List.getElem_toArray, List.getElem_cons_succ, List.getElem_cons_zero, Act.put, List.setIfInBounds_toArray, List.set_cons_zero, List.set_cons_succ]
              refine wpAnyM_one (i := 12) rfl (by kernel_rfl) rfl (fun K hK => ?_)
              go_simp
              refine hK _ _ (fun h => absurd h (by decide)) ?_
              clear hK K hSS
              refine wpAnyM_done (by kernel_rfl) ?_ _
              go_wp2
              go_ret
              exact PushR.fin H.out HQ.out E1.out E2.out OK.out hB q5.out XB.out NR5.out OWN.out
          · have q2 : Qw wr ((World.drew wr).alloc (.cells (ivs (Vs.vals l l.length)) 72)) := Qw.al (Qw.dr (Qw.refl wr)) _
            refine wbs_lev 43 rfl (Vs.vals_length _ _) (hK _ _ (fun _ => (HS.out _).2 q2) ?_)
            clear hK K hSS
            try simp only [List.getElem_toArray, List.getElem_cons_succ, List.getElem_cons_zero, Act.put, List.setIfInBounds_toArray, List.set_cons_zero, List.set_cons_succ]
            refine wpAnyM_one (i := 1) rfl (by kernel_rfl) rfl (fun K hK => ?_)
            go_simp
            have q3 : Qw wr (World.drew ((wr.alloc (.cells (ivs (Vs.vals l l.length)) 72)).alloc (.cells #[] 72))) := Qw.dr (Qw.al (Qw.al (Qw.refl wr) _) _)
            refine hK _ _ (fun _ => (HS.out _).2 q3) ?_
            clear hK K
            have es : (wr.alloc (.cells (ivs (Vs.vals l l.length)) 72)).heap.size = wr.heap.size + 1 := by simp
            have own0 : World.ownsRow (World.drew ((wr.alloc (.cells (ivs (Vs.vals l l.length)) 72)).alloc (.cells #[] 72))) (wr.heap.size + 1) 72 33 (.slice (some ⟨wr.heap.size + 1, 0, none⟩) 0 0) 0 (([] : List Int).map (Value.int .i64)) := by
              have := World.ownsRow_made (base := (wr.alloc (.cells (ivs (Vs.vals l l.length)) 72)).heap.size) (e := 72) (size := 33) (wr.alloc (.cells (ivs (Vs.vals l l.length)) 72)) #[] 0 (Nat.le_refl _) (by decide) rfl
              rw [es] at this
              exact this
            clear es
            try simp only [List.getElem_toArray, List.getElem_cons_succ, List.getElem_cons_zero, Act.put, List.setIfInBounds_toArray, List.set_cons_zero, List.set_cons_succ]
            refine wpAnyM_one (i := 6) rfl (by kernel_rfl) rfl (fun K hK => ?_)
            refine wapm_lev 37 41 (n := 0) (ls := []) rfl rfl LL.out (by omega) n1 own0 (H.out.kept (HQ.out.trans q3)).owns_cells ?_
            intro L1 cap1 w4 own4 gb4 nr4
            rw [List.nil_append, Nat.zero_add] at own4
            simp only [Nat.zero_add]
            have q4 : Qw wr w4 := Qw.gbn q3 gb4 (by omega)
            have NR1 : wr.heap.size ≤ L1 ∧ L1 < w4.heap.size := ⟨by rcases nr4 with k | k; omega; (simp at k; omega), (own4.lt L1 rfl).2⟩
            have XN := Bx.gb (Bx.dr (Bx.alloc (Bx.new wr (ivs (Vs.vals l l.length)) 72) (.cells #[] 72))) gb4 (by omega)
            refine hK _ _ (fun _ => (HS.out _).2 q4) ?_
            clear hK K
            try simp only [List.getElem_toArray, List.getElem_cons_succ, List.getElem_cons_zero, Act.put, List.setIfInBounds_toArray, List.set_cons_zero, List.set_cons_succ]
            refine wpAnyM_one (i := 9) rfl (by kernel_rfl) rfl (fun K hK => ?_)
            refine wap_lev 42 44 rfl rfl (Vs.vals_length _ _) (by omega) own4 XN ?_
            intro L' cap' w5 own5 gb5 nr5
            have q5 : Qw wr w5 := Qw.gbn q4 gb5 NR1.1
            clear own0 gb4 nr4 q2 q3 XN
            have XB := (H.out.bx.kept (HQ.out.trans q5))
            have c5 := XB.cell' 0 _ (stc_0 _ _)
            have z5 := XB.free 0
            have hSS := (HS.out _).2 q5
            refine hK _ _ (fun _ => hSS) ?_
            clear hK K
            replace XB := Lib.hid XB
            have OWN := Lib.hid own5
            have NR5 : Hid (wr.heap.size ≤ L') := Lib.hid (by rcases nr5 with k | k; (rw [k]; exact NR1.1); exact Nat.le_trans q4.size k)
            replace q5 := Lib.hid q5
            clear own5 gb5 nr5 q4 own4
            try simp only [List.getElem_toArray, List.getElem_cons_succ, List.getElem_cons_zero, Act.put, List.setIfInBounds_toArray, List.set_cons_zero, List.set_cons_succ]
            refine wpAnyM_take (i := 10) (v := ?_) rfl (by kernel_rfl) (fun _ _ _ h => h) (Or.inl ⟨by rfl, ?_⟩) hSS ?_
            rotate_left 1
            · intro wS hwS
              go_simp
              try with_reducible rfl
            simp only [List.getElem_toArray, List.getElem_cons_succ, List.getElem_cons_zero, Act.put, List.setIfInBounds_toArray, List.set_cons_zero, List.set_cons_succ]
            refine wpAnyM_take (i := 11) (v := ?_) rfl (by kernel_rfl) (fun _ _ _ h => h) (Or.inl ⟨by rfl, ?_⟩) hSS ?_
            rotate_left 1
            · intro wS hwS
              go_simp
              try with_reducible rfl
            simp only [List.getElem_toArray, List.getElem_cons_succ, List.getElem_cons_zero, Act.put, List.setIfInBounds_toArray, List.set_cons_zero, List.set_cons_succ]
            refine wpAnyM_one (i := 12) rfl (by kernel_rfl) rfl (fun K hK => ?_)
            go_simp
            refine hK _ _ (fun h => absurd h (by decide)) ?_
            clear hK K hSS
            refine wpAnyM_done (by kernel_rfl) ?_ _
            go_wp2
            go_ret
            exact PushR.fin H.out HQ.out E1.out E2.out OK.out hB q5.out XB.out NR5.out OWN.out
    · have E2 : Hid (s.push l = s) := Lib.hid (by unfold Vs.St.push; rw [if_neg (by rw [E1.out]; exact e0)])
      have ne : (Vs.err l != 0) = true := by simpa using e0
      have eb : ((Vs.err l : Int) == 0) = false := by simpa using e0
      clear e0 o1 o2 h h8 hv
      go_enter Tryd.func34, Tryd.ntmps34
      go_wp2_with (first | (go_at_call 29; ((with_reducible refine HL.out.mono ?_); rintro e w' ⟨rfl, rfl⟩)) | (go_at_call 45; ((with_reducible refine HA.out.mono ?_); rintro e w' ⟨rfl, q⟩; have q0 := Lib.hid q; clear q)))
      go_ret
      exact ⟨ret_n E1.out.symm, ⟨L, cap, by rw [E2.out]; exact H.out.kept q0.out, .inl rfl⟩, Ty.of q0.out⟩

end Go.Proofs.YtmfhiabajkdikaaDoor
