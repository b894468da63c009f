
/- The walks of Push and Pop of package vars. -/
import Derived.Test.YtmfhiabajkdikaaDoorVaE
set_option linter.unusedVariables false
set_option linter.unusedSimpArgs false
namespace Go.Proofs.YtmfhiabajkdikaaDoor
open Go.RowKit


theorem Qw.gb {w w' : World} {L : Nat} (h : w.grownBy w' (some L)) (B : Nat) : Ty B L w w' := ⟨h.os, h.tape, h.output, h.size, fun k hk _ h2 => h.block k hk (by simpa using h2)⟩
theorem Bx.dr {w : World} {b : Nat} {cs : Array Value} {t : TypeId} (X : Bx w b cs t) : Bx w.drew b cs t := X
theorem Bx.gb {w w' : World} {L b : Nat} {cs : Array Value} {t : TypeId} (X : Bx w b cs t) (h : w.grownBy w' (some L)) (hb : b ≠ L) : Bx w' b cs t := (h.block b X.lt (by simpa using hb)).trans X

theorem ret_n {a b : Int} (h : a = b) : Ending.returned (.int .i64 a) = .returned (.int .i64 b) := by rw [h]

def PushR (B L : Nat) (s : Vs.St) (l : Vs.Ar) (S : World → Nat → Nat → Nat → Vs.St → Prop) (w : World) (e : Ending) (w' : World) : Prop :=
  e = .returned (.int .i64 (Vs.perr s l)) ∧ (∃ L' cap', S w' B L' cap' (s.push l) ∧ (L' = L ∨ w.heap.size ≤ L')) ∧ Ty B L w w'

set_option maxRecDepth 100000 in
set_option maxHeartbeats 4000000 in
theorem vaPush {w : World} {B L cap : Nat} {s : Vs.St} {v : Value} {l : Vs.Ar} (h : Pst w B L cap s) (hv : ValsB w.heap.size w v l) (hT : Tl w) :
    Calls Tryd.prog 20 #[.pointer (some ⟨B, 0, none⟩), v] w (PushR B L s l Pst w) := by
  have hl := vaLevel h
  have ha := vaArgs hv hT
  have H := Lib.hid h
  have hB := h.ltB
  have hL := h.ltL
  have o1 := h.ok.n1
  have o2 := h.ok.n2
  have c0 := h.cell0
  have f0 := h.freeB 0
  by_cases h9 : s.n = 9
  · have E : Hid (Vs.perr s l = 10 ∧ s.push l = s) := Lib.hid (by
      have e : Vs.perr s l = 10 := by unfold Vs.perr; rw [if_pos h9]
      exact ⟨e, by unfold Vs.St.push; rw [if_neg (by rw [e]; decide)]⟩)
    have en : ((s.n : Int) - 1) = 8 := by omega
    rw [en] at hl
    have HL := Lib.hid hl
    clear hl ha h hv hT o1 o2 en h9 c0 f0
    go_enter Tryd.func20, Tryd.ntmps20
    go_wp2_with (go_at_call 19; ((with_reducible refine HL.out.mono ?_); rintro e w' ⟨rfl, rfl⟩))
    go_ret
    exact ⟨ret_n E.out.1.symm, ⟨L, cap, by rw [E.out.2]; exact H.out, .inl rfl⟩, Ty.refl _ _ _⟩
  · have h8 : s.n ≤ 8 := by omega
    have HL := Lib.hid hl
    have HA := Lib.hid ha
    have E1 : Hid (Vs.perr s l = Vs.err l) := Lib.hid (by unfold Vs.perr; rw [if_neg h9])
    have h8' : (s.n : Int) - 1 < 8 := by omega
    have d8 : decide ((8 : Int) ≤ (s.n : Int) - 1) = false := decide_eq_false (by omega)
    clear hl ha hv hT h9
    by_cases e0 : Vs.err l = 0
    · have E2 : Hid (s.push l = { s with n := s.n + 1, ls := s.ls ++ Vs.vals l l.length }) := Lib.hid (by unfold Vs.St.push; rw [if_pos (E1.out.trans e0)])
      rw [e0] at E1
      replace e0 := Lib.hid e0
      obtain ⟨N, hN⟩ : ∃ N, N = s.n := ⟨_, rfl⟩
      rw [← hN] at c0 h8 h8' d8 o1 HL
      replace hN := Lib.hid hN
      have ok := Lib.hid h.ok
      clear h o2
      go_enter Tryd.func20, Tryd.ntmps20
      go_wp2_with (first | (go_at_call 19; ((with_reducible refine HL.out.mono ?_); rintro e w' ⟨rfl, rfl⟩)) | (go_at_call 37; ((with_reducible refine HA.out.mono ?_); rintro e w' ⟨⟨vs, lv, hvs, rfl⟩, q⟩; rw [e0.out]; replace hvs := Lib.hid (hvs e0.out); have q0 := Lib.hid q; clear q)) | (refine st_loc 5 13 rfl rfl (Bx.new _ _ _) (by first | rfl | (simp; done)) lv ?_))
      refine code_of (fun w3 => Bx w3 w'.heap.size (ivs vs) 67 ∧ Qw w w3) ⟨(Bx.new _ _ _).sr _, Qw.sr (Qw.al q0.out _) q0.out.size _⟩ ?_
      rintro w3 ⟨X, q3⟩
      obtain ⟨D, hD⟩ : ∃ D, D = w'.heap.size := ⟨_, rfl⟩
      rw [← hD] at X ⊢
      have hDB : D ≠ B := by have := q0.out.size; omega
      have hDL : D ≠ L := by have := q0.out.size; omega
      have hX := Lib.hid X
      have hx := X.lt
      have kB : ∀ o, w3.cell? ⟨B, o, none⟩ = w.cell? ⟨B, o, none⟩ := fun o => q3.cell (p := ⟨B, o, none⟩) hB
      have kF : ∀ o, w3.frozen? ⟨B, o, none⟩ = w.frozen? ⟨B, o, none⟩ := fun o => q3.frozen (p := ⟨B, o, none⟩) hB
      rw [← kB] at c0
      rw [← kF] at f0
      have Q3 := Lib.hid q3
      clear X kB kF hD q0 q3
      replace lv := Lib.hid lv
      have OW : Hid (w3.ownsRow L 67 33 (.slice (some ⟨L, 0, none⟩) N cap) N (s.ls.map (Value.int .i64))) := Lib.hid (by rw [hN.out]; exact (H.out.kept Q3.out).owns)
      obtain ⟨S, hS⟩ : ∃ S : World → Prop, ∀ w', S w' ↔ (Bx w' B (stc (.slice (some ⟨L, 0, none⟩) N cap) s) 58 ∧ Bx w' D (ivs vs) 67) := ⟨_, fun _ => Iff.rfl⟩
      have HS := Lib.hid hS
      clear hS
      have hSB : Bx w3 B (stc (.slice (some ⟨L, 0, none⟩) N cap) s) 58 := by rw [hN.out]; exact H.out.bx.kept Q3.out
      have SB := Lib.hid hSB
      have hSS : S (World.drew w3) := (HS.out _).2 ⟨hSB, hX.out⟩
      clear hSB
      refine wp_region_M S 10 (by kernel_rfl) ?_
      refine wpAnyM_take (i := 0) (v := ?_) rfl (by kernel_rfl) (fun _ _ _ h => h) (Or.inl ⟨by rfl, ?_⟩) hSS ?_
      rotate_left 1
      · intro wS hwS
        go_simp
        try with_reducible rfl
      simp only [List.getElem_toArray, List.getElem_cons_succ, List.getElem_cons_zero, Act.put, List.setIfInBounds_toArray, List.set_cons_zero, List.set_cons_succ]
      refine wpAnyM_take (i := 1) (v := ?_) rfl (by kernel_rfl) (fun _ _ _ h => h) (Or.inl ⟨by rfl, ?_⟩) hSS ?_
      rotate_left 1
      · intro wS hwS
        go_simp
        try with_reducible rfl
      simp only [List.getElem_toArray, List.getElem_cons_succ, List.getElem_cons_zero, Act.put, List.setIfInBounds_toArray, List.set_cons_zero, List.set_cons_succ]
      refine wpAnyM_take (i := 2) (v := ?_) rfl (by kernel_rfl) (fun _ _ _ h => h) (Or.inl ⟨by rfl, ?_⟩) hSS ?_
      rotate_left 1
      · intro wS hwS
        go_simp
        try with_reducible rfl
      simp only [List.getElem_toArray, List.getElem_cons_succ, List.getElem_cons_zero, Act.put, List.setIfInBounds_toArray, List.set_cons_zero, List.set_cons_succ]
      refine wpAnyM_take (i := 3) (v := ?_) rfl (by kernel_rfl) (fun _ _ _ h => h) (Or.inl ⟨by rfl, ?_⟩) hSS ?_
      rotate_left 1
      · intro wS hwS
        go_simp
        try with_reducible rfl
      simp only [List.getElem_toArray, List.getElem_cons_succ, List.getElem_cons_zero, Act.put, List.setIfInBounds_toArray, List.set_cons_zero, List.set_cons_succ]
      refine wpAnyM_take (i := 4) (v := ?_) rfl (by kernel_rfl) (fun _ _ _ h => h) (Or.inl ⟨by rfl, ?_⟩) hSS ?_
      rotate_left 1
      · intro wS hwS
        have c := ((HS.out wS).1 hwS).1.cell' 0 _ (stc_0 _ _); go_simp
        try with_reducible rfl
      simp only [List.getElem_toArray, List.getElem_cons_succ, List.getElem_cons_zero, Act.put, List.setIfInBounds_toArray, List.set_cons_zero, List.set_cons_succ]
      refine wpAnyM_take (i := 5) rfl (by kernel_rfl) (fun _ _ _ h => h) (yi_loc2 5 rfl (fun w hw => ((HS.out w).1 hw).2) lv.out) hSS ?_
      simp only [List.getElem_toArray, List.getElem_cons_succ, List.getElem_cons_zero, Act.put, List.setIfInBounds_toArray, List.set_cons_zero, List.set_cons_succ]
      refine wpAnyM_one (i := 6) rfl (by kernel_rfl) rfl (fun K hK => ?_)
      refine wbs_loc2 23 rfl lv.out (hK _ _ (fun _ => (HS.out _).2 ⟨Bx.alloc (Bx.dr SB.out) _, Bx.alloc (Bx.dr hX.out) _⟩) ?_)
      clear hK K hSS
      have hSS : S ((World.drew w3).alloc (.cells (ivs vs) 67)) := (HS.out _).2 ⟨Bx.alloc (Bx.dr SB.out) _, Bx.alloc (Bx.dr hX.out) _⟩
      refine wpAnyM_one (i := 7) rfl (by kernel_rfl) rfl (fun K hK => ?_)
      refine wap_loc2 22 24 rfl rfl lv.out (by omega) (World.ownsRow.alloc (w := World.drew w3) OW.out _) (Bx.new _ _ _) ?_
      intro L' cap' w4 own gb nr
      have XB := Bx.gb (Bx.alloc (Bx.dr SB.out) _) gb H.out.ne.symm
      have XD := Bx.gb (Bx.alloc (Bx.dr hX.out) _) gb hDL
      refine hK _ _ (fun _ => (HS.out _).2 ⟨XB, XD⟩) ?_
      clear hK K hSS
      have hSS : S w4 := (HS.out _).2 ⟨XB, XD⟩
      have c4 := XB.cell' 0 _ (stc_0 _ _)
      have f4 := XB.free 0
      have OWN := Lib.hid own
      have GB := Lib.hid gb
      have NR := Lib.hid nr
      replace XB := Lib.hid XB
      clear own gb nr XD
      refine wpAnyM_take (i := 8) (v := ?_) rfl (by kernel_rfl) (fun _ _ _ h => h) (Or.inl ⟨by rfl, ?_⟩) hSS ?_
      rotate_left 1
      · intro wS hwS
        go_simp
        try with_reducible rfl
      simp only [List.getElem_toArray, List.getElem_cons_succ, List.getElem_cons_zero, Act.put, List.setIfInBounds_toArray, List.set_cons_zero, List.set_cons_succ]
      refine wpAnyM_take (i := 9) (v := ?_) rfl (by kernel_rfl) (fun _ _ _ h => h) (Or.inl ⟨by rfl, ?_⟩) hSS ?_
      rotate_left 1
      · intro wS hwS
        go_simp
        try with_reducible rfl
      simp only [List.getElem_toArray, List.getElem_cons_succ, List.getElem_cons_zero, Act.put, List.setIfInBounds_toArray, List.set_cons_zero, List.set_cons_succ]
      refine wpAnyM_one (i := 10) rfl (by kernel_rfl) rfl (fun K hK => ?_)
      go_simp
      refine hK _ _ (fun h => absurd h (by decide)) ?_
      clear hK K hSS
      refine wpAnyM_done (by kernel_rfl) ?_ _
      go_wp2
      go_ret
      refine ⟨ret_n E1.out.symm, ⟨L', cap', ?_, ?_⟩, ?_⟩
      · rw [E2.out]
        have k := Stb.putRow XB.out (L' := L') (cap' := cap') (n' := N + 1) (ls' := s.ls ++ vs) (by rcases NR.out with k | k; exact (by rw [k]; exact H.out.ne); have := Q3.out.size; simp at k; omega) OWN.out (by
          have k := Vs.push_ok ok.out l
          rw [E2.out, ← hN.out, ← hvs.out] at k
          exact k)
        rw [← hN.out, ← hvs.out]
        exact k
      · rcases NR.out with k | k
        · exact .inl k
        · right; have := Q3.out.size; simp at k; omega
      · exact Ty.trans (Ty.of Q3.out) (Ty.trans (Ty.trans (Ty.of (Qw.al (Qw.dr (Qw.refl _)) _)) (Qw.gb GB.out B)) (Ty.setB _ _ _ _ _))
    · have E2 : Hid (s.push l = s) := Lib.hid (by unfold Vs.St.push; rw [if_neg (by rw [E1.out]; exact e0)])
      have ne : (Vs.err l != 0) = true := by simpa using e0
      have eb : ((Vs.err l : Int) == 0) = false := by simpa using e0
      have NE := Lib.hid e0
      clear e0 c0 f0 o1 o2 h h8
      go_enter Tryd.func20, Tryd.ntmps20
      go_wp2_with (first | (go_at_call 19; ((with_reducible refine HL.out.mono ?_); rintro e w' ⟨rfl, rfl⟩)) | (go_at_call 37; ((with_reducible refine HA.out.mono ?_); rintro e w' ⟨⟨vs, lv, _, rfl⟩, q⟩; have q0 := Lib.hid q; clear q)) | (refine st_loc 5 13 rfl rfl (Bx.new _ _ _) (by first | rfl | (simp; done)) lv ?_))
      go_ret
      exact ⟨ret_n E1.out.symm, ⟨L, cap, by rw [E2.out]; exact H.out.kept (Qw.sr (Qw.al q0.out _) q0.out.size _), .inl rfl⟩, Ty.of (Qw.sr (Qw.al q0.out _) q0.out.size _)⟩

end Go.Proofs.YtmfhiabajkdikaaDoor
