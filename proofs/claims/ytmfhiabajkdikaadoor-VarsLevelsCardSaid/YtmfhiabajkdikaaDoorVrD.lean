
/- Copy, Pop and Push of the specification. -/
import Derived.Test.YtmfhiabajkdikaaDoorVrC
set_option linter.unusedVariables false
set_option linter.unusedSimpArgs false
namespace Go.Proofs.YtmfhiabajkdikaaDoor
open Go.RowKit


section
variable {ops : Array Oper} {dst : Option Tmp} {ty : TypeId} {pos : String} {after : Array Edge} {a : Act}
theorem yi_c {S : World → Prop} (x : Tmp) {B : Nat} {l : List Int} (hx : a.eval (.tmp x) = .pointer (some ⟨B, 1, none⟩)) (hS : ∀ w, S w → w.rangeAt B 1 (l.map (Value.int .i64))) (hl : l.length = 100) :
    YieldsIf Tryd.prog ops S ⟨dst, .load 55 (.tmp x), ty, pos, after, none⟩ (.agg (ivs l)) a :=
  yieldsIf_load_mid rfl 55 (.tmp x) rfl B 1 hx (l.map (Value.int .i64)) _ hS Tryd.underlying55 rfl (by rw [List.length_map, hl]; kernel_rfl)
theorem yi_s {S : World → Prop} (x : Tmp) {B : Nat} {l : List Int} (hx : a.eval (.tmp x) = .pointer (some ⟨B, 101, none⟩)) (hS : ∀ w, S w → w.rangeAt B 101 (l.map (Value.int .i64))) (hl : l.length = 1000) :
    YieldsIf Tryd.prog ops S ⟨dst, .load 56 (.tmp x), ty, pos, after, none⟩ (.agg (ivs l)) a :=
  yieldsIf_load_mid rfl 56 (.tmp x) rfl B 101 hx (l.map (Value.int .i64)) _ hS Tryd.underlying56 rfl (by rw [List.length_map, hl]; kernel_rfl)
theorem yi_b {S : World → Prop} (x y z : Tmp) {b : Option Addr} {n c : Nat} {s : Vs.St} (ok : s.ok) (hx : a.eval (.tmp x) = .slice b n c) (hy : a.eval (.tmp y) = .agg (ivs s.cm)) (hz : a.eval (.tmp z) = .agg (ivs s.sy)) :
    YieldsIf Tryd.prog ops S ⟨dst, .build 61 #[(0, .tmp x), (1, .tmp y), (2, .tmp z)], ty, pos, after, none⟩ (.agg (stc (.slice b n c) s)) a :=
  .inl ⟨rfl, fun w hw => by
    have e : Tryd.prog.built 61 ((#[(0, Operand.tmp x), (1, Operand.tmp y), (2, Operand.tmp z)] : Array (Nat × Operand)).map fun (i, x) => (i, a.eval x)).toList = some (stc (.slice b n c) s) := by
      rw [built_r]
      have e2 : ((#[(0, Operand.tmp x), (1, Operand.tmp y), (2, Operand.tmp z)] : Array (Nat × Operand)).map fun (i, x) => (i, a.eval x)).toList = [(0, Value.slice b n c), (1, .agg (ivs s.cm)), (2, .agg (ivs s.sy))] := by simp [hx, hy, hz]
      rw [e2]
      exact fill_all b n c ok
    unfold execOp
    simp only [Sem.run_bind, run_build w 61 _ _ e, Result.andThen_ok, Sem.run_pure]⟩
end
theorem Stb.rangeC {T E : TypeId} {w : World} {B L cap : Nat} {s : Vs.St} (h : Stb T E w B L cap s) : w.rangeAt B 1 (s.cm.map (Value.int .i64)) := by
  intro j v hj
  have hl := h.ok.hc
  have hlt : j < s.cm.length := by
    have := (List.getElem?_eq_some_iff.1 hj).1
    simpa using this
  rw [h.cellC (k := j) (by omega), ← hj, List.getElem?_map, List.getElem?_eq_getElem hlt, List.getD_eq_getElem?_getD, List.getElem?_eq_getElem hlt]
  rfl
theorem Stb.rangeS {T E : TypeId} {w : World} {B L cap : Nat} {s : Vs.St} (h : Stb T E w B L cap s) : w.rangeAt B 101 (s.sy.map (Value.int .i64)) := by
  intro j v hj
  have hl := h.ok.hs
  have hlt : j < s.sy.length := by
    have := (List.getElem?_eq_some_iff.1 hj).1
    simpa using this
  rw [h.cellS (k := j) (by omega), ← hj, List.getElem?_map, List.getElem?_eq_getElem hlt, List.getD_eq_getElem?_getD, List.getElem?_eq_getElem hlt]
  rfl

theorem Qw.gbn {w0 w w' : World} {L : Nat} (q : Qw w0 w) (h : w.grownBy w' (some L)) (hL : w0.heap.size ≤ L) : Qw w0 w' :=
  ⟨h.os.trans q.os, h.tape.trans q.tape, h.output.trans q.output, Nat.le_trans q.size h.size, fun k hk => (h.block k (Nat.lt_of_lt_of_le hk q.size) (by simp; omega)).trans (q.block k hk)⟩

set_option maxRecDepth 100000 in
set_option maxHeartbeats 4000000 in
theorem vrCopy {w : World} {B L cap : Nat} {s : Vs.St} (h : Rst w B L cap s) : Calls Tryd.prog 25 #[.pointer (some ⟨B, 0, none⟩)] w (NewR Rst s w) := by
  have H := Lib.hid h
  have hB := h.ltB
  have n1 := h.ok.n1
  have n2 := h.ok.n2
  have ok := Lib.hid h.ok
  obtain ⟨S, hS⟩ : ∃ S : World → Prop, ∀ w', S w' ↔ Qw w w' := ⟨_, fun _ => Iff.rfl⟩
  have HS := Lib.hid hS
  have CS := Lib.hid (fun w' (q : S w') => (h.kept ((hS w').1 q)).cell0)
  have CC := Lib.hid (fun w' (q : S w') => (h.kept ((hS w').1 q)).rangeC)
  have CY := Lib.hid (fun w' (q : S w') => (h.kept ((hS w').1 q)).rangeS)
  clear h hS
  go_enter Tryd.func25, Tryd.ntmps25
  go_wp2
  refine wp_region_M S 16 (by kernel_rfl) ?_
  have hSS : S (World.drew w) := (HS.out _).2 (Qw.dr (Qw.refl w))
  refine wpAnyM_take (i := 1) (v := ?_) rfl (by kernel_rfl) (fun _ _ _ h => h) (Or.inl ⟨by rfl, ?_⟩) hSS ?_
  rotate_left 1
  · intro wS hwS
    go_simp
    try with_reducible rfl
  simp only [List.getElem_toArray, List.getElem_cons_succ, List.getElem_cons_zero, Act.put, List.setIfInBounds_toArray, List.set_cons_zero, List.set_cons_succ]
  refine wpAnyM_take (i := 2) (v := ?_) rfl (by kernel_rfl) (fun _ _ _ h => h) (Or.inl ⟨by rfl, ?_⟩) hSS ?_
  rotate_left 1
  · intro wS hwS
    go_simp
    try with_reducible rfl
  simp only [List.getElem_toArray, List.getElem_cons_succ, List.getElem_cons_zero, Act.put, List.setIfInBounds_toArray, List.set_cons_zero, List.set_cons_succ]
  refine wpAnyM_take (i := 3) (v := ?_) rfl (by kernel_rfl) (fun _ _ _ h => h) (Or.inl ⟨by rfl, ?_⟩) hSS ?_
  rotate_left 1
  · intro wS hwS
    go_simp
    try with_reducible rfl
  simp only [List.getElem_toArray, List.getElem_cons_succ, List.getElem_cons_zero, Act.put, List.setIfInBounds_toArray, List.set_cons_zero, List.set_cons_succ]
  refine wpAnyM_take (i := 4) (v := ?_) rfl (by kernel_rfl) (fun _ _ _ h => h) (Or.inl ⟨by rfl, ?_⟩) hSS ?_
  rotate_left 1
  · intro wS hwS
    have c := CS.out wS hwS; go_simp
    try with_reducible rfl
  simp only [List.getElem_toArray, List.getElem_cons_succ, List.getElem_cons_zero, Act.put, List.setIfInBounds_toArray, List.set_cons_zero, List.set_cons_succ]
  refine wpAnyM_take (i := 6) (v := ?_) rfl (by kernel_rfl) (fun _ _ _ h => h) (Or.inl ⟨by rfl, ?_⟩) hSS ?_
  rotate_left 1
  · intro wS hwS
    go_simp
    try with_reducible rfl
  simp only [List.getElem_toArray, List.getElem_cons_succ, List.getElem_cons_zero, Act.put, List.setIfInBounds_toArray, List.set_cons_zero, List.set_cons_succ]
  refine wpAnyM_take (i := 7) (v := ?_) rfl (by kernel_rfl) (fun _ _ _ h => h) (Or.inl ⟨by rfl, ?_⟩) hSS ?_
  rotate_left 1
  · intro wS hwS
    go_simp
    try with_reducible rfl
  simp only [List.getElem_toArray, List.getElem_cons_succ, List.getElem_cons_zero, Act.put, List.setIfInBounds_toArray, List.set_cons_zero, List.set_cons_succ]
  refine wpAnyM_take (i := 8) (v := ?_) rfl (by kernel_rfl) (fun _ _ _ h => h) (Or.inl ⟨by rfl, ?_⟩) hSS ?_
  rotate_left 1
  · intro wS hwS
    go_simp
    try with_reducible rfl
  simp only [List.getElem_toArray, List.getElem_cons_succ, List.getElem_cons_zero, Act.put, List.setIfInBounds_toArray, List.set_cons_zero, List.set_cons_succ]
  refine wpAnyM_take (i := 9) rfl (by kernel_rfl) (fun _ _ _ h => h) (yi_c 11 rfl CC.out ok.out.hc) hSS ?_
  simp only [List.getElem_toArray, List.getElem_cons_succ, List.getElem_cons_zero, Act.put, List.setIfInBounds_toArray, List.set_cons_zero, List.set_cons_succ]
  refine wpAnyM_take (i := 10) (v := ?_) rfl (by kernel_rfl) (fun _ _ _ h => h) (Or.inl ⟨by rfl, ?_⟩) hSS ?_
  rotate_left 1
  · intro wS hwS
    go_simp
    try with_reducible rfl
  simp only [List.getElem_toArray, List.getElem_cons_succ, List.getElem_cons_zero, Act.put, List.setIfInBounds_toArray, List.set_cons_zero, List.set_cons_succ]
  refine wpAnyM_take (i := 11) (v := ?_) rfl (by kernel_rfl) (fun _ _ _ h => h) (Or.inl ⟨by rfl, ?_⟩) hSS ?_
  rotate_left 1
  · intro wS hwS
    go_simp
    try with_reducible rfl
  simp only [List.getElem_toArray, List.getElem_cons_succ, List.getElem_cons_zero, Act.put, List.setIfInBounds_toArray, List.set_cons_zero, List.set_cons_succ]
  refine wpAnyM_take (i := 12) (v := ?_) rfl (by kernel_rfl) (fun _ _ _ h => h) (Or.inl ⟨by rfl, ?_⟩) hSS ?_
  rotate_left 1
  · intro wS hwS
    go_simp
    try with_reducible rfl
  simp only [List.getElem_toArray, List.getElem_cons_succ, List.getElem_cons_zero, Act.put, List.setIfInBounds_toArray, List.set_cons_zero, List.set_cons_succ]
  refine wpAnyM_take (i := 13) rfl (by kernel_rfl) (fun _ _ _ h => h) (yi_s 15 rfl CY.out ok.out.hs) hSS ?_
  simp only [List.getElem_toArray, List.getElem_cons_succ, List.getElem_cons_zero, Act.put, List.setIfInBounds_toArray, List.set_cons_zero, List.set_cons_succ]
  refine wpAnyM_one (i := 0) rfl (by kernel_rfl) rfl (fun K hK => ?_)
  go_simp
  have q1 : Qw w (World.drew (w.alloc (.cells #[] 72))) := Qw.dr (Qw.al (Qw.refl w) _)
  have hSS1 := (HS.out _).2 q1
  refine hK _ _ (fun _ => hSS1) ?_
  clear hK K hSS
  have own0 : (World.drew (w.alloc (.cells #[] 72))).ownsRow w.heap.size 72 33 (.slice (some ⟨w.heap.size, 0, none⟩) 0 0) 0 (([] : List Int).map (Value.int .i64)) := World.ownsRow_made w #[] 0 (Nat.le_refl _) (by decide) rfl
  refine wpAnyM_one (i := 5) rfl (by kernel_rfl) rfl (fun K hK => ?_)
  refine wapm_lev 3 7 (n := 0) (ls := []) rfl rfl ok.out.hl (by omega) n1 own0 (H.out.kept q1).owns_cells ?_
  intro L' cap' w4 own gb nr
  rw [List.nil_append, Nat.zero_add] at own
  simp only [Nat.zero_add]
  have q2 : Qw w w4 := Qw.gbn q1 gb (Nat.le_refl _)
  have hSS := (HS.out _).2 q2
  refine hK _ _ (fun _ => hSS) ?_
  clear hK K hSS1 own0
  have OWN := Lib.hid own
  have NR : Hid (w.heap.size ≤ L' ∧ L' < w4.heap.size) := Lib.hid ⟨by rcases nr with k | k; omega; (simp at k; omega), (own.lt L' rfl).2⟩
  replace q2 := Lib.hid q2
  clear own gb nr q1
  simp only [List.getElem_toArray, List.getElem_cons_succ, List.getElem_cons_zero, Act.put, List.setIfInBounds_toArray, List.set_cons_zero, List.set_cons_succ]
  refine wpAnyM_take (i := 14) rfl (by kernel_rfl) (fun _ _ _ h => h) (yi_b 8 12 16 ok.out rfl rfl rfl) hSS ?_
  simp only [List.getElem_toArray, List.getElem_cons_succ, List.getElem_cons_zero, Act.put, List.setIfInBounds_toArray, List.set_cons_zero, List.set_cons_succ]
  refine wpAnyM_one (i := 15) rfl (by kernel_rfl) rfl (fun K hK => ?_)
  go_simp
  have q3 := Lib.hid (Qw.al q2.out (.cells (stc (.slice (some ⟨L', 0, none⟩) s.n cap') s) 61))
  have hSS1 := (HS.out _).2 q3.out
  refine hK _ _ (fun _ => hSS1) ?_
  clear hK K hSS
  refine wpAnyM_one (i := 16) rfl (by kernel_rfl) rfl (fun K hK => ?_)
  go_simp
  refine hK _ _ (fun h => absurd h (by decide)) ?_
  clear hK K hSS1
  refine wpAnyM_done (by kernel_rfl) ?_ _
  go_wp2
  go_ret
  have XB := Bx.new w4 (stc (.slice (some ⟨L', 0, none⟩) s.n cap') s) 61
  have OW := World.ownsRow.alloc OWN.out (.cells (stc (.slice (some ⟨L', 0, none⟩) s.n cap') s) 61)
  refine ⟨_, L', cap', rfl, ⟨XB, ?_, by have := NR.out; omega, ?_, ?_, ok.out⟩, q2.out.size, NR.out.1, q3.out⟩
  · rcases OW.2 with ⟨e, _⟩ | ⟨g, c, cur, e, _, hg, h1, h2, h3, h4⟩
    · cases e
    · injection e with e1 e2 e3
      injection e1 with e1
      injection e1 with e1
      subst e1 e3
      exact ⟨cur, hg, h3, h4⟩
  · rcases OW.2 with ⟨e, _⟩ | ⟨g, c, cur, e, _, hg, h1, h2, h3, h4⟩
    · cases e
    · injection e with e1 e2 e3
      omega
  · rcases OW.2 with ⟨e, _⟩ | ⟨g, c, cur, e, _, hg, h1, h2, h3, h4⟩
    · cases e
    · injection e with e1 e2 e3
      omega

theorem Bx.new' (w : World) (A B : Array Value) (t : TypeId) (h : A = B) : Bx (w.alloc (.cells A t)) w.heap.size B t := h ▸ Bx.new w A t
theorem Qw.ty {w w' : World} (B L : Nat) (q : Qw w w') : Ty B L w w' := Ty.of q
/-- The first levels of a list in memory. -/
theorem Stb.some_cells {T E : TypeId} {w : World} {B L cap : Nat} {s : Vs.St} (h : Stb T E w B L cap s) (k : Nat) : ∀ j u, ((s.ls.take k).map (Value.int .i64))[j]? = some u → w.cell? ((⟨L, 0, none⟩ : Addr).add j) = some u := by
  intro j u hj
  refine h.owns_cells j u ?_
  rw [List.map_take] at hj
  have hk : j < k := by
    have := (List.getElem?_eq_some_iff.1 hj).1
    rw [List.length_take] at this
    omega
  rwa [List.getElem?_take_of_lt hk] at hj

set_option maxRecDepth 100000 in
set_option maxHeartbeats 4000000 in
theorem vrPop {w : World} {B L cap : Nat} {s : Vs.St} (h : Rst w B L cap s) : Calls Tryd.prog 35 #[.pointer (some ⟨B, 0, none⟩)] w (PopR B L s Rst w) := by
  have hl := vrLevel h
  have H := Lib.hid h
  have o1 := h.ok.n1
  have o2 := h.ok.n2
  by_cases h1 : s.n = 1
  · have E1 : Hid (Vs.St.poperr s = 13 ∧ s.pop = s) := Lib.hid ⟨if_pos h1, if_pos h1⟩
    have en : ((s.n : Int) - 1) = 0 := by omega
    rw [en] at hl
    have HL := Lib.hid hl
    clear hl h o1 o2 en h1
    go_enter Tryd.func35, Tryd.ntmps35
    go_wp2_with (go_at_call 29; ((with_reducible refine HL.out.mono ?_); rintro e w' ⟨rfl, rfl⟩))
    go_ret
    exact ⟨ret_n E1.out.1.symm, ⟨L, cap, by rw [E1.out.2]; exact H.out, .inl rfl⟩, Ty.refl _ _ _⟩
  · have E1 : Hid (Vs.St.poperr s = 0) := Lib.hid (if_neg h1)
    obtain ⟨m, hm⟩ : ∃ m : Nat, s.n = m + 1 := ⟨s.n - 1, by omega⟩
    have en : ((s.n : Int) - 1) = (m : Int) := by omega
    rw [en] at hl
    have HL := Lib.hid hl
    have m1 : 1 ≤ (m : Int) := by omega
    have m1' : 1 ≤ m := by omega
    have m9 : m ≤ 8 := by omega
    have m0 : ((m : Int) == 0) = false := beq_eq_false_iff_ne.2 (by omega)
    have mc : m + 1 ≤ cap := by have := h.c1; omega
    have mc' : (m : Int) ≤ (cap : Int) := by omega
    have mc2 : m ≤ cap := by omega
    have mz : 0 ≤ (m : Int) := by omega
    have f2 : IntKind.i64.wrap (((m + 1 : Nat) : Int) - 1) = m := (IntWalk.i64_in _ (by omega)).trans (by omega)
    have f4 : IntKind.i64.wrap (m : Int) = m := IntWalk.i64_in _ (by omega)
    have hB := h.ltB
    have E2 : Hid (s.pop = { s with n := m, ls := s.ls.take (m * 33) }) := Lib.hid (by unfold Vs.St.pop; rw [if_neg h1, hm]; rfl)
    have OK : Hid (s.pop.ok) := Lib.hid (Vs.pop_ok h.ok)
    have LL : Hid ((s.ls.take (m * 33)).length = m * 33) := Lib.hid (by have := h.ok.hl; rw [List.length_take]; omega)
    obtain ⟨S, hS⟩ : ∃ S : World → Prop, ∀ w', S w' ↔ Qw w w' := ⟨_, fun _ => Iff.rfl⟩
    have HS := Lib.hid hS
    have CS := Lib.hid (fun w' (q : S w') => by have := (h.kept ((hS w').1 q)).cell0; rw [hm] at this; exact this)
    replace hm := Lib.hid hm
    clear hl h o1 o2 en h1 hS
    go_enter Tryd.func35, Tryd.ntmps35
    go_wp2_with (go_at_call 29; ((with_reducible refine HL.out.mono ?_); rintro e w' ⟨rfl, rfl⟩))
    refine wp_region_M S 16 (by kernel_rfl) ?_
    have hSS : S (World.drew w) := (HS.out _).2 (Qw.dr (Qw.refl w))
    refine wpAnyM_take (i := 0) (v := ?_) rfl (by kernel_rfl) (fun _ _ _ h => h) (Or.inl ⟨by rfl, ?_⟩) hSS ?_
    rotate_left 1
    · intro wS hwS
      go_simp
      try with_reducible rfl
    simp only [List.getElem_toArray, List.getElem_cons_succ, List.getElem_cons_zero, Act.put, List.setIfInBounds_toArray, List.set_cons_zero, List.set_cons_succ]
    refine wpAnyM_take (i := 2) (v := ?_) rfl (by kernel_rfl) (fun _ _ _ h => h) (Or.inl ⟨by rfl, ?_⟩) hSS ?_
    rotate_left 1
    · intro wS hwS
      go_simp
      try with_reducible rfl
    simp only [List.getElem_toArray, List.getElem_cons_succ, List.getElem_cons_zero, Act.put, List.setIfInBounds_toArray, List.set_cons_zero, List.set_cons_succ]
    refine wpAnyM_take (i := 3) (v := ?_) rfl (by kernel_rfl) (fun _ _ _ h => h) (Or.inl ⟨by rfl, ?_⟩) hSS ?_
    rotate_left 1
    · intro wS hwS
      go_simp
      try with_reducible rfl
    simp only [List.getElem_toArray, List.getElem_cons_succ, List.getElem_cons_zero, Act.put, List.setIfInBounds_toArray, List.set_cons_zero, List.set_cons_succ]
    refine wpAnyM_take (i := 4) (v := ?_) rfl (by kernel_rfl) (fun _ _ _ h => h) (Or.inl ⟨by rfl, ?_⟩) hSS ?_
    rotate_left 1
    · intro wS hwS
      go_simp
      try with_reducible rfl
    simp only [List.getElem_toArray, List.getElem_cons_succ, List.getElem_cons_zero, Act.put, List.setIfInBounds_toArray, List.set_cons_zero, List.set_cons_succ]
    refine wpAnyM_take (i := 5) (v := ?_) rfl (by kernel_rfl) (fun _ _ _ h => h) (Or.inl ⟨by rfl, ?_⟩) hSS ?_
    rotate_left 1
    · intro wS hwS
      have c := CS.out wS hwS; go_simp
      try with_reducible rfl
    simp only [List.getElem_toArray, List.getElem_cons_succ, List.getElem_cons_zero, Act.put, List.setIfInBounds_toArray, List.set_cons_zero, List.set_cons_succ]
    refine wpAnyM_take (i := 6) (v := ?_) rfl (by kernel_rfl) (fun _ _ _ h => h) (Or.inl ⟨by rfl, ?_⟩) hSS ?_
    rotate_left 1
    · intro wS hwS
      go_simp
      try with_reducible rfl
    simp only [List.getElem_toArray, List.getElem_cons_succ, List.getElem_cons_zero, Act.put, List.setIfInBounds_toArray, List.set_cons_zero, List.set_cons_succ]
    refine wpAnyM_take (i := 7) (v := ?_) rfl (by kernel_rfl) (fun _ _ _ h => h) (Or.inl ⟨by rfl, ?_⟩) hSS ?_
    rotate_left 1
    · intro wS hwS
      go_simp
      try with_reducible rfl
    simp only [List.getElem_toArray, List.getElem_cons_succ, List.getElem_cons_zero, Act.put, List.setIfInBounds_toArray, List.set_cons_zero, List.set_cons_succ]
    refine wpAnyM_take (i := 8) (v := ?_) rfl (by kernel_rfl) (fun _ _ _ h => h) (Or.inl ⟨by rfl, ?_⟩) hSS ?_
    rotate_left 1
    · intro wS hwS
      go_simp
      try with_reducible rfl
    simp only [List.getElem_toArray, List.getElem_cons_succ, List.getElem_cons_zero, Act.put, List.setIfInBounds_toArray, List.set_cons_zero, List.set_cons_succ]
    refine wpAnyM_take (i := 9) (v := ?_) rfl (by kernel_rfl) (fun _ _ _ h => h) (Or.inl ⟨by rfl, ?_⟩) hSS ?_
    rotate_left 1
    · intro wS hwS
      have c := CS.out wS hwS; go_simp
      try with_reducible rfl
    simp only [List.getElem_toArray, List.getElem_cons_succ, List.getElem_cons_zero, Act.put, List.setIfInBounds_toArray, List.set_cons_zero, List.set_cons_succ]
    refine wpAnyM_take (i := 10) (v := ?_) rfl (by kernel_rfl) (fun _ _ _ h => h) (Or.inl ⟨by rfl, ?_⟩) hSS ?_
    rotate_left 1
    · intro wS hwS
      go_simp
      try with_reducible rfl
    simp only [List.getElem_toArray, List.getElem_cons_succ, List.getElem_cons_zero, Act.put, List.setIfInBounds_toArray, List.set_cons_zero, List.set_cons_succ]
    refine wpAnyM_take (i := 11) (v := ?_) rfl (by kernel_rfl) (fun _ _ _ h => h) (Or.inl ⟨by rfl, ?_⟩) hSS ?_
    rotate_left 1
    · intro wS hwS
      go_simp
      try with_reducible rfl
    simp only [List.getElem_toArray, List.getElem_cons_succ, List.getElem_cons_zero, Act.put, List.setIfInBounds_toArray, List.set_cons_zero, List.set_cons_succ]
    refine wpAnyM_take (i := 12) (v := ?_) rfl (by kernel_rfl) (fun _ _ _ h => h) (Or.inl ⟨by rfl, ?_⟩) hSS ?_
    rotate_left 1
    · intro wS hwS
      go_simp
      try with_reducible rfl
    simp only [List.getElem_toArray, List.getElem_cons_succ, List.getElem_cons_zero, Act.put, List.setIfInBounds_toArray, List.set_cons_zero, List.set_cons_succ]
    refine wpAnyM_one (i := 1) rfl (by kernel_rfl) rfl (fun K hK => ?_)
    go_simp
    have q1 : Qw w (World.drew (w.alloc (.cells #[] 72))) := Qw.dr (Qw.al (Qw.refl w) _)
    have hSS1 := (HS.out _).2 q1
    refine hK _ _ (fun _ => hSS1) ?_
    clear hK K hSS
    have own0 : (World.drew (w.alloc (.cells #[] 72))).ownsRow w.heap.size 72 33 (.slice (some ⟨w.heap.size, 0, none⟩) 0 0) 0 (([] : List Int).map (Value.int .i64)) := World.ownsRow_made w #[] 0 (Nat.le_refl _) (by decide) rfl
    refine wpAnyM_one (i := 13) rfl (by kernel_rfl) rfl (fun K hK => ?_)
    refine wapm_lev 7 18 (n := 0) (ls := []) rfl rfl LL.out (by omega) m1' own0 ((H.out.kept q1).some_cells _) ?_
    intro L' cap' w4 own gb nr
    rw [List.nil_append, Nat.zero_add] at own
    simp only [Nat.zero_add]
    have q2 : Qw w w4 := Qw.gbn q1 gb (Nat.le_refl _)
    have hSS := (HS.out _).2 q2
    refine hK _ _ (fun _ => hSS) ?_
    clear hK K hSS1 own0
    have OWN := Lib.hid own
    have NR : Hid (w.heap.size ≤ L' ∧ L' < w4.heap.size) := Lib.hid ⟨by rcases nr with k | k; omega; (simp at k; omega), (own.lt L' rfl).2⟩
    have XB := H.out.bx.kept q2
    have c4 := XB.cell' 0 _ (stc_0 _ _)
    have z4 := XB.free 0
    replace XB := Lib.hid XB
    replace q2 := Lib.hid q2
    clear own gb nr q1
    simp only [List.getElem_toArray, List.getElem_cons_succ, List.getElem_cons_zero, Act.put, List.setIfInBounds_toArray, List.set_cons_zero, List.set_cons_succ]
    refine wpAnyM_take (i := 14) (v := ?_) rfl (by kernel_rfl) (fun _ _ _ h => h) (Or.inl ⟨by rfl, ?_⟩) hSS ?_
    rotate_left 1
    · intro wS hwS
      go_simp
      try with_reducible rfl
    simp only [List.getElem_toArray, List.getElem_cons_succ, List.getElem_cons_zero, Act.put, List.setIfInBounds_toArray, List.set_cons_zero, List.set_cons_succ]
    refine wpAnyM_take (i := 15) (v := ?_) rfl (by kernel_rfl) (fun _ _ _ h => h) (Or.inl ⟨by rfl, ?_⟩) hSS ?_
    rotate_left 1
    · intro wS hwS
      go_simp
      try with_reducible rfl
    simp only [List.getElem_toArray, List.getElem_cons_succ, List.getElem_cons_zero, Act.put, List.setIfInBounds_toArray, List.set_cons_zero, List.set_cons_succ]
    refine wpAnyM_one (i := 16) rfl (by kernel_rfl) rfl (fun K hK => ?_)
    go_simp
    refine hK _ _ (fun h => absurd h (by decide)) ?_
    clear hK K hSS
    refine wpAnyM_done (by kernel_rfl) ?_ _
    go_wp2
    go_ret
    have okp := OK.out
    rw [E2.out] at okp
    have k := Stb.putRow XB.out (L' := L') (cap' := cap') (n' := m) (ls' := s.ls.take (m * 33)) (by have := NR.out; omega) OWN.out okp
    refine ⟨ret_n E1.out.symm, ⟨L', cap', ?_, .inr NR.out.1⟩, Ty.one q2.out (.inl rfl) _ _⟩
    rw [E2.out]
    exact k

end Go.Proofs.YtmfhiabajkdikaaDoor
