
/- Several levels appended at once; Pop, Clone and Copy of package vars. -/
import Derived.Test.YtmfhiabajkdikaaDoorVaG
import Derived.Deep.WholeRow
set_option linter.unusedVariables false
set_option linter.unusedSimpArgs false
namespace Go.Proofs.YtmfhiabajkdikaaDoor
open Go.RowKit


section
variable {ops : Array Oper} {rest : List Oper} {dst : Option Tmp} {ty : TypeId} {pos : String} {after : Array Edge} {a : Act} {w : World} {Q : Exit → Act → World → Prop} {K : Act → World → Prop}
/-- Some levels appended to a list of levels that lies in block L. -/
theorem apm_loc2 (s x : Tmp) {L n cap D k c : Nat} {ls vs : List Int} (hs : a.eval (.tmp s) = .slice (some ⟨L, 0, none⟩) n cap) (hx : a.eval (.tmp x) = .slice (some ⟨D, 0, none⟩) k c) (hl : vs.length = k * 33) (hn : n + k ≤ 1000) (hk : 1 ≤ k)
    (own : w.ownsRow L 67 33 (.slice (some ⟨L, 0, none⟩) n cap) n (ls.map (Value.int .i64))) (X : ∀ j u, (vs.map (Value.int .i64))[j]? = some u → w.cell? ((⟨D, 0, none⟩ : Addr).add j) = some u)
    (h : ∀ L' cap' w', w'.ownsRow L' 67 33 (.slice (some ⟨L', 0, none⟩) (n + k) cap') (n + k) ((ls ++ vs).map (Value.int .i64)) → w.grownBy w' (some L) → (L' = L ∨ w.heap.size ≤ L') → wpList Tryd.prog ops Q rest (a.put dst (.slice (some ⟨L', 0, none⟩) (n + k) cap')) w') :
    wpList Tryd.prog ops Q (⟨dst, .call { callee := .builtin .append, args := #[.tmp s, .tmp x], argTypes := #[54, 54] }, ty, pos, after, none⟩ :: rest) a w := by
  obtain ⟨i0, hi, hz0, hz1, hz2⟩ := info_parts info_loc2
  have hL : L < w.heap.size := (own.lt L rfl).2
  obtain ⟨v', w', hr, h2, h3, h4⟩ := run_append_near (P := Tryd.prog) w L 54 ty 67 i0 _ 33 264 Tryd.underlying54 hi hz0 hz1 hz2 (by rw [show (Value.agg (ivs (Vs.zer 33))).cells = ivs (Vs.zer 33) from rfl, ivs_size]; exact Vs.zer_length 33) (by decide) _ n _ own ⟨D, 0, none⟩ k c (vs.map (Value.int .i64)) (by rw [List.length_map, hl]) X (ints_one vs) (by unfold maxLen; omega) (by omega) (by omega)
  refine wpList_plain rfl fun K hK => ?_
  unfold Oper.wp
  simp [execOp, resolve, invoke, builtin, hs, hx, hr, Result.andThen]
  refine hK _ _ ?_
  rcases h2.2 with ⟨e, z⟩ | ⟨g, c', cur, e, hb, hg, k1, k2, k3, k4⟩
  · omega
  · subst e
    refine h g c' w' ⟨by rw [List.map_append]; exact h2.1, .inr ⟨g, c', cur, rfl, Nat.le_refl _, hg, k1, k2, k3, by rw [List.map_append]; exact k4⟩⟩ h3 ?_
    rcases h4 g rfl with k | k
    · left; simpa [Value.ownBlock] using k.symm
    · exact .inr k

theorem wapm_loc2 (s x : Tmp) {L n cap D k c : Nat} {ls vs : List Int} (hs : a.eval (.tmp s) = .slice (some ⟨L, 0, none⟩) n cap) (hx : a.eval (.tmp x) = .slice (some ⟨D, 0, none⟩) k c) (hl : vs.length = k * 33) (hn : n + k ≤ 1000) (hk : 1 ≤ k)
    (own : w.ownsRow L 67 33 (.slice (some ⟨L, 0, none⟩) n cap) n (ls.map (Value.int .i64))) (X : ∀ j u, (vs.map (Value.int .i64))[j]? = some u → w.cell? ((⟨D, 0, none⟩ : Addr).add j) = some u)
    (h : ∀ L' cap' w', w'.ownsRow L' 67 33 (.slice (some ⟨L', 0, none⟩) (n + k) cap') (n + k) ((ls ++ vs).map (Value.int .i64)) → w.grownBy w' (some L) → (L' = L ∨ w.heap.size ≤ L') → K (a.put dst (.slice (some ⟨L', 0, none⟩) (n + k) cap')) w') :
    Oper.wp Tryd.prog ⟨dst, .call { callee := .builtin .append, args := #[.tmp s, .tmp x], argTypes := #[54, 54] }, ty, pos, after, none⟩ a w K Q := by
  obtain ⟨i0, hi, hz0, hz1, hz2⟩ := info_parts info_loc2
  have hL : L < w.heap.size := (own.lt L rfl).2
  obtain ⟨v', w', hr, h2, h3, h4⟩ := run_append_near (P := Tryd.prog) w L 54 ty 67 i0 _ 33 264 Tryd.underlying54 hi hz0 hz1 hz2 (by rw [show (Value.agg (ivs (Vs.zer 33))).cells = ivs (Vs.zer 33) from rfl, ivs_size]; exact Vs.zer_length 33) (by decide) _ n _ own ⟨D, 0, none⟩ k c (vs.map (Value.int .i64)) (by rw [List.length_map, hl]) X (ints_one vs) (by unfold maxLen; omega) (by omega) (by omega)
  unfold Oper.wp
  simp [execOp, resolve, invoke, builtin, hs, hx, hr, Result.andThen]
  rcases h2.2 with ⟨e, z⟩ | ⟨g, c', cur, e, hb, hg, k1, k2, k3, k4⟩
  · omega
  · subst e
    refine h g c' w' ⟨by rw [List.map_append]; exact h2.1, .inr ⟨g, c', cur, rfl, Nat.le_refl _, hg, k1, k2, k3, by rw [List.map_append]; exact k4⟩⟩ h3 ?_
    rcases h4 g rfl with k | k
    · left; simpa [Value.ownBlock] using k.symm
    · exact .inr k

end

section
variable {ops : Array Oper} {rest : List Oper} {dst : Option Tmp} {ty : TypeId} {pos : String} {after : Array Edge} {a : Act} {w : World} {Q : Exit → Act → World → Prop} {K : Act → World → Prop}
/-- Some levels appended to a list of levels that lies in block L. -/
theorem apm_lev (s x : Tmp) {L n cap D k c : Nat} {ls vs : List Int} (hs : a.eval (.tmp s) = .slice (some ⟨L, 0, none⟩) n cap) (hx : a.eval (.tmp x) = .slice (some ⟨D, 0, none⟩) k c) (hl : vs.length = k * 33) (hn : n + k ≤ 1000) (hk : 1 ≤ k)
    (own : w.ownsRow L 72 33 (.slice (some ⟨L, 0, none⟩) n cap) n (ls.map (Value.int .i64))) (X : ∀ j u, (vs.map (Value.int .i64))[j]? = some u → w.cell? ((⟨D, 0, none⟩ : Addr).add j) = some u)
    (h : ∀ L' cap' w', w'.ownsRow L' 72 33 (.slice (some ⟨L', 0, none⟩) (n + k) cap') (n + k) ((ls ++ vs).map (Value.int .i64)) → w.grownBy w' (some L) → (L' = L ∨ w.heap.size ≤ L') → wpList Tryd.prog ops Q rest (a.put dst (.slice (some ⟨L', 0, none⟩) (n + k) cap')) w') :
    wpList Tryd.prog ops Q (⟨dst, .call { callee := .builtin .append, args := #[.tmp s, .tmp x], argTypes := #[59, 59] }, ty, pos, after, none⟩ :: rest) a w := by
  obtain ⟨i0, hi, hz0, hz1, hz2⟩ := info_parts info_lev
  have hL : L < w.heap.size := (own.lt L rfl).2
  obtain ⟨v', w', hr, h2, h3, h4⟩ := run_append_near (P := Tryd.prog) w L 59 ty 72 i0 _ 33 264 Tryd.underlying59 hi hz0 hz1 hz2 (by rw [show (Value.agg (ivs (Vs.zer 33))).cells = ivs (Vs.zer 33) from rfl, ivs_size]; exact Vs.zer_length 33) (by decide) _ n _ own ⟨D, 0, none⟩ k c (vs.map (Value.int .i64)) (by rw [List.length_map, hl]) X (ints_one vs) (by unfold maxLen; omega) (by omega) (by omega)
  refine wpList_plain rfl fun K hK => ?_
  unfold Oper.wp
  simp [execOp, resolve, invoke, builtin, hs, hx, hr, Result.andThen]
  refine hK _ _ ?_
  rcases h2.2 with ⟨e, z⟩ | ⟨g, c', cur, e, hb, hg, k1, k2, k3, k4⟩
  · omega
  · subst e
    refine h g c' w' ⟨by rw [List.map_append]; exact h2.1, .inr ⟨g, c', cur, rfl, Nat.le_refl _, hg, k1, k2, k3, by rw [List.map_append]; exact k4⟩⟩ h3 ?_
    rcases h4 g rfl with k | k
    · left; simpa [Value.ownBlock] using k.symm
    · exact .inr k

theorem wapm_lev (s x : Tmp) {L n cap D k c : Nat} {ls vs : List Int} (hs : a.eval (.tmp s) = .slice (some ⟨L, 0, none⟩) n cap) (hx : a.eval (.tmp x) = .slice (some ⟨D, 0, none⟩) k c) (hl : vs.length = k * 33) (hn : n + k ≤ 1000) (hk : 1 ≤ k)
    (own : w.ownsRow L 72 33 (.slice (some ⟨L, 0, none⟩) n cap) n (ls.map (Value.int .i64))) (X : ∀ j u, (vs.map (Value.int .i64))[j]? = some u → w.cell? ((⟨D, 0, none⟩ : Addr).add j) = some u)
    (h : ∀ L' cap' w', w'.ownsRow L' 72 33 (.slice (some ⟨L', 0, none⟩) (n + k) cap') (n + k) ((ls ++ vs).map (Value.int .i64)) → w.grownBy w' (some L) → (L' = L ∨ w.heap.size ≤ L') → K (a.put dst (.slice (some ⟨L', 0, none⟩) (n + k) cap')) w') :
    Oper.wp Tryd.prog ⟨dst, .call { callee := .builtin .append, args := #[.tmp s, .tmp x], argTypes := #[59, 59] }, ty, pos, after, none⟩ a w K Q := by
  obtain ⟨i0, hi, hz0, hz1, hz2⟩ := info_parts info_lev
  have hL : L < w.heap.size := (own.lt L rfl).2
  obtain ⟨v', w', hr, h2, h3, h4⟩ := run_append_near (P := Tryd.prog) w L 59 ty 72 i0 _ 33 264 Tryd.underlying59 hi hz0 hz1 hz2 (by rw [show (Value.agg (ivs (Vs.zer 33))).cells = ivs (Vs.zer 33) from rfl, ivs_size]; exact Vs.zer_length 33) (by decide) _ n _ own ⟨D, 0, none⟩ k c (vs.map (Value.int .i64)) (by rw [List.length_map, hl]) X (ints_one vs) (by unfold maxLen; omega) (by omega) (by omega)
  unfold Oper.wp
  simp [execOp, resolve, invoke, builtin, hs, hx, hr, Result.andThen]
  rcases h2.2 with ⟨e, z⟩ | ⟨g, c', cur, e, hb, hg, k1, k2, k3, k4⟩
  · omega
  · subst e
    refine h g c' w' ⟨by rw [List.map_append]; exact h2.1, .inr ⟨g, c', cur, rfl, Nat.le_refl _, hg, k1, k2, k3, by rw [List.map_append]; exact k4⟩⟩ h3 ?_
    rcases h4 g rfl with k | k
    · left; simpa [Value.ownBlock] using k.symm
    · exact .inr k

end

def PopR (B L : Nat) (s : Vs.St) (S : World → Nat → Nat → Nat → Vs.St → Prop) (w : World) (e : Ending) (w' : World) : Prop :=
  e = .returned (.int .i64 (Vs.St.poperr s)) ∧ (∃ L' cap', S w' B L' cap' s.pop ∧ (L' = L ∨ w.heap.size ≤ L')) ∧ Ty B L w w'

set_option maxRecDepth 100000 in
set_option maxHeartbeats 4000000 in
theorem vaPop {w : World} {B L cap : Nat} {s : Vs.St} (h : Pst w B L cap s) : Calls Tryd.prog 23 #[.pointer (some ⟨B, 0, none⟩)] w (PopR B L s Pst w) := by
  have hl : ∀ w', Qw w w' → Calls Tryd.prog 19 #[.pointer (some ⟨B, 0, none⟩)] w' fun e w'' => e = .returned (.int .i64 ((s.n : Int) - 1)) ∧ w' = w'' := fun w' q => vaLevel (h.kept q)
  have H := Lib.hid h
  have o1 := h.ok.n1
  have o2 := h.ok.n2
  by_cases h1 : s.n = 1
  · have E1 : Hid (Vs.St.poperr s = 13 ∧ s.pop = s) := Lib.hid ⟨if_pos h1, if_pos h1⟩
    have en : ((s.n : Int) - 1) = 0 := by omega
    rw [en] at hl
    have HL := Lib.hid hl
    clear hl h o1 o2 en h1
    go_enter Tryd.func23, Tryd.ntmps23
    go_wp2_with (go_at_call 19; ((with_reducible refine (HL.out _ (Qw.refl _)).mono ?_); rintro e w' ⟨rfl, rfl⟩))
    go_ret
    exact ⟨ret_n E1.out.1.symm, ⟨L, cap, by rw [E1.out.2]; exact H.out, .inl rfl⟩, Ty.refl _ _ _⟩
  · have E1 : Hid (Vs.St.poperr s = 0) := Lib.hid (if_neg h1)
    obtain ⟨m, hm⟩ : ∃ m : Nat, s.n = m + 1 := ⟨s.n - 1, by omega⟩
    have en : ((s.n : Int) - 1) = (m : Int) := by omega
    rw [en] at hl
    have HL := Lib.hid hl
    have m1 : 1 ≤ (m : Int) := by omega
    have m0 : ((m : Int) == 0) = false := beq_eq_false_iff_ne.2 (by omega)
    have mc : m + 1 ≤ cap := by have := h.c1; omega
    have mc' : (m : Int) ≤ (cap : Int) := by omega
    have mc2 : m ≤ cap := by omega
    have mz : 0 ≤ (m : Int) := by omega
    have CUT := Lib.hid (fun w' (q : Qw w w') => (h.kept q).cut h1)
    have c0 := h.cell0
    have f0 := h.freeB 0
    have hB := h.ltB
    rw [hm] at c0
    replace hm := Lib.hid hm
    obtain ⟨S, hS⟩ : ∃ S : World → Prop, ∀ w', S w' ↔ Qw w w' := ⟨_, fun _ => Iff.rfl⟩
    have HS := Lib.hid hS
    have cS : ∀ w', S w' → w'.cell? ⟨B, 0, none⟩ = some (.slice (some ⟨L, 0, none⟩) (m + 1) cap) := fun w' h => (((hS w').1 h).cell (p := ⟨B, 0, none⟩) hB).trans c0
    have CS := Lib.hid cS
    clear hl h o1 o2 en h1 hS cS
    go_enter Tryd.func23, Tryd.ntmps23
    go_wp2_with (go_at_call 19; ((with_reducible refine (HL.out _ (Qw.refl _)).mono ?_); rintro e w' ⟨rfl, rfl⟩))
    refine wp_region_M S 10 (by kernel_rfl) ?_
    have hSS : S (World.drew w) := (HS.out _).2 (Qw.dr (Qw.refl w))
    refine wpAnyM_take (i := 0) (v := ?_) rfl (by kernel_rfl) (fun _ _ _ h => h) (Or.inl ⟨by rfl, ?_⟩) hSS ?_
    rotate_left 1
    · intro wS hwS
      go_simp
      try with_reducible rfl
    simp only [Act.put, List.setIfInBounds_toArray, List.set_cons_zero, List.set_cons_succ]
    refine wpAnyM_take (i := 1) (v := ?_) rfl (by kernel_rfl) (fun _ _ _ h => h) (Or.inl ⟨by rfl, ?_⟩) hSS ?_
    rotate_left 1
    · intro wS hwS
      go_simp
      try with_reducible rfl
    simp only [Act.put, List.setIfInBounds_toArray, List.set_cons_zero, List.set_cons_succ]
    refine wpAnyM_take (i := 2) (v := ?_) rfl (by kernel_rfl) (fun _ _ _ h => h) (Or.inl ⟨by rfl, ?_⟩) hSS ?_
    rotate_left 1
    · intro wS hwS
      go_simp
      try with_reducible rfl
    simp only [Act.put, List.setIfInBounds_toArray, List.set_cons_zero, List.set_cons_succ]
    refine wpAnyM_take (i := 3) (v := ?_) rfl (by kernel_rfl) (fun _ _ _ h => h) (Or.inl ⟨by rfl, ?_⟩) hSS ?_
    rotate_left 1
    · intro wS hwS
      go_simp
      try with_reducible rfl
    simp only [Act.put, List.setIfInBounds_toArray, List.set_cons_zero, List.set_cons_succ]
    refine wpAnyM_take (i := 4) (v := ?_) rfl (by kernel_rfl) (fun _ _ _ h => h) (Or.inl ⟨by rfl, ?_⟩) hSS ?_
    rotate_left 1
    · intro wS hwS
      have c := CS.out wS hwS; go_simp
      try with_reducible rfl
    simp only [Act.put, List.setIfInBounds_toArray, List.set_cons_zero, List.set_cons_succ]
    refine wpAnyM_take (i := 5) (v := ?_) rfl (by kernel_rfl) (fun _ _ _ h => h) (Or.inl ⟨by rfl, ?_⟩) hSS ?_
    rotate_left 1
    · intro wS hwS
      go_simp
      try with_reducible rfl
    simp only [Act.put, List.setIfInBounds_toArray, List.set_cons_zero, List.set_cons_succ]
    refine wpAnyM_one (i := 6) rfl (by kernel_rfl) rfl (fun K hK => ?_)
    go_simp
    refine (HL.out _ (Qw.dr (Qw.refl w))).mono ?_
    rintro e w' ⟨rfl, rfl⟩
    refine hK _ _ (fun _ => hSS) ?_
    clear hK K
    refine wpAnyM_take (i := 7) (v := ?_) rfl (by kernel_rfl) (fun _ _ _ h => h) (Or.inl ⟨by rfl, ?_⟩) hSS ?_
    rotate_left 1
    · intro wS hwS
      go_simp
      try with_reducible rfl
    simp only [Act.put, List.setIfInBounds_toArray, List.set_cons_zero, List.set_cons_succ]
    refine wpAnyM_take (i := 8) (v := ?_) rfl (by kernel_rfl) (fun _ _ _ h => h) (Or.inl ⟨by rfl, ?_⟩) hSS ?_
    rotate_left 1
    · intro wS hwS
      go_simp
      try with_reducible rfl
    simp only [Act.put, List.setIfInBounds_toArray, List.set_cons_zero, List.set_cons_succ]
    refine wpAnyM_take (i := 9) (v := ?_) rfl (by kernel_rfl) (fun _ _ _ h => h) (Or.inl ⟨by rfl, ?_⟩) hSS ?_
    rotate_left 1
    · intro wS hwS
      go_simp
      try with_reducible rfl
    simp only [Act.put, List.setIfInBounds_toArray, List.set_cons_zero, List.set_cons_succ]
    refine wpAnyM_one (i := 10) rfl (by kernel_rfl) rfl (fun K hK => ?_)
    have c1 := CS.out _ hSS
    have f1 : (World.drew w).frozen? ⟨B, 0, none⟩ = false := f0
    go_simp
    refine hK _ _ (fun h => absurd h (by decide)) ?_
    clear hK K hSS
    refine wpAnyM_done (by kernel_rfl) ?_ _
    go_wp2
    go_ret
    refine ⟨ret_n E1.out.symm, ⟨L, cap, ?_, .inl rfl⟩, Ty.one (Qw.dr (Qw.refl w)) (.inl rfl) _ _⟩
    have k := CUT.out _ (Qw.dr (Qw.refl w))
    rw [hm.out] at k
    exact k

set_option maxRecDepth 100000 in
set_option maxHeartbeats 4000000 in
theorem vaClone {w : World} {L n cap : Nat} {ls : List Int} (own : w.ownsRow L 67 33 (.slice (some ⟨L, 0, none⟩) n cap) n (ls.map (Value.int .i64))) (n1 : 1 ≤ n) (n2 : n ≤ 9) :
    Calls Tryd.prog 40 #[.slice (some ⟨L, 0, none⟩) n cap] w fun e w' => (∃ L' cap', e = .returned (.slice (some ⟨L', 0, none⟩) n cap') ∧ w'.ownsRow L' 67 33 (.slice (some ⟨L', 0, none⟩) n cap') n (ls.map (Value.int .i64)) ∧ w.heap.size ≤ L') ∧ Qw w w' := by
  have hll : ls.length = n * 33 := by have := own.1; rwa [List.length_map] at this
  have hL := (own.lt L rfl).2
  have OW := Lib.hid own
  have hll := Lib.hid hll
  clear own
  have hnil := fun w => Lib.run_eql_slice_nil (P := Tryd.prog) w 54 67 (some ⟨L, 0, none⟩) n cap 0 0 Tryd.underlying54
  simp only [Option.isNone_some] at hnil
  go_enter Tryd.func40, Tryd.ntmps40
  go_wp2_with (refine apm_loc2 5 6 (n := 0) (ls := []) rfl rfl hll.out (by omega) n1 (World.ownsRow_made w #[] 0 (Nat.le_refl _) (by decide) rfl) (World.ownsRow.cells (World.ownsRow.alloc OW.out _) rfl) ?_; intro L' cap' w4 own gb nr; rw [List.nil_append, Nat.zero_add] at own; simp only [Nat.zero_add]; have OWN := Lib.hid own; have GB := Lib.hid gb; have NR := Lib.hid nr; clear own gb nr)
  go_ret
  refine ⟨⟨L', cap', rfl, OWN.out, ?_⟩, ?_⟩
  · rcases NR.out with k | k
    · omega
    · simp at k; omega
  · exact ⟨GB.out.os, GB.out.tape, GB.out.output, Nat.le_trans (by simp) GB.out.size, fun k hk => (GB.out.block k (by simp; omega) (by simp; omega)).trans (Below.heap_alloc w (Obj.cells #[] 67) k hk)⟩

section
variable {ops : Array Oper} {rest : List Oper} {dst : Option Tmp} {ty : TypeId} {pos : String} {after : Array Edge} {a : Act} {w : World} {Q : Exit → Act → World → Prop}
theorem info_st : (Tryd.prog.info? 58).map (·.size) = some 1101 := by kernel_rfl
theorem ld_st (x : Tmp) {B : Nat} {v : Value} {s : Vs.St} (ok : s.ok) {t : TypeId} (hx : a.eval (.tmp x) = .pointer (some ⟨B, 0, none⟩)) (X : Bx w B (stc v s) t)
    (h : wpList Tryd.prog ops Q rest (a.put dst (.agg (stc v s))) w) : wpList Tryd.prog ops Q (⟨dst, .load 58 (.tmp x), ty, pos, after, none⟩ :: rest) a w :=
  wpList_load_row rfl 58 (.tmp x) rfl B hx t (stc v s) (0, 0) _ X Tryd.underlying58 rfl (by rw [stc_size _ ok]; exact info_st) h
theorem stc_one {v : Value} (hv : v.oneCell' = true) (s : Vs.St) : (stc v s).all (·.oneCell') = true := by
  unfold stc
  rw [List.all_toArray, List.all_cons, hv, Bool.true_and, List.all_eq_true]
  exact fun u hu => ints_one _ u hu
theorem st_st (x y : Tmp) {R : Nat} {t : TypeId} {old : Array Value} {v : Value} {s : Vs.St} (ok : s.ok) (hv : v.oneCell' = true) (hx : a.eval (.tmp x) = .pointer (some ⟨R, 0, none⟩)) (hy : a.eval (.tmp y) = .agg (stc v s)) (X : Bx w R old t) (ho : old.size = 1101) {w0 : World} (q : Qw w0 w) (hR : w0.heap.size ≤ R)
    (h : ∀ w', Bx w' R (stc v s) t → Qw w0 w' → wpList Tryd.prog ops Q rest (a.put dst undef) w') : wpList Tryd.prog ops Q (⟨dst, .store 58 (.tmp x) (.tmp y), ty, pos, after, none⟩ :: rest) a w :=
  wpList_store_row rfl 58 (.tmp x) (.tmp y) rfl R (stc v s) hx hy t old X (by rw [stc_size _ ok]; exact info_st) (by rw [ho, stc_size _ ok]) (stc_one hv s) (h _ (X.sr _) (q.sr hR _))
end
theorem zero_st : (Tryd.prog.info? 58).map (fun i => (i.zero, i.size)) = some (some (.agg (stc (.slice none 0 0) Vs.new)), 1101) := by kernel_rfl

set_option maxRecDepth 100000 in
set_option maxHeartbeats 4000000 in
theorem vaCopy {w : World} {B L cap : Nat} {s : Vs.St} (h : Pst w B L cap s) : Calls Tryd.prog 24 #[.pointer (some ⟨B, 0, none⟩)] w (NewR Pst s w) := by
  have hz := (zero_of_info (P := Tryd.prog) zero_st).1
  have c0 := h.cell0
  have hB := h.ltB
  have hBn : B ≠ w.heap.size := by omega
  have H := Lib.hid h
  clear h
  go_enter Tryd.func24, Tryd.ntmps24
  have hcl : ∀ w', Qw w w' → Calls Tryd.prog 40 #[.slice (some ⟨L, 0, none⟩) s.n cap] w' fun e w'' => (∃ L' cap', e = .returned (.slice (some ⟨L', 0, none⟩) s.n cap') ∧ w''.ownsRow L' 67 33 (.slice (some ⟨L', 0, none⟩) s.n cap') s.n (s.ls.map (Value.int .i64)) ∧ w'.heap.size ≤ L') ∧ Qw w' w'' := fun w' q => vaClone (H.out.kept q).owns H.out.ok.n1 H.out.ok.n2
  have HC := Lib.hid hcl
  clear hcl
  go_wp2_with (first | (refine ld_st 5 H.out.ok rfl H.out.bx ?_) | (refine st_st 3 6 H.out.ok rfl rfl rfl (Bx.new _ _ _) (stc_size _ Vs.new_ok) (Qw.al (Qw.refl w) _) (Nat.le_refl _) ?_; intro w2 X q; have c2 : w2.cell? ⟨B, 0, none⟩ = some (.slice (some ⟨L, 0, none⟩) s.n cap) := (q.cell (p := ⟨B, 0, none⟩) hB).trans c0; have X := Lib.hid X; have q := Lib.hid q) | (go_at_call 40; ((with_reducible refine (HC.out _ q.out).mono ?_); rintro e w3 ⟨⟨L', cap', rfl, own, hL'⟩, q3⟩; have X3 := X.out.kept q3; have x0 := X3.cell' 0 _ (stc_0 _ _); have y0 := X3.free 0; have OWN := Lib.hid own; have q3 := Lib.hid q3; have X3 := Lib.hid X3; have hL' := Lib.hid hL')))
  go_ret
  have k := Stb.putRow X3.out (L' := L') (cap' := cap') (n' := s.n) (ls' := s.ls) (by have := X.out.lt; have := hL'.out; omega) OWN.out H.out.ok
  exact ⟨_, L', cap', rfl, k, Nat.le_refl _, by have := q.out.size; have := hL'.out; omega, Qw.sc (Qw.trans q.out q3.out) (Nat.le_refl _) _⟩

end Go.Proofs.YtmfhiabajkdikaaDoor
