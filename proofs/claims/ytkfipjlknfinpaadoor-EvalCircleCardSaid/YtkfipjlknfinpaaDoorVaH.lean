
/- Several levels appended at once; Pop, Clone and Copy of package vars. -/
import Derived.Test.YtkfipjlknfinpaaDoorVaG
import Derived.Deep.WholeRow
set_option linter.unusedVariables false
set_option linter.unusedSimpArgs false
namespace Go.Proofs.YtkfipjlknfinpaaDoor
open Go.RowKit


section
variable {ops : Array Oper} {rest : List Oper} {dst : Option Tmp} {ty : TypeId} {pos : String} {after : Array Edge} {a : Act} {w : World} {Q : Exit → Act → World → Prop} {K : Act → World → Prop}
/-- Some levels appended to a list of levels that lies in block L. -/
theorem apm_loc2 (s x : Tmp) {L n cap D k c : Nat} {ls vs : List Int} (hs : a.eval (.tmp s) = .slice (some ⟨L, 0, none⟩) n cap) (hx : a.eval (.tmp x) = .slice (some ⟨D, 0, none⟩) k c) (hl : vs.length = k * 33) (hn : n + k ≤ 1000) (hk : 1 ≤ k)
    (own : w.ownsRow L 79 33 (.slice (some ⟨L, 0, none⟩) n cap) n (ls.map (Value.int .i64))) (X : ∀ j u, (vs.map (Value.int .i64))[j]? = some u → w.cell? ((⟨D, 0, none⟩ : Addr).add j) = some u)
    (h : ∀ L' cap' w', w'.ownsRow L' 79 33 (.slice (some ⟨L', 0, none⟩) (n + k) cap') (n + k) ((ls ++ vs).map (Value.int .i64)) → w.grownBy w' (some L) → (L' = L ∨ w.heap.size ≤ L') → wpList Tryd.prog ops Q rest (a.put dst (.slice (some ⟨L', 0, none⟩) (n + k) cap')) w') :
    wpList Tryd.prog ops Q (⟨dst, .call { callee := .builtin .append, args := #[.tmp s, .tmp x], argTypes := #[67, 67] }, ty, pos, after, none⟩ :: rest) a w := by
  obtain ⟨i0, hi, hz0, hz1, hz2⟩ := info_parts info_loc2
  have hL : L < w.heap.size := (own.lt L rfl).2
  obtain ⟨v', w', hr, h2, h3, h4⟩ := run_append_near (P := Tryd.prog) w L 67 ty 79 i0 _ 33 264 Tryd.underlying67 hi hz0 hz1 hz2 (by rw [show (Value.agg (ivs (Vs.zer 33))).cells = ivs (Vs.zer 33) from rfl, ivs_size]; exact Vs.zer_length 33) (by decide) _ n _ own ⟨D, 0, none⟩ k c (vs.map (Value.int .i64)) (by rw [List.length_map, hl]) X (ints_one vs) (by unfold maxLen; omega) (by omega) (by omega)
  refine wpList_plain rfl fun K hK => ?_
  unfold Oper.wp
  simp [execOp, resolve, invoke, builtin, hs, hx, hr, Result.andThen]
  refine hK _ _ ?_
  rcases h2.2 with ⟨e, z⟩ | ⟨g, c', cur, e, hb, hg, k1, k2, k3, k4⟩
  · omega
  · subst e
    refine h g c' w' ⟨by rw [List.map_append]; exact h2.1, .inr ⟨g, c', cur, rfl, Nat.le_refl _, hg, k1, k2, k3, by rw [List.map_append]; exact k4⟩⟩ h3 ?_
    rcases h4 g rfl with k | k
    · left; simpa [Value.ownBlock] using k.symm
    · exact .inr k

theorem wapm_loc2 (s x : Tmp) {L n cap D k c : Nat} {ls vs : List Int} (hs : a.eval (.tmp s) = .slice (some ⟨L, 0, none⟩) n cap) (hx : a.eval (.tmp x) = .slice (some ⟨D, 0, none⟩) k c) (hl : vs.length = k * 33) (hn : n + k ≤ 1000) (hk : 1 ≤ k)
    (own : w.ownsRow L 79 33 (.slice (some ⟨L, 0, none⟩) n cap) n (ls.map (Value.int .i64))) (X : ∀ j u, (vs.map (Value.int .i64))[j]? = some u → w.cell? ((⟨D, 0, none⟩ : Addr).add j) = some u)
    (h : ∀ L' cap' w', w'.ownsRow L' 79 33 (.slice (some ⟨L', 0, none⟩) (n + k) cap') (n + k) ((ls ++ vs).map (Value.int .i64)) → w.grownBy w' (some L) → (L' = L ∨ w.heap.size ≤ L') → K (a.put dst (.slice (some ⟨L', 0, none⟩) (n + k) cap')) w') :
    Oper.wp Tryd.prog ⟨dst, .call { callee := .builtin .append, args := #[.tmp s, .tmp x], argTypes := #[67, 67] }, ty, pos, after, none⟩ a w K Q := by
  obtain ⟨i0, hi, hz0, hz1, hz2⟩ := info_parts info_loc2
  have hL : L < w.heap.size := (own.lt L rfl).2
  obtain ⟨v', w', hr, h2, h3, h4⟩ := run_append_near (P := Tryd.prog) w L 67 ty 79 i0 _ 33 264 Tryd.underlying67 hi hz0 hz1 hz2 (by rw [show (Value.agg (ivs (Vs.zer 33))).cells = ivs (Vs.zer 33) from rfl, ivs_size]; exact Vs.zer_length 33) (by decide) _ n _ own ⟨D, 0, none⟩ k c (vs.map (Value.int .i64)) (by rw [List.length_map, hl]) X (ints_one vs) (by unfold maxLen; omega) (by omega) (by omega)
  unfold Oper.wp
  simp [execOp, resolve, invoke, builtin, hs, hx, hr, Result.andThen]
  rcases h2.2 with ⟨e, z⟩ | ⟨g, c', cur, e, hb, hg, k1, k2, k3, k4⟩
  · omega
  · subst e
    refine h g c' w' ⟨by rw [List.map_append]; exact h2.1, .inr ⟨g, c', cur, rfl, Nat.le_refl _, hg, k1, k2, k3, by rw [List.map_append]; exact k4⟩⟩ h3 ?_
    rcases h4 g rfl with k | k
    · left; simpa [Value.ownBlock] using k.symm
    · exact .inr k

end

section
variable {ops : Array Oper} {rest : List Oper} {dst : Option Tmp} {ty : TypeId} {pos : String} {after : Array Edge} {a : Act} {w : World} {Q : Exit → Act → World → Prop} {K : Act → World → Prop}
/-- Some levels appended to a list of levels that lies in block L. -/
theorem apm_lev (s x : Tmp) {L n cap D k c : Nat} {ls vs : List Int} (hs : a.eval (.tmp s) = .slice (some ⟨L, 0, none⟩) n cap) (hx : a.eval (.tmp x) = .slice (some ⟨D, 0, none⟩) k c) (hl : vs.length = k * 33) (hn : n + k ≤ 1000) (hk : 1 ≤ k)
    (own : w.ownsRow L 61 33 (.slice (some ⟨L, 0, none⟩) n cap) n (ls.map (Value.int .i64))) (X : ∀ j u, (vs.map (Value.int .i64))[j]? = some u → w.cell? ((⟨D, 0, none⟩ : Addr).add j) = some u)
    (h : ∀ L' cap' w', w'.ownsRow L' 61 33 (.slice (some ⟨L', 0, none⟩) (n + k) cap') (n + k) ((ls ++ vs).map (Value.int .i64)) → w.grownBy w' (some L) → (L' = L ∨ w.heap.size ≤ L') → wpList Tryd.prog ops Q rest (a.put dst (.slice (some ⟨L', 0, none⟩) (n + k) cap')) w') :
    wpList Tryd.prog ops Q (⟨dst, .call { callee := .builtin .append, args := #[.tmp s, .tmp x], argTypes := #[62, 62] }, ty, pos, after, none⟩ :: rest) a w := by
  obtain ⟨i0, hi, hz0, hz1, hz2⟩ := info_parts info_lev
  have hL : L < w.heap.size := (own.lt L rfl).2
  obtain ⟨v', w', hr, h2, h3, h4⟩ := run_append_near (P := Tryd.prog) w L 62 ty 61 i0 _ 33 264 Tryd.underlying62 hi hz0 hz1 hz2 (by rw [show (Value.agg (ivs (Vs.zer 33))).cells = ivs (Vs.zer 33) from rfl, ivs_size]; exact Vs.zer_length 33) (by decide) _ n _ own ⟨D, 0, none⟩ k c (vs.map (Value.int .i64)) (by rw [List.length_map, hl]) X (ints_one vs) (by unfold maxLen; omega) (by omega) (by omega)
  refine wpList_plain rfl fun K hK => ?_
  unfold Oper.wp
  simp [execOp, resolve, invoke, builtin, hs, hx, hr, Result.andThen]
  refine hK _ _ ?_
  rcases h2.2 with ⟨e, z⟩ | ⟨g, c', cur, e, hb, hg, k1, k2, k3, k4⟩
  · omega
  · subst e
    refine h g c' w' ⟨by rw [List.map_append]; exact h2.1, .inr ⟨g, c', cur, rfl, Nat.le_refl _, hg, k1, k2, k3, by rw [List.map_append]; exact k4⟩⟩ h3 ?_
    rcases h4 g rfl with k | k
    · left; simpa [Value.ownBlock] using k.symm
    · exact .inr k

theorem wapm_lev (s x : Tmp) {L n cap D k c : Nat} {ls vs : List Int} (hs : a.eval (.tmp s) = .slice (some ⟨L, 0, none⟩) n cap) (hx : a.eval (.tmp x) = .slice (some ⟨D, 0, none⟩) k c) (hl : vs.length = k * 33) (hn : n + k ≤ 1000) (hk : 1 ≤ k)
    (own : w.ownsRow L 61 33 (.slice (some ⟨L, 0, none⟩) n cap) n (ls.map (Value.int .i64))) (X : ∀ j u, (vs.map (Value.int .i64))[j]? = some u → w.cell? ((⟨D, 0, none⟩ : Addr).add j) = some u)
    (h : ∀ L' cap' w', w'.ownsRow L' 61 33 (.slice (some ⟨L', 0, none⟩) (n + k) cap') (n + k) ((ls ++ vs).map (Value.int .i64)) → w.grownBy w' (some L) → (L' = L ∨ w.heap.size ≤ L') → K (a.put dst (.slice (some ⟨L', 0, none⟩) (n + k) cap')) w') :
    Oper.wp Tryd.prog ⟨dst, .call { callee := .builtin .append, args := #[.tmp s, .tmp x], argTypes := #[62, 62] }, ty, pos, after, none⟩ a w K Q := by
  obtain ⟨i0, hi, hz0, hz1, hz2⟩ := info_parts info_lev
  have hL : L < w.heap.size := (own.lt L rfl).2
  obtain ⟨v', w', hr, h2, h3, h4⟩ := run_append_near (P := Tryd.prog) w L 62 ty 61 i0 _ 33 264 Tryd.underlying62 hi hz0 hz1 hz2 (by rw [show (Value.agg (ivs (Vs.zer 33))).cells = ivs (Vs.zer 33) from rfl, ivs_size]; exact Vs.zer_length 33) (by decide) _ n _ own ⟨D, 0, none⟩ k c (vs.map (Value.int .i64)) (by rw [List.length_map, hl]) X (ints_one vs) (by unfold maxLen; omega) (by omega) (by omega)
  unfold Oper.wp
  simp [execOp, resolve, invoke, builtin, hs, hx, hr, Result.andThen]
  rcases h2.2 with ⟨e, z⟩ | ⟨g, c', cur, e, hb, hg, k1, k2, k3, k4⟩
  · omega
  · subst e
    refine h g c' w' ⟨by rw [List.map_append]; exact h2.1, .inr ⟨g, c', cur, rfl, Nat.le_refl _, hg, k1, k2, k3, by rw [List.map_append]; exact k4⟩⟩ h3 ?_
    rcases h4 g rfl with k | k
    · left; simpa [Value.ownBlock] using k.symm
    · exact .inr k

end

def PopR (B L : Nat) (s : Vs.St) (S : World → Nat → Nat → Nat → Vs.St → Prop) (w : World) (e : Ending) (w' : World) : Prop :=
  e = .returned (.int .i64 (Vs.St.poperr s)) ∧ (∃ L' cap', S w' B L' cap' s.pop ∧ (L' = L ∨ w.heap.size ≤ L')) ∧ Ty B L w w'

section
variable {ops : Array Oper} {rest : List Oper} {dst : Option Tmp} {ty : TypeId} {pos : String} {after : Array Edge} {a : Act} {w : World} {Q : Exit → Act → World → Prop}
theorem info_st : (Tryd.prog.info? 69).map (·.size) = some 1101 := by kernel_rfl
theorem ld_st (x : Tmp) {B : Nat} {v : Value} {s : Vs.St} (ok : s.ok) {t : TypeId} (hx : a.eval (.tmp x) = .pointer (some ⟨B, 0, none⟩)) (X : Bx w B (stc v s) t)
    (h : wpList Tryd.prog ops Q rest (a.put dst (.agg (stc v s))) w) : wpList Tryd.prog ops Q (⟨dst, .load 69 (.tmp x), ty, pos, after, none⟩ :: rest) a w :=
  wpList_load_row rfl 69 (.tmp x) rfl B hx t (stc v s) (0, 0) _ X Tryd.underlying69 rfl (by rw [stc_size _ ok]; exact info_st) h
theorem stc_one {v : Value} (hv : v.oneCell' = true) (s : Vs.St) : (stc v s).all (·.oneCell') = true := by
  unfold stc
  rw [List.all_toArray, List.all_cons, hv, Bool.true_and, List.all_eq_true]
  exact fun u hu => ints_one _ u hu
theorem st_st (x y : Tmp) {R : Nat} {t : TypeId} {old : Array Value} {v : Value} {s : Vs.St} (ok : s.ok) (hv : v.oneCell' = true) (hx : a.eval (.tmp x) = .pointer (some ⟨R, 0, none⟩)) (hy : a.eval (.tmp y) = .agg (stc v s)) (X : Bx w R old t) (ho : old.size = 1101) {w0 : World} (q : Qw w0 w) (hR : w0.heap.size ≤ R)
    (h : ∀ w', Bx w' R (stc v s) t → Qw w0 w' → wpList Tryd.prog ops Q rest (a.put dst undef) w') : wpList Tryd.prog ops Q (⟨dst, .store 69 (.tmp x) (.tmp y), ty, pos, after, none⟩ :: rest) a w :=
  wpList_store_row rfl 69 (.tmp x) (.tmp y) rfl R (stc v s) hx hy t old X (by rw [stc_size _ ok]; exact info_st) (by rw [ho, stc_size _ ok]) (stc_one hv s) (h _ (X.sr _) (q.sr hR _))
end
theorem zero_st : (Tryd.prog.info? 69).map (fun i => (i.zero, i.size)) = some (some (.agg (stc (.slice none 0 0) Vs.new)), 1101) := by kernel_rfl

end Go.Proofs.YtkfipjlknfinpaaDoor
