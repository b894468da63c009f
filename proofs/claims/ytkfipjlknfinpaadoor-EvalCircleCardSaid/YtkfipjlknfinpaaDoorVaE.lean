
/- Levels made, appended and read as wholes. -/
import Derived.Test.YtkfipjlknfinpaaDoorVAX
import Derived.Test.YtkfipjlknfinpaaDoorReg
import Derived.Great.BuildSlice
import Derived.Deep.MidRow
set_option linter.unusedVariables false
set_option linter.unusedSimpArgs false
namespace Go.Proofs.YtkfipjlknfinpaaDoor
open Go.RowKit

theorem run_append_near {P : Program} (w : World) (base : Nat) (t ty e : TypeId) (i : TypeInfo) (z : Value) (size bytes : Nat) (ht : P.underlying t = some (.slice e)) (hi : P.info? e = some i) (hz : i.zero = some z)
    (hsize : i.size = size) (hby : i.bytes = bytes) (hzs : z.cells.size = size) (hsz : 0 < size) (v : Value) (n : Nat) (xs : List Value) (hown : w.ownsRow base e size v n xs)
    (a : Addr) (m c : Nat) (news : List Value) (hl : news.length = m * size) (hnews : ∀ j u, news[j]? = some u → w.cell? (a.add j) = some u) (h1 : ∀ u ∈ news, u.oneCell' = true)
    (h63 : n + m ≤ maxLen) (hbytes : (n + m) * bytes ≤ 140737488355328) (hbase : base ≤ w.heap.size) :
    ∃ v' w', (Builtin.append_ #[t, t] ty #[v, .slice (some a) m c]).run P w = .ok v' w' ∧ w'.ownsRow base e size v' (n + m) (xs ++ news) ∧ w.grownBy w' v.ownBlock ∧
      (∀ g, v'.ownBlock = some g → v.ownBlock = some g ∨ w.heap.size ≤ g) := by
  rcases hown.2 with ⟨hv, hn⟩ | ⟨g, cap, cur, hv, hb, hg, hn, hm, hc, htk⟩
  · have hown' : w.ownsRow w.heap.size e size v n xs := ⟨hown.1, .inl ⟨hv, hn⟩⟩
    obtain ⟨v', w', h2, h3, h4, h5⟩ := run_append_own (P := P) w w.heap.size t ty e i z size bytes ht hi hz hsize hby hzs hsz v n xs hown' a m c news hl hnews h1 h63 hbytes (Nat.le_refl _)
    refine ⟨v', w', h2, ⟨h3.1, ?_⟩, h4, fun g hg => ?_⟩
    · rcases h3.2 with h | ⟨g, cap, cur, k1, k2, k3⟩
      · exact .inl h
      · exact .inr ⟨g, cap, cur, k1, Nat.le_trans hbase k2, k3⟩
    · rcases h3.2 with ⟨h, _⟩ | ⟨g', cap, cur, k1, k2, k3⟩
      · rw [h] at hg; cases hg
      · rw [k1] at hg
        have : g' = g := by simpa [Value.ownBlock] using hg
        exact .inr (this ▸ k2)
  · subst hv
    by_cases hroom : n + m ≤ cap
    · obtain ⟨w', h2, h3, h4⟩ := run_append_fits (P := P) w base t ty e i size ht hi hsize g n cap xs hown a m c news hl hnews h1 hroom
      exact ⟨_, w', h2, h3, h4, fun g' hg' => .inl hg'⟩
    · obtain ⟨v', w', h2, h3, h4, h5⟩ := run_append_own (P := P) w base t ty e i z size bytes ht hi hz hsize hby hzs hsz _ n xs hown a m c news hl hnews h1 h63 hbytes hbase
      refine ⟨v', w', h2, h3, h4, fun g' hg' => .inr ?_⟩
      subst hsize hby
      have hr := run_append_grow (P := P) w t ty e i z ht hi hz ⟨g, 0, none⟩ n cap xs hown.1 (hown.cells (g := g) rfl) a m c news hl hnews (by omega) (by unfold maxLen at h63; omega) (growslice_fits (by omega) hbytes)
      rw [h2] at hr
      injection hr with e1 e2
      rw [e1] at hg'
      have : w.heap.size = g' := by simpa [Value.ownBlock] using hg'
      omega


theorem fill33x (x0 x1 x2 x3 x4 x5 x6 x7 x8 x9 x10 x11 x12 x13 x14 x15 x16 x17 x18 x19 x20 x21 x22 x23 x24 x25 x26 x27 x28 x29 x30 x31 x32 : Int) :
    Instr.fill (fun i => some (i * 33, 33)) ((Array.range (1 * 33)).map ((Value.agg (ivs (Vs.zer 33))).cells[· % (Value.agg (ivs (Vs.zer 33))).cells.size]!)) [(0, .agg (ivs (x0 :: x1 :: x2 :: x3 :: x4 :: x5 :: x6 :: x7 :: x8 :: x9 :: x10 :: x11 :: x12 :: x13 :: x14 :: x15 :: x16 :: x17 :: x18 :: x19 :: x20 :: x21 :: x22 :: x23 :: x24 :: x25 :: x26 :: x27 :: x28 :: x29 :: x30 :: x31 :: x32 :: [])))] = some (ivs (x0 :: x1 :: x2 :: x3 :: x4 :: x5 :: x6 :: x7 :: x8 :: x9 :: x10 :: x11 :: x12 :: x13 :: x14 :: x15 :: x16 :: x17 :: x18 :: x19 :: x20 :: x21 :: x22 :: x23 :: x24 :: x25 :: x26 :: x27 :: x28 :: x29 :: x30 :: x31 :: x32 :: [])) := by kernel_rfl
theorem fill33 (vs : List Int) (h : vs.length = 33) :
    Instr.fill (fun i => some (i * 33, 33)) ((Array.range (1 * 33)).map ((Value.agg (ivs (Vs.zer 33))).cells[· % (Value.agg (ivs (Vs.zer 33))).cells.size]!)) [(0, .agg (ivs (vs)))] = some (ivs (vs)) := by
  match vs, h with
  | x0 :: x1 :: x2 :: x3 :: x4 :: x5 :: x6 :: x7 :: x8 :: x9 :: x10 :: x11 :: x12 :: x13 :: x14 :: x15 :: x16 :: x17 :: x18 :: x19 :: x20 :: x21 :: x22 :: x23 :: x24 :: x25 :: x26 :: x27 :: x28 :: x29 :: x30 :: x31 :: x32 :: [], _ => exact fill33x _ _ _ _ _ _ _ _ _ _ _ _ _ _ _ _ _ _ _ _ _ _ _ _ _ _ _ _ _ _ _ _ _
theorem und_loc' : Tryd.prog.underlying 79 = some (.array 33 3) := by kernel_rfl

section
variable {ops : Array Oper} {rest : List Oper} {dst : Option Tmp} {ty : TypeId} {pos : String} {after : Array Edge} {a : Act} {w : World} {Q : Exit → Act → World → Prop}
theorem info_loc2 : (Tryd.prog.info? 79).map (fun i => (i.zero, i.size, i.bytes)) = some (some (.agg (ivs (Vs.zer 33))), 33, 264) := by kernel_rfl
/-- A slice of one level made. -/
theorem bs_loc2 (x : Tmp) {vs : List Int} (hx : a.eval (.tmp x) = .agg (ivs vs)) (hl : vs.length = 33) (h : wpList Tryd.prog ops Q rest (a.put dst (.slice (some ⟨w.heap.size, 0, none⟩) 1 1)) (w.alloc (.cells (ivs vs) 79))) :
    wpList Tryd.prog ops Q (⟨dst, .buildSlice 67 1 #[(0, .tmp x)], ty, pos, after, none⟩ :: rest) a w := by
  obtain ⟨i0, hi, hz0, hz1, hz2⟩ := info_parts info_loc2
  refine wpList_buildSlice rfl 67 79 1 #[(0, .tmp x)] rfl (ivs vs) i0 _ Tryd.underlying67 hi hz0 (by rw [hz1]; decide) (by rw [hz1]; decide) ?_ h
  rw [hz1]
  have e : (#[(0, Operand.tmp x)].map fun (i, x) => (i, a.eval x)).toList = [(0, Value.agg (ivs vs))] := by
    simp [hx]
  rw [e]
  exact fill33 vs hl
/-- One level appended to a list of levels that lies in block L. -/
theorem ap_loc2 (s x : Tmp) {L n cap D : Nat} {ls vs : List Int} {td : TypeId} (hs : a.eval (.tmp s) = .slice (some ⟨L, 0, none⟩) n cap) (hx : a.eval (.tmp x) = .slice (some ⟨D, 0, none⟩) 1 1) (hl : vs.length = 33) (hn : n ≤ 1000)
    (own : w.ownsRow L 79 33 (.slice (some ⟨L, 0, none⟩) n cap) n (ls.map (Value.int .i64))) (X : Bx w D (ivs vs) td)
    (h : ∀ L' cap' w', w'.ownsRow L' 79 33 (.slice (some ⟨L', 0, none⟩) (n + 1) cap') (n + 1) ((ls ++ vs).map (Value.int .i64)) → w.grownBy w' (some L) → (L' = L ∨ w.heap.size ≤ L') → wpList Tryd.prog ops Q rest (a.put dst (.slice (some ⟨L', 0, none⟩) (n + 1) cap')) w') :
    wpList Tryd.prog ops Q (⟨dst, .call { callee := .builtin .append, args := #[.tmp s, .tmp x], argTypes := #[67, 67] }, ty, pos, after, none⟩ :: rest) a w := by
  obtain ⟨i0, hi, hz0, hz1, hz2⟩ := info_parts info_loc2
  have hL : L < w.heap.size := (own.lt L rfl).2
  obtain ⟨v', w', hr, h2, h3, h4⟩ := run_append_near (P := Tryd.prog) w L 67 ty 79 i0 _ 33 264 Tryd.underlying67 hi hz0 hz1 hz2 (by rw [show (Value.agg (ivs (Vs.zer 33))).cells = ivs (Vs.zer 33) from rfl, ivs_size]; exact Vs.zer_length 33) (by decide) _ n _ own ⟨D, 0, none⟩ 1 1 (vs.map (Value.int .i64)) (by rw [List.length_map, hl]) (by
    intro j u hj
    have hc := X.cell j
    rw [Addr.add_mid, Nat.zero_add, hc]
    simpa [ivs] using hj) (ints_one vs) (by unfold maxLen; omega) (by omega) (by omega)
  refine wpList_plain rfl fun K hK => ?_
  unfold Oper.wp
  simp [execOp, resolve, invoke, builtin, hs, hx, hr, Result.andThen]
  refine hK _ _ ?_
  rcases h2.2 with ⟨e, _⟩ | ⟨g, c, cur, e, hb, hg, k1, k2, k3, k4⟩
  · exfalso
    have l := h2.1
    rw [List.length_append, List.length_map, List.length_map, hl] at l
    subst e
    rcases h2.2 with ⟨_, e⟩ | ⟨g, c, cur, e, _⟩
    · omega
    · cases e
  · subst e
    refine h g c w' ⟨by rw [List.map_append]; exact h2.1, .inr ⟨g, c, cur, rfl, Nat.le_refl _, hg, k1, k2, k3, by rw [List.map_append]; exact k4⟩⟩ h3 ?_
    rcases h4 g rfl with k | k
    · left; simpa [Value.ownBlock] using k.symm
    · exact .inr k
/-- A whole level read in a region whose first operations only read. -/
theorem stl_loc2 {Q : Act → Prop} (x : Tmp) {R : Nat} {t : TypeId} {l : List Int} (hx : a.eval (.tmp x) = .pointer (some ⟨R, 0, none⟩)) (X : Bx w R (ivs l) t) (hl : l.length = 33)
    (h : wpStill Tryd.prog ops w Q rest (a.put dst (.agg (ivs l)))) : wpStill Tryd.prog ops w Q (⟨dst, .load 79 (.tmp x), ty, pos, after, none⟩ :: rest) a := by
  refine wpStill_step (fun K hK => ?_)
  rw [if_pos (show Region.wanted _ _ = true from rfl)]
  have hr := run_loadVar_row (P := Tryd.prog) w R t 79 (ivs l) (0, 0) _ X und_loc' rfl (by rw [ivs_size, hl]; kernel_rfl)
  unfold Oper.still execOp
  simp only [hx, Instr.loadAt, Instr.sureAddr, Sem.run_bind, Sem.run_pure, Result.andThen_ok, hr]
  exact ⟨rfl, hK _ h⟩
end

section
variable {ops : Array Oper} {rest : List Oper} {dst : Option Tmp} {ty : TypeId} {pos : String} {after : Array Edge} {a : Act} {w : World} {Q : Exit → Act → World → Prop}
theorem info_lev : (Tryd.prog.info? 61).map (fun i => (i.zero, i.size, i.bytes)) = some (some (.agg (ivs (Vs.zer 33))), 33, 264) := by kernel_rfl
/-- A slice of one level made. -/
theorem bs_lev (x : Tmp) {vs : List Int} (hx : a.eval (.tmp x) = .agg (ivs vs)) (hl : vs.length = 33) (h : wpList Tryd.prog ops Q rest (a.put dst (.slice (some ⟨w.heap.size, 0, none⟩) 1 1)) (w.alloc (.cells (ivs vs) 61))) :
    wpList Tryd.prog ops Q (⟨dst, .buildSlice 62 1 #[(0, .tmp x)], ty, pos, after, none⟩ :: rest) a w := by
  obtain ⟨i0, hi, hz0, hz1, hz2⟩ := info_parts info_lev
  refine wpList_buildSlice rfl 62 61 1 #[(0, .tmp x)] rfl (ivs vs) i0 _ Tryd.underlying62 hi hz0 (by rw [hz1]; decide) (by rw [hz1]; decide) ?_ h
  rw [hz1]
  have e : (#[(0, Operand.tmp x)].map fun (i, x) => (i, a.eval x)).toList = [(0, Value.agg (ivs vs))] := by
    simp [hx]
  rw [e]
  exact fill33 vs hl
/-- One level appended to a list of levels that lies in block L. -/
theorem ap_lev (s x : Tmp) {L n cap D : Nat} {ls vs : List Int} {td : TypeId} (hs : a.eval (.tmp s) = .slice (some ⟨L, 0, none⟩) n cap) (hx : a.eval (.tmp x) = .slice (some ⟨D, 0, none⟩) 1 1) (hl : vs.length = 33) (hn : n ≤ 1000)
    (own : w.ownsRow L 61 33 (.slice (some ⟨L, 0, none⟩) n cap) n (ls.map (Value.int .i64))) (X : Bx w D (ivs vs) td)
    (h : ∀ L' cap' w', w'.ownsRow L' 61 33 (.slice (some ⟨L', 0, none⟩) (n + 1) cap') (n + 1) ((ls ++ vs).map (Value.int .i64)) → w.grownBy w' (some L) → (L' = L ∨ w.heap.size ≤ L') → wpList Tryd.prog ops Q rest (a.put dst (.slice (some ⟨L', 0, none⟩) (n + 1) cap')) w') :
    wpList Tryd.prog ops Q (⟨dst, .call { callee := .builtin .append, args := #[.tmp s, .tmp x], argTypes := #[62, 62] }, ty, pos, after, none⟩ :: rest) a w := by
  obtain ⟨i0, hi, hz0, hz1, hz2⟩ := info_parts info_lev
  have hL : L < w.heap.size := (own.lt L rfl).2
  obtain ⟨v', w', hr, h2, h3, h4⟩ := run_append_near (P := Tryd.prog) w L 62 ty 61 i0 _ 33 264 Tryd.underlying62 hi hz0 hz1 hz2 (by rw [show (Value.agg (ivs (Vs.zer 33))).cells = ivs (Vs.zer 33) from rfl, ivs_size]; exact Vs.zer_length 33) (by decide) _ n _ own ⟨D, 0, none⟩ 1 1 (vs.map (Value.int .i64)) (by rw [List.length_map, hl]) (by
    intro j u hj
    have hc := X.cell j
    rw [Addr.add_mid, Nat.zero_add, hc]
    simpa [ivs] using hj) (ints_one vs) (by unfold maxLen; omega) (by omega) (by omega)
  refine wpList_plain rfl fun K hK => ?_
  unfold Oper.wp
  simp [execOp, resolve, invoke, builtin, hs, hx, hr, Result.andThen]
  refine hK _ _ ?_
  rcases h2.2 with ⟨e, _⟩ | ⟨g, c, cur, e, hb, hg, k1, k2, k3, k4⟩
  · exfalso
    have l := h2.1
    rw [List.length_append, List.length_map, List.length_map, hl] at l
    subst e
    rcases h2.2 with ⟨_, e⟩ | ⟨g, c, cur, e, _⟩
    · omega
    · cases e
  · subst e
    refine h g c w' ⟨by rw [List.map_append]; exact h2.1, .inr ⟨g, c, cur, rfl, Nat.le_refl _, hg, k1, k2, k3, by rw [List.map_append]; exact k4⟩⟩ h3 ?_
    rcases h4 g rfl with k | k
    · left; simpa [Value.ownBlock] using k.symm
    · exact .inr k
/-- A whole level read in a region whose first operations only read. -/
theorem stl_lev {Q : Act → Prop} (x : Tmp) {R : Nat} {t : TypeId} {l : List Int} (hx : a.eval (.tmp x) = .pointer (some ⟨R, 0, none⟩)) (X : Bx w R (ivs l) t) (hl : l.length = 33)
    (h : wpStill Tryd.prog ops w Q rest (a.put dst (.agg (ivs l)))) : wpStill Tryd.prog ops w Q (⟨dst, .load 61 (.tmp x), ty, pos, after, none⟩ :: rest) a := by
  refine wpStill_step (fun K hK => ?_)
  rw [if_pos (show Region.wanted _ _ = true from rfl)]
  have hr := run_loadVar_row (P := Tryd.prog) w R t 61 (ivs l) (0, 0) _ X Tryd.underlying61 rfl (by rw [ivs_size, hl]; kernel_rfl)
  unfold Oper.still execOp
  simp only [hx, Instr.loadAt, Instr.sureAddr, Sem.run_bind, Sem.run_pure, Result.andThen_ok, hr]
  exact ⟨rfl, hK _ h⟩
end

section
variable {ops : Array Oper} {rest : List Oper} {dst : Option Tmp} {ty : TypeId} {pos : String} {after : Array Edge} {a : Act} {w : World} {Q : Exit → Act → World → Prop} {K : Act → World → Prop}
set_option maxRecDepth 100000 in
/-- The same at an operation of a region that draws its order. -/
theorem wbs_loc2 (x : Tmp) {vs : List Int} (hx : a.eval (.tmp x) = .agg (ivs vs)) (hl : vs.length = 33) (h : K (a.put dst (.slice (some ⟨w.heap.size, 0, none⟩) 1 1)) (w.alloc (.cells (ivs vs) 79))) :
    Oper.wp Tryd.prog ⟨dst, .buildSlice 67 1 #[(0, .tmp x)], ty, pos, after, none⟩ a w K Q := by
  obtain ⟨i0, hi, hz0, hz1, hz2⟩ := info_parts info_loc2
  refine wp_buildSlice 67 79 1 #[(0, .tmp x)] rfl (ivs vs) i0 _ Tryd.underlying67 hi hz0 (by rw [hz1]; decide) (by rw [hz1]; decide) ?_ h
  rw [hz1]
  have e : (#[(0, Operand.tmp x)].map fun (i, x) => (i, a.eval x)).toList = [(0, Value.agg (ivs vs))] := by
    simp [hx]
  rw [e]
  exact fill33 vs hl
theorem wap_loc2 (s x : Tmp) {L n cap D : Nat} {ls vs : List Int} {td : TypeId} (hs : a.eval (.tmp s) = .slice (some ⟨L, 0, none⟩) n cap) (hx : a.eval (.tmp x) = .slice (some ⟨D, 0, none⟩) 1 1) (hl : vs.length = 33) (hn : n ≤ 1000)
    (own : w.ownsRow L 79 33 (.slice (some ⟨L, 0, none⟩) n cap) n (ls.map (Value.int .i64))) (X : Bx w D (ivs vs) td)
    (h : ∀ L' cap' w', w'.ownsRow L' 79 33 (.slice (some ⟨L', 0, none⟩) (n + 1) cap') (n + 1) ((ls ++ vs).map (Value.int .i64)) → w.grownBy w' (some L) → (L' = L ∨ w.heap.size ≤ L') → K (a.put dst (.slice (some ⟨L', 0, none⟩) (n + 1) cap')) w') :
    Oper.wp Tryd.prog ⟨dst, .call { callee := .builtin .append, args := #[.tmp s, .tmp x], argTypes := #[67, 67] }, ty, pos, after, none⟩ a w K Q := by
  obtain ⟨i0, hi, hz0, hz1, hz2⟩ := info_parts info_loc2
  have hL : L < w.heap.size := (own.lt L rfl).2
  obtain ⟨v', w', hr, h2, h3, h4⟩ := run_append_near (P := Tryd.prog) w L 67 ty 79 i0 _ 33 264 Tryd.underlying67 hi hz0 hz1 hz2 (by rw [show (Value.agg (ivs (Vs.zer 33))).cells = ivs (Vs.zer 33) from rfl, ivs_size]; exact Vs.zer_length 33) (by decide) _ n _ own ⟨D, 0, none⟩ 1 1 (vs.map (Value.int .i64)) (by rw [List.length_map, hl]) (by
    intro j u hj
    have hc := X.cell j
    rw [Addr.add_mid, Nat.zero_add, hc]
    simpa [ivs] using hj) (ints_one vs) (by unfold maxLen; omega) (by omega) (by omega)
  unfold Oper.wp
  simp [execOp, resolve, invoke, builtin, hs, hx, hr, Result.andThen]
  rcases h2.2 with ⟨e, _⟩ | ⟨g, c, cur, e, hb, hg, k1, k2, k3, k4⟩
  · exfalso
    have l := h2.1
    rw [List.length_append, List.length_map, List.length_map, hl] at l
    subst e
    rcases h2.2 with ⟨_, e⟩ | ⟨g, c, cur, e, _⟩
    · omega
    · cases e
  · subst e
    refine h g c w' ⟨by rw [List.map_append]; exact h2.1, .inr ⟨g, c, cur, rfl, Nat.le_refl _, hg, k1, k2, k3, by rw [List.map_append]; exact k4⟩⟩ h3 ?_
    rcases h4 g rfl with k | k
    · left; simpa [Value.ownBlock] using k.symm
    · exact .inr k
theorem yi_loc2 {S : World → Prop} (x : Tmp) {R : Nat} {t : TypeId} {l : List Int} (hx : a.eval (.tmp x) = .pointer (some ⟨R, 0, none⟩)) (hS : ∀ w, S w → Bx w R (ivs l) t) (hl : l.length = 33) :
    YieldsIf Tryd.prog ops S ⟨dst, .load 79 (.tmp x), ty, pos, after, none⟩ (.agg (ivs l)) a :=
  .inl ⟨rfl, fun w hw => by
    have hr := run_loadVar_row (P := Tryd.prog) w R t 79 (ivs l) (0, 0) _ (hS w hw) und_loc' rfl (by rw [ivs_size, hl]; kernel_rfl)
    unfold execOp
    simp only [hx, Instr.loadAt, Instr.sureAddr, Sem.run_bind, Sem.run_pure, Result.andThen_ok, hr]⟩
end

section
variable {ops : Array Oper} {rest : List Oper} {dst : Option Tmp} {ty : TypeId} {pos : String} {after : Array Edge} {a : Act} {w : World} {Q : Exit → Act → World → Prop} {K : Act → World → Prop}
set_option maxRecDepth 100000 in
/-- The same at an operation of a region that draws its order. -/
theorem wbs_lev (x : Tmp) {vs : List Int} (hx : a.eval (.tmp x) = .agg (ivs vs)) (hl : vs.length = 33) (h : K (a.put dst (.slice (some ⟨w.heap.size, 0, none⟩) 1 1)) (w.alloc (.cells (ivs vs) 61))) :
    Oper.wp Tryd.prog ⟨dst, .buildSlice 62 1 #[(0, .tmp x)], ty, pos, after, none⟩ a w K Q := by
  obtain ⟨i0, hi, hz0, hz1, hz2⟩ := info_parts info_lev
  refine wp_buildSlice 62 61 1 #[(0, .tmp x)] rfl (ivs vs) i0 _ Tryd.underlying62 hi hz0 (by rw [hz1]; decide) (by rw [hz1]; decide) ?_ h
  rw [hz1]
  have e : (#[(0, Operand.tmp x)].map fun (i, x) => (i, a.eval x)).toList = [(0, Value.agg (ivs vs))] := by
    simp [hx]
  rw [e]
  exact fill33 vs hl
theorem wap_lev (s x : Tmp) {L n cap D : Nat} {ls vs : List Int} {td : TypeId} (hs : a.eval (.tmp s) = .slice (some ⟨L, 0, none⟩) n cap) (hx : a.eval (.tmp x) = .slice (some ⟨D, 0, none⟩) 1 1) (hl : vs.length = 33) (hn : n ≤ 1000)
    (own : w.ownsRow L 61 33 (.slice (some ⟨L, 0, none⟩) n cap) n (ls.map (Value.int .i64))) (X : Bx w D (ivs vs) td)
    (h : ∀ L' cap' w', w'.ownsRow L' 61 33 (.slice (some ⟨L', 0, none⟩) (n + 1) cap') (n + 1) ((ls ++ vs).map (Value.int .i64)) → w.grownBy w' (some L) → (L' = L ∨ w.heap.size ≤ L') → K (a.put dst (.slice (some ⟨L', 0, none⟩) (n + 1) cap')) w') :
    Oper.wp Tryd.prog ⟨dst, .call { callee := .builtin .append, args := #[.tmp s, .tmp x], argTypes := #[62, 62] }, ty, pos, after, none⟩ a w K Q := by
  obtain ⟨i0, hi, hz0, hz1, hz2⟩ := info_parts info_lev
  have hL : L < w.heap.size := (own.lt L rfl).2
  obtain ⟨v', w', hr, h2, h3, h4⟩ := run_append_near (P := Tryd.prog) w L 62 ty 61 i0 _ 33 264 Tryd.underlying62 hi hz0 hz1 hz2 (by rw [show (Value.agg (ivs (Vs.zer 33))).cells = ivs (Vs.zer 33) from rfl, ivs_size]; exact Vs.zer_length 33) (by decide) _ n _ own ⟨D, 0, none⟩ 1 1 (vs.map (Value.int .i64)) (by rw [List.length_map, hl]) (by
    intro j u hj
    have hc := X.cell j
    rw [Addr.add_mid, Nat.zero_add, hc]
    simpa [ivs] using hj) (ints_one vs) (by unfold maxLen; omega) (by omega) (by omega)
  unfold Oper.wp
  simp [execOp, resolve, invoke, builtin, hs, hx, hr, Result.andThen]
  rcases h2.2 with ⟨e, _⟩ | ⟨g, c, cur, e, hb, hg, k1, k2, k3, k4⟩
  · exfalso
    have l := h2.1
    rw [List.length_append, List.length_map, List.length_map, hl] at l
    subst e
    rcases h2.2 with ⟨_, e⟩ | ⟨g, c, cur, e, _⟩
    · omega
    · cases e
  · subst e
    refine h g c w' ⟨by rw [List.map_append]; exact h2.1, .inr ⟨g, c, cur, rfl, Nat.le_refl _, hg, k1, k2, k3, by rw [List.map_append]; exact k4⟩⟩ h3 ?_
    rcases h4 g rfl with k | k
    · left; simpa [Value.ownBlock] using k.symm
    · exact .inr k
theorem yi_lev {S : World → Prop} (x : Tmp) {R : Nat} {t : TypeId} {l : List Int} (hx : a.eval (.tmp x) = .pointer (some ⟨R, 0, none⟩)) (hS : ∀ w, S w → Bx w R (ivs l) t) (hl : l.length = 33) :
    YieldsIf Tryd.prog ops S ⟨dst, .load 61 (.tmp x), ty, pos, after, none⟩ (.agg (ivs l)) a :=
  .inl ⟨rfl, fun w hw => by
    have hr := run_loadVar_row (P := Tryd.prog) w R t 61 (ivs l) (0, 0) _ (hS w hw) Tryd.underlying61 rfl (by rw [ivs_size, hl]; kernel_rfl)
    unfold execOp
    simp only [hx, Instr.loadAt, Instr.sureAddr, Sem.run_bind, Sem.run_pure, Result.andThen_ok, hr]⟩
end

end Go.Proofs.YtkfipjlknfinpaaDoor
