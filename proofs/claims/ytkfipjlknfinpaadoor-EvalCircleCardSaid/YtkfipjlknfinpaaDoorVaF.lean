
/- Stores built as wholes; many levels appended. -/
import Derived.Test.YtkfipjlknfinpaaDoorVaE
import Derived.Great.FillDense
set_option linter.unusedVariables false
set_option linter.unusedSimpArgs false
namespace Go.Proofs.YtkfipjlknfinpaaDoor
open Go.RowKit


/-- One part filled in. -/
theorem fill_part (place : Nat → Option (Nat × Nat)) (A M C : List Value) (i : Nat) (v : Value) (rest : List (Nat × Value)) (hp : place i = some (A.length, M.length)) (hv : v.cells.size = M.length) :
    Instr.fill place (A ++ M ++ C).toArray ((i, v) :: rest) = Instr.fill place (A ++ v.cells.toList ++ C).toArray rest := by
  conv => lhs; unfold Instr.fill
  rw [hp]
  simp only
  rw [if_neg (by simp [hv])]
  congr 1
  apply Array.ext_getElem?
  intro k
  rw [← Array.foldl_toList, Array.toList_zipIdx]
  have h := (Great.foldl_set A.length v.cells.toList 0 (A ++ M ++ C).toArray).2 k
  refine Eq.trans h ?_
  have hl : v.cells.toList.length = M.length := by simpa using hv
  simp only [List.getElem?_toArray, Nat.add_zero, List.size_toArray, List.length_append, hl]
  by_cases h1 : k < A.length
  · rw [if_neg (by omega), List.append_assoc, List.append_assoc, List.getElem?_append_left h1, List.getElem?_append_left h1]
  · by_cases h2 : k < A.length + M.length
    · rw [if_pos (by omega), List.append_assoc, List.getElem?_append_right (by omega), List.getElem?_append_left (by omega)]
    · rw [if_neg (by omega), List.getElem?_append_right (by simp; omega), List.getElem?_append_right (by simp [hl]; omega)]
      simp [hl]

theorem built_v (parts : List (Nat × Value)) : Tryd.prog.built 69 parts = Instr.fill (#[(0, 1), (1, 100), (101, 1000)][·]?) (stc (.slice none 0 0) Vs.new) parts := by kernel_rfl
theorem built_r (parts : List (Nat × Value)) : Tryd.prog.built 66 parts = Instr.fill (#[(0, 1), (1, 100), (101, 1000)][·]?) (stc (.slice none 0 0) Vs.new) parts := by kernel_rfl

theorem stc_parts (v : Value) (s : Vs.St) : stc v s = ([] ++ [v] ++ (s.cm.map (Value.int .i64) ++ s.sy.map (Value.int .i64))).toArray := by
  simp [stc]
theorem fill_one (a : Option Addr) (n c : Nat) : Instr.fill (#[(0, 1), (1, 100), (101, 1000)][·]?) (stc (.slice none 0 0) Vs.new) [(0, .slice a n c)] = some (stc (.slice a n c) Vs.new) := by
  rw [stc_parts, stc_parts, fill_part _ [] [Value.slice none 0 0] _ 0 _ _ rfl rfl]
  rfl
theorem fill_all (a : Option Addr) (n c : Nat) {s : Vs.St} (h : s.ok) :
    Instr.fill (#[(0, 1), (1, 100), (101, 1000)][·]?) (stc (.slice none 0 0) Vs.new) [(0, .slice a n c), (1, .agg (ivs s.cm)), (2, .agg (ivs s.sy))] = some (stc (.slice a n c) s) := by
  have l1 := h.hc
  have l2 := h.hs
  have n1 : Vs.new.cm.length = 100 := Vs.zer_length 100
  have n2 : Vs.new.sy.length = 1000 := Vs.zer_length 1000
  rw [stc_parts, fill_part _ [] [Value.slice none 0 0] _ 0 _ _ rfl rfl]
  have e1 : ([] ++ (Value.slice a n c).cells.toList ++ (Vs.new.cm.map (Value.int .i64) ++ Vs.new.sy.map (Value.int .i64))) = [Value.slice a n c] ++ Vs.new.cm.map (Value.int .i64) ++ Vs.new.sy.map (Value.int .i64) := by
    show [] ++ [Value.slice a n c] ++ _ = _
    simp
  rw [e1, fill_part _ [Value.slice a n c] (Vs.new.cm.map (Value.int .i64)) _ 1 (.agg (ivs s.cm)) _ (by rw [List.length_map, n1]; rfl) (by rw [show (Value.agg (ivs s.cm)).cells = ivs s.cm from rfl, ivs_size, List.length_map, l1, n1])]
  have e2 : ([Value.slice a n c] ++ (Value.agg (ivs s.cm)).cells.toList ++ Vs.new.sy.map (Value.int .i64)) = ([Value.slice a n c] ++ s.cm.map (Value.int .i64)) ++ Vs.new.sy.map (Value.int .i64) ++ [] := by
    show [Value.slice a n c] ++ (ivs s.cm).toList ++ _ = _
    simp [ivs]
  rw [e2, fill_part _ ([Value.slice a n c] ++ s.cm.map (Value.int .i64)) (Vs.new.sy.map (Value.int .i64)) _ 2 (.agg (ivs s.sy)) _ (by rw [List.length_append, List.length_map, List.length_map, l1, n2]; rfl) (by rw [show (Value.agg (ivs s.sy)).cells = ivs s.sy from rfl, ivs_size, List.length_map, l2, n2])]
  show some _ = _
  congr 1
  show (([Value.slice a n c] ++ s.cm.map (Value.int .i64)) ++ (ivs s.sy).toList ++ []).toArray = _
  simp [stc, ivs]

end Go.Proofs.YtkfipjlknfinpaaDoor
