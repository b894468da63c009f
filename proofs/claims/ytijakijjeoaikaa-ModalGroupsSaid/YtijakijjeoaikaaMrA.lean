
/- The walks of the specification of modal groups: among, Group, Has, Find, GroupOf. -/
import Derived.Test.YtijakijjeoaikaaMdA
import Derived.Test.YtijakijjeoaikaaFxB
import Derived.Test.YtijakijjeoaikaaTape
set_option linter.unusedVariables false
set_option linter.unusedSimpArgs false
namespace Go.Proofs.Ytijakijjeoaikaa
open Go.RowKit

/-- A block that holds a row of numbers. -/
def ivr (l : List Int) : Array Value := (l.map (Value.int .i64)).toArray
theorem ivr_at {l : List Int} {i : Nat} (h : i < l.length) : (ivr l)[i]? = some (.int .i64 (l.getD i 0)) := by
  simp [ivr, List.getD_eq_getElem?_getD, List.getElem?_eq_getElem h]
def small (l : List Int) : Prop := l.length ≤ 1000
set_option maxRecDepth 100000 in
theorem mrAmong (n : Int) (l : List Int) {w : World} {b : Nat} {t : TypeId} (hb : Bx w b (ivr l) t) (hl : l.length ≤ 1000) : Calls Try.prog 39 #[.int .i64 n, .slice (some ⟨b, 0, none⟩) l.length l.length] w fun e w' => e = .returned (.bool (decide (n ∈ l))) ∧ w = w' := by
  have HB := Lib.hid hb
  clear hb
  obtain ⟨N, hN⟩ : ∃ N, N = l.length := ⟨_, rfl⟩
  rw [← hN] at hl
  have HN := Lib.hid hN
  rw [← hN]
  clear hN
  go_enter Try.func39, Try.ntmps39
  go_wp2
  go_loop [5] (fun iv => ∃ i : Nat, i ≤ N ∧ iv = .int .i64 (i : Int) ∧ Hid (decide (n ∈ l) = decide (n ∈ l.drop i))) (fun iv => N - (intOf iv).toNat)
  case atStart => exact ⟨0, by omega, rfl, Lib.hid rfl⟩
  case round =>
    obtain ⟨i, hi, rfl, HE⟩ := hrel
    by_cases hlt : i < N
    · have c := HB.out.cell' i _ (ivr_at (by have := HN.out; omega))
      have hd : l.drop i = l.getD i 0 :: l.drop (i + 1) := by
        have h : i < l.length := by have := HN.out; omega
        rw [List.drop_eq_getElem_cons h, List.getD_eq_getElem?_getD, List.getElem?_eq_getElem h]
        rfl
      have hE := HE.out
      rw [hd] at hE
      generalize l.getD i 0 = x at *
      have HE2 := Lib.hid hE
      have hl1 : (i : Int) < (N : Int) := by omega
      clear hE hd HE
      by_cases e : x = n
      · subst e
        have EE : Hid (decide (x ∈ l) = true) := Lib.hid (HE2.out.trans (by simp))
        go_wp2
        go_ret
        exact ⟨ret_bl EE.out.symm, rfl⟩
      · have z : (x == n) = false := beq_eq_false_iff_ne.2 e
        have HE3 : Hid (decide (n ∈ l) = decide (n ∈ l.drop (i + 1))) := Lib.hid (HE2.out.trans (decide_eq_decide.2 (by rw [List.mem_cons]; exact ⟨fun h => h.resolve_left (fun h => e h.symm), .inr⟩)))
        clear e
        go_wp2
        go_round
        case rel => exact ⟨i + 1, by omega, by go_num, HE3⟩
        case measure => simp [intOf]; omega
    · obtain rfl : i = N := by omega
      have EE : Hid (decide (n ∈ l) = false) := Lib.hid (HE.out.trans (by rw [HN.out, List.drop_length]; simp))
      clear hlt
      go_wp2
      go_ret
      exact ⟨ret_bl EE.out.symm, rfl⟩

theorem bx_new2 (w : World) (a : Obj) (cs : Array Value) (t : TypeId) : Bx ((w.alloc a).alloc (.cells cs t)) (w.heap.size + 1) cs t := by
  have h := Bx.new (w.alloc a) cs t
  have e : (w.alloc a).heap.size = w.heap.size + 1 := by simp
  rwa [e] at h
theorem bx_new3 (w : World) (a b : Obj) (cs : Array Value) (t : TypeId) : Bx (((w.alloc a).alloc b).alloc (.cells cs t)) (w.heap.size + 1 + 1) cs t := by
  have h := Bx.new ((w.alloc a).alloc b) cs t
  have e : ((w.alloc a).alloc b).heap.size = w.heap.size + 1 + 1 := by simp
  rwa [e] at h
theorem Bx.at' {w : World} {b n : Nat} {cs ds : Array Value} {t : TypeId} (h : Bx w b cs t) (e : b = n) (f : cs = ds) : Bx w n ds t := by rw [← e, ← f]; exact h
set_option maxRecDepth 100000 in
set_option maxHeartbeats 4000000 in
theorem mrGroupM (c : Int) (w : World) : Calls Try.prog 20 #[.int .i64 77, .int .i64 c] w fun e w' => e = .returned (.int .i64 (Md.grpM c)) ∧ Qw w w' := by
  have a1 : ∀ (w : World) (b : Nat) (t : TypeId), Bx w b #[.int .i64 0, .int .i64 1, .int .i64 2, .int .i64 30] t → Calls Try.prog 39 #[.int .i64 c, .slice (some ⟨b, 0, none⟩) 4 4] w fun e w' => e = .returned (.bool (decide (c ∈ [0, 1, 2, 30]))) ∧ w = w' := fun w b t h => mrAmong c [0, 1, 2, 30] h (by decide)
  have a2 : ∀ (w : World) (b : Nat) (t : TypeId), Bx w b #[.int .i64 3, .int .i64 4, .int .i64 5] t → Calls Try.prog 39 #[.int .i64 c, .slice (some ⟨b, 0, none⟩) 3 3] w fun e w' => e = .returned (.bool (decide (c ∈ [3, 4, 5]))) ∧ w = w' := fun w b t h => mrAmong c [3, 4, 5] h (by decide)
  have a3 : ∀ (w : World) (b : Nat) (t : TypeId), Bx w b #[.int .i64 7, .int .i64 8, .int .i64 9] t → Calls Try.prog 39 #[.int .i64 c, .slice (some ⟨b, 0, none⟩) 3 3] w fun e w' => e = .returned (.bool (decide (c ∈ [7, 8, 9]))) ∧ w = w' := fun w b t h => mrAmong c [7, 8, 9] h (by decide)
  unfold Md.grpM
  by_cases h1 : c ∈ [0, 1, 2, 30]
  · rw [decide_eq_true h1] at a1
    rw [if_pos h1]
    have A1 := Lib.hid a1
    clear a1 a2 a3 h1
    go_enter Try.func20, Try.ntmps20
    go_wp2_with (go_at_call 39; ((with_reducible refine (A1.out _ _ _ (Bx.new w _ _)).mono ?_); rintro e w' ⟨rfl, rfl⟩))
    go_ret
    exact ⟨rfl, Qw.al (Qw.refl w) _⟩
  rw [decide_eq_false h1] at a1
  rw [if_neg h1]
  have A1 := Lib.hid a1
  clear a1 h1
  by_cases h2 : c ∈ [3, 4, 5]
  · rw [decide_eq_true h2] at a2
    rw [if_pos h2]
    have A2 := Lib.hid a2
    clear a2 a3 h2
    go_enter Try.func20, Try.ntmps20
    go_wp2_with (go_at_call 39; (first | ((with_reducible refine (A1.out _ _ _ (Bx.new w _ _)).mono ?_); rintro e w' ⟨rfl, rfl⟩) | ((with_reducible refine (A2.out _ _ _ (bx_new2 w _ _ _)).mono ?_); rintro e w' ⟨rfl, rfl⟩)))
    go_ret
    exact ⟨rfl, Qw.al (Qw.al (Qw.refl w) _) _⟩
  rw [decide_eq_false h2] at a2
  rw [if_neg h2]
  have A2 := Lib.hid a2
  clear a2 h2
  by_cases h3 : c = 6
  · subst h3
    rw [if_pos rfl]
    go_enter Try.func20, Try.ntmps20
    go_wp2_with (go_at_call 39; (first | ((with_reducible refine (A1.out _ _ _ (Bx.new w _ _)).mono ?_); rintro e w' ⟨rfl, rfl⟩) | ((with_reducible refine (A2.out _ _ _ (bx_new2 w _ _ _)).mono ?_); rintro e w' ⟨rfl, rfl⟩)))
    go_ret
    exact ⟨rfl, Qw.al (Qw.al (Qw.refl w) _) _⟩
  rw [if_neg h3]
  have z3 : (c == 6) = false := beq_eq_false_iff_ne.2 h3
  clear h3
  by_cases h4 : c ∈ [7, 8, 9]
  · rw [decide_eq_true h4] at a3
    rw [if_pos h4]
    have A3 := Lib.hid a3
    clear a3 h4
    go_enter Try.func20, Try.ntmps20
    go_wp2_with (go_at_call 39; (first | ((with_reducible refine (A1.out _ _ _ (Bx.new w _ _)).mono ?_); rintro e w' ⟨rfl, rfl⟩) | ((with_reducible refine (A2.out _ _ _ (bx_new2 w _ _ _)).mono ?_); rintro e w' ⟨rfl, rfl⟩) | ((with_reducible refine (A3.out _ _ _ (bx_new3 w _ _ _ _)).mono ?_); rintro e w' ⟨rfl, rfl⟩)))
    go_ret
    exact ⟨rfl, Qw.al (Qw.al (Qw.al (Qw.refl w) _) _) _⟩
  rw [decide_eq_false h4] at a3
  rw [if_neg h4]
  have A3 := Lib.hid a3
  clear a3 h4
  by_cases h5 : c = 62
  · subst h5
    rw [if_pos (.inl rfl)]
    go_enter Try.func20, Try.ntmps20
    go_wp2_with (go_at_call 39; (first | ((with_reducible refine (A1.out _ _ _ (Bx.new w _ _)).mono ?_); rintro e w' ⟨rfl, rfl⟩) | ((with_reducible refine (A2.out _ _ _ (bx_new2 w _ _ _)).mono ?_); rintro e w' ⟨rfl, rfl⟩) | ((with_reducible refine (A3.out _ _ _ (bx_new3 w _ _ _ _)).mono ?_); rintro e w' ⟨rfl, rfl⟩)))
    go_ret
    exact ⟨rfl, Qw.al (Qw.al (Qw.al (Qw.refl w) _) _) _⟩
  by_cases h6 : c = 63
  · subst h6
    rw [if_pos (.inr rfl)]
    go_enter Try.func20, Try.ntmps20
    go_wp2_with (go_at_call 39; (first | ((with_reducible refine (A1.out _ _ _ (Bx.new w _ _)).mono ?_); rintro e w' ⟨rfl, rfl⟩) | ((with_reducible refine (A2.out _ _ _ (bx_new2 w _ _ _)).mono ?_); rintro e w' ⟨rfl, rfl⟩) | ((with_reducible refine (A3.out _ _ _ (bx_new3 w _ _ _ _)).mono ?_); rintro e w' ⟨rfl, rfl⟩)))
    go_ret
    exact ⟨rfl, Qw.al (Qw.al (Qw.al (Qw.refl w) _) _) _⟩
  rw [if_neg (fun h => by rcases h with h | h; exact h5 h; exact h6 h)]
  have z5 : (c == 62) = false := beq_eq_false_iff_ne.2 h5
  have z6 : (c == 63) = false := beq_eq_false_iff_ne.2 h6
  clear h5 h6
  go_enter Try.func20, Try.ntmps20
  go_wp2_with (go_at_call 39; (first | ((with_reducible refine (A1.out _ _ _ (Bx.new w _ _)).mono ?_); rintro e w' ⟨rfl, rfl⟩) | ((with_reducible refine (A2.out _ _ _ (bx_new2 w _ _ _)).mono ?_); rintro e w' ⟨rfl, rfl⟩) | ((with_reducible refine (A3.out _ _ _ (bx_new3 w _ _ _ _)).mono ?_); rintro e w' ⟨rfl, rfl⟩)))
  go_ret
  exact ⟨rfl, Qw.al (Qw.al (Qw.al (Qw.refl w) _) _) _⟩
theorem mrGroupO (l c : Int) (h1 : l ≠ 71) (h2 : l ≠ 77) (w : World) : Calls Try.prog 20 #[.int .i64 l, .int .i64 c] w fun e w' => e = .returned (.int .i64 0) ∧ Qw w w' := by
  have z1 : (l != 71) = true := by rw [bne_iff_ne]; exact h1
  have z2 : (l == 77) = false := beq_eq_false_iff_ne.2 h2
  clear h1 h2
  go_enter Try.func20, Try.ntmps20
  go_wp2
  go_ret
  exact ⟨rfl, Qw.refl w⟩
/-- The table in memory. -/
structure GT (w : World) (O : Nat) (cs : Array Value) (B : Nat) : Prop where
  out : ∃ t, Bx w O cs t
  row : ∀ i, i < 15 → Bx w (B + i) (ivr (Md.gtab.getD i [])) 3
  cell : ∀ i, i < 15 → cs[i]? = some (.slice (some ⟨B + i, 0, none⟩) (Md.gtab.getD i []).length (Md.gtab.getD i []).length)
set_option maxRecDepth 100000 in
set_option maxHeartbeats 4000000 in
theorem gt_made (w : World) : GT ((((((((((((((((w.alloc (.cells #[] 3)).alloc (.cells #[.int .i64 0, .int .i64 1, .int .i64 2, .int .i64 3, .int .i64 33, .int .i64 73, .int .i64 74, .int .i64 80, .int .i64 81, .int .i64 82, .int .i64 83, .int .i64 84, .int .i64 85, .int .i64 86, .int .i64 89] 3)).alloc (.cells #[.int .i64 17, .int .i64 18, .int .i64 19] 3)).alloc (.cells #[.int .i64 90, .int .i64 91] 3)).alloc (.cells #[.int .i64 20, .int .i64 21] 3)).alloc (.cells #[.int .i64 94, .int .i64 95] 3)).alloc (.cells #[.int .i64 40, .int .i64 41, .int .i64 42] 3)).alloc (.cells #[.int .i64 43, .int .i64 44, .int .i64 49] 3)).alloc (.cells #[.int .i64 98, .int .i64 99] 3)).alloc (.cells #[.int .i64 54, .int .i64 55, .int .i64 56, .int .i64 57, .int .i64 58, .int .i64 59] 3)).alloc (.cells #[.int .i64 61, .int .i64 64] 3)).alloc (.cells #[.int .i64 15, .int .i64 16] 3)).alloc (.cells #[.int .i64 68, .int .i64 69] 3)).alloc (.cells #[.int .i64 53] 3)).alloc (.cells #[.int .i64 4, .int .i64 10, .int .i64 12, .int .i64 13, .int .i64 31, .int .i64 52, .int .i64 92] 3)).alloc (.cells #[.slice (some ⟨w.heap.size, 0, none⟩) 0 0, .slice (some ⟨w.heap.size + 1, 0, none⟩) 15 15, .slice (some ⟨w.heap.size + 1 + 1, 0, none⟩) 3 3, .slice (some ⟨w.heap.size + 1 + 1 + 1, 0, none⟩) 2 2, .slice (some ⟨w.heap.size + 1 + 1 + 1 + 1, 0, none⟩) 2 2, .slice (some ⟨w.heap.size + 1 + 1 + 1 + 1 + 1, 0, none⟩) 2 2, .slice (some ⟨w.heap.size + 1 + 1 + 1 + 1 + 1 + 1, 0, none⟩) 3 3, .slice (some ⟨w.heap.size + 1 + 1 + 1 + 1 + 1 + 1 + 1, 0, none⟩) 3 3, .slice (some ⟨w.heap.size + 1 + 1 + 1 + 1 + 1 + 1 + 1 + 1, 0, none⟩) 2 2, .slice (some ⟨w.heap.size + 1 + 1 + 1 + 1 + 1 + 1 + 1 + 1 + 1, 0, none⟩) 6 6, .slice (some ⟨w.heap.size + 1 + 1 + 1 + 1 + 1 + 1 + 1 + 1 + 1 + 1, 0, none⟩) 2 2, .slice (some ⟨w.heap.size + 1 + 1 + 1 + 1 + 1 + 1 + 1 + 1 + 1 + 1 + 1, 0, none⟩) 2 2, .slice (some ⟨w.heap.size + 1 + 1 + 1 + 1 + 1 + 1 + 1 + 1 + 1 + 1 + 1 + 1, 0, none⟩) 2 2, .slice (some ⟨w.heap.size + 1 + 1 + 1 + 1 + 1 + 1 + 1 + 1 + 1 + 1 + 1 + 1 + 1, 0, none⟩) 1 1, .slice (some ⟨w.heap.size + 1 + 1 + 1 + 1 + 1 + 1 + 1 + 1 + 1 + 1 + 1 + 1 + 1 + 1, 0, none⟩) 7 7] 23)) (w.heap.size + 1 + 1 + 1 + 1 + 1 + 1 + 1 + 1 + 1 + 1 + 1 + 1 + 1 + 1 + 1) #[.slice (some ⟨w.heap.size, 0, none⟩) 0 0, .slice (some ⟨w.heap.size + 1, 0, none⟩) 15 15, .slice (some ⟨w.heap.size + 1 + 1, 0, none⟩) 3 3, .slice (some ⟨w.heap.size + 1 + 1 + 1, 0, none⟩) 2 2, .slice (some ⟨w.heap.size + 1 + 1 + 1 + 1, 0, none⟩) 2 2, .slice (some ⟨w.heap.size + 1 + 1 + 1 + 1 + 1, 0, none⟩) 2 2, .slice (some ⟨w.heap.size + 1 + 1 + 1 + 1 + 1 + 1, 0, none⟩) 3 3, .slice (some ⟨w.heap.size + 1 + 1 + 1 + 1 + 1 + 1 + 1, 0, none⟩) 3 3, .slice (some ⟨w.heap.size + 1 + 1 + 1 + 1 + 1 + 1 + 1 + 1, 0, none⟩) 2 2, .slice (some ⟨w.heap.size + 1 + 1 + 1 + 1 + 1 + 1 + 1 + 1 + 1, 0, none⟩) 6 6, .slice (some ⟨w.heap.size + 1 + 1 + 1 + 1 + 1 + 1 + 1 + 1 + 1 + 1, 0, none⟩) 2 2, .slice (some ⟨w.heap.size + 1 + 1 + 1 + 1 + 1 + 1 + 1 + 1 + 1 + 1 + 1, 0, none⟩) 2 2, .slice (some ⟨w.heap.size + 1 + 1 + 1 + 1 + 1 + 1 + 1 + 1 + 1 + 1 + 1 + 1, 0, none⟩) 2 2, .slice (some ⟨w.heap.size + 1 + 1 + 1 + 1 + 1 + 1 + 1 + 1 + 1 + 1 + 1 + 1 + 1, 0, none⟩) 1 1, .slice (some ⟨w.heap.size + 1 + 1 + 1 + 1 + 1 + 1 + 1 + 1 + 1 + 1 + 1 + 1 + 1 + 1, 0, none⟩) 7 7] w.heap.size := by
  refine ⟨⟨_, (Bx.new (((((((((((((((w.alloc (.cells #[] 3)).alloc (.cells #[.int .i64 0, .int .i64 1, .int .i64 2, .int .i64 3, .int .i64 33, .int .i64 73, .int .i64 74, .int .i64 80, .int .i64 81, .int .i64 82, .int .i64 83, .int .i64 84, .int .i64 85, .int .i64 86, .int .i64 89] 3)).alloc (.cells #[.int .i64 17, .int .i64 18, .int .i64 19] 3)).alloc (.cells #[.int .i64 90, .int .i64 91] 3)).alloc (.cells #[.int .i64 20, .int .i64 21] 3)).alloc (.cells #[.int .i64 94, .int .i64 95] 3)).alloc (.cells #[.int .i64 40, .int .i64 41, .int .i64 42] 3)).alloc (.cells #[.int .i64 43, .int .i64 44, .int .i64 49] 3)).alloc (.cells #[.int .i64 98, .int .i64 99] 3)).alloc (.cells #[.int .i64 54, .int .i64 55, .int .i64 56, .int .i64 57, .int .i64 58, .int .i64 59] 3)).alloc (.cells #[.int .i64 61, .int .i64 64] 3)).alloc (.cells #[.int .i64 15, .int .i64 16] 3)).alloc (.cells #[.int .i64 68, .int .i64 69] 3)).alloc (.cells #[.int .i64 53] 3)).alloc (.cells #[.int .i64 4, .int .i64 10, .int .i64 12, .int .i64 13, .int .i64 31, .int .i64 52, .int .i64 92] 3)) _ _).at' (by simp) rfl⟩, fun i hi => ?_, fun i hi => ?_⟩
  · match i, hi with
    | 0, _ => exact ((((((((((((((((Bx.new w #[] 3).alloc _).alloc _).alloc _).alloc _).alloc _).alloc _).alloc _).alloc _).alloc _).alloc _).alloc _).alloc _).alloc _).alloc _).alloc _).at' (by simp) rfl
    | 1, _ => exact (((((((((((((((Bx.new (w.alloc (.cells #[] 3)) #[.int .i64 0, .int .i64 1, .int .i64 2, .int .i64 3, .int .i64 33, .int .i64 73, .int .i64 74, .int .i64 80, .int .i64 81, .int .i64 82, .int .i64 83, .int .i64 84, .int .i64 85, .int .i64 86, .int .i64 89] 3).alloc _).alloc _).alloc _).alloc _).alloc _).alloc _).alloc _).alloc _).alloc _).alloc _).alloc _).alloc _).alloc _).alloc _).at' (by simp) rfl
    | 2, _ => exact ((((((((((((((Bx.new ((w.alloc (.cells #[] 3)).alloc (.cells #[.int .i64 0, .int .i64 1, .int .i64 2, .int .i64 3, .int .i64 33, .int .i64 73, .int .i64 74, .int .i64 80, .int .i64 81, .int .i64 82, .int .i64 83, .int .i64 84, .int .i64 85, .int .i64 86, .int .i64 89] 3)) #[.int .i64 17, .int .i64 18, .int .i64 19] 3).alloc _).alloc _).alloc _).alloc _).alloc _).alloc _).alloc _).alloc _).alloc _).alloc _).alloc _).alloc _).alloc _).at' (by simp) rfl
    | 3, _ => exact (((((((((((((Bx.new (((w.alloc (.cells #[] 3)).alloc (.cells #[.int .i64 0, .int .i64 1, .int .i64 2, .int .i64 3, .int .i64 33, .int .i64 73, .int .i64 74, .int .i64 80, .int .i64 81, .int .i64 82, .int .i64 83, .int .i64 84, .int .i64 85, .int .i64 86, .int .i64 89] 3)).alloc (.cells #[.int .i64 17, .int .i64 18, .int .i64 19] 3)) #[.int .i64 90, .int .i64 91] 3).alloc _).alloc _).alloc _).alloc _).alloc _).alloc _).alloc _).alloc _).alloc _).alloc _).alloc _).alloc _).at' (by simp) rfl
    | 4, _ => exact ((((((((((((Bx.new ((((w.alloc (.cells #[] 3)).alloc (.cells #[.int .i64 0, .int .i64 1, .int .i64 2, .int .i64 3, .int .i64 33, .int .i64 73, .int .i64 74, .int .i64 80, .int .i64 81, .int .i64 82, .int .i64 83, .int .i64 84, .int .i64 85, .int .i64 86, .int .i64 89] 3)).alloc (.cells #[.int .i64 17, .int .i64 18, .int .i64 19] 3)).alloc (.cells #[.int .i64 90, .int .i64 91] 3)) #[.int .i64 20, .int .i64 21] 3).alloc _).alloc _).alloc _).alloc _).alloc _).alloc _).alloc _).alloc _).alloc _).alloc _).alloc _).at' (by simp) rfl
    | 5, _ => exact (((((((((((Bx.new (((((w.alloc (.cells #[] 3)).alloc (.cells #[.int .i64 0, .int .i64 1, .int .i64 2, .int .i64 3, .int .i64 33, .int .i64 73, .int .i64 74, .int .i64 80, .int .i64 81, .int .i64 82, .int .i64 83, .int .i64 84, .int .i64 85, .int .i64 86, .int .i64 89] 3)).alloc (.cells #[.int .i64 17, .int .i64 18, .int .i64 19] 3)).alloc (.cells #[.int .i64 90, .int .i64 91] 3)).alloc (.cells #[.int .i64 20, .int .i64 21] 3)) #[.int .i64 94, .int .i64 95] 3).alloc _).alloc _).alloc _).alloc _).alloc _).alloc _).alloc _).alloc _).alloc _).alloc _).at' (by simp) rfl
    | 6, _ => exact ((((((((((Bx.new ((((((w.alloc (.cells #[] 3)).alloc (.cells #[.int .i64 0, .int .i64 1, .int .i64 2, .int .i64 3, .int .i64 33, .int .i64 73, .int .i64 74, .int .i64 80, .int .i64 81, .int .i64 82, .int .i64 83, .int .i64 84, .int .i64 85, .int .i64 86, .int .i64 89] 3)).alloc (.cells #[.int .i64 17, .int .i64 18, .int .i64 19] 3)).alloc (.cells #[.int .i64 90, .int .i64 91] 3)).alloc (.cells #[.int .i64 20, .int .i64 21] 3)).alloc (.cells #[.int .i64 94, .int .i64 95] 3)) #[.int .i64 40, .int .i64 41, .int .i64 42] 3).alloc _).alloc _).alloc _).alloc _).alloc _).alloc _).alloc _).alloc _).alloc _).at' (by simp) rfl
    | 7, _ => exact (((((((((Bx.new (((((((w.alloc (.cells #[] 3)).alloc (.cells #[.int .i64 0, .int .i64 1, .int .i64 2, .int .i64 3, .int .i64 33, .int .i64 73, .int .i64 74, .int .i64 80, .int .i64 81, .int .i64 82, .int .i64 83, .int .i64 84, .int .i64 85, .int .i64 86, .int .i64 89] 3)).alloc (.cells #[.int .i64 17, .int .i64 18, .int .i64 19] 3)).alloc (.cells #[.int .i64 90, .int .i64 91] 3)).alloc (.cells #[.int .i64 20, .int .i64 21] 3)).alloc (.cells #[.int .i64 94, .int .i64 95] 3)).alloc (.cells #[.int .i64 40, .int .i64 41, .int .i64 42] 3)) #[.int .i64 43, .int .i64 44, .int .i64 49] 3).alloc _).alloc _).alloc _).alloc _).alloc _).alloc _).alloc _).alloc _).at' (by simp) rfl
    | 8, _ => exact ((((((((Bx.new ((((((((w.alloc (.cells #[] 3)).alloc (.cells #[.int .i64 0, .int .i64 1, .int .i64 2, .int .i64 3, .int .i64 33, .int .i64 73, .int .i64 74, .int .i64 80, .int .i64 81, .int .i64 82, .int .i64 83, .int .i64 84, .int .i64 85, .int .i64 86, .int .i64 89] 3)).alloc (.cells #[.int .i64 17, .int .i64 18, .int .i64 19] 3)).alloc (.cells #[.int .i64 90, .int .i64 91] 3)).alloc (.cells #[.int .i64 20, .int .i64 21] 3)).alloc (.cells #[.int .i64 94, .int .i64 95] 3)).alloc (.cells #[.int .i64 40, .int .i64 41, .int .i64 42] 3)).alloc (.cells #[.int .i64 43, .int .i64 44, .int .i64 49] 3)) #[.int .i64 98, .int .i64 99] 3).alloc _).alloc _).alloc _).alloc _).alloc _).alloc _).alloc _).at' (by simp) rfl
    | 9, _ => exact (((((((Bx.new (((((((((w.alloc (.cells #[] 3)).alloc (.cells #[.int .i64 0, .int .i64 1, .int .i64 2, .int .i64 3, .int .i64 33, .int .i64 73, .int .i64 74, .int .i64 80, .int .i64 81, .int .i64 82, .int .i64 83, .int .i64 84, .int .i64 85, .int .i64 86, .int .i64 89] 3)).alloc (.cells #[.int .i64 17, .int .i64 18, .int .i64 19] 3)).alloc (.cells #[.int .i64 90, .int .i64 91] 3)).alloc (.cells #[.int .i64 20, .int .i64 21] 3)).alloc (.cells #[.int .i64 94, .int .i64 95] 3)).alloc (.cells #[.int .i64 40, .int .i64 41, .int .i64 42] 3)).alloc (.cells #[.int .i64 43, .int .i64 44, .int .i64 49] 3)).alloc (.cells #[.int .i64 98, .int .i64 99] 3)) #[.int .i64 54, .int .i64 55, .int .i64 56, .int .i64 57, .int .i64 58, .int .i64 59] 3).alloc _).alloc _).alloc _).alloc _).alloc _).alloc _).at' (by simp) rfl
    | 10, _ => exact ((((((Bx.new ((((((((((w.alloc (.cells #[] 3)).alloc (.cells #[.int .i64 0, .int .i64 1, .int .i64 2, .int .i64 3, .int .i64 33, .int .i64 73, .int .i64 74, .int .i64 80, .int .i64 81, .int .i64 82, .int .i64 83, .int .i64 84, .int .i64 85, .int .i64 86, .int .i64 89] 3)).alloc (.cells #[.int .i64 17, .int .i64 18, .int .i64 19] 3)).alloc (.cells #[.int .i64 90, .int .i64 91] 3)).alloc (.cells #[.int .i64 20, .int .i64 21] 3)).alloc (.cells #[.int .i64 94, .int .i64 95] 3)).alloc (.cells #[.int .i64 40, .int .i64 41, .int .i64 42] 3)).alloc (.cells #[.int .i64 43, .int .i64 44, .int .i64 49] 3)).alloc (.cells #[.int .i64 98, .int .i64 99] 3)).alloc (.cells #[.int .i64 54, .int .i64 55, .int .i64 56, .int .i64 57, .int .i64 58, .int .i64 59] 3)) #[.int .i64 61, .int .i64 64] 3).alloc _).alloc _).alloc _).alloc _).alloc _).at' (by simp) rfl
    | 11, _ => exact (((((Bx.new (((((((((((w.alloc (.cells #[] 3)).alloc (.cells #[.int .i64 0, .int .i64 1, .int .i64 2, .int .i64 3, .int .i64 33, .int .i64 73, .int .i64 74, .int .i64 80, .int .i64 81, .int .i64 82, .int .i64 83, .int .i64 84, .int .i64 85, .int .i64 86, .int .i64 89] 3)).alloc (.cells #[.int .i64 17, .int .i64 18, .int .i64 19] 3)).alloc (.cells #[.int .i64 90, .int .i64 91] 3)).alloc (.cells #[.int .i64 20, .int .i64 21] 3)).alloc (.cells #[.int .i64 94, .int .i64 95] 3)).alloc (.cells #[.int .i64 40, .int .i64 41, .int .i64 42] 3)).alloc (.cells #[.int .i64 43, .int .i64 44, .int .i64 49] 3)).alloc (.cells #[.int .i64 98, .int .i64 99] 3)).alloc (.cells #[.int .i64 54, .int .i64 55, .int .i64 56, .int .i64 57, .int .i64 58, .int .i64 59] 3)).alloc (.cells #[.int .i64 61, .int .i64 64] 3)) #[.int .i64 15, .int .i64 16] 3).alloc _).alloc _).alloc _).alloc _).at' (by simp) rfl
    | 12, _ => exact ((((Bx.new ((((((((((((w.alloc (.cells #[] 3)).alloc (.cells #[.int .i64 0, .int .i64 1, .int .i64 2, .int .i64 3, .int .i64 33, .int .i64 73, .int .i64 74, .int .i64 80, .int .i64 81, .int .i64 82, .int .i64 83, .int .i64 84, .int .i64 85, .int .i64 86, .int .i64 89] 3)).alloc (.cells #[.int .i64 17, .int .i64 18, .int .i64 19] 3)).alloc (.cells #[.int .i64 90, .int .i64 91] 3)).alloc (.cells #[.int .i64 20, .int .i64 21] 3)).alloc (.cells #[.int .i64 94, .int .i64 95] 3)).alloc (.cells #[.int .i64 40, .int .i64 41, .int .i64 42] 3)).alloc (.cells #[.int .i64 43, .int .i64 44, .int .i64 49] 3)).alloc (.cells #[.int .i64 98, .int .i64 99] 3)).alloc (.cells #[.int .i64 54, .int .i64 55, .int .i64 56, .int .i64 57, .int .i64 58, .int .i64 59] 3)).alloc (.cells #[.int .i64 61, .int .i64 64] 3)).alloc (.cells #[.int .i64 15, .int .i64 16] 3)) #[.int .i64 68, .int .i64 69] 3).alloc _).alloc _).alloc _).at' (by simp) rfl
    | 13, _ => exact (((Bx.new (((((((((((((w.alloc (.cells #[] 3)).alloc (.cells #[.int .i64 0, .int .i64 1, .int .i64 2, .int .i64 3, .int .i64 33, .int .i64 73, .int .i64 74, .int .i64 80, .int .i64 81, .int .i64 82, .int .i64 83, .int .i64 84, .int .i64 85, .int .i64 86, .int .i64 89] 3)).alloc (.cells #[.int .i64 17, .int .i64 18, .int .i64 19] 3)).alloc (.cells #[.int .i64 90, .int .i64 91] 3)).alloc (.cells #[.int .i64 20, .int .i64 21] 3)).alloc (.cells #[.int .i64 94, .int .i64 95] 3)).alloc (.cells #[.int .i64 40, .int .i64 41, .int .i64 42] 3)).alloc (.cells #[.int .i64 43, .int .i64 44, .int .i64 49] 3)).alloc (.cells #[.int .i64 98, .int .i64 99] 3)).alloc (.cells #[.int .i64 54, .int .i64 55, .int .i64 56, .int .i64 57, .int .i64 58, .int .i64 59] 3)).alloc (.cells #[.int .i64 61, .int .i64 64] 3)).alloc (.cells #[.int .i64 15, .int .i64 16] 3)).alloc (.cells #[.int .i64 68, .int .i64 69] 3)) #[.int .i64 53] 3).alloc _).alloc _).at' (by simp) rfl
    | 14, _ => exact ((Bx.new ((((((((((((((w.alloc (.cells #[] 3)).alloc (.cells #[.int .i64 0, .int .i64 1, .int .i64 2, .int .i64 3, .int .i64 33, .int .i64 73, .int .i64 74, .int .i64 80, .int .i64 81, .int .i64 82, .int .i64 83, .int .i64 84, .int .i64 85, .int .i64 86, .int .i64 89] 3)).alloc (.cells #[.int .i64 17, .int .i64 18, .int .i64 19] 3)).alloc (.cells #[.int .i64 90, .int .i64 91] 3)).alloc (.cells #[.int .i64 20, .int .i64 21] 3)).alloc (.cells #[.int .i64 94, .int .i64 95] 3)).alloc (.cells #[.int .i64 40, .int .i64 41, .int .i64 42] 3)).alloc (.cells #[.int .i64 43, .int .i64 44, .int .i64 49] 3)).alloc (.cells #[.int .i64 98, .int .i64 99] 3)).alloc (.cells #[.int .i64 54, .int .i64 55, .int .i64 56, .int .i64 57, .int .i64 58, .int .i64 59] 3)).alloc (.cells #[.int .i64 61, .int .i64 64] 3)).alloc (.cells #[.int .i64 15, .int .i64 16] 3)).alloc (.cells #[.int .i64 68, .int .i64 69] 3)).alloc (.cells #[.int .i64 53] 3)) #[.int .i64 4, .int .i64 10, .int .i64 12, .int .i64 13, .int .i64 31, .int .i64 52, .int .i64 92] 3).alloc _).at' (by simp) rfl
  · match i, hi with
    | 0, _ => rfl
    | 1, _ => rfl
    | 2, _ => rfl
    | 3, _ => rfl
    | 4, _ => rfl
    | 5, _ => rfl
    | 6, _ => rfl
    | 7, _ => rfl
    | 8, _ => rfl
    | 9, _ => rfl
    | 10, _ => rfl
    | 11, _ => rfl
    | 12, _ => rfl
    | 13, _ => rfl
    | 14, _ => rfl
set_option maxRecDepth 100000 in
set_option maxHeartbeats 4000000 in
theorem mrGroupG (c : Int) (w : World) : Calls Try.prog 20 #[.int .i64 71, .int .i64 c] w fun e w' => e = .returned (.int .i64 (Md.grpG c)) ∧ Qw w w' := by
  have GM := Lib.hid (gt_made w)
  go_enter Try.func20, Try.ntmps20
  go_wp2
  refine code_of (fun w' => GT w' (w.heap.size + 1 + 1 + 1 + 1 + 1 + 1 + 1 + 1 + 1 + 1 + 1 + 1 + 1 + 1 + 1) #[.slice (some ⟨w.heap.size, 0, none⟩) 0 0, .slice (some ⟨w.heap.size + 1, 0, none⟩) 15 15, .slice (some ⟨w.heap.size + 1 + 1, 0, none⟩) 3 3, .slice (some ⟨w.heap.size + 1 + 1 + 1, 0, none⟩) 2 2, .slice (some ⟨w.heap.size + 1 + 1 + 1 + 1, 0, none⟩) 2 2, .slice (some ⟨w.heap.size + 1 + 1 + 1 + 1 + 1, 0, none⟩) 2 2, .slice (some ⟨w.heap.size + 1 + 1 + 1 + 1 + 1 + 1, 0, none⟩) 3 3, .slice (some ⟨w.heap.size + 1 + 1 + 1 + 1 + 1 + 1 + 1, 0, none⟩) 3 3, .slice (some ⟨w.heap.size + 1 + 1 + 1 + 1 + 1 + 1 + 1 + 1, 0, none⟩) 2 2, .slice (some ⟨w.heap.size + 1 + 1 + 1 + 1 + 1 + 1 + 1 + 1 + 1, 0, none⟩) 6 6, .slice (some ⟨w.heap.size + 1 + 1 + 1 + 1 + 1 + 1 + 1 + 1 + 1 + 1, 0, none⟩) 2 2, .slice (some ⟨w.heap.size + 1 + 1 + 1 + 1 + 1 + 1 + 1 + 1 + 1 + 1 + 1, 0, none⟩) 2 2, .slice (some ⟨w.heap.size + 1 + 1 + 1 + 1 + 1 + 1 + 1 + 1 + 1 + 1 + 1 + 1, 0, none⟩) 2 2, .slice (some ⟨w.heap.size + 1 + 1 + 1 + 1 + 1 + 1 + 1 + 1 + 1 + 1 + 1 + 1 + 1, 0, none⟩) 1 1, .slice (some ⟨w.heap.size + 1 + 1 + 1 + 1 + 1 + 1 + 1 + 1 + 1 + 1 + 1 + 1 + 1 + 1, 0, none⟩) 7 7] w.heap.size ∧ Qw w w') ⟨GM.out, Qw.al (Qw.al (Qw.al (Qw.al (Qw.al (Qw.al (Qw.al (Qw.al (Qw.al (Qw.al (Qw.al (Qw.al (Qw.al (Qw.al (Qw.al (Qw.al (Qw.refl w) _) _) _) _) _) _) _) _) _) _) _) _) _) _) _) _⟩ ?_
  rintro w1 ⟨hG, hq⟩
  obtain ⟨O, hO⟩ : ∃ O, O = w.heap.size + 1 + 1 + 1 + 1 + 1 + 1 + 1 + 1 + 1 + 1 + 1 + 1 + 1 + 1 + 1 := ⟨_, rfl⟩
  rw [← hO] at hG ⊢
  obtain ⟨cs, hcs⟩ : ∃ cs : Array Value, cs = #[.slice (some ⟨w.heap.size, 0, none⟩) 0 0, .slice (some ⟨w.heap.size + 1, 0, none⟩) 15 15, .slice (some ⟨w.heap.size + 1 + 1, 0, none⟩) 3 3, .slice (some ⟨w.heap.size + 1 + 1 + 1, 0, none⟩) 2 2, .slice (some ⟨w.heap.size + 1 + 1 + 1 + 1, 0, none⟩) 2 2, .slice (some ⟨w.heap.size + 1 + 1 + 1 + 1 + 1, 0, none⟩) 2 2, .slice (some ⟨w.heap.size + 1 + 1 + 1 + 1 + 1 + 1, 0, none⟩) 3 3, .slice (some ⟨w.heap.size + 1 + 1 + 1 + 1 + 1 + 1 + 1, 0, none⟩) 3 3, .slice (some ⟨w.heap.size + 1 + 1 + 1 + 1 + 1 + 1 + 1 + 1, 0, none⟩) 2 2, .slice (some ⟨w.heap.size + 1 + 1 + 1 + 1 + 1 + 1 + 1 + 1 + 1, 0, none⟩) 6 6, .slice (some ⟨w.heap.size + 1 + 1 + 1 + 1 + 1 + 1 + 1 + 1 + 1 + 1, 0, none⟩) 2 2, .slice (some ⟨w.heap.size + 1 + 1 + 1 + 1 + 1 + 1 + 1 + 1 + 1 + 1 + 1, 0, none⟩) 2 2, .slice (some ⟨w.heap.size + 1 + 1 + 1 + 1 + 1 + 1 + 1 + 1 + 1 + 1 + 1 + 1, 0, none⟩) 2 2, .slice (some ⟨w.heap.size + 1 + 1 + 1 + 1 + 1 + 1 + 1 + 1 + 1 + 1 + 1 + 1 + 1, 0, none⟩) 1 1, .slice (some ⟨w.heap.size + 1 + 1 + 1 + 1 + 1 + 1 + 1 + 1 + 1 + 1 + 1 + 1 + 1 + 1, 0, none⟩) 7 7] := ⟨_, rfl⟩
  rw [← hcs] at hG
  have HG := Lib.hid hG
  have HQ := Lib.hid hq
  clear hG hq hO hcs GM
  obtain ⟨B, hB⟩ : ∃ B, B = w.heap.size := ⟨_, rfl⟩
  rw [← hB] at HG
  clear hB
  go_loop [6] (fun iv => ∃ i : Nat, i ≤ 15 ∧ iv = .int .i64 (i : Int) ∧ Hid (Md.grpG c = Md.fst c i (Md.gtab.drop i))) (fun iv => 15 - (intOf iv).toNat)
  case atStart => exact ⟨1, by omega, rfl, Lib.hid rfl⟩
  case round =>
    obtain ⟨i, hi, rfl, HE⟩ := hrel
    by_cases hlt : i < 15
    · obtain ⟨t, hO⟩ := HG.out.out
      have c0 := hO.cell' i _ (HG.out.cell i hlt)
      have hd : Md.gtab.drop i = Md.gtab.getD i [] :: Md.gtab.drop (i + 1) := by
        have h : i < Md.gtab.length := hlt
        rw [List.drop_eq_getElem_cons h, List.getD_eq_getElem?_getD, List.getElem?_eq_getElem h]
        rfl
      have hl : (Md.gtab.getD i []).length ≤ 1000 := by
        have k : ∀ j : Fin 15, (Md.gtab.getD j []).length ≤ 1000 := by decide
        exact k ⟨i, hlt⟩
      have hE := HE.out
      rw [hd] at hE
      have AM := Lib.hid (mrAmong c _ (HG.out.row i hlt) hl)
      clear hO hd HE
      generalize Md.gtab.getD i [] = r at *
      have hl1 : (i : Int) < 15 := by omega
      have hl0 : 0 ≤ (i : Int) := by omega
      have hE2 : Hid (Md.grpG c = if c ∈ r then (i : Int) else Md.fst c (i + 1) (Md.gtab.drop (i + 1))) := Lib.hid hE
      clear hE
      by_cases hm : c ∈ r
      · have EE := Lib.hid (hE2.out.trans (if_pos hm))
        rw [decide_eq_true hm] at AM
        clear hm hE2
        go_wp2_with (go_at_call 39; ((with_reducible refine (AM.out).mono ?_); rintro e w' ⟨rfl, rfl⟩))
        go_ret
        exact ⟨ret_in EE.out.symm, HQ.out⟩
      · have EE := Lib.hid (hE2.out.trans (if_neg hm))
        rw [decide_eq_false hm] at AM
        clear hm hE2
        go_wp2_with (go_at_call 39; ((with_reducible refine (AM.out).mono ?_); rintro e w' ⟨rfl, rfl⟩))
        go_round
        case rel => exact ⟨i + 1, by omega, by go_num, EE⟩
        case measure => simp [intOf]; omega
    · obtain rfl : i = 15 := by omega
      have EE : Hid (Md.grpG c = 0) := Lib.hid (HE.out.trans rfl)
      clear hlt
      go_wp2
      go_ret
      exact ⟨ret_in EE.out.symm, HQ.out⟩
theorem mrGroup (l c : Int) (w : World) : Calls Try.prog 20 #[.int .i64 l, .int .i64 c] w fun e w' => e = .returned (.int .i64 (Md.grp l c)) ∧ Qw w w' := by
  unfold Md.grp
  by_cases h : l = 71
  · subst h
    rw [if_pos rfl]
    exact mrGroupG c w
  · by_cases h2 : l = 77
    · subst h2
      rw [if_neg (by decide), if_pos rfl]
      exact mrGroupM c w
    · rw [if_neg h, if_neg h2]
      exact mrGroupO l c h h2 w
end Go.Proofs.Ytijakijjeoaikaa
