
/- The walk of package vars' arguments. -/
import Derived.Test.YtmfhiabajkdikaaDoorVaB
set_option linter.unusedVariables false
set_option linter.unusedSimpArgs false
namespace Go.Proofs.YtmfhiabajkdikaaDoor
open Go.RowKit


/-- A slice of values (a letter and a number each) below block C. -/
def ValsB (C : Nat) (w : World) (v : Value) (l : Vs.Ar) : Prop :=
  ∃ (a : Option Addr) (cap : Nat), v = .slice a l.length cap ∧ l.length ≤ cap ∧ cap ≤ 9223372036854775807 ∧ (l = [] ∨ ∃ b off, a = some ⟨b, off, none⟩ ∧ b < C ∧
    ∀ i, i < l.length → w.cell? ⟨b, off + i * 2, none⟩ = some (.int .i64 (Vs.ltr l i)) ∧ w.cell? ⟨b, off + i * 2 + 1, none⟩ = some (.int .i64 (Vs.num l i)) ∧
      -9223372036854775808 ≤ Vs.num l i ∧ Vs.num l i ≤ 9223372036854775807)
theorem ValsB.kept {B C : Nat} {w w' : World} {v : Value} {l : Vs.Ar} (h : ValsB B w v l) (hb : Below C w w') (hC : B ≤ C) : ValsB B w' v l := by
  obtain ⟨a, cap, h1, h2, h3, h4⟩ := h
  refine ⟨a, cap, h1, h2, h3, ?_⟩
  rcases h4 with h4 | ⟨b, off, e, hB, h⟩
  · exact .inl h4
  · refine .inr ⟨b, off, e, hB, fun i hi => ?_⟩
    have k : ∀ o, w'.cell? ⟨b, o, none⟩ = w.cell? ⟨b, o, none⟩ := fun o => hb.cell (p := ⟨b, o, none⟩) (by show b < C; omega)
    rw [k, k]
    exact h i hi
theorem ValsB.mono {B C : Nat} {w : World} {v : Value} {l : Vs.Ar} (h : ValsB B w v l) (hC : B ≤ C) : ValsB C w v l := by
  obtain ⟨a, cap, h1, h2, h3, h4⟩ := h
  refine ⟨a, cap, h1, h2, h3, ?_⟩
  rcases h4 with h4 | ⟨b, off, e, hB, h⟩
  · exact .inl h4
  · exact .inr ⟨b, off, e, by omega, h⟩
theorem ValsB.nil (C : Nat) (w : World) : ValsB C w (.slice none 0 0) [] := ⟨none, 0, rfl, Nat.le_refl _, by decide, .inl rfl⟩

/-! ### arrays of numbers, of marks -/
def ivs (l : List Int) : Array Value := (l.map (Value.int .i64)).toArray
def bvs (l : List Bool) : Array Value := (l.map Value.bool).toArray
theorem ivs_size (l : List Int) : (ivs l).size = l.length := by simp [ivs]
theorem bvs_size (l : List Bool) : (bvs l).size = l.length := by simp [bvs]
theorem ivs_at {l : List Int} {i : Nat} (h : i < l.length) : (ivs l)[i]? = some (.int .i64 (l.getD i 0)) := by
  simp [ivs, List.getD_eq_getElem?_getD, List.getElem?_eq_getElem h]
theorem bvs_at {l : List Bool} {i : Nat} (h : i < l.length) : (bvs l)[i]? = some (.bool (l.getD i false)) := by
  simp [bvs, List.getD_eq_getElem?_getD, List.getElem?_eq_getElem h]
theorem ivs_set (l : List Int) (i : Nat) (n : Int) : (ivs l).setIfInBounds i (.int .i64 n) = ivs (l.set i n) := by
  apply Array.ext'
  simp [ivs, ← List.map_set]
theorem bvs_set (l : List Bool) (i : Nat) (n : Bool) : (bvs l).setIfInBounds i (.bool n) = bvs (l.set i n) := by
  apply Array.ext'
  simp [bvs, ← List.map_set]
theorem ivs_one (l : List Int) : (ivs l).all (·.oneCell') = true := by
  simp [ivs, Value.oneCell']

theorem Qw.sr {a w : World} (h : Qw a w) {g : Nat} (hg : a.heap.size ≤ g) (cs : Array Value) : Qw a (w.setRow g cs) :=
  ⟨h.os, h.tape, h.output, by rw [setRow_size]; exact h.size, fun k hk => (setRow_other w g k cs (by omega)).trans (h.block k hk)⟩
theorem Bx.sr {w : World} {g : Nat} {old : Array Value} {t : TypeId} (h : Bx w g old t) (cs : Array Value) : Bx (w.setRow g cs) g cs t := setRow_heap w g old cs t _ h
theorem Bx.srOther {w : World} {b g : Nat} {old : Array Value} {t : TypeId} (h : Bx w b old t) (hb : b ≠ g) (cs : Array Value) : Bx (w.setRow g cs) b old t := (setRow_other w g b cs hb).trans h

theorem info_loc : (Tryd.prog.info? 67).map (·.size) = some 33 := by kernel_rfl
theorem und_loc : Tryd.prog.underlying 67 = some (.array 33 3) := by kernel_rfl
theorem built_loc : Tryd.prog.built 67 [] = some (ivs (Vs.zer 33)) := by kernel_rfl
theorem bx3 (w : World) {A B C A' B' C' : Array Value} (ta tb tc : TypeId) (hA : A = A') (hB : B = B') (hC : C = C') :
    Bx (((w.alloc (.cells A ta)).alloc (.cells B tb)).alloc (.cells C tc)) w.heap.size A' ta ∧ Bx (((w.alloc (.cells A ta)).alloc (.cells B tb)).alloc (.cells C tc)) (w.heap.size + 1) B' tb ∧
      Bx (((w.alloc (.cells A ta)).alloc (.cells B tb)).alloc (.cells C tc)) (w.heap.size + 1 + 1) C' tc := by
  subst hA hB hC
  have e1 : (w.alloc (.cells A ta)).heap.size = w.heap.size + 1 := by simp
  have e2 : ((w.alloc (.cells A ta)).alloc (.cells B tb)).heap.size = w.heap.size + 1 + 1 := by simp
  refine ⟨((Bx.new w _ _).alloc _).alloc _, ?_, ?_⟩
  · have := (Bx.new (w.alloc (.cells A ta)) B tb).alloc (.cells C tc)
    rwa [e1] at this
  · have := Bx.new ((w.alloc (.cells A ta)).alloc (.cells B tb)) C tc
    rwa [e2] at this

theorem ret_arr {fn : Func} {a : Act} {w : World} {R : Nat} {l : List Int} {t : TypeId} {n : Int} (hr : fn.results = #[.cell 2 67, .tmp 3]) (h2 : a.tmps[2]?.getD undef = .pointer (some ⟨R, 0, none⟩)) (h3 : a.tmps[3]?.getD undef = .int .i64 n)
    (X : Bx w R (ivs l) t) (hl : l.length = 33) : (results fn a.tmps).run Tryd.prog w = .ok (.tuple #[.agg (ivs l), .int .i64 n]) w := by
  have h := run_loadVar_row (P := Tryd.prog) w R t 67 (ivs l) (0, 0) _ X und_loc rfl (by rw [ivs_size, hl]; exact info_loc)
  simp [results, hr, h2, h3, asAddr, h]

section
variable {ops : Array Oper} {rest : List Oper} {dst : Option Tmp} {ty : TypeId} {pos : String} {after : Array Edge} {a : Act} {w : World} {Q : Exit → Act → World → Prop}
theorem bu_loc (h : wpList Tryd.prog ops Q rest (a.put dst (.agg (ivs (Vs.zer 33)))) w) :
    wpList Tryd.prog ops Q (⟨dst, .build 67 #[], ty, pos, after, none⟩ :: rest) a w := by
  have e : Tryd.prog.built 67 ((#[] : Array (Nat × Operand)).map fun (i, x) => (i, a.eval x)).toList = some (ivs (Vs.zer 33)) := by simpa using built_loc
  refine wpList_build rfl 67 #[] rfl (by rw [e]; rfl) ?_
  rw [e]
  exact h
theorem st_loc (x y : Tmp) {R : Nat} {t : TypeId} {old : Array Value} {l : List Int} (hx : a.eval (.tmp x) = .pointer (some ⟨R, 0, none⟩)) (hy : a.eval (.tmp y) = .agg (ivs l)) (X : Bx w R old t) (ho : old.size = 33) (hl : l.length = 33)
    (h : wpList Tryd.prog ops Q rest (a.put dst undef) (w.setRow R (ivs l))) : wpList Tryd.prog ops Q (⟨dst, .store 67 (.tmp x) (.tmp y), ty, pos, after, none⟩ :: rest) a w :=
  wpList_store_row rfl 67 (.tmp x) (.tmp y) rfl R (ivs l) hx hy t old X (by rw [ivs_size, hl]; exact info_loc) (by rw [ho, ivs_size, hl]) (ivs_one l) h
theorem ld_loc (x : Tmp) {R : Nat} {t : TypeId} {l : List Int} (hx : a.eval (.tmp x) = .pointer (some ⟨R, 0, none⟩)) (X : Bx w R (ivs l) t) (hl : l.length = 33)
    (h : wpList Tryd.prog ops Q rest (a.put dst (.agg (ivs l))) w) : wpList Tryd.prog ops Q (⟨dst, .load 67 (.tmp x), ty, pos, after, none⟩ :: rest) a w :=
  wpList_load_row rfl 67 (.tmp x) rfl R hx t (ivs l) (0, 0) _ X und_loc rfl (by rw [ivs_size, hl]; exact info_loc) h
end

def ArgsR (l : Vs.Ar) (w : World) (e : Ending) (w' : World) : Prop := (∃ vs : List Int, vs.length = 33 ∧ (Vs.err l = 0 → vs = Vs.vals l l.length) ∧ e = .returned (.tuple #[.agg (ivs vs), .int .i64 (Vs.err l)])) ∧ Qw w w'

set_option maxRecDepth 100000 in
set_option maxHeartbeats 4000000 in
theorem vaArgs {w : World} {v : Value} {l : Vs.Ar} (h : ValsB w.heap.size w v l) (hT : Tl w) : Calls Tryd.prog 37 #[v] w (ArgsR l w) := by
  obtain ⟨a, cap, rfl, l1, l2, hA⟩ := h
  have HA := Lib.hid hA
  have HT := Lib.hid hT
  clear hA hT
  go_enter Tryd.func37, Tryd.ntmps37
  go_wp2
  refine code_of (fun w' => ∃ tr tv tg, (Bx w' w.heap.size (ivs (Vs.zer 33)) tr ∧ Bx w' (w.heap.size + 1) (ivs (Vs.zer 33)) tv ∧ Bx w' (w.heap.size + 1 + 1) (bvs (List.replicate 33 false)) tg) ∧ Qw w w') ⟨_, _, _, bx3 w _ _ _ (by kernel_rfl) (by kernel_rfl) (by kernel_rfl), Qw.al (Qw.al (Qw.al (Qw.refl w) _) _) _⟩ ?_
  rintro w1 ⟨tr, tv, tg, ⟨hr, hv, hg⟩, hq⟩
  obtain ⟨R, hR⟩ : ∃ R, R = w.heap.size := ⟨_, rfl⟩
  obtain ⟨V, hV⟩ : ∃ V, V = w.heap.size + 1 := ⟨_, rfl⟩
  obtain ⟨G, hG⟩ : ∃ G, G = w.heap.size + 1 + 1 := ⟨_, rfl⟩
  rw [← hR] at hr
  rw [← hV] at hv
  rw [← hG] at hg
  rw [← hG, ← hV, ← hR]
  have HR := Lib.hid hr
  have HV := Lib.hid hv
  have HG := Lib.hid hg
  have HQ := Lib.hid hq
  have KR : Hid (R = w.heap.size ∧ V = w.heap.size + 1 ∧ G = w.heap.size + 1 + 1) := Lib.hid ⟨hR, hV, hG⟩
  clear hr hv hg hq hR hV hG
  go_loopw [11] (fun iv wr => ∃ i : Nat, i ≤ l.length ∧ iv = .int .i64 (i : Int) ∧ Hid (Vs.errTo l i = 0) ∧ Hid (Bx wr R (ivs (Vs.zer 33)) tr) ∧ Hid (Bx wr V (ivs (Vs.vals l i)) tv) ∧ Hid (Bx wr G (bvs (Vs.givn l i)) tg) ∧ Hid (Qw w wr)) (fun iv _ => l.length - (intOf iv).toNat)
  case atStart => exact ⟨0, by omega, rfl, Lib.hid rfl, HR, HV, HG, HQ⟩
  case round =>
    clear HR HV HG HQ
    obtain ⟨i, hi, rfl, HE, HR, HV, HG, HQ⟩ := hrel
    by_cases hlt : i < l.length
    · rcases HA.out with h | ⟨b, off, rfl, hb, hc⟩
      · rw [h] at hlt; simp at hlt
      · obtain ⟨c0, c1, n1, n2⟩ := hc i hlt
        have kb : ∀ o, wr.cell? ⟨b, o, none⟩ = w.cell? ⟨b, o, none⟩ := fun o => HQ.out.cell (p := ⟨b, o, none⟩) hb
        rw [← kb] at c0 c1
        have hlt' : (i : Int) < (l.length : Int) := by omega
        have hbw : b < wr.heap.size := Nat.lt_of_lt_of_le hb HQ.out.size
        have hbn : b ≠ wr.heap.size := by omega
        have hGw := HG.out.lt
        have hGn : G ≠ wr.heap.size := by omega
        have hVw := HV.out.lt
        have hVn : V ≠ wr.heap.size := by omega
        have hVG : V ≠ G := by have := KR.out; omega
        have hGV : G ≠ V := by omega
        have hi63 : (i : Int) ≤ 9223372036854775806 := by omega
        have hloc : ∀ w', Qw w w' → Calls Tryd.prog 16 #[.int .i64 (Vs.ltr l i)] w' fun e w'' => e = .returned (.int .i64 (Vs.loc (Vs.ltr l i))) ∧ w' = w'' := fun w' q => vaLocal _ _ (HT.out.kept q)
        have hval := vaValid (Vs.num l i)
        have bd := Vs.loc_bd (Vs.ltr l i)
        clear hc kb n1 n2
        rcases Vs.errAt_cases l i with ⟨e1, e2⟩ | ⟨e1, e3, e2⟩ | ⟨e1, e3, e4, e2⟩ | ⟨e1, e3, e4, e2⟩
        · have E : Hid (Vs.err l = 1) := Lib.hid (by rw [Vs.err_of hlt HE.out (by rw [e2]; decide), e2])
          rw [e1] at hloc
          have HL := Lib.hid hloc
          clear hloc hval e1 e2 bd
          generalize Vs.ltr l i = x at *
          generalize Vs.num l i = y at *
          go_wp2_with (first | (go_at_call 16; ((with_reducible refine (HL.out _ (Qw.al HQ.out _)).mono ?_); rintro e w' ⟨rfl, rfl⟩)) | (with_reducible refine bu_loc ?_) | (refine st_loc 2 22 rfl rfl (Bx.alloc HR.out _) (by rw [ivs_size]; exact Vs.zer_length 33) (Vs.zer_length 33) ?_))
          exact bodyPost_ret (ret_arr Tryd.results37 rfl rfl ((Bx.alloc HR.out _).sr _) (Vs.zer_length 33)) rfl ⟨⟨Vs.zer 33, Vs.zer_length 33, fun h => absurd (h.symm.trans E.out) (by decide), by rw [E.out]⟩, Qw.sr (Qw.al HQ.out _) (by have := KR.out; omega) _⟩
        · have E : Hid (Vs.err l = 7) := Lib.hid (by rw [Vs.err_of hlt HE.out (by rw [e2]; decide), e2])
          have lk := Vs.slot_lt l i
          have gd := Vs.givn_dup HE.out e1
          have g0 := HG.out.cell' _ _ (bvs_at (l := Vs.givn l i) (i := Vs.slot l i) (by rw [Vs.givn_length]; exact lk))
          rw [gd] at g0
          have el : Vs.loc (Vs.ltr l i) = ((Vs.slot l i : Nat) : Int) + 1 := by unfold Vs.slot; omega
          rw [el] at hloc
          rw [decide_eq_true e3] at g0
          have HL := Lib.hid hloc
          clear hloc hval e1 e2 e3 bd gd el
          generalize Vs.slot l i = k at *
          generalize Vs.ltr l i = x at *
          generalize Vs.num l i = y at *
          have f1 : IntKind.i64.wrap ((k : Int) + 1 - 1) = k := (IntWalk.i64_in _ (by omega)).trans (by omega)
          have f2 : (k : Int) < 33 := by omega
          have f3 : 0 ≤ (k : Int) := by omega
          go_wp2_with (first | (go_at_call 16; ((with_reducible refine (HL.out _ (Qw.al HQ.out _)).mono ?_); rintro e w' ⟨rfl, rfl⟩)) | (with_reducible refine bu_loc ?_) | (refine st_loc 2 27 rfl rfl (Bx.alloc HR.out _) (by rw [ivs_size]; exact Vs.zer_length 33) (Vs.zer_length 33) ?_))
          exact bodyPost_ret (ret_arr Tryd.results37 rfl rfl ((Bx.alloc HR.out _).sr _) (Vs.zer_length 33)) rfl ⟨⟨Vs.zer 33, Vs.zer_length 33, fun h => absurd (h.symm.trans E.out) (by decide), by rw [E.out]⟩, Qw.sr (Qw.al HQ.out _) (by have := KR.out; omega) _⟩
        · have E : Hid (Vs.err l = 3) := Lib.hid (by rw [Vs.err_of hlt HE.out (by rw [e2]; decide), e2])
          have lk := Vs.slot_lt l i
          have gd := Vs.givn_dup HE.out e1
          have g0 := HG.out.cell' _ _ (bvs_at (l := Vs.givn l i) (i := Vs.slot l i) (by rw [Vs.givn_length]; exact lk))
          rw [gd] at g0
          have el : Vs.loc (Vs.ltr l i) = ((Vs.slot l i : Nat) : Int) + 1 := by unfold Vs.slot; omega
          rw [el] at hloc
          rw [decide_eq_false e3] at g0
          rw [decide_eq_false e4] at hval
          have HL := Lib.hid hloc
          have HW := Lib.hid hval
          clear hloc hval e1 e2 e3 e4 bd gd el
          generalize Vs.slot l i = k at *
          generalize Vs.ltr l i = x at *
          generalize Vs.num l i = y at *
          have f1 : IntKind.i64.wrap ((k : Int) + 1 - 1) = k := (IntWalk.i64_in _ (by omega)).trans (by omega)
          have f2 : (k : Int) < 33 := by omega
          have f3 : 0 ≤ (k : Int) := by omega
          go_wp2_with (first | (go_at_call 16; ((with_reducible refine (HL.out _ (Qw.al HQ.out _)).mono ?_); rintro e w' ⟨rfl, rfl⟩)) | (go_at_call 39; ((with_reducible refine (HW.out _).mono ?_); rintro e w' ⟨rfl, rfl⟩)) | (with_reducible refine bu_loc ?_) | (refine st_loc 2 33 rfl rfl (Bx.alloc HR.out _) (by rw [ivs_size]; exact Vs.zer_length 33) (Vs.zer_length 33) ?_))
          exact bodyPost_ret (ret_arr Tryd.results37 rfl rfl ((Bx.alloc HR.out _).sr _) (Vs.zer_length 33)) rfl ⟨⟨Vs.zer 33, Vs.zer_length 33, fun h => absurd (h.symm.trans E.out) (by decide), by rw [E.out]⟩, Qw.sr (Qw.al HQ.out _) (by have := KR.out; omega) _⟩
        · have E : Hid (Vs.errTo l (i + 1) = 0) := Lib.hid (Vs.errTo_succ HE.out e2)
          have lk := Vs.slot_lt l i
          have gd := Vs.givn_dup HE.out e1
          have g0 := HG.out.cell' _ _ (bvs_at (l := Vs.givn l i) (i := Vs.slot l i) (by rw [Vs.givn_length]; exact lk))
          rw [gd] at g0
          have el : Vs.loc (Vs.ltr l i) = ((Vs.slot l i : Nat) : Int) + 1 := by unfold Vs.slot; omega
          rw [el] at hloc
          rw [decide_eq_false e3] at g0
          rw [decide_eq_true e4] at hval
          have HL := Lib.hid hloc
          have HW := Lib.hid hval
          have g1 := HG.out.free (Vs.slot l i)
          have v0 := HV.out.cell' _ _ (ivs_at (l := Vs.vals l i) (i := Vs.slot l i) (by rw [Vs.vals_length]; exact lk))
          have v1 := HV.out.free (Vs.slot l i)
          have NV : Hid (ivs (Vs.vals l (i + 1)) = (ivs (Vs.vals l i)).setIfInBounds (Vs.slot l i) (.int .i64 (Vs.num l i))) := Lib.hid (by rw [ivs_set]; rfl)
          have NG : Hid (bvs (Vs.givn l (i + 1)) = (bvs (Vs.givn l i)).setIfInBounds (Vs.slot l i) (.bool true)) := Lib.hid (by rw [bvs_set]; rfl)
          clear hloc hval e1 e2 e3 e4 bd gd el
          generalize Vs.slot l i = k at *
          generalize Vs.ltr l i = x at *
          generalize Vs.num l i = y at *
          generalize (Vs.vals l i).getD k 0 = z at *
          have f1 : IntKind.i64.wrap ((k : Int) + 1 - 1) = k := (IntWalk.i64_in _ (by omega)).trans (by omega)
          have f2 : (k : Int) < 33 := by omega
          have f3 : 0 ≤ (k : Int) := by omega
          go_wp2_with (first | (go_at_call 16; ((with_reducible refine (HL.out _ (Qw.al HQ.out _)).mono ?_); rintro e w' ⟨rfl, rfl⟩)) | (go_at_call 39; ((with_reducible refine (HW.out _).mono ?_); rintro e w' ⟨rfl, rfl⟩)))
          go_roundw
          case rel => exact ⟨i + 1, by omega, by go_num, E, Lib.hid (((HR.out.other (a := ⟨G, k, none⟩) (by have := KR.out; show R ≠ G; omega) _).other (a := ⟨V, k, none⟩) (by have := KR.out; show R ≠ V; omega) _).alloc _), Lib.hid (by rw [NV.out]; exact ((HV.out.other (a := ⟨G, k, none⟩) (by show V ≠ G; exact hVG) _).set _ _).alloc _), Lib.hid (by rw [NG.out]; exact ((HG.out.set _ _).other (a := ⟨V, k, none⟩) (by show G ≠ V; exact hGV) _).alloc _), Lib.hid (Qw.al (Qw.sc (Qw.sc HQ.out (p := ⟨G, k, none⟩) (by have := KR.out; show _ ≤ G; omega) _) (p := ⟨V, k, none⟩) (by have := KR.out; show _ ≤ V; omega) _) _)⟩
          case measure => simp [intOf]; omega
    · obtain rfl : i = l.length := by omega
      have E : Hid (Vs.err l = 0) := Lib.hid HE.out
      go_wp2_with (first | (refine ld_loc 4 rfl HV.out (Vs.vals_length _ _) ?_) | (refine st_loc 2 41 rfl rfl HR.out (by rw [ivs_size]; exact Vs.zer_length 33) (Vs.vals_length _ _) ?_))
      exact bodyPost_ret (ret_arr Tryd.results37 rfl rfl (Bx.sr HR.out _) (Vs.vals_length _ _)) rfl ⟨⟨Vs.vals l l.length, Vs.vals_length _ _, fun _ => rfl, by rw [E.out]⟩, Qw.sr HQ.out (by have := KR.out; omega) _⟩

end Go.Proofs.YtmfhiabajkdikaaDoor
