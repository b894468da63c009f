
/- The walks of package lex: characters and names. -/
import Derived.Test.YtlinfdgmebogbaaDoorLxP
import Derived.Test.YtlinfdgmebogbaaDoorCore
import Derived.Test.YtlinfdgmebogbaaDoorFxC
import Derived.Deep.MidRow
import Derived.Lib.Strings
import Derived.Outline
set_option linter.unusedVariables false
set_option linter.unusedSimpArgs false
namespace Go.Proofs.YtlinfdgmebogbaaDoor
open Go.RowKit

theorem ret_str5 {a b : ByteArray} (h : a = b) : Ending.returned (.string a) = .returned (.string b) := by rw [h]
theorem ret_bool5 {a b : Bool} (h : a = b) : Ending.returned (.bool a) = .returned (.bool b) := by rw [h]

/-- The bytes as a text. -/
def bs (l : List UInt8) : ByteArray := ⟨l.toArray⟩
theorem bs_size (l : List UInt8) : (bs l).size = l.length := by unfold bs; simp [ByteArray.size]
theorem bs_list (l : List UInt8) : (bs l).data.toList = l := by unfold bs; simp
theorem bs_of (s : ByteArray) : bs s.data.toList = s := by unfold bs; simp
theorem bs_inj {a b : List UInt8} : bs a = bs b ↔ a = b := ⟨fun h => by rw [← bs_list a, h, bs_list], fun h => by rw [h]⟩
theorem size_len (s : ByteArray) : s.data.toList.length = s.size := by rw [Array.length_toList]; rfl
/-- How texts are compared. -/
theorem beq_txt (a b : ByteArray) : (a.toList == b.toList) = decide (a = b) := by
  by_cases h : a = b
  · subst h; simp
  · rw [decide_eq_false h]
    cases e : a.toList == b.toList
    · rfl
    · rw [beq_iff_eq, ByteArray.toList_eq, ByteArray.toList_eq] at e
      exact absurd (ByteArray.ext (Array.toList_inj.mp e)) h

/-- Name number j. -/
def nb (j : Nat) : ByteArray := bs (Lx.nm j)
theorem nb_size (j : Nat) : (nb j).size ≤ 5 := by
  unfold nb; rw [bs_size]; unfold Lx.nm
  rcases Nat.lt_or_ge j 24 with h | h
  · have : ∀ j : Fin 24, (Lx.nms.getD j.val []).length ≤ 5 := by decide
    exact this ⟨j, h⟩
  · rw [List.getD_eq_getElem?_getD, List.getElem?_eq_none (by rw [Lx.nms_length]; exact h)]; simp
theorem nb_list (j : Nat) : (nb j).data.toList = Lx.nm j := bs_list _

/-- The byte as the walk has it. -/
def chI (c : Int) : Bool := decide (48 ≤ c ∧ c ≤ 57) || c == 46
theorem isn_chI (c : UInt8) : Lx.isn c = chI (c.toNat : Int) := by
  unfold Lx.isn chI isd
  congr 1
  rw [Bool.eq_iff_iff, beq_iff_eq, beq_iff_eq, ← UInt8.toNat_inj]
  show c.toNat = 46 ↔ _
  omega

theorem lxInNumber (c : Int) (w : World) : Calls Tryd.prog 35 #[.int .u8 c] w fun e w' => e = .returned (.bool (chI c)) ∧ w = w' := by
  unfold chI
  by_cases h1 : c < 48
  · by_cases h2 : c = 46
    · subst h2
      go_enter Tryd.func35, Tryd.ntmps35
      go_wp2
      go_ret
      exact ⟨rfl, rfl⟩
    · have hb : (c == 46) = false := beq_eq_false_iff_ne.2 h2
      go_enter Tryd.func35, Tryd.ntmps35
      go_wp2
      go_ret
      exact ⟨ret_bool5 (by first | rfl | (simp; omega)), rfl⟩
  · by_cases h2 : 57 < c
    · have hb : (c == 46) = false := beq_eq_false_iff_ne.2 (by omega)
      go_enter Tryd.func35, Tryd.ntmps35
      go_wp2
      go_ret
      exact ⟨ret_bool5 (by first | rfl | (simp; omega)), rfl⟩
    · go_enter Tryd.func35, Tryd.ntmps35
      go_wp2
      go_ret
      exact ⟨ret_bool5 (by first | rfl | (simp; omega)), rfl⟩

/-! ### the table of names -/

def nmA : Array Value := (Lx.nms.map fun n => .string (bs n)).toArray
/-- The table reads as it was laid. -/
def Tn (w : World) : Prop := 0 < w.heap.size ∧ ∀ j, j < 24 → w.cell? ⟨0, j, none⟩ = some (.string (nb j))
theorem Tn.kept {w w' : World} (h : Tn w) (q : Qw w w') : Tn w' :=
  ⟨Nat.lt_of_lt_of_le h.1 q.size, fun j hj => (q.cell (p := ⟨0, j, none⟩) h.1).trans (h.2 j hj)⟩

theorem nmA_get (j : Nat) (hj : j < 24) : (Lx.nms.map fun n => Value.string (bs n))[j]? = some (.string (nb j)) := by
  rw [List.getElem?_map]
  unfold nb Lx.nm
  rw [List.getD_eq_getElem?_getD, List.getElem?_eq_getElem (by rw [Lx.nms_length]; exact hj)]
  rfl

theorem info_names : (Tryd.prog.info? 57).map (·.size) = some 24 := by kernel_rfl

theorem range_names (w : World) (h : Tn w) : w.rangeAt 0 0 (Lx.nms.map fun n => Value.string (bs n)) := by
  intro j v hv
  have hj : j < 24 := by
    have := (List.getElem?_eq_some_iff.1 hv).1
    rw [List.length_map, Lx.nms_length] at this; exact this
  rw [nmA_get j hj] at hv
  rw [Nat.zero_add, h.2 j hj, hv]

theorem names_load {ops : Array Oper} {rest : List Oper} {dst : Option Tmp} {ty : TypeId} {pos : String} {after : Array Edge} {a : Act} {w : World} {Q : Exit → Act → World → Prop} (ht : Tn w) (h : wpList Tryd.prog ops Q rest (a.put dst (.agg nmA)) w) :
    wpList Tryd.prog ops Q (⟨dst, .load 57 (.global 0), ty, pos, after, none⟩ :: rest) a w :=
  wpList_load_mid rfl 57 (.global 0) rfl 0 0 rfl (Lx.nms.map fun n => Value.string (bs n)) _ (range_names w ht) Tryd.underlying57 rfl (by rw [List.length_map, Lx.nms_length]; exact info_names) h

theorem index_names (j : Nat) (hj : j < 24) (w : World) : (Instr.index 57 (.agg nmA) (.int .i64 (j : Int))).run Tryd.prog w = .ok (.string (nb j)) w := by
  have hu := Tryd.underlying57
  have c1 : Tryd.prog.cellsOf 9 = 1 := by kernel_rfl
  have e : nmA[j]? = some (.string (nb j)) := by unfold nmA; rw [List.getElem?_toArray]; exact nmA_get j hj
  simp [Instr.index, run_underlying hu, asIntOf, go_sem, hj, e]

/-! ### parts of texts -/

theorem take_data (s : ByteArray) (k : Nat) : (s.extract 0 k).data.toList = s.data.toList.take k := by rw [Lib.extract_data, List.drop_zero, Nat.sub_zero]

theorem pfx_of (t n : ByteArray) : Lx.pfx n.data.toList t.data.toList = (decide (n.size ≤ t.size) && decide (t.extract 0 n.size = n)) := by
  have tl : t.data.toList.length = t.size := by rw [Array.length_toList]; rfl
  have nl : n.data.toList.length = n.size := by rw [Array.length_toList]; rfl
  unfold Lx.pfx
  rw [tl, nl, ← take_data]
  congr 1
  refine decide_eq_decide.2 ⟨fun h => ?_, fun h => by rw [h]⟩
  exact ByteArray.ext (Array.toList_inj.1 h)

set_option maxRecDepth 100000 in
theorem slHasPrefix (t n : ByteArray) (ht : t.size ≤ maxLen) (hn : n.size ≤ maxLen) (w : World) :
    Calls Tryd.prog 43 #[.string t, .string n] w fun e w' => e = .returned (.bool (Lx.pfx n.data.toList t.data.toList)) ∧ w = w' := by
  rw [pfx_of]
  have hm : t.size ≤ 9223372036854775807 := ht
  have hm2 : n.size ≤ 9223372036854775807 := hn
  clear ht hn
  by_cases h : n.size ≤ t.size
  · go_enter Tryd.func43, Tryd.ntmps43
    go_wp2
    go_ret
    exact ⟨ret_bool5 (by rw [decide_eq_true h]; rw [beq_txt]; rfl), rfl⟩
  · go_enter Tryd.func43, Tryd.ntmps43
    go_wp2
    go_ret
    exact ⟨ret_bool5 (by rw [decide_eq_false h]; rfl), rfl⟩

theorem stHasPrefix (t n : ByteArray) (ht : t.size ≤ maxLen) (hn : n.size ≤ maxLen) (w : World) :
    Calls Tryd.prog 41 #[.string t, .string n] w fun e w' => e = .returned (.bool (Lx.pfx n.data.toList t.data.toList)) ∧ w = w' := by
  go_enter Tryd.func41, Tryd.ntmps41
  go_wp2_with (go_at_call 43; ((with_reducible refine (slHasPrefix _ _ ht hn _).mono ?_); rintro e w' ⟨rfl, rfl⟩))
  go_ret
  exact ⟨rfl, rfl⟩

set_option maxRecDepth 100000 in
theorem slIndexByte (t : ByteArray) (c : Int) (w : World) :
    Calls Tryd.prog 34 #[.string t, .int .u8 c] w fun e w' => e = .returned (.int .i64 (Lib.indexByte t.data.toList c.toNat.toUInt8)) ∧ w = w' := by
  go_enter Tryd.func34, Tryd.ntmps34
  go_wp2
  rw [run_callFunc_extern Tryd.func39 (by kernel_rfl) (by kernel_rfl) (by kernel_rfl) (e := Extern.BytealgIndexByte.indexByte) (by kernel_rfl), Lib.run_indexByteString]
  simp only [Result.andThen]
  rw [Oper.upon_value]
  go_wp2
  go_ret
  exact ⟨rfl, rfl⟩

theorem stIndexByte (t : ByteArray) (c : Int) (w : World) :
    Calls Tryd.prog 25 #[.string t, .int .u8 c] w fun e w' => e = .returned (.int .i64 (Lib.indexByte t.data.toList c.toNat.toUInt8)) ∧ w = w' := by
  go_enter Tryd.func25, Tryd.ntmps25
  go_wp2_with (go_at_call 34; ((with_reducible refine (slIndexByte _ _ _).mono ?_); rintro e w' ⟨rfl, rfl⟩))
  go_ret
  exact ⟨rfl, rfl⟩

/-! ### names -/

theorem pfx_nb (s : ByteArray) (j : Nat) : Lx.pfx (nb j).data.toList s.data.toList = Lx.pfx (Lx.nm j) s.data.toList := by rw [nb_list]

set_option maxRecDepth 100000 in
set_option maxHeartbeats 1000000 in
theorem lxFirstName (s : ByteArray) (hs : s.size ≤ maxLen) (w : World) (ht : Tn w) :
    Calls Tryd.prog 37 #[.string s] w fun e w' => e = .returned (.string (bs (Lx.fnm s.data.toList))) ∧ w = w' := by
  have HT := Lib.hid ht
  have ix := fun j hj => index_names j hj w
  have hm : s.size ≤ 9223372036854775807 := hs
  have IX := Lib.hid ix
  clear ix ht
  go_enter Tryd.func37, Tryd.ntmps37
  go_wp2_with (with_reducible refine names_load HT.out ?_)
  go_loop [3, 7] (fun bv kv => ∃ k : Nat, k ≤ 24 ∧ bv = .string (bs (Lx.nfold s.data.toList k)) ∧ kv = .int .i64 (k : Int)) (fun _ kv => 24 - (intOf kv).toNat)
  case atStart => exact ⟨0, by omega, rfl, rfl⟩
  case round =>
    obtain ⟨k, hk, rfl, rfl⟩ := hrel
    have fl := Lx.nfold_le s.data.toList k hk
    rw [size_len, ← bs_size] at fl
    by_cases h24 : k < 24
    · have ik := IX.out k h24
      have c1 := fun w => stHasPrefix s (nb k) hs (by have := nb_size k; unfold maxLen; omega) w
      rw [pfx_nb] at c1
      have sc := Lx.nfold_succ s.data.toList k h24
      have ns := nb_size k
      have nl : (nb k).size = (Lx.nm k).length := by unfold nb; rw [bs_size]
      have bl := bs_size (Lx.nfold s.data.toList k)
      unfold Lx.nstep at sc
      rw [← bl, ← nl] at sc
      have yes : (bs (Lx.nfold s.data.toList k)).size < (nb k).size → Lx.pfx (Lx.nm k) s.data.toList = true → bs (Lx.nfold s.data.toList (k + 1)) = nb k := fun h1 h2 => by
        rw [sc, decide_eq_true h1, h2]; rfl
      have no : ¬ ((bs (Lx.nfold s.data.toList k)).size < (nb k).size ∧ Lx.pfx (Lx.nm k) s.data.toList = true) → bs (Lx.nfold s.data.toList (k + 1)) = bs (Lx.nfold s.data.toList k) := fun h1 => by
        rw [sc, if_neg (by rw [Bool.and_eq_true, decide_eq_true_iff]; exact h1)]
      obtain ⟨Z, hZ⟩ : ∃ Z, bs (Lx.nfold s.data.toList (k + 1)) = Z := ⟨_, rfl⟩
      rw [hZ] at yes no
      have HZ := Lib.hid hZ
      clear sc bl nl hZ
      generalize Lx.pfx (Lx.nm k) s.data.toList = p at *
      have C1 := Lib.hid c1
      clear c1
      generalize bs (Lx.nfold s.data.toList k) = X at *
      generalize nb k = Y at *
      by_cases hb : X.size < Y.size
      · cases p
        · obtain rfl := no (by simp)
          clear yes no
          go_wp2_with (go_at_call 41; ((with_reducible refine (C1.out _).mono ?_); rintro e w' ⟨rfl, rfl⟩))
          go_round
          case rel => exact ⟨k + 1, by omega, by rw [HZ.out], by go_num⟩
          case measure => simp [intOf]; omega
        · obtain rfl := yes hb rfl
          clear yes no
          go_wp2_with (go_at_call 41; ((with_reducible refine (C1.out _).mono ?_); rintro e w' ⟨rfl, rfl⟩))
          go_round
          case rel => exact ⟨k + 1, by omega, by rw [HZ.out], by go_num⟩
          case measure => simp [intOf]; omega
      · obtain rfl := no (by simp [hb])
        clear yes no
        go_wp2_with (go_at_call 41; ((with_reducible refine (C1.out _).mono ?_); rintro e w' ⟨rfl, rfl⟩))
        go_round
        case rel => exact ⟨k + 1, by omega, by rw [HZ.out], by go_num⟩
        case measure => simp [intOf]; omega
    · obtain rfl : k = 24 := by omega
      clear h24
      obtain ⟨Z, hZ⟩ : ∃ Z, bs (Lx.nfold s.data.toList 24) = Z := ⟨_, rfl⟩
      rw [hZ] at fl ⊢
      have HZ := Lib.hid hZ
      clear hZ
      go_wp2
      go_ret
      exact ⟨ret_str5 (by rw [← HZ.out]; rfl), rfl⟩

/-- Is it one of the names? -/
def isnm (l : List UInt8) : Bool := Lx.nms.contains l

set_option maxRecDepth 100000 in
set_option maxHeartbeats 1000000 in
theorem lxName (s : ByteArray) (w : World) (ht : Tn w) :
    Calls Tryd.prog 18 #[.string s] w fun e w' => e = .returned (.bool (isnm s.data.toList)) ∧ w = w' := by
  have HT := Lib.hid ht
  have ix := fun j hj => index_names j hj w
  have IX := Lib.hid ix
  clear ix ht
  have fin : (∀ j, j < 24 → nb j ≠ s) → isnm s.data.toList = false := fun h => by
    unfold isnm
    rw [Bool.eq_false_iff, ne_eq, List.contains_iff_mem, List.mem_iff_getElem]
    rintro ⟨j, hj, e⟩
    rw [Lx.nms_length] at hj
    refine h j hj ?_
    unfold nb Lx.nm
    rw [List.getD_eq_getElem?_getD, List.getElem?_eq_getElem (by rw [Lx.nms_length]; exact hj)]
    simp only [Option.getD_some, e, bs_of]
  have hit : ∀ j, j < 24 → nb j = s → isnm s.data.toList = true := fun j hj h => by
    unfold isnm
    rw [List.contains_iff_mem, List.mem_iff_getElem]
    refine ⟨j, by rw [Lx.nms_length]; exact hj, ?_⟩
    rw [← h, nb_list]
    unfold Lx.nm
    rw [List.getD_eq_getElem?_getD, List.getElem?_eq_getElem (by rw [Lx.nms_length]; exact hj)]; rfl
  have FIN := Lib.hid fin
  have HIT := Lib.hid hit
  clear fin hit
  go_enter Tryd.func18, Tryd.ntmps18
  go_wp2_with (with_reducible refine names_load HT.out ?_)
  go_loop [4, 6] (fun xv kv => ∃ k : Nat, k ≤ 24 ∧ (∀ j, j < k → nb j ≠ s) ∧ kv = .int .i64 (k : Int)) (fun _ kv => 24 - (intOf kv).toNat)
  case atStart => exact ⟨0, by omega, fun j hj => by omega, rfl⟩
  case round =>
    obtain ⟨k, hk, hn, rfl⟩ := hrel
    have HN := Lib.hid hn
    clear hn
    by_cases h24 : k < 24
    · have ik := IX.out k h24
      have bq := beq_txt (nb k) s
      by_cases he : nb k = s
      · rw [decide_eq_true he] at bq
        have HE := Lib.hid he
        clear he
        go_wp2
        go_ret
        exact ⟨ret_bool5 (HIT.out k h24 HE.out).symm, rfl⟩
      · rw [decide_eq_false he] at bq
        have HE := Lib.hid he
        clear he
        go_wp2
        go_round
        case rel => exact ⟨k + 1, by omega, fun j hj => by
          rcases Nat.lt_or_ge j k with h | h
          · exact HN.out j h
          · obtain rfl : j = k := by omega
            exact HE.out, by go_num⟩
        case measure => simp [intOf]; omega
    · obtain rfl : k = 24 := by omega
      clear h24
      go_wp2
      go_ret
      exact ⟨ret_bool5 (FIN.out HN.out).symm, rfl⟩

end Go.Proofs.YtlinfdgmebogbaaDoor
