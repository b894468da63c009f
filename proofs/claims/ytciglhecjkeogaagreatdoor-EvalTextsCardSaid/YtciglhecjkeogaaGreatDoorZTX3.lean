import Derived.Test.YtciglhecjkeogaaGreatDoorZTX1
import Derived.Test.YtciglhecjkeogaaGreatDoorZTX2
import Derived.IntWalk
import Derived.Lib.MinMax
import Derived.Outline
import Derived.Deep.MidRow
import Derived.Lib.Strings
import Derived.Lib.Hide
import Derived.Lib.QuietBelow
import Derived.StillTailTactics
import Derived.BigQuiet
set_option linter.unusedVariables false
set_option linter.unusedSimpArgs false
namespace Go.Proofs.YtciglhecjkeogaaGreatDoor
open Go.RowKit
def rdl (l : List UInt8) (a c : Int) : Nat := rk (l.drop a.toNat) c.toNat
def rdv (n : Int) (l : List UInt8) (a c : Int) : Int := vl n ((l.drop a.toNat).take (rdl l a c))
def DigK (n0 : Int) (l : List UInt8) (A C j : Nat) (v : Int) : Prop :=
  j ≤ C ∧ A + j ≤ l.length ∧ (∀ i, i < j → isd ((l.drop A).getD i 0) = true) ∧ v = vl n0 ((l.drop A).take j)
theorem DigK.bd {n0 : Int} {l : List UInt8} {A C j : Nat} {v : Int} (h : DigK n0 l A C j v) (h0 : 0 ≤ n0) (h1 : n0 ≤ 999999999) (hj : j ≤ 8) : 0 ≤ v ∧ v ≤ 100000000000000000 := by
  obtain ⟨k1, k2, k3, rfl⟩ := h
  obtain ⟨x, y⟩ := vl_bd ((l.drop A).take j) n0 h0 (all_take _ _ (by rw [List.length_drop]; omega) k3)
  refine ⟨by omega, ?_⟩
  have p := pow10_le (show ((l.drop A).take j).length ≤ 8 by rw [List.length_take]; omega)
  have e : (10 : Int) ^ 8 = 100000000 := by decide
  have m : (n0 + 1) * 10 ^ ((l.drop A).take j).length ≤ 1000000000 * 100000000 := Int.mul_le_mul (by omega) (by omega) (Int.le_of_lt (Int.pow_pos (by decide))) (by decide)
  omega
theorem DigK.succ {n0 : Int} {l : List UInt8} {A C j : Nat} {v : Int} (h : DigK n0 l A C j v) (hc : j < C) (hl : A + j < l.length) (hd : isd l[A + j] = true) :
    DigK n0 l A C (j + 1) (v * 10 + ((l[A + j].toNat : Int) - 48)) := by
  obtain ⟨k1, k2, k3, rfl⟩ := h
  have g : (l.drop A).getD j 0 = l[A + j] := by rw [getD_of _ _ (by rw [List.length_drop]; omega), List.getElem_drop]
  refine ⟨hc, hl, ?_, ?_⟩
  · intro i hi
    by_cases e : i = j
    · subst e; rw [g]; exact hd
    · exact k3 i (by omega)
  · rw [List.take_succ_eq_append_getElem (by rw [List.length_drop]; omega), vl_snoc, List.getElem_drop]
theorem DigK.done {n0 : Int} {l : List UInt8} {A C j : Nat} {v : Int} (h : DigK n0 l A C j v) (e : j = C ∨ A + j = l.length ∨ ∃ h : A + j < l.length, isd l[A + j] = false) :
    rk (l.drop A) C = j ∧ v = vl n0 ((l.drop A).take (rk (l.drop A) C)) := by
  obtain ⟨k1, k2, k3, rfl⟩ := h
  have r : rk (l.drop A) C = j := rk_uniq _ _ _ k1 (by rw [List.length_drop]; omega) k3 (by
    rcases e with e | e | ⟨e, f⟩
    · exact .inl e
    · exact .inr (.inl (by rw [List.length_drop]; omega))
    · exact .inr (.inr (by rw [getD_of _ _ (by rw [List.length_drop]; omega), List.getElem_drop]; exact f)))
  exact ⟨r, by rw [r]⟩
set_option maxRecDepth 100000 in
set_option maxHeartbeats 400000 in
theorem fxDigits (n a c : Int) (s : ByteArray) (n0 : 0 ≤ n) (n1 : n ≤ 999999999) (a0 : 0 ≤ a) (a1 : a ≤ s.size) (a2 : a ≤ 10) (c0 : 0 ≤ c) (c1 : c ≤ 9) (hs : s.size ≤ maxLen) (w : World) :
    Calls Tryz.prog 122 #[.int .i64 n, .string s, .int .i64 a, .int .i64 c] w fun e w' =>
      e = .returned (.tuple #[.int .i64 (rdv n s.data.toList a c), .int .i64 (a + (rdl s.data.toList a c : Nat))]) ∧ w = w' := by
  obtain ⟨A, rfl⟩ := Int.eq_ofNat_of_zero_le a0
  obtain ⟨C, rfl⟩ := Int.eq_ofNat_of_zero_le c0
  unfold maxLen at hs
  unfold rdv rdl
  rw [Int.toNat_natCast, Int.toNat_natCast]
  have sl : s.data.toList.length = s.size := by rw [Array.length_toList]; rfl
  obtain ⟨E, hE⟩ : ∃ E : Nat, E = min (A + C) s.size := ⟨_, rfl⟩
  have hm : min ((A : Int) + (C : Int)) (s.size : Int) = (E : Int) := by omega
  have E1 : (E : Int) ≤ A + C := by omega
  have E2 : (E : Int) ≤ s.size := by omega
  have E3 : (A : Int) ≤ E := by omega
  have HE := Lib.hid hE
  have SL := Lib.hid sl
  clear hE sl
  go_enter Tryz.func122, Tryz.ntmps122
  go_wp2
  go_loop [0, 2] (fun nv av => ∃ (j : Nat) (v : Int), DigK n s.data.toList A C j v ∧ A + j ≤ E ∧ nv = .int .i64 v ∧ av = .int .i64 ((A + j : Nat) : Int)) (fun _ av => E - (intOf av).toNat)
  case atStart => exact ⟨0, n, ⟨by omega, by have := SL.out; omega, fun i hi => by omega, by simp [vl]⟩, by omega, rfl, by go_num⟩
  case round =>
    obtain ⟨j, v, hK, hj, rfl, rfl⟩ := hrel
    obtain ⟨k, hk⟩ : ∃ k : Nat, k = A + j := ⟨_, rfl⟩
    have K := Lib.hid hK
    rw [← hk] at hj ⊢
    by_cases hlt : k < E
    · have hks : k < s.size := by omega
      have b := hK.bd n0 n1 (by have := HE.out; omega)
      obtain ⟨b0, b1⟩ := b
      have HK := Lib.hid hk
      clear hk hK
      by_cases hd : isd s[k] = true
      · obtain ⟨d1, d2⟩ := isd_t hd
        have D := Lib.hid hd
        clear hd
        go_wp2
        go_round
        case rel =>
          have hk := HK.out
          subst hk
          have S := DigK.succ K.out (by have := HE.out; omega) (by have := SL.out; omega) D.out
          exact ⟨j + 1, _, S, by omega, by go_num, by go_num⟩
        case measure => simp [intOf]; omega
      · have hd' : isd s[k] = false := by simpa using hd
        have D := Lib.hid hd'
        have hn := isd_f hd'
        clear hd hd'
        have R := DigK.done K.out (.inr (.inr ⟨by have := SL.out; have := HK.out; omega, by have hk := HK.out; subst hk; exact D.out⟩))
        have RR := Lib.hid R
        clear R
        by_cases h1 : (s[k].toNat : Int) < 48
        · go_wp2
          go_ret2
          exact ⟨ret_ii RR.out.2 (by have := RR.out.1; have := HK.out; omega), rfl⟩
        · have h2 : 57 < (s[k].toNat : Int) := by omega
          clear hn
          go_wp2
          go_ret2
          exact ⟨ret_ii RR.out.2 (by have := RR.out.1; have := HK.out; omega), rfl⟩
    · have R := DigK.done K.out (by have := HE.out; have := SL.out; omega)
      have RR := Lib.hid R
      have HK := Lib.hid hk
      clear R hk hK
      go_wp2
      go_ret2
      exact ⟨ret_ii RR.out.2 (by have := RR.out.1; have := HK.out; omega), rfl⟩
end Go.Proofs.YtciglhecjkeogaaGreatDoor
set_option linter.unusedVariables false
set_option linter.unusedSimpArgs false
namespace Go.Proofs.YtciglhecjkeogaaGreatDoor
open Go.RowKit
theorem ret_str5 {a b : ByteArray} (h : a = b) : Ending.returned (.string a) = .returned (.string b) := by rw [h]
theorem ret_bool5 {a b : Bool} (h : a = b) : Ending.returned (.bool a) = .returned (.bool b) := by rw [h]
def bs (l : List UInt8) : ByteArray := ⟨l.toArray⟩
theorem bs_size (l : List UInt8) : (bs l).size = l.length := by unfold bs; simp [ByteArray.size]
theorem bs_list (l : List UInt8) : (bs l).data.toList = l := by unfold bs; simp
theorem bs_of (s : ByteArray) : bs s.data.toList = s := by unfold bs; simp
theorem bs_inj {a b : List UInt8} : bs a = bs b ↔ a = b := ⟨fun h => by rw [← bs_list a, h, bs_list], fun h => by rw [h]⟩
theorem size_len (s : ByteArray) : s.data.toList.length = s.size := by rw [Array.length_toList]; rfl
theorem beq_txt (a b : ByteArray) : (a.toList == b.toList) = decide (a = b) := by
  by_cases h : a = b
  · subst h; simp
  · rw [decide_eq_false h]
    cases e : a.toList == b.toList
    · rfl
    · rw [beq_iff_eq, ByteArray.toList_eq, ByteArray.toList_eq] at e
      exact absurd (ByteArray.ext (Array.toList_inj.mp e)) h
def nb (j : Nat) : ByteArray := bs (Lx.nm j)
theorem nb_size (j : Nat) : (nb j).size ≤ 5 := by
  unfold nb; rw [bs_size]; unfold Lx.nm
  rcases Nat.lt_or_ge j 24 with h | h
  · have : ∀ j : Fin 24, (Lx.nms.getD j.val []).length ≤ 5 := by decide
    exact this ⟨j, h⟩
  · rw [List.getD_eq_getElem?_getD, List.getElem?_eq_none (by rw [Lx.nms_length]; exact h)]; simp
theorem nb_list (j : Nat) : (nb j).data.toList = Lx.nm j := bs_list _
def chI (c : Int) : Bool := decide (48 ≤ c ∧ c ≤ 57) || c == 46
theorem isn_chI (c : UInt8) : Lx.isn c = chI (c.toNat : Int) := by
  unfold Lx.isn chI isd
  congr 1
  rw [Bool.eq_iff_iff, beq_iff_eq, beq_iff_eq, ← UInt8.toNat_inj]
  show c.toNat = 46 ↔ _
  omega
theorem lxInNumber (c : Int) (w : World) : Calls Tryz.prog 61 #[.int .u8 c] w fun e w' => e = .returned (.bool (chI c)) ∧ w = w' := by
  unfold chI
  by_cases h1 : c < 48
  · by_cases h2 : c = 46
    · subst h2
      go_enter Tryz.func61, Tryz.ntmps61
      go_wp2
      go_ret
      exact ⟨rfl, rfl⟩
    · have hb : (c == 46) = false := beq_eq_false_iff_ne.2 h2
      go_enter Tryz.func61, Tryz.ntmps61
      go_wp2
      go_ret
      exact ⟨ret_bool5 (by first | rfl | (simp; omega)), rfl⟩
  · by_cases h2 : 57 < c
    · have hb : (c == 46) = false := beq_eq_false_iff_ne.2 (by omega)
      go_enter Tryz.func61, Tryz.ntmps61
      go_wp2
      go_ret
      exact ⟨ret_bool5 (by first | rfl | (simp; omega)), rfl⟩
    · go_enter Tryz.func61, Tryz.ntmps61
      go_wp2
      go_ret
      exact ⟨ret_bool5 (by first | rfl | (simp; omega)), rfl⟩
def nmA : Array Value := (Lx.nms.map fun n => .string (bs n)).toArray
def Tn (w : World) : Prop := 1 < w.heap.size ∧ ∀ j, j < 24 → w.cell? ⟨1, j, none⟩ = some (.string (nb j))
theorem Tn.kept {w w' : World} (h : Tn w) (q : Qw w w') : Tn w' :=
  ⟨Nat.lt_of_lt_of_le h.1 q.size, fun j hj => (q.cell (p := ⟨1, j, none⟩) h.1).trans (h.2 j hj)⟩
theorem nmA_get (j : Nat) (hj : j < 24) : (Lx.nms.map fun n => Value.string (bs n))[j]? = some (.string (nb j)) := by
  rw [List.getElem?_map]
  unfold nb Lx.nm
  rw [List.getD_eq_getElem?_getD, List.getElem?_eq_getElem (by rw [Lx.nms_length]; exact hj)]
  rfl
theorem info_names : (Tryz.prog.info? 119).map (·.size) = some 24 := by kernel_rfl
theorem range_names (w : World) (h : Tn w) : w.rangeAt 1 0 (Lx.nms.map fun n => Value.string (bs n)) := by
  intro j v hv
  have hj : j < 24 := by
    have := (List.getElem?_eq_some_iff.1 hv).1
    rw [List.length_map, Lx.nms_length] at this; exact this
  rw [nmA_get j hj] at hv
  rw [Nat.zero_add, h.2 j hj, hv]
theorem names_load {ops : Array Oper} {rest : List Oper} {dst : Option Tmp} {ty : TypeId} {pos : String} {after : Array Edge} {a : Act} {w : World} {Q : Exit → Act → World → Prop} (ht : Tn w) (h : wpList Tryz.prog ops Q rest (a.put dst (.agg nmA)) w) :
    wpList Tryz.prog ops Q (⟨dst, .load 119 (.global 1), ty, pos, after, none⟩ :: rest) a w :=
  wpList_load_mid rfl 119 (.global 1) rfl 1 0 rfl (Lx.nms.map fun n => Value.string (bs n)) _ (range_names w ht) Tryz.underlying119 rfl (by rw [List.length_map, Lx.nms_length]; exact info_names) h
theorem index_names (j : Nat) (hj : j < 24) (w : World) : (Instr.index 119 (.agg nmA) (.int .i64 (j : Int))).run Tryz.prog w = .ok (.string (nb j)) w := by
  have hu := Tryz.underlying119
  have c1 : Tryz.prog.cellsOf 9 = 1 := by kernel_rfl
  have e : nmA[j]? = some (.string (nb j)) := by unfold nmA; rw [List.getElem?_toArray]; exact nmA_get j hj
  simp [Instr.index, run_underlying hu, asIntOf, go_sem, hj, e]
theorem take_data (s : ByteArray) (k : Nat) : (s.extract 0 k).data.toList = s.data.toList.take k := by rw [Lib.extract_data, List.drop_zero, Nat.sub_zero]
theorem pfx_of (t n : ByteArray) : Lx.pfx n.data.toList t.data.toList = (decide (n.size ≤ t.size) && decide (t.extract 0 n.size = n)) := by
  have tl : t.data.toList.length = t.size := by rw [Array.length_toList]; rfl
  have nl : n.data.toList.length = n.size := by rw [Array.length_toList]; rfl
  unfold Lx.pfx
  rw [tl, nl, ← take_data]
  congr 1
  refine decide_eq_decide.2 ⟨fun h => ?_, fun h => by rw [h]⟩
  exact ByteArray.ext (Array.toList_inj.1 h)
set_option maxRecDepth 100000 in
theorem slHasPrefix (t n : ByteArray) (ht : t.size ≤ maxLen) (hn : n.size ≤ maxLen) (w : World) :
    Calls Tryz.prog 123 #[.string t, .string n] w fun e w' => e = .returned (.bool (Lx.pfx n.data.toList t.data.toList)) ∧ w = w' := by
  rw [pfx_of]
  have hm : t.size ≤ 9223372036854775807 := ht
  have hm2 : n.size ≤ 9223372036854775807 := hn
  clear ht hn
  by_cases h : n.size ≤ t.size
  · go_enter Tryz.func123, Tryz.ntmps123
    go_wp2
    go_ret
    exact ⟨ret_bool5 (by rw [decide_eq_true h]; rw [beq_txt]; rfl), rfl⟩
  · go_enter Tryz.func123, Tryz.ntmps123
    go_wp2
    go_ret
    exact ⟨ret_bool5 (by rw [decide_eq_false h]; rfl), rfl⟩
theorem stHasPrefix (t n : ByteArray) (ht : t.size ≤ maxLen) (hn : n.size ≤ maxLen) (w : World) :
    Calls Tryz.prog 103 #[.string t, .string n] w fun e w' => e = .returned (.bool (Lx.pfx n.data.toList t.data.toList)) ∧ w = w' := by
  go_enter Tryz.func103, Tryz.ntmps103
  go_wp2_with (go_at_call 123; ((with_reducible refine (slHasPrefix _ _ ht hn _).mono ?_); rintro e w' ⟨rfl, rfl⟩))
  go_ret
  exact ⟨rfl, rfl⟩
set_option maxRecDepth 100000 in
theorem slIndexByte (t : ByteArray) (c : Int) (w : World) :
    Calls Tryz.prog 60 #[.string t, .int .u8 c] w fun e w' => e = .returned (.int .i64 (Lib.indexByte t.data.toList c.toNat.toUInt8)) ∧ w = w' := by
  go_enter Tryz.func60, Tryz.ntmps60
  go_wp2
  rw [run_callFunc_extern Tryz.func101 (by kernel_rfl) (by kernel_rfl) (by kernel_rfl) (e := Extern.BytealgIndexByte.indexByte) (by kernel_rfl), Lib.run_indexByteString]
  simp only [Result.andThen]
  rw [Oper.upon_value]
  go_wp2
  go_ret
  exact ⟨rfl, rfl⟩
theorem stIndexByte (t : ByteArray) (c : Int) (w : World) :
    Calls Tryz.prog 38 #[.string t, .int .u8 c] w fun e w' => e = .returned (.int .i64 (Lib.indexByte t.data.toList c.toNat.toUInt8)) ∧ w = w' := by
  go_enter Tryz.func38, Tryz.ntmps38
  go_wp2_with (go_at_call 60; ((with_reducible refine (slIndexByte _ _ _).mono ?_); rintro e w' ⟨rfl, rfl⟩))
  go_ret
  exact ⟨rfl, rfl⟩
theorem pfx_nb (s : ByteArray) (j : Nat) : Lx.pfx (nb j).data.toList s.data.toList = Lx.pfx (Lx.nm j) s.data.toList := by rw [nb_list]
set_option maxRecDepth 100000 in
set_option maxHeartbeats 1000000 in
theorem lxFirstName (s : ByteArray) (hs : s.size ≤ maxLen) (w : World) (ht : Tn w) :
    Calls Tryz.prog 63 #[.string s] w fun e w' => e = .returned (.string (bs (Lx.fnm s.data.toList))) ∧ w = w' := by
  have HT := Lib.hid ht
  have ix := fun j hj => index_names j hj w
  have hm : s.size ≤ 9223372036854775807 := hs
  have IX := Lib.hid ix
  clear ix ht
  go_enter Tryz.func63, Tryz.ntmps63
  go_wp2_with (with_reducible refine names_load HT.out ?_)
  go_loop [3, 7] (fun bv kv => ∃ k : Nat, k ≤ 24 ∧ bv = .string (bs (Lx.nfold s.data.toList k)) ∧ kv = .int .i64 (k : Int)) (fun _ kv => 24 - (intOf kv).toNat)
  case atStart => exact ⟨0, by omega, rfl, rfl⟩
  case round =>
    obtain ⟨k, hk, rfl, rfl⟩ := hrel
    have fl := Lx.nfold_le s.data.toList k hk
    rw [size_len, ← bs_size] at fl
    by_cases h24 : k < 24
    · have ik := IX.out k h24
      have c1 := fun w => stHasPrefix s (nb k) hs (by have := nb_size k; unfold maxLen; omega) w
      rw [pfx_nb] at c1
      have sc := Lx.nfold_succ s.data.toList k h24
      have ns := nb_size k
      have nl : (nb k).size = (Lx.nm k).length := by unfold nb; rw [bs_size]
      have bl := bs_size (Lx.nfold s.data.toList k)
      unfold Lx.nstep at sc
      rw [← bl, ← nl] at sc
      have yes : (bs (Lx.nfold s.data.toList k)).size < (nb k).size → Lx.pfx (Lx.nm k) s.data.toList = true → bs (Lx.nfold s.data.toList (k + 1)) = nb k := fun h1 h2 => by
        rw [sc, decide_eq_true h1, h2]; rfl
      have no : ¬ ((bs (Lx.nfold s.data.toList k)).size < (nb k).size ∧ Lx.pfx (Lx.nm k) s.data.toList = true) → bs (Lx.nfold s.data.toList (k + 1)) = bs (Lx.nfold s.data.toList k) := fun h1 => by
        rw [sc, if_neg (by rw [Bool.and_eq_true, decide_eq_true_iff]; exact h1)]
      obtain ⟨Z, hZ⟩ : ∃ Z, bs (Lx.nfold s.data.toList (k + 1)) = Z := ⟨_, rfl⟩
      rw [hZ] at yes no
      have HZ := Lib.hid hZ
      clear sc bl nl hZ
      generalize Lx.pfx (Lx.nm k) s.data.toList = p at *
      have C1 := Lib.hid c1
      clear c1
      generalize bs (Lx.nfold s.data.toList k) = X at *
      generalize nb k = Y at *
      by_cases hb : X.size < Y.size
      · cases p
        · obtain rfl := no (by simp)
          clear yes no
          go_wp2_with (go_at_call 103; ((with_reducible refine (C1.out _).mono ?_); rintro e w' ⟨rfl, rfl⟩))
          go_round
          case rel => exact ⟨k + 1, by omega, by rw [HZ.out], by go_num⟩
          case measure => simp [intOf]; omega
        · obtain rfl := yes hb rfl
          clear yes no
          go_wp2_with (go_at_call 103; ((with_reducible refine (C1.out _).mono ?_); rintro e w' ⟨rfl, rfl⟩))
          go_round
          case rel => exact ⟨k + 1, by omega, by rw [HZ.out], by go_num⟩
          case measure => simp [intOf]; omega
      · obtain rfl := no (by simp [hb])
        clear yes no
        go_wp2_with (go_at_call 103; ((with_reducible refine (C1.out _).mono ?_); rintro e w' ⟨rfl, rfl⟩))
        go_round
        case rel => exact ⟨k + 1, by omega, by rw [HZ.out], by go_num⟩
        case measure => simp [intOf]; omega
    · obtain rfl : k = 24 := by omega
      clear h24
      obtain ⟨Z, hZ⟩ : ∃ Z, bs (Lx.nfold s.data.toList 24) = Z := ⟨_, rfl⟩
      rw [hZ] at fl ⊢
      have HZ := Lib.hid hZ
      clear hZ
      go_wp2
      go_ret
      exact ⟨ret_str5 (by rw [← HZ.out]; rfl), rfl⟩
end Go.Proofs.YtciglhecjkeogaaGreatDoor
set_option linter.unusedVariables false
set_option linter.unusedSimpArgs false
namespace Go.Proofs.YtciglhecjkeogaaGreatDoor
open Go.RowKit
theorem scaled (v : Int) (f j : Nat) (h0 : 0 ≤ v) (h1 : v < 1000000000 * 10 ^ f) (hj : j + f < 6) : 0 ≤ v * 10 ^ j ∧ v * 10 ^ j ≤ 100000000000000 := by
  have p : (0 : Int) < 10 ^ j := Int.pow_pos (by decide)
  refine ⟨Int.mul_nonneg h0 (Int.le_of_lt p), ?_⟩
  have m : v * 10 ^ j ≤ 1000000000 * 10 ^ f * 10 ^ j := Int.mul_le_mul_of_nonneg_right (by omega) (Int.le_of_lt p)
  rw [Int.mul_assoc, ← Int.pow_add] at m
  have q := pow10_le (show f + j ≤ 5 by omega)
  have e : (10 : Int) ^ 5 = 100000 := by decide
  omega
theorem both_bd (l : List UInt8) (h : pdot l = true) (hl : pw l < l.length) : 0 ≤ vl (vl 0 (l.take (pw l))) ((l.drop (pw l + 1)).take (pf l)) ∧ vl (vl 0 (l.take (pw l))) ((l.drop (pw l + 1)).take (pf l)) < 1000000000 * 10 ^ pf l := by
  obtain ⟨b0, b1⟩ := whole_bd l
  have e : pf l = rk (l.drop (pw l + 1)) 6 := if_pos h
  have le := (rk_le (l.drop (pw l + 1)) 6).2
  rw [← e] at le
  obtain ⟨x, y⟩ := vl_bd ((l.drop (pw l + 1)).take (pf l)) _ b0 (all_take _ _ le (fun i hi => rk_dig _ 6 i (by omega)))
  rw [List.length_take, Nat.min_eq_left le] at y
  refine ⟨by omega, Int.lt_of_lt_of_le y (Int.mul_le_mul_of_nonneg_right (by omega) (Int.le_of_lt (Int.pow_pos (by decide))))⟩
theorem pr_ok {l : List UInt8} (h : pend l = l.length) (h2 : pw l + pf l ≠ 0) : prv l = pnum l ∧ pre l = 0 := by
  have : pok l = true := by unfold pok; rw [decide_eq_true h, decide_eq_true h2]; rfl
  exact ⟨if_pos this, if_pos this⟩
theorem pr_no {l : List UInt8} (h : pend l ≠ l.length ∨ pw l + pf l = 0) : prv l = 0 ∧ pre l = 2 := by
  have : pok l = false := by
    unfold pok
    rcases h with h | h
    · rw [decide_eq_false h]; rfl
    · rw [decide_eq_false (show ¬ pw l + pf l ≠ 0 by omega), Bool.and_false]
  unfold prv pre
  rw [this]; exact ⟨rfl, rfl⟩
set_option maxRecDepth 100000 in
set_option maxHeartbeats 1000000 in
theorem fxParse (s : ByteArray) (hs : s.size ≤ maxLen) (w : World) :
    Calls Tryz.prog 102 #[.string s] w fun e w' => e = .returned (.tuple #[.int .i64 (prv s.data.toList), .int .i64 (pre s.data.toList)]) ∧ w = w' := by
  have sl : s.data.toList.length = s.size := by rw [Array.length_toList]; rfl
  have pb := pw_le s.data.toList
  obtain ⟨wb0, wb1⟩ := whole_bd s.data.toList
  have fb := pf_le s.data.toList
  have c1 := fun w => fxDigits 0 0 9 s (by omega) (by omega) (by omega) (by omega) (by omega) (by omega) (by omega) hs w
  have c0 := fun x y z u v => fxDigits (vl 0 (s.data.toList.take (pw s.data.toList))) ((pw s.data.toList : Nat) + 1) 6 s wb0 wb1 x y z u v hs
  have hm : s.size ≤ 9223372036854775807 := hs
  rw [show rdv 0 s.data.toList 0 9 = vl 0 (s.data.toList.take (pw s.data.toList)) by unfold rdv rdl; rfl, show rdl s.data.toList 0 9 = pw s.data.toList by unfold rdl; rfl] at c1
  have ok := @pr_ok s.data.toList
  have no := @pr_no s.data.toList
  rw [sl] at ok no
  by_cases hW : pw s.data.toList < s.size
  · have gd : s.data.toList.getD (pw s.data.toList) 0 = s[pw s.data.toList] := by rw [getD_of _ _ (by omega)]; rfl
    by_cases hp : s[pw s.data.toList] = 46
    · have d : pdot s.data.toList = true := by unfold pdot; rw [gd, hp, sl, decide_eq_true hW]; rfl
      have pe : pend s.data.toList = pw s.data.toList + 1 + pf s.data.toList := if_pos d
      have pfe : pf s.data.toList = rk (s.data.toList.drop (pw s.data.toList + 1)) 6 := if_pos d
      have c2 := fun w => c0 (by omega) (by omega) (by omega) (by omega) (by omega) w
      have tn : (((pw s.data.toList : Nat) : Int) + 1).toNat = pw s.data.toList + 1 := by omega
      have bb := both_bd s.data.toList d (by omega)
      have dt : (((s[pw s.data.toList]).toNat : Int) == 46) = true := by rw [hp]; decide
      have pn : pnum s.data.toList = vl (vl 0 (s.data.toList.take (pw s.data.toList))) ((s.data.toList.drop (pw s.data.toList + 1)).take (pf s.data.toList)) * 10 ^ (6 - pf s.data.toList) := rfl
      rw [show rdl s.data.toList ((pw s.data.toList : Nat) + 1) 6 = pf s.data.toList by unfold rdl; rw [tn]; exact pfe.symm,
        show rdv (vl 0 (s.data.toList.take (pw s.data.toList))) s.data.toList ((pw s.data.toList : Nat) + 1) 6 = vl (vl 0 (s.data.toList.take (pw s.data.toList))) ((s.data.toList.drop (pw s.data.toList + 1)).take (pf s.data.toList)) by
          unfold rdv rdl; rw [tn, pfe]; rfl] at c2
      have fl : pw s.data.toList + 1 + pf s.data.toList ≤ s.size := by have := (rk_le (s.data.toList.drop (pw s.data.toList + 1)) 6).2; rw [List.length_drop] at this; omega
      rw [pn] at ok
      rw [pe] at ok no
      have C1 := Lib.hid c1
      have C2 := Lib.hid c2
      have BB := Lib.hid bb
      clear c0 c1 c2 d pe pfe tn gd hp sl bb pn
      generalize vl (vl 0 (s.data.toList.take (pw s.data.toList))) ((s.data.toList.drop (pw s.data.toList + 1)).take (pf s.data.toList)) = X at *
      generalize vl 0 (s.data.toList.take (pw s.data.toList)) = V at *
      generalize prv s.data.toList = PV at *
      generalize pre s.data.toList = PE at *
      generalize pf s.data.toList = F at *
      generalize pw s.data.toList = P at *
      by_cases he : P + 1 + F < s.size
      · obtain ⟨rfl, rfl⟩ := no (.inl (by omega))
        clear no ok
        go_enter Tryz.func102, Tryz.ntmps102
        go_wp2_with (first | (go_at_call 122; ((with_reducible refine (C1.out _).mono ?_); rintro e w' ⟨rfl, rfl⟩)) | (go_at_call 122; ((with_reducible refine (C2.out _).mono ?_); rintro e w' ⟨rfl, rfl⟩)))
        go_ret2
        exact ⟨rfl, rfl⟩
      · by_cases hz : P + F = 0
        · obtain ⟨rfl, rfl⟩ := no (.inr hz)
          have sb : (P : Int) + 1 + (F : Int) - ((P : Int) + 1) = (F : Int) := by omega
          have dl : decide ((P : Int) + 1 + (F : Int) < (s.size : Int)) = false := decide_eq_false (by omega)
          have nz : (((P : Int) + (F : Int)) == 0) = true := by rw [beq_iff_eq]; omega
          clear no ok hz
          go_enter Tryz.func102, Tryz.ntmps102
          go_wp2_with (first | (go_at_call 122; ((with_reducible refine (C1.out _).mono ?_); rintro e w' ⟨rfl, rfl⟩)) | (go_at_call 122; ((with_reducible refine (C2.out _).mono ?_); rintro e w' ⟨rfl, rfl⟩)))
          go_ret2
          exact ⟨rfl, rfl⟩
        · obtain ⟨rfl, rfl⟩ := ok (by omega) hz
          have sb : (P : Int) + 1 + (F : Int) - ((P : Int) + 1) = (F : Int) := by omega
          have dl : decide ((P : Int) + 1 + (F : Int) < (s.size : Int)) = false := decide_eq_false (by omega)
          have nz : (((P : Int) + (F : Int)) == 0) = false := beq_eq_false_iff_ne.2 (by omega)
          clear no ok hz
          go_enter Tryz.func102, Tryz.ntmps102
          go_wp2_with (first | (go_at_call 122; ((with_reducible refine (C1.out _).mono ?_); rintro e w' ⟨rfl, rfl⟩)) | (go_at_call 122; ((with_reducible refine (C2.out _).mono ?_); rintro e w' ⟨rfl, rfl⟩)))
          go_loop [4, 48] (fun nv cv => ∃ j : Nat, j + F ≤ 6 ∧ nv = .int .i64 (X * 10 ^ j) ∧ cv = .int .i64 (j : Int)) (fun _ cv => 6 - F - (intOf cv).toNat)
          case atStart => exact ⟨0, by omega, by simp, rfl⟩
          case round =>
            obtain ⟨j, hj, rfl, rfl⟩ := hrel
            have xs : X * 10 ^ (j + 1) = X * 10 ^ j * 10 := by rw [Int.pow_succ, Int.mul_assoc]
            have XS := Lib.hid xs
            clear xs
            by_cases hlt : j + F < 6
            · have xb := scaled X F j BB.out.1 BB.out.2 hlt
              generalize X * 10 ^ j = Y at *
              go_wp2
              go_round
              case rel => exact ⟨j + 1, by omega, by rw [XS.out], by go_num⟩
              case measure => simp [intOf]; omega
            · obtain rfl : j = 6 - F := by omega
              obtain ⟨Y, hY⟩ : ∃ Y, X * 10 ^ (6 - F) = Y := ⟨_, rfl⟩
              rw [hY]
              have YE := Lib.hid hY.symm
              clear hY XS
              go_wp2
              go_ret2
              exact ⟨ret_ii YE.out rfl, rfl⟩
    · have d : pdot s.data.toList = false := by
        unfold pdot; rw [gd, show (s[pw s.data.toList] == 46) = false from beq_eq_false_iff_ne.2 hp, Bool.and_false]
      obtain ⟨f0, pe⟩ := pf_none d
      have dt : (((s[pw s.data.toList]).toNat : Int) == 46) = false := beq_eq_false_iff_ne.2 (fun h => hp (UInt8.toNat_inj.1 (by have : (46 : UInt8).toNat = 46 := rfl; omega)))
      obtain ⟨e1, e2⟩ := no (.inl (by omega))
      rw [e1, e2]
      have C1 := Lib.hid c1
      clear c0 c1 d pe gd hp sl no ok f0 e1 e2 fb
      generalize vl 0 (s.data.toList.take (pw s.data.toList)) = V at *
      generalize pw s.data.toList = P at *
      go_enter Tryz.func102, Tryz.ntmps102
      go_wp2_with (go_at_call 122; ((with_reducible refine (C1.out _).mono ?_); rintro e w' ⟨rfl, rfl⟩))
      go_ret2
      exact ⟨rfl, rfl⟩
  · have d : pdot s.data.toList = false := by unfold pdot; rw [sl, decide_eq_false hW]; rfl
    obtain ⟨f0, pe⟩ := pf_none d
    have C1 := Lib.hid c1
    have hb := vl_bd (s.data.toList.take (pw s.data.toList)) 0
    have pn : pnum s.data.toList = vl 0 (s.data.toList.take (pw s.data.toList)) * 10 ^ (6 - 0) := by unfold pnum; rw [f0]; simp [vl]
    rw [pn, pe, f0] at ok
    rw [pe, f0] at no
    have BB : Hid (0 ≤ vl 0 (s.data.toList.take (pw s.data.toList)) ∧ vl 0 (s.data.toList.take (pw s.data.toList)) < 1000000000 * 10 ^ 0) := Lib.hid ⟨wb0, by omega⟩
    clear c0 c1 d pe f0 fb hb pn
    generalize vl 0 (s.data.toList.take (pw s.data.toList)) = V at *
    generalize prv s.data.toList = PV at *
    generalize pre s.data.toList = PE at *
    generalize pw s.data.toList = P at *
    by_cases hz : P = 0
    · obtain ⟨rfl, rfl⟩ := no (.inr (by omega))
      subst hz
      clear no ok
      go_enter Tryz.func102, Tryz.ntmps102
      go_wp2_with (go_at_call 122; ((with_reducible refine (C1.out _).mono ?_); rintro e w' ⟨rfl, rfl⟩))
      go_ret2
      exact ⟨rfl, rfl⟩
    · obtain ⟨rfl, rfl⟩ := ok (by omega) (by omega)
      have nz : ((P : Int) == 0) = false := beq_eq_false_iff_ne.2 (by omega)
      clear no ok hz
      go_enter Tryz.func102, Tryz.ntmps102
      go_wp2_with (go_at_call 122; ((with_reducible refine (C1.out _).mono ?_); rintro e w' ⟨rfl, rfl⟩))
      go_loop [4, 48] (fun nv cv => ∃ j : Nat, j + 0 ≤ 6 ∧ nv = .int .i64 (V * 10 ^ j) ∧ cv = .int .i64 (j : Int)) (fun _ cv => 6 - 0 - (intOf cv).toNat)
      case atStart => exact ⟨0, by omega, by simp, rfl⟩
      case round =>
        obtain ⟨j, hj, rfl, rfl⟩ := hrel
        have xs : V * 10 ^ (j + 1) = V * 10 ^ j * 10 := by rw [Int.pow_succ, Int.mul_assoc]
        have XS := Lib.hid xs
        clear xs
        by_cases hlt : j + 0 < 6
        · have xb := scaled V 0 j BB.out.1 BB.out.2 hlt
          generalize V * 10 ^ j = Y at *
          go_wp2
          go_round
          case rel => exact ⟨j + 1, by omega, by rw [XS.out], by go_num⟩
          case measure => simp [intOf]; omega
        · obtain rfl : j = 6 - 0 := by omega
          have YE := Lib.hid (show V * 10 ^ (6 - 0) = V * 1000000 from rfl)
          generalize V * 10 ^ (6 - 0) = Y at *
          go_wp2
          go_ret2
          exact ⟨ret_ii YE.out rfl, rfl⟩
end Go.Proofs.YtciglhecjkeogaaGreatDoor
set_option linter.unusedVariables false
namespace Go.Proofs.YtciglhecjkeogaaGreatDoor
open Go Go.RowKit
structure Kept (w : World) where
  v : World
  h : Qw w v
instance (w : World) : Nonempty (Kept w) := ⟨⟨w, Qw.refl w⟩⟩
theorem qw_drew1 (w : World) : Qw w w.drew := ⟨rfl, rfl, rfl, Nat.le_refl _, fun _ _ => rfl⟩
theorem Kept.call {P : Program} {w : World} {f : FuncId} {args : Array Value} {n : Kept w} {v : Value} (h : Calls P f args n.v fun e w' => e = .returned v ∧ Qw n.v w') :
    Calls P f args n.v fun e w'' => e = .returned v ∧ ∃ p : Kept w, w'' = p.v :=
  h.mono fun _ w'' ⟨he, hq⟩ => ⟨he, ⟨w'', n.h.trans hq⟩, rfl⟩
theorem Kept.same {P : Program} {w : World} {f : FuncId} {args : Array Value} {n : Kept w} {v : Value} (h : Calls P f args n.v fun e w' => e = .returned v ∧ n.v = w') :
    Calls P f args n.v fun e w'' => e = .returned v ∧ ∃ p : Kept w, w'' = p.v :=
  h.mono fun _ _ ⟨he, hq⟩ => ⟨he, n, hq.symm⟩
theorem region_kept {P : Program} {id : Nat} {Q : Exit → Act → World → Prop} {a : Act} {w : World} {l : List Oper} (hm : P.follows .mixedOrders = true) (hB : Region.lexB .any l.toArray = true)
    (h : wpQuiet P l.toArray (fun w' => ∃ p : Kept w, w' = p.v) (fun a' => ∀ w', Qw w w' → Q .normal a' w') l a) : (Code.region id l.toArray true).wp P Q a w := by
  have hh : wpQuiet P l.toArray (fun w' => ∃ p : Kept w, w' = p.v) (fun a' => ∀ w', (∃ p : Kept w, w' = p.v) → Q .normal a' w') l a := by
    have key : (fun a' => ∀ w', (∃ p : Kept w, w' = p.v) → Q .normal a' w') = (fun a' => ∀ w', Qw w w' → Q .normal a' w') := by
      funext a'
      exact propext ⟨fun k w' hq => k w' ⟨⟨w', hq⟩, rfl⟩, fun k w' ⟨p, e⟩ => k w' (e ▸ p.h)⟩
    rw [key]; exact h
  exact wp_region_quiet (C := fun w' => ∃ p : Kept w, w' = p.v) hm hB ⟨⟨_, qw_drew1 w⟩, rfl⟩ (by simpa using hh)
theorem code_of {P : Program} {c : Code} {Q : Exit → Act → World → Prop} {a : Act} {w : World} (S : World → Prop) (h : S w) (k : ∀ w', S w' → c.wp P Q a w') : c.wp P Q a w := k w h
def Bx (w : World) (b : Nat) (cs : Array Value) (t : TypeId) : Prop := w.heap[b]? = some (.cells cs t (0, 0))
section
variable {w w' : World} {b : Nat} {cs : Array Value} {t : TypeId}
theorem Bx.lt (h : Bx w b cs t) : b < w.heap.size := (Array.getElem?_eq_some_iff.1 h).1
theorem Bx.kept (h : Bx w b cs t) (q : Qw w w') : Bx w' b cs t := (q.block b h.lt).trans h
theorem Bx.below {B : Nat} (h : Bx w b cs t) (q : Below B w w') (hb : b < B) : Bx w' b cs t := (q.block b hb).trans h
theorem Bx.cell (h : Bx w b cs t) (i : Nat) : w.cell? ⟨b, i, none⟩ = cs[i]? := by simp only [Bx] at h; simp [World.cell?, h]
theorem Bx.free (h : Bx w b cs t) (i : Nat) : w.frozen? ⟨b, i, none⟩ = false := by simp only [Bx] at h; simp [World.frozen?, h]
theorem Bx.new (w : World) (cs : Array Value) (t : TypeId) : Bx (w.alloc (.cells cs t)) w.heap.size cs t := by
  show (w.heap.push _)[w.heap.size]? = _
  simp
theorem Bx.alloc (h : Bx w b cs t) (o : Obj) : Bx (w.alloc o) b cs t := (Below.heap_alloc w o b h.lt).trans h
theorem Bx.set (h : Bx w b cs t) (i : Nat) (v : Value) : Bx (w.setCell ⟨b, i, none⟩ v) b (cs.setIfInBounds i v) t := by
  simp only [Bx] at h ⊢
  simp only [World.setCell, Array.getElem?_modify, if_true, h, Option.map_some]
  rfl
theorem Bx.other (h : Bx w b cs t) {a : Addr} (hb : b ≠ a.block) (v : Value) : Bx (w.setCell a v) b cs t := (Below.heap_setCell w a v b hb).trans h
theorem Bx.kcell (h : Bx w b cs t) (i : Nat) (v : Value) (hv : cs[i]? = some v) : ∀ p : Kept w, p.v.cell? ⟨b, i, none⟩ = some v := fun p => ((h.kept p.h).cell i).trans hv
theorem Bx.cell' (h : Bx w b cs t) (i : Nat) (v : Value) (hv : cs[i]? = some v) : w.cell? ⟨b, i, none⟩ = some v := (h.cell i).trans hv
end
end Go.Proofs.YtciglhecjkeogaaGreatDoor

