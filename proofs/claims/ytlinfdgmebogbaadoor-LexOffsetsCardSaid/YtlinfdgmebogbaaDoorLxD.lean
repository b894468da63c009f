
/- The walk of lex.Tokens. -/
import Derived.Test.YtlinfdgmebogbaaDoorLxC
import Derived.WalkMore
import Derived.Outline
set_option linter.unusedVariables false
set_option linter.unusedSimpArgs false
namespace Go.Proofs.YtlinfdgmebogbaaDoor
open Go.RowKit

theorem two_new (w : World) (o : Obj) (cs : Array Value) (t : TypeId) : ((w.alloc o).alloc (.cells cs t)).heap[w.heap.size + 1]? = some (.cells cs t (0, 0)) := by
  have := Bx.new (w.alloc o) cs t
  simp only [Bx] at this
  rw [show (w.alloc o).heap.size = w.heap.size + 1 by simp] at this
  exact this

theorem le_two {wr w1 : World} {B : Nat} (hs : B ≤ wr.heap.size) (q : Qw wr w1) {o1 o2 : Obj} : B ≤ ((w1.alloc o1).alloc o2).heap.size := by
  have := q.size
  simp; omega
theorem after_append {w wr w1 w2 : World} {B : Nat} (hB : Below B w wr) (hs : B ≤ wr.heap.size) (q : Qw wr w1) {o1 o2 : Obj} (hb : Below B ((w1.alloc o1).alloc o2) w2) : Below B w w2 ∧ B ≤ w2.heap.size := by
  have h1 := q.size
  have h2 := hb.size
  have h3 := @le_two wr w1 B hs q o1 o2
  refine ⟨(((hB.trans (q.mono hs)).alloc (by omega) _).alloc (by simp; omega) _).trans hb, by omega⟩

/-- What is known at the head of a round. -/
def LexK (B : Nat) (l : List UInt8) (w : World) (tv av : Value) (wr : World) (k : Nat) (ts : List Lx.Tok) : Prop :=
  Lx.At l k ts ∧ OwnT B wr tv ts ∧ Below B w wr ∧ B ≤ wr.heap.size ∧ av = .int .i64 (k : Int)

set_option maxRecDepth 100000 in
set_option maxHeartbeats 2000000 in
theorem lxTokens (s : ByteArray) (hs : s.size ≤ 1000000) (w : World) (ht : Tn w) :
    Calls Tryd.prog 14 #[.string s] w fun e w' => (∃ v, e = .returned (.tuple #[v, .int .i64 (Lx.tat s.data.toList : Int), .int .i64 (Lx.ter s.data.toList)]) ∧ ToksB w'.heap.size w' v (Lx.tks s.data.toList)) ∧ Qw w w' := by
  have sl := size_len s
  have SL := Lib.hid sl
  have HT := Lib.hid ht
  have ix := fun k w => stIndexByte (s.extract k s.size) 41 w
  simp only [drop_data, show (Int.toNat 41).toUInt8 = 41 from rfl] at ix
  have fs := fun k (h : k < s.size) w ht => lxFirst (s.extract k s.size) (by simp; unfold maxLen; omega) (by simp; omega) w ht
  simp only [drop_data] at fs
  have IX := Lib.hid ix
  have FS := Lib.hid fs
  clear ix fs sl ht
  go_enter Tryd.func14, Tryd.ntmps14
  go_wp2
  go_step3
  go_wp2
  go_step3
  go_wp2
  go_loopw [5, 6] (fun tv av wr => ∃ k ts, LexK w.heap.size s.data.toList w tv av wr k ts) (fun _ av _ => s.size - (intOf av).toNat)
  case atStart => exact ⟨0, [], Lx.At.start _, OwnT.nil _ _, Below.refl _ _, Nat.le_refl _, rfl⟩
  case round =>
    obtain ⟨k, ts, hA, hO, hB, hBs, rfl⟩ := hrel
    have hk : k ≤ s.size := by have := hA.1; have := SL.out; omega
    have AT := Lib.hid hA
    have OW := Lib.hid hO
    have BL := Lib.hid hB
    have tl := hA.2.1
    clear hA hO hB
    by_cases hlt : k < s.size
    · have gl : s.data.toList[k]'(by have := SL.out; omega) = s[k] := rfl
      have dl : s.data.toList.drop k = s[k] :: s.data.toList.drop (k + 1) := by rw [← gl]; exact List.drop_eq_getElem_cons _
      have tlen : (s.data.toList.drop (k + 1)).length = s.size - (k + 1) := by rw [List.length_drop, SL.out]
      have A2 : Hid (∀ a, Lx.act s[k] (s.data.toList.drop (k + 1)) = a → Lx.act (s.data.toList[k]'(by have := SL.out; omega)) (s.data.toList.drop (k + 1)) = a) := Lib.hid fun a h => by rw [gl]; exact h
      by_cases hw : s[k] = 32 ∨ s[k] = 9 ∨ s[k] = 13
      · have N := Lib.hid (AT.out.skip (by have := SL.out; omega) (A2.out _ (Lx.act_ws (by unfold Lx.ws; rcases hw with h | h | h <;> rw [h] <;> rfl))) (by have := SL.out; omega))
        clear dl tlen A2 gl
        rcases hw with h | h | h
        · have b : (s[k].toNat : Int) = 32 := by rw [h]; rfl
          clear h
          go_wp2
          go_roundw
          case rel => exact ⟨k + 1, ts, N.out, OW.out, BL.out, hBs, by go_num⟩
          case measure => simp [intOf]; omega
        · have b : (s[k].toNat : Int) = 9 := by rw [h]; rfl
          clear h
          go_wp2
          go_roundw
          case rel => exact ⟨k + 1, ts, N.out, OW.out, BL.out, hBs, by go_num⟩
          case measure => simp [intOf]; omega
        · have b : (s[k].toNat : Int) = 13 := by rw [h]; rfl
          clear h
          go_wp2
          go_roundw
          case rel => exact ⟨k + 1, ts, N.out, OW.out, BL.out, hBs, by go_num⟩
          case measure => simp [intOf]; omega
      · by_cases h59 : s[k] = 59
        · have N := AT.out.skip (by have := SL.out; omega) (A2.out _ (by rw [h59]; exact Lx.act_semi)) (by have := SL.out; omega)
          have F := Lib.hid (N.fin (by have := SL.out; omega))
          have b : (s[k].toNat : Int) = 59 := by rw [h59]; rfl
          clear N dl tlen A2 gl hw h59
          go_wp2
          try rw [Exit.noGoto_ret]
          go_ret3
          exact ⟨⟨u5, by rw [F.out.2.1, F.out.2.2, SL.out]; try rfl, by rw [F.out.1]; exact OW.out.toks⟩, BL.out⟩
        · by_cases h40 : s[k] = 40
          · have b : (s[k].toNat : Int) = 40 := by rw [h40]; rfl
            have ao : Lx.act s[k] (s.data.toList.drop (k + 1)) = (if Lib.indexByte (s.data.toList.drop (k + 1)) 41 = -1 then .bad else .skip ((Lib.indexByte (s.data.toList.drop (k + 1)) 41).toNat + 1)) := by rw [h40]; exact Lx.act_open
            have ixk := IX.out k
            rw [dl, h40, Lx.index_open] at ixk
            have il := Lx.index_le (s.data.toList.drop (k + 1)) 41
            have ig := Lib.indexByte_ge (s.data.toList.drop (k + 1)) 41
            generalize Lib.indexByte (s.data.toList.drop (k + 1)) 41 = I at *
            by_cases hI : I = -1
            · rw [if_pos hI] at ao
              rw [if_pos hI] at ixk
              have F := Lib.hid (AT.out.bad (by have := SL.out; omega) (A2.out _ ao))
              have IK := Lib.hid ixk
              clear ixk ao dl tlen A2 gl hw h59 h40 hI il ig
              go_wp2_with (go_at_call 25; ((with_reducible refine (IK.out _).mono ?_); rintro e w' ⟨rfl, rfl⟩))
              try rw [Exit.noGoto_ret]
              go_ret3
              exact ⟨⟨.slice none 0 0, by rw [F.out.2.1, F.out.2.2]; try rfl, by rw [F.out.1]; exact (OwnT.nil wr.heap.size wr).toks⟩, BL.out⟩
            · rw [if_neg hI] at ao
              rw [if_neg hI] at ixk
              obtain ⟨J, rfl⟩ : ∃ J : Nat, I = J := ⟨I.toNat, by omega⟩
              have jl : k + 1 + (J + 1) ≤ s.size := by omega
              rw [Int.toNat_natCast] at ao
              have N := Lib.hid (AT.out.skip (by have := SL.out; omega) (A2.out _ ao) (by have := SL.out; omega))
              have IK := Lib.hid ixk
              clear ixk ao dl tlen A2 gl hw h59 h40 hI il ig
              go_wp2_with (go_at_call 25; ((with_reducible refine (IK.out _).mono ?_); rintro e w' ⟨rfl, rfl⟩))
              go_roundw
              case rel => exact ⟨k + 1 + (J + 1), ts, N.out, OW.out, BL.out, hBs, by go_num⟩
              case measure => simp [intOf]; omega
          · have wsf : Lx.ws s[k] = false := by
              unfold Lx.ws
              rw [show (s[k] == 32) = false from beq_eq_false_iff_ne.2 (fun h => hw (.inl h)), show (s[k] == 9) = false from beq_eq_false_iff_ne.2 (fun h => hw (.inr (.inl h))), show (s[k] == 13) = false from beq_eq_false_iff_ne.2 (fun h => hw (.inr (.inr h)))]
              rfl
            have af := Lx.act_first (t := s.data.toList.drop (k + 1)) wsf h59 h40
            rw [← dl] at af
            have fk := FS.out k hlt wr (HT.out.kept BL.out)
            have fl := Lx.fst_le (s.data.toList.drop k) (by rw [dl]; simp)
            rw [List.length_drop, SL.out] at fl
            have nb : ∀ n : UInt8, s[k] ≠ n → ((s[k].toNat : Int) == (n.toNat : Int)) = false := fun n h => beq_eq_false_iff_ne.2 (fun e => h (UInt8.toNat_inj.1 (by omega)))
            have b1 : ((s[k].toNat : Int) == 32) = false := nb 32 (fun h => hw (.inl h))
            have b2 : ((s[k].toNat : Int) == 9) = false := nb 9 (fun h => hw (.inr (.inl h)))
            have b3 : ((s[k].toNat : Int) == 13) = false := nb 13 (fun h => hw (.inr (.inr h)))
            have b4 : ((s[k].toNat : Int) == 59) = false := nb 59 h59
            have b5 : ((s[k].toNat : Int) == 40) = false := nb 40 h40
            generalize Lx.fst (s.data.toList.drop k) = f at *
            unfold fv at fk
            have FK := Lib.hid fk
            by_cases hm : f.m = 0
            · rw [if_pos hm] at af
              have F := Lib.hid (AT.out.bad (by have := SL.out; omega) (A2.out _ af))
              have mz : ((f.m : Int) == 0) = true := by rw [hm]; rfl
              clear af fk wsf nb dl tlen A2 gl hw h59 h40 hm
              go_wp2_with (go_at_call 26; ((with_reducible refine FK.out.mono ?_); rintro e w1 ⟨rfl, q1⟩; have Q1 := Lib.hid q1; clear q1))
              try rw [Exit.noGoto_ret]
              go_ret3
              exact ⟨⟨.slice none 0 0, by rw [F.out.2.1, F.out.2.2]; try rfl, by rw [F.out.1]; exact (OwnT.nil 0 _).toks⟩, (BL.out.trans (Q1.out.mono hBs)).alloc (by have := Q1.out.size; omega) _⟩
            · rw [if_neg hm] at af
              have N := Lib.hid (AT.out.tok (by have := SL.out; omega) (A2.out _ af) (by omega) (by have := SL.out; omega))
              have mz : ((f.m : Int) == 0) = false := beq_eq_false_iff_ne.2 (by omega)
              clear af fk wsf nb dl tlen A2 gl hw h59 h40
              go_wp2_with (first | (go_at_call 26; ((with_reducible refine FK.out.mono ?_); rintro e w1 ⟨rfl, q1⟩; have Q1 := Lib.hid q1; clear q1)) | (at_builtin; refine tok_append 50 52 ⟨f.k, f.n, k, f.x⟩ w.heap.size u5 ts (w1.heap.size + 1) (by rfl) (by rfl) (two_new w1 _ _ _) (World.ownsRow.alloc (World.ownsRow.alloc (OW.out.kept Q1.out) _) _) (by omega) (le_two hBs Q1.out) ?_; intro v' w2 ho hb; have HO := Lib.hid ho; have hx := after_append BL.out hBs Q1.out hb; have HB := Lib.hid hx.1; have zb := hx.2; clear hx; clear ho hb))
              go_roundw
              case rel => exact ⟨k + f.m, ts ++ [⟨f.k, f.n, k, f.x⟩], N.out, HO.out, HB.out, zb, by go_num⟩
              case measure => simp [intOf]; omega
    · obtain rfl : k = s.size := by omega
      have f := Lib.hid (AT.out.fin (by have := SL.out; omega))
      go_wp2
      try rw [Exit.noGoto_ret]
      go_ret3
      exact ⟨⟨u5, by rw [f.out.2.1, f.out.2.2, SL.out]; try rfl, by rw [f.out.1]; exact OW.out.toks⟩, BL.out⟩

end Go.Proofs.YtlinfdgmebogbaaDoor
