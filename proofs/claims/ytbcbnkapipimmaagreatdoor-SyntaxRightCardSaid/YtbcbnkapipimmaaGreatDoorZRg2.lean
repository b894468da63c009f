import Derived.Test.YtbcbnkapipimmaaGreatDoorZRg0
import Derived.Test.YtbcbnkapipimmaaGreatDoorZRg1
import Derived.Test.YtbcbnkapipimmaaGreatDoorRows
import Derived.OwnWalk
import Derived.Outline
import Derived.WalkMore
import Derived.OneCell
import Derived.IntWalk
import Derived.Deep.QuietTactic
import Derived.BigQuiet
import Derived.Shelf.Small.Bits
import Derived.Shelf.Strconv.Itoa0
import Derived.Shelf.Strconv.Itoa1
import Derived.Shelf.LaysM
import Derived.Shelf.Strconv.Itoa2
import Derived.Shelf.Strconv.AppendUint10
import Derived.Shelf.Strconv.AppendInt10
import Derived.Shelf.Strconv.AppendIntPublic10
import Derived.Shelf.Bits.Mul64
set_option linter.unusedVariables false
set_option linter.unusedSimpArgs false
namespace Go.Proofs.YtbcbnkapipimmaaGreatDoor
open Go.RowKit
def tcell (t : Lx.Tok) : List Value := [.int .i64 t.k, .int .i64 t.n, .int .i64 (t.p : Int), .string (bs t.x)]
def tcells (ts : List Lx.Tok) : List Value := ts.flatMap tcell
def OwnT (B : Nat) (w : World) (v : Value) (ts : List Lx.Tok) : Prop := w.ownsRow B 101 4 v ts.length (tcells ts)
theorem OwnT.nil (B : Nat) (w : World) : OwnT B w (.slice none 0 0) [] := World.ownsRow_nil w _ _ _
theorem OwnT.kept {B : Nat} {w w' : World} {v : Value} {ts : List Lx.Tok} (h : OwnT B w v ts) (q : Qw w w') : OwnT B w' v ts :=
  World.ownsRow.kept h (row := none) ⟨q.os, q.tape, q.output, q.size, fun k hk _ => q.block k hk⟩ (by cases hv : v.ownBlock <;> simp)
theorem info_tok : (Tryz.prog.info? 101).map (fun i => (i.zero, i.size, i.bytes)) = some (some (.agg #[.int .i64 0, .int .i64 0, .int .i64 0, .string ⟨#[]⟩]), 4, 40) := by kernel_rfl
theorem tok_append {ops : Array Oper} {rest : List Oper} {dst : Option Tmp} {ty : TypeId} {pos : String} {after : Array Edge} {a : Act} {w : World} {Q : Exit → Act → World → Prop} (s x : Tmp) (t : Lx.Tok) (B : Nat) (v : Value) (ts : List Lx.Tok) (g : Nat)
    (hs : a.eval (.tmp s) = v) (hx : a.eval (.tmp x) = .slice (some ⟨g, 0, none⟩) 1 1) (hb : w.heap[g]? = some (.cells #[.int .i64 t.k, .int .i64 t.n, .int .i64 (t.p : Int), .string (bs t.x)] 101 (0, 0)))
    (hown : OwnT B w v ts) (hl : ts.length ≤ 1000000) (hB : B ≤ w.heap.size)
    (h : ∀ v' w', OwnT B w' v' (ts ++ [t]) → Below B w w' → wpList Tryz.prog ops Q rest (a.put dst v') w') :
    wpList Tryz.prog ops Q (⟨dst, .call { callee := .builtin .append, args := #[.tmp s, .tmp x], argTypes := #[63, 63] }, ty, pos, after, none⟩ :: rest) a w := by
  obtain ⟨i0, hi, hz0, hz1, hz2⟩ := info_parts info_tok
  refine wpList_append_own w rfl (.tmp s) (.tmp x) 63 rfl B 101 i0 _ 4 40 Tryz.underlying63 hi hz0 hz1 hz2 rfl (by decide) v ts.length (tcells ts) hs hown ⟨g, 0, none⟩ 1 1 (tcell t) hx rfl ?_ ?_ (by unfold maxLen; omega) (by omega) hB ?_
  · intro j u hj
    have := cell4 hb
    match j, hj with
    | 0, hj => simp [tcell] at hj; subst hj; simpa [Addr.add] using this.1
    | 1, hj => simp [tcell] at hj; subst hj; simpa [Addr.add] using this.2.1
    | 2, hj => simp [tcell] at hj; subst hj; simpa [Addr.add] using this.2.2.1
    | 3, hj => simp [tcell] at hj; subst hj; simpa [Addr.add] using this.2.2.2.1
    | n + 4, hj => simp [tcell] at hj
  · intro u hu
    simp [tcell] at hu
    rcases hu with rfl | rfl | rfl | rfl <;> rfl
  · intro v' w' ho hg _
    refine h v' w' ?_ (Below.grown (Below.refl B w) hg hB (fun k hk => (World.ownsRow.lt hown k hk).1))
    unfold OwnT
    rw [List.length_append, show tcells (ts ++ [t]) = tcells ts ++ tcell t by simp [tcells]]
    exact ho
def ToksB (B : Nat) (w : World) (v : Value) (ts : List Lx.Tok) : Prop :=
  ∃ (a : Option Addr) (cap : Nat), v = .slice a ts.length cap ∧ ts.length ≤ cap ∧ cap ≤ 9223372036854775807 ∧ (ts = [] ∨ ∃ b off, a = some ⟨b, off, none⟩ ∧ b < B ∧
    ∀ i (h : i < ts.length), w.cell? ⟨b, off + i * 4, none⟩ = some (.int .i64 ts[i].k) ∧ w.cell? ⟨b, off + i * 4 + 1, none⟩ = some (.int .i64 ts[i].n) ∧ w.cell? ⟨b, off + i * 4 + 2, none⟩ = some (.int .i64 (ts[i].p : Int)) ∧ w.cell? ⟨b, off + i * 4 + 3, none⟩ = some (.string (bs ts[i].x)))
theorem ToksB.kept {B C : Nat} {w w' : World} {v : Value} {ts : List Lx.Tok} (h : ToksB B w v ts) (hb : Below C w w') (hC : B ≤ C) : ToksB B w' v ts := by
  obtain ⟨a, cap, h1, h2, h3, h4⟩ := h
  refine ⟨a, cap, h1, h2, h3, ?_⟩
  rcases h4 with h4 | ⟨b, off, e, hB, h⟩
  · exact .inl h4
  · refine .inr ⟨b, off, e, hB, fun i hi => ?_⟩
    have k : ∀ o, w'.cell? ⟨b, o, none⟩ = w.cell? ⟨b, o, none⟩ := fun o => hb.cell (p := ⟨b, o, none⟩) (by show b < C; omega)
    rw [k, k, k, k]
    exact h i hi
theorem ToksB.mono {B C : Nat} {w : World} {v : Value} {ts : List Lx.Tok} (h : ToksB B w v ts) (hC : B ≤ C) : ToksB C w v ts := by
  obtain ⟨a, cap, h1, h2, h3, h4⟩ := h
  refine ⟨a, cap, h1, h2, h3, ?_⟩
  rcases h4 with h4 | ⟨b, off, e, hB, h⟩
  · exact .inl h4
  · exact .inr ⟨b, off, e, by omega, h⟩
theorem tcells_get (ts : List Lx.Tok) (i : Nat) (h : i < ts.length) (j : Nat) (hj : j < 4) : (tcells ts)[i * 4 + j]? = (tcell ts[i])[j]? := by
  induction ts generalizing i with
  | nil => simp at h
  | cons t ts ih =>
    have e : tcells (t :: ts) = tcell t ++ tcells ts := rfl
    have l : (tcell t).length = 4 := rfl
    rw [e]
    cases i with
    | zero => rw [List.getElem?_append_left (by omega)]; simp
    | succ i =>
      rw [List.getElem?_append_right (by omega), l, show (i + 1) * 4 + j - 4 = i * 4 + j by omega]
      rw [ih i (by simpa using h)]; rfl
theorem OwnT.toks {B : Nat} {w : World} {v : Value} {ts : List Lx.Tok} (h : OwnT B w v ts) : ToksB w.heap.size w v ts := by
  rcases h.2 with ⟨rfl, h0⟩ | ⟨g, cap, cur, rfl, hb, hg, h1, h2, h3, h4⟩
  · have : ts = [] := List.eq_nil_of_length_eq_zero h0
    subst this
    exact ⟨none, 0, rfl, Nat.le_refl _, by decide, .inl rfl⟩
  · refine ⟨_, cap, rfl, h1, by unfold maxLen at h2; omega, .inr ⟨g, 0, rfl, (Array.getElem?_eq_some_iff.1 hg).1, fun i hi => ?_⟩⟩
    have k : ∀ j (hj : j < 4), w.cell? ⟨g, 0 + i * 4 + j, none⟩ = (tcell ts[i])[j]? := fun j hj => by
      have t := tcells_get ts i hi j hj
      have u : ∃ u, (tcell ts[i])[j]? = some u := ⟨_, List.getElem?_eq_getElem (show j < (tcell ts[i]).length from hj)⟩
      obtain ⟨u, hu⟩ := u
      rw [hu] at t ⊢
      have c := World.ownsRow.cells h (g := g) rfl (i * 4 + j) u t
      rw [Addr.add_mid, Nat.zero_add] at c
      rw [Nat.zero_add]
      exact c
    exact ⟨k 0 (by decide), k 1 (by decide), k 2 (by decide), k 3 (by decide)⟩
theorem ToksB.len {B : Nat} {w : World} {v : Value} {ts : List Lx.Tok} (h : ToksB B w v ts) : ∃ a cap, v = .slice a ts.length cap ∧ ts.length ≤ cap ∧ cap ≤ 9223372036854775807 := by
  obtain ⟨a, cap, h1, h2, h3, _⟩ := h
  exact ⟨a, cap, h1, h2, h3⟩
theorem drop_data (s : ByteArray) (k : Nat) : (s.extract k s.size).data.toList = s.data.toList.drop k := by
  rw [Lib.extract_data, List.take_of_length_le (by rw [List.length_drop, size_len]; omega)]
namespace Lx
theorem act_ws {c : UInt8} {t : List UInt8} (h : ws c = true) : act c t = .skip 0 := if_pos h
theorem act_semi {t : List UInt8} : act 59 t = .skip t.length := rfl
theorem act_open {t : List UInt8} : act 40 t = if Lib.indexByte t 41 = -1 then .bad else .skip ((Lib.indexByte t 41).toNat + 1) := rfl
theorem act_first {c : UInt8} {t : List UInt8} (h : ws c = false) (h1 : c ≠ 59) (h2 : c ≠ 40) : act c t = if (fst (c :: t)).m = 0 then .bad else .tok (fst (c :: t)) := by
  unfold act; rw [if_neg (by rw [h]; decide), if_neg h1, if_neg h2]
theorem index_open (t : List UInt8) : Lib.indexByte (40 :: t) 41 = if Lib.indexByte t 41 = -1 then -1 else Lib.indexByte t 41 + 1 := by
  have e : Lib.indexByte (40 :: t) 41 = if Lib.indexByte t 41 == -1 then -1 else Lib.indexByte t 41 + 1 := rfl
  rw [e]
  by_cases h : Lib.indexByte t 41 = -1
  · rw [h]; rfl
  · rw [if_neg h, if_neg (by simpa using h)]
theorem index_le (t : List UInt8) (c : UInt8) : Lib.indexByte t c < t.length := by
  induction t with
  | nil => unfold Lib.indexByte; simp
  | cons b t ih =>
    unfold Lib.indexByte
    simp only [List.length_cons]
    split
    · omega
    · split
      · omega
      · omega
end Lx
end Go.Proofs.YtbcbnkapipimmaaGreatDoor
set_option linter.unusedVariables false
set_option linter.unusedSimpArgs false
namespace Go.Proofs.YtbcbnkapipimmaaGreatDoor
open Go.RowKit
theorem two_new (w : World) (o : Obj) (cs : Array Value) (t : TypeId) : ((w.alloc o).alloc (.cells cs t)).heap[w.heap.size + 1]? = some (.cells cs t (0, 0)) := by
  have := Bx.new (w.alloc o) cs t
  simp only [Bx] at this
  rw [show (w.alloc o).heap.size = w.heap.size + 1 by simp] at this
  exact this
theorem le_two {wr w1 : World} {B : Nat} (hs : B ≤ wr.heap.size) (q : Qw wr w1) {o1 o2 : Obj} : B ≤ ((w1.alloc o1).alloc o2).heap.size := by
  have := q.size
  simp; omega
theorem after_append {w wr w1 w2 : World} {B : Nat} (hB : Below B w wr) (hs : B ≤ wr.heap.size) (q : Qw wr w1) {o1 o2 : Obj} (hb : Below B ((w1.alloc o1).alloc o2) w2) : Below B w w2 ∧ B ≤ w2.heap.size := by
  have h1 := q.size
  have h2 := hb.size
  have h3 := @le_two wr w1 B hs q o1 o2
  refine ⟨(((hB.trans (q.mono hs)).alloc (by omega) _).alloc (by simp; omega) _).trans hb, by omega⟩
def LexK (B : Nat) (l : List UInt8) (w : World) (tv av : Value) (wr : World) (k : Nat) (ts : List Lx.Tok) : Prop :=
  Lx.At l k ts ∧ OwnT B wr tv ts ∧ Below B w wr ∧ B ≤ wr.heap.size ∧ av = .int .i64 (k : Int)
set_option maxRecDepth 100000 in
set_option maxHeartbeats 2000000 in
theorem lxTokens (s : ByteArray) (hs : s.size ≤ 1000000) (w : World) (ht : Tn w) :
    Calls Tryz.prog 39 #[.string s] w fun e w' => (∃ v, e = .returned (.tuple #[v, .int .i64 (Lx.tat s.data.toList : Int), .int .i64 (Lx.ter s.data.toList)]) ∧ ToksB w'.heap.size w' v (Lx.tks s.data.toList)) ∧ Qw w w' := by
  have sl := size_len s
  have SL := Lib.hid sl
  have HT := Lib.hid ht
  have ix := fun k w => stIndexByte (s.extract k s.size) 41 w
  simp only [drop_data, show (Int.toNat 41).toUInt8 = 41 from rfl] at ix
  have fs := fun k (h : k < s.size) w ht => lxFirst (s.extract k s.size) (by simp; unfold maxLen; omega) (by simp; omega) w ht
  simp only [drop_data] at fs
  have IX := Lib.hid ix
  have FS := Lib.hid fs
  clear ix fs sl ht
  go_enter Tryz.func39, Tryz.ntmps39
  go_wp2
  go_step3
  go_wp2
  go_step3
  go_wp2
  go_loopw [5, 6] (fun tv av wr => ∃ k ts, LexK w.heap.size s.data.toList w tv av wr k ts) (fun _ av _ => s.size - (intOf av).toNat)
  case atStart => exact ⟨0, [], Lx.At.start _, OwnT.nil _ _, Below.refl _ _, Nat.le_refl _, rfl⟩
  case round =>
    obtain ⟨k, ts, hA, hO, hB, hBs, rfl⟩ := hrel
    have hk : k ≤ s.size := by have := hA.1; have := SL.out; omega
    have AT := Lib.hid hA
    have OW := Lib.hid hO
    have BL := Lib.hid hB
    have tl := hA.2.1
    clear hA hO hB
    by_cases hlt : k < s.size
    · have gl : s.data.toList[k]'(by have := SL.out; omega) = s[k] := rfl
      have dl : s.data.toList.drop k = s[k] :: s.data.toList.drop (k + 1) := by rw [← gl]; exact List.drop_eq_getElem_cons _
      have tlen : (s.data.toList.drop (k + 1)).length = s.size - (k + 1) := by rw [List.length_drop, SL.out]
      have A2 : Hid (∀ a, Lx.act s[k] (s.data.toList.drop (k + 1)) = a → Lx.act (s.data.toList[k]'(by have := SL.out; omega)) (s.data.toList.drop (k + 1)) = a) := Lib.hid fun a h => by rw [gl]; exact h
      by_cases hw : s[k] = 32 ∨ s[k] = 9 ∨ s[k] = 13
      · have N := Lib.hid (AT.out.skip (by have := SL.out; omega) (A2.out _ (Lx.act_ws (by unfold Lx.ws; rcases hw with h | h | h <;> rw [h] <;> rfl))) (by have := SL.out; omega))
        clear dl tlen A2 gl
        rcases hw with h | h | h
        · have b : (s[k].toNat : Int) = 32 := by rw [h]; rfl
          clear h
          go_wp2
          go_roundw
          case rel => exact ⟨k + 1, ts, N.out, OW.out, BL.out, hBs, by go_num⟩
          case measure => simp [intOf]; omega
        · have b : (s[k].toNat : Int) = 9 := by rw [h]; rfl
          clear h
          go_wp2
          go_roundw
          case rel => exact ⟨k + 1, ts, N.out, OW.out, BL.out, hBs, by go_num⟩
          case measure => simp [intOf]; omega
        · have b : (s[k].toNat : Int) = 13 := by rw [h]; rfl
          clear h
          go_wp2
          go_roundw
          case rel => exact ⟨k + 1, ts, N.out, OW.out, BL.out, hBs, by go_num⟩
          case measure => simp [intOf]; omega
      · by_cases h59 : s[k] = 59
        · have N := AT.out.skip (by have := SL.out; omega) (A2.out _ (by rw [h59]; exact Lx.act_semi)) (by have := SL.out; omega)
          have F := Lib.hid (N.fin (by have := SL.out; omega))
          have b : (s[k].toNat : Int) = 59 := by rw [h59]; rfl
          clear N dl tlen A2 gl hw h59
          go_wp2
          try rw [Exit.noGoto_ret]
          go_ret3
          exact ⟨⟨u5, by rw [F.out.2.1, F.out.2.2, SL.out]; try rfl, by rw [F.out.1]; exact OW.out.toks⟩, BL.out⟩
        · by_cases h40 : s[k] = 40
          · have b : (s[k].toNat : Int) = 40 := by rw [h40]; rfl
            have ao : Lx.act s[k] (s.data.toList.drop (k + 1)) = (if Lib.indexByte (s.data.toList.drop (k + 1)) 41 = -1 then .bad else .skip ((Lib.indexByte (s.data.toList.drop (k + 1)) 41).toNat + 1)) := by rw [h40]; exact Lx.act_open
            have ixk := IX.out k
            rw [dl, h40, Lx.index_open] at ixk
            have il := Lx.index_le (s.data.toList.drop (k + 1)) 41
            have ig := Lib.indexByte_ge (s.data.toList.drop (k + 1)) 41
            generalize Lib.indexByte (s.data.toList.drop (k + 1)) 41 = I at *
            by_cases hI : I = -1
            · rw [if_pos hI] at ao
              rw [if_pos hI] at ixk
              have F := Lib.hid (AT.out.bad (by have := SL.out; omega) (A2.out _ ao))
              have IK := Lib.hid ixk
              clear ixk ao dl tlen A2 gl hw h59 h40 hI il ig
              go_wp2_with (go_at_call 74; ((with_reducible refine (IK.out _).mono ?_); rintro e w' ⟨rfl, rfl⟩))
              try rw [Exit.noGoto_ret]
              go_ret3
              exact ⟨⟨.slice none 0 0, by rw [F.out.2.1, F.out.2.2]; try rfl, by rw [F.out.1]; exact (OwnT.nil wr.heap.size wr).toks⟩, BL.out⟩
            · rw [if_neg hI] at ao
              rw [if_neg hI] at ixk
              obtain ⟨J, rfl⟩ : ∃ J : Nat, I = J := ⟨I.toNat, by omega⟩
              have jl : k + 1 + (J + 1) ≤ s.size := by omega
              rw [Int.toNat_natCast] at ao
              have N := Lib.hid (AT.out.skip (by have := SL.out; omega) (A2.out _ ao) (by have := SL.out; omega))
              have IK := Lib.hid ixk
              clear ixk ao dl tlen A2 gl hw h59 h40 hI il ig
              go_wp2_with (go_at_call 74; ((with_reducible refine (IK.out _).mono ?_); rintro e w' ⟨rfl, rfl⟩))
              go_roundw
              case rel => exact ⟨k + 1 + (J + 1), ts, N.out, OW.out, BL.out, hBs, by go_num⟩
              case measure => simp [intOf]; omega
          · have wsf : Lx.ws s[k] = false := by
              unfold Lx.ws
              rw [show (s[k] == 32) = false from beq_eq_false_iff_ne.2 (fun h => hw (.inl h)), show (s[k] == 9) = false from beq_eq_false_iff_ne.2 (fun h => hw (.inr (.inl h))), show (s[k] == 13) = false from beq_eq_false_iff_ne.2 (fun h => hw (.inr (.inr h)))]
              rfl
            have af := Lx.act_first (t := s.data.toList.drop (k + 1)) wsf h59 h40
            rw [← dl] at af
            have fk := FS.out k hlt wr (HT.out.kept BL.out)
            have fl := Lx.fst_le (s.data.toList.drop k) (by rw [dl]; simp)
            rw [List.length_drop, SL.out] at fl
            have nb : ∀ n : UInt8, s[k] ≠ n → ((s[k].toNat : Int) == (n.toNat : Int)) = false := fun n h => beq_eq_false_iff_ne.2 (fun e => h (UInt8.toNat_inj.1 (by omega)))
            have b1 : ((s[k].toNat : Int) == 32) = false := nb 32 (fun h => hw (.inl h))
            have b2 : ((s[k].toNat : Int) == 9) = false := nb 9 (fun h => hw (.inr (.inl h)))
            have b3 : ((s[k].toNat : Int) == 13) = false := nb 13 (fun h => hw (.inr (.inr h)))
            have b4 : ((s[k].toNat : Int) == 59) = false := nb 59 h59
            have b5 : ((s[k].toNat : Int) == 40) = false := nb 40 h40
            generalize Lx.fst (s.data.toList.drop k) = f at *
            unfold fv at fk
            have FK := Lib.hid fk
            by_cases hm : f.m = 0
            · rw [if_pos hm] at af
              have F := Lib.hid (AT.out.bad (by have := SL.out; omega) (A2.out _ af))
              have mz : ((f.m : Int) == 0) = true := by rw [hm]; rfl
              clear af fk wsf nb dl tlen A2 gl hw h59 h40 hm
              go_wp2_with (go_at_call 75; ((with_reducible refine FK.out.mono ?_); rintro e w1 ⟨rfl, q1⟩; have Q1 := Lib.hid q1; clear q1))
              try rw [Exit.noGoto_ret]
              go_ret3
              exact ⟨⟨.slice none 0 0, by rw [F.out.2.1, F.out.2.2]; try rfl, by rw [F.out.1]; exact (OwnT.nil 0 _).toks⟩, (BL.out.trans (Q1.out.mono hBs)).alloc (by have := Q1.out.size; omega) _⟩
            · rw [if_neg hm] at af
              have N := Lib.hid (AT.out.tok (by have := SL.out; omega) (A2.out _ af) (by omega) (by have := SL.out; omega))
              have mz : ((f.m : Int) == 0) = false := beq_eq_false_iff_ne.2 (by omega)
              clear af fk wsf nb dl tlen A2 gl hw h59 h40
              go_wp2_with (first | (go_at_call 75; ((with_reducible refine FK.out.mono ?_); rintro e w1 ⟨rfl, q1⟩; have Q1 := Lib.hid q1; clear q1)) | (at_builtin; refine tok_append 50 52 ⟨f.k, f.n, k, f.x⟩ w.heap.size u5 ts (w1.heap.size + 1) (by rfl) (by rfl) (two_new w1 _ _ _) (World.ownsRow.alloc (World.ownsRow.alloc (OW.out.kept Q1.out) _) _) (by omega) (le_two hBs Q1.out) ?_; intro v' w2 ho hb; have HO := Lib.hid ho; have hx := after_append BL.out hBs Q1.out hb; have HB := Lib.hid hx.1; have zb := hx.2; clear hx; clear ho hb))
              go_roundw
              case rel => exact ⟨k + f.m, ts ++ [⟨f.k, f.n, k, f.x⟩], N.out, HO.out, HB.out, zb, by go_num⟩
              case measure => simp [intOf]; omega
    · obtain rfl : k = s.size := by omega
      have f := Lib.hid (AT.out.fin (by have := SL.out; omega))
      go_wp2
      try rw [Exit.noGoto_ret]
      go_ret3
      exact ⟨⟨u5, by rw [f.out.2.1, f.out.2.2, SL.out]; try rfl, by rw [f.out.1]; exact OW.out.toks⟩, BL.out⟩
end Go.Proofs.YtbcbnkapipimmaaGreatDoor
set_option linter.unusedVariables false
set_option linter.unusedSimpArgs false
namespace Go.Proofs.YtbcbnkapipimmaaGreatDoor
open Go.RowKit
def IntsB (B : Nat) (w : World) (v : Value) (zs : List Int) : Prop :=
  ∃ (a : Option Addr) (cap : Nat), v = .slice a zs.length cap ∧ zs.length ≤ cap ∧ cap ≤ 9223372036854775807 ∧ (zs = [] ∨ ∃ b off, a = some ⟨b, off, none⟩ ∧ b < B ∧
    ∀ i, i < zs.length → w.cell? ⟨b, off + i, none⟩ = some (.int .i64 (zs.getD i 0)) ∧ -9223372036854775808 ≤ zs.getD i 0 ∧ zs.getD i 0 ≤ 9223372036854775807)
theorem IntsB.kept {B C : Nat} {w w' : World} {v : Value} {zs : List Int} (h : IntsB B w v zs) (hb : Below C w w') (hC : B ≤ C) : IntsB B w' v zs := by
  obtain ⟨a, cap, h1, h2, h3, h4⟩ := h
  refine ⟨a, cap, h1, h2, h3, ?_⟩
  rcases h4 with h4 | ⟨b, off, e, hB, h⟩
  · exact .inl h4
  · refine .inr ⟨b, off, e, hB, fun i hi => ?_⟩
    rw [hb.cell (p := ⟨b, off + i, none⟩) (by show b < C; omega)]
    exact h i hi
theorem IntsB.mono {B C : Nat} {w : World} {v : Value} {zs : List Int} (h : IntsB B w v zs) (hC : B ≤ C) : IntsB C w v zs := by
  obtain ⟨a, cap, h1, h2, h3, h4⟩ := h
  refine ⟨a, cap, h1, h2, h3, ?_⟩
  rcases h4 with h4 | ⟨b, off, e, hB, h⟩
  · exact .inl h4
  · exact .inr ⟨b, off, e, by omega, h⟩
theorem IntsB.len {B : Nat} {w : World} {v : Value} {zs : List Int} (h : IntsB B w v zs) : ∃ a cap, v = .slice a zs.length cap ∧ zs.length ≤ 9223372036854775807 := by
  obtain ⟨a, cap, h1, h2, h3, _⟩ := h
  exact ⟨a, cap, h1, by omega⟩
theorem lightF (v : Value) (zs : List Int) (B : Nat) (w : World) (h : IntsB B w v zs) :
    Calls Tryz.prog 18 #[v] w fun e w' => e = .returned (.bool (decide (zs.length ≤ 120))) ∧ w = w' := by
  obtain ⟨a, cap, rfl, _⟩ := h.len
  clear h
  go_enter Tryz.func18, Tryz.ntmps18
  go_wp2
  go_ret
  exact ⟨ret_bl (decide_eq_decide.2 (by omega)), rfl⟩
def TapeAt (w : World) (B : Nat) (v : Value) (zs : List Int) (k : Nat) : Prop :=
  w.heap[B]? = some (.cells #[v, .int .i64 k] 74 (0, 0)) ∧ IntsB B w v zs ∧ k ≤ zs.length
theorem TapeAt.kept {B : Nat} {w w' : World} {v : Value} {zs : List Int} {k : Nat} (h : TapeAt w B v zs k) (q : Qw w w') : TapeAt w' B v zs k := by
  obtain ⟨h1, h2, h3⟩ := h
  have l := lt_of_block h1
  exact ⟨by rw [q.block B l]; exact h1, h2.kept q (by omega), h3⟩
def nxt (zs : List Int) (k : Nat) (n : Int) : Int := if k < zs.length then zs.getD k 0 % n else 0
def adv (zs : List Int) (k : Nat) : Nat := if k < zs.length then k + 1 else k
theorem nxt_bd (zs : List Int) (k : Nat) (n : Int) (h : 1 ≤ n) : 0 ≤ nxt zs k n ∧ nxt zs k n < n := by
  unfold nxt
  split
  · exact ⟨Int.emod_nonneg _ (by omega), Int.emod_lt_of_pos _ (by omega)⟩
  · omega
theorem cells_of_two {w : World} {b : Nat} {x y : Value} {t : TypeId} (h : w.heap[b]? = some (.cells #[x, y] t (0, 0))) :
    w.cell? ⟨b, 0, none⟩ = some x ∧ w.cell? ⟨b, 1, none⟩ = some y ∧ w.frozen? ⟨b, 1, none⟩ = false := by simp [World.cell?, World.frozen?, h]
theorem two_setCell {w : World} {b : Nat} {x y u : Value} {t : TypeId} (h : w.heap[b]? = some (.cells #[x, y] t (0, 0))) : (w.setCell ⟨b, 1, none⟩ u).heap[b]? = some (.cells #[x, u] t (0, 0)) := by
  have hlt := lt_of_block h
  have h' : w.heap[b] = .cells #[x, y] t (0, 0) := by simpa [Array.getElem?_eq_getElem hlt] using h
  show (w.heap.modify b _)[b]? = _
  rw [Array.getElem?_eq_getElem (by simpa using hlt), Array.getElem_modify_self, h']
  rfl
theorem newF (v : Value) (zs : List Int) (w : World) (h : IntsB w.heap.size w v zs) :
    Calls Tryz.prog 20 #[v] w fun e w' => e = .returned (.pointer (some ⟨w.heap.size, 0, none⟩)) ∧ TapeAt w' w.heap.size v zs 0 ∧ Qw w w' := by
  have H := Lib.hid h
  obtain ⟨a, cap, rfl, _⟩ := h.len
  clear h
  go_enter Tryz.func20, Tryz.ntmps20
  go_wp2
  go_ret
  exact ⟨rfl, ⟨by first | exact heap_alloc_new _ _ | simp, H.out.kept (Below.alloc (Below.refl w.heap.size w) (Nat.le_refl _) _) (Nat.le_refl _), Nat.zero_le _⟩, (Below.refl _ _).alloc (Nat.le_refl _) _⟩
end Go.Proofs.YtbcbnkapipimmaaGreatDoor
set_option linter.unusedVariables false
set_option linter.unusedSimpArgs false
namespace Go.Proofs.YtbcbnkapipimmaaGreatDoor
def un : Nat → Int
  | 0 => 100000 | 1 => 10000 | 2 => 1000 | 3 => 100 | 4 => 10 | 5 => 1 | _ => 0
def um : Nat → Int
  | 0 => 1000000 | 1 => 100000 | 2 => 10000 | 3 => 1000 | 4 => 100 | 5 => 10 | _ => 1
theorem k6 {k : Nat} (h : k ≤ 6) : k = 0 ∨ k = 1 ∨ k = 2 ∨ k = 3 ∨ k = 4 ∨ k = 5 ∨ k = 6 := by omega
def dn (f : Int) (k : Nat) : Int := f % um k / un k
def dg (f : Int) (k : Nat) : UInt8 := UInt8.ofNat (48 + dn f k).toNat
def dgs (f : Int) (k : Nat) : List UInt8 := (List.range k).map (dg f)
theorem dgs_succ (f : Int) (k : Nat) : dgs f (k + 1) = dgs f k ++ [dg f k] := by unfold dgs; rw [List.range_succ, List.map_append]; rfl
theorem dgs_length (f : Int) (k : Nat) : (dgs f k).length = k := by unfold dgs; simp
theorem dn_bd (f : Int) (k : Nat) (h : k ≤ 5) : 0 ≤ dn f k ∧ dn f k ≤ 9 := by
  unfold dn
  rcases k6 (show k ≤ 6 by omega) with rfl | rfl | rfl | rfl | rfl | rfl | rfl <;> simp only [um, un] <;> omega
theorem dg_nat (f : Int) (k : Nat) (h : k ≤ 5) : ((dg f k).toNat : Int) = 48 + dn f k := by
  have := dn_bd f k h
  unfold dg
  rw [UInt8.toNat_ofNat']
  omega
theorem un_um (k : Nat) (h : k ≤ 5) : un k = um (k + 1) ∧ 1 ≤ un k ∧ un k ≤ 100000 ∧ um k = 10 * un k := by
  rcases k6 (show k ≤ 6 by omega) with rfl | rfl | rfl | rfl | rfl | rfl | rfl <;> first | decide | omega
theorem un_step (k : Nat) (h : k ≤ 5) : un k / 10 = un (k + 1) := by
  rcases k6 (show k ≤ 6 by omega) with rfl | rfl | rfl | rfl | rfl | rfl | rfl <;> first | decide | omega
theorem mod_step (f : Int) (k : Nat) (h : k ≤ 5) : f % um k % un k = f % um (k + 1) := by
  rcases k6 (show k ≤ 6 by omega) with rfl | rfl | rfl | rfl | rfl | rfl | rfl <;> simp only [um, un] <;> omega
theorem um_pos (k : Nat) : 1 ≤ um k := by
  unfold um; split <;> omega
def kf (f : Int) : Nat := if f % 100000 = 0 then 1 else if f % 10000 = 0 then 2 else if f % 1000 = 0 then 3 else if f % 100 = 0 then 4 else if f % 10 = 0 then 5 else 6
theorem kf_range (f : Int) : 1 ≤ kf f ∧ kf f ≤ 6 := by unfold kf; (repeat' split) <;> omega
theorem kf_eq {f : Int} {k : Nat} (hk : k ≤ 6) (h0 : f % um 0 ≠ 0) (h1 : f % um k = 0) (h2 : ∀ i, i < k → f % um i ≠ 0) : kf f = k := by
  unfold kf
  rcases k6 hk with rfl | rfl | rfl | rfl | rfl | rfl | rfl
  · exact absurd h1 h0
  · simp only [um] at h1; rw [if_pos h1]
  · have a := h2 1 (by omega); simp only [um] at h1 a; rw [if_neg a, if_pos h1]
  · have a := h2 1 (by omega); have b := h2 2 (by omega); simp only [um] at h1 a b; rw [if_neg a, if_neg b, if_pos h1]
  · have a := h2 1 (by omega); have b := h2 2 (by omega); have c := h2 3 (by omega); simp only [um] at h1 a b c; rw [if_neg a, if_neg b, if_neg c, if_pos h1]
  · have a := h2 1 (by omega); have b := h2 2 (by omega); have c := h2 3 (by omega); have d := h2 4 (by omega); simp only [um] at h1 a b c d; rw [if_neg a, if_neg b, if_neg c, if_neg d, if_pos h1]
  · have a := h2 1 (by omega); have b := h2 2 (by omega); have c := h2 3 (by omega); have d := h2 4 (by omega); have e := h2 5 (by omega); simp only [um] at a b c d e; rw [if_neg a, if_neg b, if_neg c, if_neg d, if_neg e]
theorem zero_step (f : Int) (k : Nat) (hk : k ≤ 5) (h : f % um (k + 1) = 0) : (dn f k = 0 → f % um k = 0) ∧ (dn f k ≠ 0 → ∀ i, i < k + 1 → f % um i ≠ 0) := by
  unfold dn
  refine ⟨?_, ?_⟩
  · rcases k6 (show k ≤ 6 by omega) with rfl | rfl | rfl | rfl | rfl | rfl | rfl <;> simp only [um, un] at h ⊢ <;> omega
  · intro hn i hi
    rcases k6 (show k ≤ 6 by omega) with rfl | rfl | rfl | rfl | rfl | rfl | rfl <;> simp only [um, un] at h hn <;>
      rcases k6 (show i ≤ 6 by omega) with rfl | rfl | rfl | rfl | rfl | rfl | rfl <;> simp only [um] <;> omega
def frac (f : Int) : List UInt8 := if f = 0 then [] else 46 :: dgs f (kf f)
def fmtp (n : Int) : List UInt8 := Lib.decDigits (n / 1000000).toNat ++ frac (n % 1000000)
def fmtl (n : Int) : List UInt8 := if vld n = true then (if n < 0 then 45 :: fmtp (-n) else fmtp n) else []
theorem dec_small {u : Nat} (h : u < 10) : Lib.decDigits u = [UInt8.ofNat (48 + u)] := by rw [Lib.decDigits, dif_pos h]
theorem dec_big {u : Nat} (h : ¬ u < 10) : Lib.decDigits u = Lib.decDigits (u / 10) ++ [UInt8.ofNat (48 + u % 10)] := by rw [Lib.decDigits, dif_neg h]
theorem dec_ne (u : Nat) : Lib.decDigits u ≠ [] := by
  by_cases h : u < 10
  · rw [dec_small h]; simp
  · rw [dec_big h]; simp
theorem dec_len (k u : Nat) (h : u < 10 ^ (k + 1)) : (Lib.decDigits u).length ≤ k + 1 := by
  induction k generalizing u with
  | zero => rw [dec_small (by simpa using h)]; simp
  | succ k ih =>
    by_cases c : u < 10
    · rw [dec_small c]; simp
    · rw [dec_big c, List.length_append]
      have := ih (u / 10) (by rw [Nat.pow_succ] at h; omega)
      simp; omega
theorem dec_seven (f : Int) (h0 : 0 ≤ f) (h1 : f < 1000000) : Lib.decDigits (1000000 + f).toNat = 49 :: dgs f 6 := by
  obtain ⟨n, rfl⟩ := Int.eq_ofNat_of_zero_le h0
  have e : (1000000 + (n : Int)).toNat = 1000000 + n := by omega
  have d0 : dg (n : Int) 0 = UInt8.ofNat (48 + (1000000 + n) / 100000 % 10) := by unfold dg dn; congr 1; simp only [um, un]; omega
  have d1 : dg (n : Int) 1 = UInt8.ofNat (48 + (1000000 + n) / 10000 % 10) := by unfold dg dn; congr 1; simp only [um, un]; omega
  have d2 : dg (n : Int) 2 = UInt8.ofNat (48 + (1000000 + n) / 1000 % 10) := by unfold dg dn; congr 1; simp only [um, un]; omega
  have d3 : dg (n : Int) 3 = UInt8.ofNat (48 + (1000000 + n) / 100 % 10) := by unfold dg dn; congr 1; simp only [um, un]; omega
  have d4 : dg (n : Int) 4 = UInt8.ofNat (48 + (1000000 + n) / 10 % 10) := by unfold dg dn; congr 1; simp only [um, un]; omega
  have d5 : dg (n : Int) 5 = UInt8.ofNat (48 + (1000000 + n) / 1 % 10) := by unfold dg dn; congr 1; simp only [um, un]; omega
  rw [e, dec_big (by omega), dec_big (by omega), dec_big (by omega), dec_big (by omega), dec_big (by omega), dec_big (by omega), dec_small (by omega)]
  rw [show dgs (n : Int) 6 = [dg n 0, dg n 1, dg n 2, dg n 3, dg n 4, dg n 5] from rfl, d0, d1, d2, d3, d4, d5]
  simp only [List.cons_append, List.nil_append, List.append_assoc]
  have q : (1000000 + n) / 10 / 10 / 10 / 10 / 10 / 10 = 1 := by omega
  have g0 : (1000000 + n) / 10 / 10 / 10 / 10 / 10 % 10 = (1000000 + n) / 100000 % 10 := by omega
  have g1 : (1000000 + n) / 10 / 10 / 10 / 10 % 10 = (1000000 + n) / 10000 % 10 := by omega
  have g2 : (1000000 + n) / 10 / 10 / 10 % 10 = (1000000 + n) / 1000 % 10 := by omega
  have g3 : (1000000 + n) / 10 / 10 % 10 = (1000000 + n) / 100 % 10 := by omega
  have g4 : (1000000 + n) / 10 % 10 = (1000000 + n) / 10 % 10 := by omega
  have g5 : (1000000 + n) % 10 = (1000000 + n) / 1 % 10 := by omega
  rw [q, g0, g1, g2, g3, g4, g5]
  rfl
end Go.Proofs.YtbcbnkapipimmaaGreatDoor
set_option linter.unusedVariables false
set_option linter.unusedSimpArgs false
namespace Go.Proofs
open Go.Shelf
def Tryz.laysM176_ren : Go.Shelf.Ren := ⟨fun | 176 => 155 | 249 => 175 | 288 => 184 | 283 => 150 | 284 => 151 | 285 => 152 | 286 => 153 | 129 => 171 | 317 => 170 | 318 => 172 | 319 => 173 | 320 => 174 | 337 => 182 | 338 => 183 | n => n, fun | 37 => 59 | 2 => 2 | 3 => 3 | 53 => 136 | 4 => 4 | 9 => 9 | 171 => 135 | 0 => 0 | 173 => 139 | 212 => 152 | 51 => 153 | 5 => 5 | 20 => 20 | 213 => 154 | 46 => 155 | 232 => 162 | 233 => 163 | n => n, fun | 17 => 3 | 18 => 4 | 19 => 5 | n => n⟩
theorem Tryz.laysM176 : Go.Proofs.LaysM.n176 Tryz.prog Tryz.laysM176_ren := {
  mixed := by kernel_rfl
  f129 := Tryz.func171.trans (congrArg some (by kernel_rfl))
  f176 := Tryz.func155.trans (congrArg some (by kernel_rfl))
  f249 := Tryz.func175.trans (congrArg some (by kernel_rfl))
  f283 := Tryz.func150.trans (congrArg some (by kernel_rfl))
  f284 := Tryz.func151.trans (congrArg some (by kernel_rfl))
  f285 := Tryz.func152.trans (congrArg some (by kernel_rfl))
  f286 := Tryz.func153.trans (congrArg some (by kernel_rfl))
  f288 := Tryz.func184.trans (congrArg some (by kernel_rfl))
  f317 := Tryz.func170.trans (congrArg some (by kernel_rfl))
  f318 := Tryz.func172.trans (congrArg some (by kernel_rfl))
  f319 := Tryz.func173.trans (congrArg some (by kernel_rfl))
  f320 := Tryz.func174.trans (congrArg some (by kernel_rfl))
  f337 := Tryz.func182.trans (congrArg some (by kernel_rfl))
  f338 := Tryz.func183.trans (congrArg some (by kernel_rfl))
  t0 := Tryz.underlying0
  a0 := Tryz.isAgg0
  z0 := Tryz.sizeOf0
  v0 := Tryz.zeroValue0
  t2 := Tryz.underlying2
  a2 := Tryz.isAgg2
  z2 := Tryz.sizeOf2
  v2 := Tryz.zeroValue2
  t3 := Tryz.underlying3
  a3 := Tryz.isAgg3
  z3 := Tryz.sizeOf3
  v3 := Tryz.zeroValue3
  t4 := Tryz.underlying4
  a4 := Tryz.isAgg4
  z4 := Tryz.sizeOf4
  v4 := Tryz.zeroValue4
  t5 := Tryz.underlying5
  a5 := Tryz.isAgg5
  z5 := Tryz.sizeOf5
  v5 := Tryz.zeroValue5
  t9 := Tryz.underlying9
  a9 := Tryz.isAgg9
  z9 := Tryz.sizeOf9
  v9 := Tryz.zeroValue9
  t20 := Tryz.underlying20
  a20 := Tryz.isAgg20
  z20 := Tryz.sizeOf20
  v20 := Tryz.zeroValue20
  t37 := Tryz.underlying59
  a37 := Tryz.isAgg59
  z37 := Tryz.sizeOf59
  v37 := Tryz.zeroValue59
  t46 := Tryz.underlying155
  a46 := Tryz.isAgg155
  z46 := Tryz.sizeOf155
  v46 := Tryz.zeroValue155
  t51 := Tryz.underlying153
  a51 := Tryz.isAgg153
  z51 := Tryz.sizeOf153
  v51 := Tryz.zeroValue153
  t53 := Tryz.underlying136
  a53 := Tryz.isAgg136
  z53 := Tryz.sizeOf136
  v53 := Tryz.zeroValue136
  t171 := Tryz.underlying135
  a171 := Tryz.isAgg135
  z171 := Tryz.sizeOf135
  v171 := Tryz.zeroValue135
  t173 := Tryz.underlying139
  a173 := Tryz.isAgg139
  z173 := Tryz.sizeOf139
  v173 := Tryz.zeroValue139
  t212 := Tryz.underlying152
  a212 := Tryz.isAgg152
  z212 := Tryz.sizeOf152
  v212 := Tryz.zeroValue152
  t213 := Tryz.underlying154
  a213 := Tryz.isAgg154
  z213 := Tryz.sizeOf154
  t232 := Tryz.underlying162
  a232 := Tryz.isAgg162
  z232 := Tryz.sizeOf162
  v232 := Tryz.zeroValue162
  t233 := Tryz.underlying163
  a233 := Tryz.isAgg163
  z233 := Tryz.sizeOf163
  v233 := Tryz.zeroValue163
  g17 := by kernel_rfl
  g18 := by kernel_rfl
  g19 := by kernel_rfl
  i0 := by kernel_rfl
  i2 := by kernel_rfl
  i3 := by kernel_rfl
  i4 := by kernel_rfl
  i5 := by kernel_rfl
  i9 := by kernel_rfl
  i20 := by kernel_rfl
  i37 := by kernel_rfl
  i46 := by kernel_rfl
  i51 := by kernel_rfl
  i53 := by kernel_rfl
  i171 := by kernel_rfl
  i173 := by kernel_rfl
  i212 := by kernel_rfl
  i232 := by kernel_rfl
  i233 := by kernel_rfl
  m17 := by kernel_rfl
  m18 := by kernel_rfl
  m19 := by kernel_rfl }
open Go.RowKit Go.Sort Go.Lib in
theorem Tryz.strconv_AppendInt_10 (B n : Nat) (i : Int) (h0 : -9223372036854775808 ≤ i) (h1 : i ≤ 9223372036854775807) (sv : Value) (xs : List Value) (w : World) (hown : w.ownsRow B 5 1 sv n xs) (hBw : B ≤ w.heap.size) (hlim : n + 21 ≤ 140737488355328) (htab : Lib.TabBelow Tryz.prog B w "internal/strconv.uint64pow10" .u64 Lib.pow10Tab) :
    Calls Tryz.prog 155 #[sv, .int .i64 i, .int .i64 10] w fun e w' => ∃ v', e = .returned v' ∧ w'.ownsRow B 5 1 v' (n + (Lib.itoa i).length) (xs ++ Lib.byteCells (Lib.itoa i)) ∧ Below B w w' ∧ Lib.OthersKept 5 none w w' := Any.strconv_AppendInt_10 Tryz.laysM176 B n i h0 h1 sv xs w hown hBw hlim htab
end Go.Proofs

