import Derived.Test.YthfcimfoinidbaaDoorZd0
import Derived.Test.YthfcimfoinidbaaDoorZd1
import Derived.Test.YthfcimfoinidbaaDoorRows
import Derived.OwnWalk
import Derived.Outline
import Derived.WalkMore
import Derived.Shelf.Small.Bits
import Derived.Shelf.Strconv.Itoa0
import Derived.Shelf.Strconv.Itoa1
import Derived.Shelf.LaysM
import Derived.Shelf.Strconv.Itoa2
import Derived.Shelf.Strconv.AppendUint10
import Derived.Shelf.Strconv.AppendInt10
import Derived.Shelf.Strconv.AppendIntPublic10
import Derived.Shelf.Bits.Mul64
import Derived.WalkSmall
import Derived.Laws.IdiomStrings
set_option linter.unusedVariables false
set_option linter.unusedSimpArgs false
namespace Go.Proofs.YthfcimfoinidbaaDoor
open Go.RowKit
def tcell (t : Lx.Tok) : List Value := [.int .i64 t.k, .int .i64 t.n, .int .i64 (t.p : Int), .string (bs t.x)]
def tcells (ts : List Lx.Tok) : List Value := ts.flatMap tcell
def OwnT (B : Nat) (w : World) (v : Value) (ts : List Lx.Tok) : Prop := w.ownsRow B 68 4 v ts.length (tcells ts)
theorem OwnT.nil (B : Nat) (w : World) : OwnT B w (.slice none 0 0) [] := World.ownsRow_nil w _ _ _
theorem OwnT.kept {B : Nat} {w w' : World} {v : Value} {ts : List Lx.Tok} (h : OwnT B w v ts) (q : Qw w w') : OwnT B w' v ts :=
  World.ownsRow.kept h (row := none) ⟨q.os, q.tape, q.output, q.size, fun k hk _ => q.block k hk⟩ (by cases hv : v.ownBlock <;> simp)
theorem info_tok : (Tryd.prog.info? 68).map (fun i => (i.zero, i.size, i.bytes)) = some (some (.agg #[.int .i64 0, .int .i64 0, .int .i64 0, .string ⟨#[]⟩]), 4, 40) := by kernel_rfl
theorem tok_append {ops : Array Oper} {rest : List Oper} {dst : Option Tmp} {ty : TypeId} {pos : String} {after : Array Edge} {a : Act} {w : World} {Q : Exit → Act → World → Prop} (s x : Tmp) (t : Lx.Tok) (B : Nat) (v : Value) (ts : List Lx.Tok) (g : Nat)
    (hs : a.eval (.tmp s) = v) (hx : a.eval (.tmp x) = .slice (some ⟨g, 0, none⟩) 1 1) (hb : w.heap[g]? = some (.cells #[.int .i64 t.k, .int .i64 t.n, .int .i64 (t.p : Int), .string (bs t.x)] 68 (0, 0)))
    (hown : OwnT B w v ts) (hl : ts.length ≤ 1000000) (hB : B ≤ w.heap.size)
    (h : ∀ v' w', OwnT B w' v' (ts ++ [t]) → Below B w w' → wpList Tryd.prog ops Q rest (a.put dst v') w') :
    wpList Tryd.prog ops Q (⟨dst, .call { callee := .builtin .append, args := #[.tmp s, .tmp x], argTypes := #[48, 48] }, ty, pos, after, none⟩ :: rest) a w := by
  obtain ⟨i0, hi, hz0, hz1, hz2⟩ := info_parts info_tok
  refine wpList_append_own w rfl (.tmp s) (.tmp x) 48 rfl B 68 i0 _ 4 40 Tryd.underlying48 hi hz0 hz1 hz2 rfl (by decide) v ts.length (tcells ts) hs hown ⟨g, 0, none⟩ 1 1 (tcell t) hx rfl ?_ ?_ (by unfold maxLen; omega) (by omega) hB ?_
  · intro j u hj
    have := cell4 hb
    match j, hj with
    | 0, hj => simp [tcell] at hj; subst hj; simpa [Addr.add] using this.1
    | 1, hj => simp [tcell] at hj; subst hj; simpa [Addr.add] using this.2.1
    | 2, hj => simp [tcell] at hj; subst hj; simpa [Addr.add] using this.2.2.1
    | 3, hj => simp [tcell] at hj; subst hj; simpa [Addr.add] using this.2.2.2.1
    | n + 4, hj => simp [tcell] at hj
  · intro u hu
    simp [tcell] at hu
    rcases hu with rfl | rfl | rfl | rfl <;> rfl
  · intro v' w' ho hg _
    refine h v' w' ?_ (Below.grown (Below.refl B w) hg hB (fun k hk => (World.ownsRow.lt hown k hk).1))
    unfold OwnT
    rw [List.length_append, show tcells (ts ++ [t]) = tcells ts ++ tcell t by simp [tcells]]
    exact ho
def ToksB (B : Nat) (w : World) (v : Value) (ts : List Lx.Tok) : Prop :=
  ∃ (a : Option Addr) (cap : Nat), v = .slice a ts.length cap ∧ ts.length ≤ cap ∧ cap ≤ 9223372036854775807 ∧ (ts = [] ∨ ∃ b off, a = some ⟨b, off, none⟩ ∧ b < B ∧
    ∀ i (h : i < ts.length), w.cell? ⟨b, off + i * 4, none⟩ = some (.int .i64 ts[i].k) ∧ w.cell? ⟨b, off + i * 4 + 1, none⟩ = some (.int .i64 ts[i].n) ∧ w.cell? ⟨b, off + i * 4 + 2, none⟩ = some (.int .i64 (ts[i].p : Int)) ∧ w.cell? ⟨b, off + i * 4 + 3, none⟩ = some (.string (bs ts[i].x)))
theorem ToksB.kept {B C : Nat} {w w' : World} {v : Value} {ts : List Lx.Tok} (h : ToksB B w v ts) (hb : Below C w w') (hC : B ≤ C) : ToksB B w' v ts := by
  obtain ⟨a, cap, h1, h2, h3, h4⟩ := h
  refine ⟨a, cap, h1, h2, h3, ?_⟩
  rcases h4 with h4 | ⟨b, off, e, hB, h⟩
  · exact .inl h4
  · refine .inr ⟨b, off, e, hB, fun i hi => ?_⟩
    have k : ∀ o, w'.cell? ⟨b, o, none⟩ = w.cell? ⟨b, o, none⟩ := fun o => hb.cell (p := ⟨b, o, none⟩) (by show b < C; omega)
    rw [k, k, k, k]
    exact h i hi
theorem ToksB.mono {B C : Nat} {w : World} {v : Value} {ts : List Lx.Tok} (h : ToksB B w v ts) (hC : B ≤ C) : ToksB C w v ts := by
  obtain ⟨a, cap, h1, h2, h3, h4⟩ := h
  refine ⟨a, cap, h1, h2, h3, ?_⟩
  rcases h4 with h4 | ⟨b, off, e, hB, h⟩
  · exact .inl h4
  · exact .inr ⟨b, off, e, by omega, h⟩
theorem tcells_get (ts : List Lx.Tok) (i : Nat) (h : i < ts.length) (j : Nat) (hj : j < 4) : (tcells ts)[i * 4 + j]? = (tcell ts[i])[j]? := by
  induction ts generalizing i with
  | nil => simp at h
  | cons t ts ih =>
    have e : tcells (t :: ts) = tcell t ++ tcells ts := rfl
    have l : (tcell t).length = 4 := rfl
    rw [e]
    cases i with
    | zero => rw [List.getElem?_append_left (by omega)]; simp
    | succ i =>
      rw [List.getElem?_append_right (by omega), l, show (i + 1) * 4 + j - 4 = i * 4 + j by omega]
      rw [ih i (by simpa using h)]; rfl
theorem OwnT.toks {B : Nat} {w : World} {v : Value} {ts : List Lx.Tok} (h : OwnT B w v ts) : ToksB w.heap.size w v ts := by
  rcases h.2 with ⟨rfl, h0⟩ | ⟨g, cap, cur, rfl, hb, hg, h1, h2, h3, h4⟩
  · have : ts = [] := List.eq_nil_of_length_eq_zero h0
    subst this
    exact ⟨none, 0, rfl, Nat.le_refl _, by decide, .inl rfl⟩
  · refine ⟨_, cap, rfl, h1, by unfold maxLen at h2; omega, .inr ⟨g, 0, rfl, (Array.getElem?_eq_some_iff.1 hg).1, fun i hi => ?_⟩⟩
    have k : ∀ j (hj : j < 4), w.cell? ⟨g, 0 + i * 4 + j, none⟩ = (tcell ts[i])[j]? := fun j hj => by
      have t := tcells_get ts i hi j hj
      have u : ∃ u, (tcell ts[i])[j]? = some u := ⟨_, List.getElem?_eq_getElem (show j < (tcell ts[i]).length from hj)⟩
      obtain ⟨u, hu⟩ := u
      rw [hu] at t ⊢
      have c := World.ownsRow.cells h (g := g) rfl (i * 4 + j) u t
      rw [Addr.add_mid, Nat.zero_add] at c
      rw [Nat.zero_add]
      exact c
    exact ⟨k 0 (by decide), k 1 (by decide), k 2 (by decide), k 3 (by decide)⟩
theorem ToksB.len {B : Nat} {w : World} {v : Value} {ts : List Lx.Tok} (h : ToksB B w v ts) : ∃ a cap, v = .slice a ts.length cap ∧ ts.length ≤ cap ∧ cap ≤ 9223372036854775807 := by
  obtain ⟨a, cap, h1, h2, h3, _⟩ := h
  exact ⟨a, cap, h1, h2, h3⟩
theorem drop_data (s : ByteArray) (k : Nat) : (s.extract k s.size).data.toList = s.data.toList.drop k := by
  rw [Lib.extract_data, List.take_of_length_le (by rw [List.length_drop, size_len]; omega)]
namespace Lx
theorem act_ws {c : UInt8} {t : List UInt8} (h : ws c = true) : act c t = .skip 0 := if_pos h
theorem act_semi {t : List UInt8} : act 59 t = .skip t.length := rfl
theorem act_open {t : List UInt8} : act 40 t = if Lib.indexByte t 41 = -1 then .bad else .skip ((Lib.indexByte t 41).toNat + 1) := rfl
theorem act_first {c : UInt8} {t : List UInt8} (h : ws c = false) (h1 : c ≠ 59) (h2 : c ≠ 40) : act c t = if (fst (c :: t)).m = 0 then .bad else .tok (fst (c :: t)) := by
  unfold act; rw [if_neg (by rw [h]; decide), if_neg h1, if_neg h2]
theorem index_open (t : List UInt8) : Lib.indexByte (40 :: t) 41 = if Lib.indexByte t 41 = -1 then -1 else Lib.indexByte t 41 + 1 := by
  have e : Lib.indexByte (40 :: t) 41 = if Lib.indexByte t 41 == -1 then -1 else Lib.indexByte t 41 + 1 := rfl
  rw [e]
  by_cases h : Lib.indexByte t 41 = -1
  · rw [h]; rfl
  · rw [if_neg h, if_neg (by simpa using h)]
theorem index_le (t : List UInt8) (c : UInt8) : Lib.indexByte t c < t.length := by
  induction t with
  | nil => unfold Lib.indexByte; simp
  | cons b t ih =>
    unfold Lib.indexByte
    simp only [List.length_cons]
    split
    · omega
    · split
      · omega
      · omega
end Lx
end Go.Proofs.YthfcimfoinidbaaDoor
set_option linter.unusedVariables false
set_option linter.unusedSimpArgs false
namespace Go.Proofs.YthfcimfoinidbaaDoor
open Go.RowKit
theorem two_new (w : World) (o : Obj) (cs : Array Value) (t : TypeId) : ((w.alloc o).alloc (.cells cs t)).heap[w.heap.size + 1]? = some (.cells cs t (0, 0)) := by
  have := Bx.new (w.alloc o) cs t
  simp only [Bx] at this
  rw [show (w.alloc o).heap.size = w.heap.size + 1 by simp] at this
  exact this
theorem le_two {wr w1 : World} {B : Nat} (hs : B ≤ wr.heap.size) (q : Qw wr w1) {o1 o2 : Obj} : B ≤ ((w1.alloc o1).alloc o2).heap.size := by
  have := q.size
  simp; omega
theorem after_append {w wr w1 w2 : World} {B : Nat} (hB : Below B w wr) (hs : B ≤ wr.heap.size) (q : Qw wr w1) {o1 o2 : Obj} (hb : Below B ((w1.alloc o1).alloc o2) w2) : Below B w w2 ∧ B ≤ w2.heap.size := by
  have h1 := q.size
  have h2 := hb.size
  have h3 := @le_two wr w1 B hs q o1 o2
  refine ⟨(((hB.trans (q.mono hs)).alloc (by omega) _).alloc (by simp; omega) _).trans hb, by omega⟩
def LexK (B : Nat) (l : List UInt8) (w : World) (tv av : Value) (wr : World) (k : Nat) (ts : List Lx.Tok) : Prop :=
  Lx.At l k ts ∧ OwnT B wr tv ts ∧ Below B w wr ∧ B ≤ wr.heap.size ∧ av = .int .i64 (k : Int)
set_option maxRecDepth 100000 in
set_option maxHeartbeats 2000000 in
theorem lxTokens (s : ByteArray) (hs : s.size ≤ 1000000) (w : World) (ht : Tn w) :
    Calls Tryd.prog 16 #[.string s] w fun e w' => (∃ v, e = .returned (.tuple #[v, .int .i64 (Lx.tat s.data.toList : Int), .int .i64 (Lx.ter s.data.toList)]) ∧ ToksB w'.heap.size w' v (Lx.tks s.data.toList)) ∧ Qw w w' := by
  have sl := size_len s
  have SL := Lib.hid sl
  have HT := Lib.hid ht
  have ix := fun k w => stIndexByte (s.extract k s.size) 41 w
  simp only [drop_data, show (Int.toNat 41).toUInt8 = 41 from rfl] at ix
  have fs := fun k (h : k < s.size) w ht => lxFirst (s.extract k s.size) (by simp; unfold maxLen; omega) (by simp; omega) w ht
  simp only [drop_data] at fs
  have IX := Lib.hid ix
  have FS := Lib.hid fs
  clear ix fs sl ht
  go_enter Tryd.func16, Tryd.ntmps16
  go_wp2
  go_step3
  go_wp2
  go_step3
  go_wp2
  go_loopw [5, 6] (fun tv av wr => ∃ k ts, LexK w.heap.size s.data.toList w tv av wr k ts) (fun _ av _ => s.size - (intOf av).toNat)
  case atStart => exact ⟨0, [], Lx.At.start _, OwnT.nil _ _, Below.refl _ _, Nat.le_refl _, rfl⟩
  case round =>
    obtain ⟨k, ts, hA, hO, hB, hBs, rfl⟩ := hrel
    have hk : k ≤ s.size := by have := hA.1; have := SL.out; omega
    have AT := Lib.hid hA
    have OW := Lib.hid hO
    have BL := Lib.hid hB
    have tl := hA.2.1
    clear hA hO hB
    by_cases hlt : k < s.size
    · have gl : s.data.toList[k]'(by have := SL.out; omega) = s[k] := rfl
      have dl : s.data.toList.drop k = s[k] :: s.data.toList.drop (k + 1) := by rw [← gl]; exact List.drop_eq_getElem_cons _
      have tlen : (s.data.toList.drop (k + 1)).length = s.size - (k + 1) := by rw [List.length_drop, SL.out]
      have A2 : Hid (∀ a, Lx.act s[k] (s.data.toList.drop (k + 1)) = a → Lx.act (s.data.toList[k]'(by have := SL.out; omega)) (s.data.toList.drop (k + 1)) = a) := Lib.hid fun a h => by rw [gl]; exact h
      by_cases hw : s[k] = 32 ∨ s[k] = 9 ∨ s[k] = 13
      · have N := Lib.hid (AT.out.skip (by have := SL.out; omega) (A2.out _ (Lx.act_ws (by unfold Lx.ws; rcases hw with h | h | h <;> rw [h] <;> rfl))) (by have := SL.out; omega))
        clear dl tlen A2 gl
        rcases hw with h | h | h
        · have b : (s[k].toNat : Int) = 32 := by rw [h]; rfl
          clear h
          go_wp2
          go_roundw
          case rel => exact ⟨k + 1, ts, N.out, OW.out, BL.out, hBs, by go_num⟩
          case measure => simp [intOf]; omega
        · have b : (s[k].toNat : Int) = 9 := by rw [h]; rfl
          clear h
          go_wp2
          go_roundw
          case rel => exact ⟨k + 1, ts, N.out, OW.out, BL.out, hBs, by go_num⟩
          case measure => simp [intOf]; omega
        · have b : (s[k].toNat : Int) = 13 := by rw [h]; rfl
          clear h
          go_wp2
          go_roundw
          case rel => exact ⟨k + 1, ts, N.out, OW.out, BL.out, hBs, by go_num⟩
          case measure => simp [intOf]; omega
      · by_cases h59 : s[k] = 59
        · have N := AT.out.skip (by have := SL.out; omega) (A2.out _ (by rw [h59]; exact Lx.act_semi)) (by have := SL.out; omega)
          have F := Lib.hid (N.fin (by have := SL.out; omega))
          have b : (s[k].toNat : Int) = 59 := by rw [h59]; rfl
          clear N dl tlen A2 gl hw h59
          go_wp2
          try rw [Exit.noGoto_ret]
          go_ret3
          exact ⟨⟨u5, by rw [F.out.2.1, F.out.2.2, SL.out]; try rfl, by rw [F.out.1]; exact OW.out.toks⟩, BL.out⟩
        · by_cases h40 : s[k] = 40
          · have b : (s[k].toNat : Int) = 40 := by rw [h40]; rfl
            have ao : Lx.act s[k] (s.data.toList.drop (k + 1)) = (if Lib.indexByte (s.data.toList.drop (k + 1)) 41 = -1 then .bad else .skip ((Lib.indexByte (s.data.toList.drop (k + 1)) 41).toNat + 1)) := by rw [h40]; exact Lx.act_open
            have ixk := IX.out k
            rw [dl, h40, Lx.index_open] at ixk
            have il := Lx.index_le (s.data.toList.drop (k + 1)) 41
            have ig := Lib.indexByte_ge (s.data.toList.drop (k + 1)) 41
            generalize Lib.indexByte (s.data.toList.drop (k + 1)) 41 = I at *
            by_cases hI : I = -1
            · rw [if_pos hI] at ao
              rw [if_pos hI] at ixk
              have F := Lib.hid (AT.out.bad (by have := SL.out; omega) (A2.out _ ao))
              have IK := Lib.hid ixk
              clear ixk ao dl tlen A2 gl hw h59 h40 hI il ig
              go_wp2_with (go_at_call 29; ((with_reducible refine (IK.out _).mono ?_); rintro e w' ⟨rfl, rfl⟩))
              try rw [Exit.noGoto_ret]
              go_ret3
              exact ⟨⟨.slice none 0 0, by rw [F.out.2.1, F.out.2.2]; try rfl, by rw [F.out.1]; exact (OwnT.nil wr.heap.size wr).toks⟩, BL.out⟩
            · rw [if_neg hI] at ao
              rw [if_neg hI] at ixk
              obtain ⟨J, rfl⟩ : ∃ J : Nat, I = J := ⟨I.toNat, by omega⟩
              have jl : k + 1 + (J + 1) ≤ s.size := by omega
              rw [Int.toNat_natCast] at ao
              have N := Lib.hid (AT.out.skip (by have := SL.out; omega) (A2.out _ ao) (by have := SL.out; omega))
              have IK := Lib.hid ixk
              clear ixk ao dl tlen A2 gl hw h59 h40 hI il ig
              go_wp2_with (go_at_call 29; ((with_reducible refine (IK.out _).mono ?_); rintro e w' ⟨rfl, rfl⟩))
              go_roundw
              case rel => exact ⟨k + 1 + (J + 1), ts, N.out, OW.out, BL.out, hBs, by go_num⟩
              case measure => simp [intOf]; omega
          · have wsf : Lx.ws s[k] = false := by
              unfold Lx.ws
              rw [show (s[k] == 32) = false from beq_eq_false_iff_ne.2 (fun h => hw (.inl h)), show (s[k] == 9) = false from beq_eq_false_iff_ne.2 (fun h => hw (.inr (.inl h))), show (s[k] == 13) = false from beq_eq_false_iff_ne.2 (fun h => hw (.inr (.inr h)))]
              rfl
            have af := Lx.act_first (t := s.data.toList.drop (k + 1)) wsf h59 h40
            rw [← dl] at af
            have fk := FS.out k hlt wr (HT.out.kept BL.out)
            have fl := Lx.fst_le (s.data.toList.drop k) (by rw [dl]; simp)
            rw [List.length_drop, SL.out] at fl
            have nb : ∀ n : UInt8, s[k] ≠ n → ((s[k].toNat : Int) == (n.toNat : Int)) = false := fun n h => beq_eq_false_iff_ne.2 (fun e => h (UInt8.toNat_inj.1 (by omega)))
            have b1 : ((s[k].toNat : Int) == 32) = false := nb 32 (fun h => hw (.inl h))
            have b2 : ((s[k].toNat : Int) == 9) = false := nb 9 (fun h => hw (.inr (.inl h)))
            have b3 : ((s[k].toNat : Int) == 13) = false := nb 13 (fun h => hw (.inr (.inr h)))
            have b4 : ((s[k].toNat : Int) == 59) = false := nb 59 h59
            have b5 : ((s[k].toNat : Int) == 40) = false := nb 40 h40
            generalize Lx.fst (s.data.toList.drop k) = f at *
            unfold fv at fk
            have FK := Lib.hid fk
            by_cases hm : f.m = 0
            · rw [if_pos hm] at af
              have F := Lib.hid (AT.out.bad (by have := SL.out; omega) (A2.out _ af))
              have mz : ((f.m : Int) == 0) = true := by rw [hm]; rfl
              clear af fk wsf nb dl tlen A2 gl hw h59 h40 hm
              go_wp2_with (go_at_call 30; ((with_reducible refine FK.out.mono ?_); rintro e w1 ⟨rfl, q1⟩; have Q1 := Lib.hid q1; clear q1))
              try rw [Exit.noGoto_ret]
              go_ret3
              exact ⟨⟨.slice none 0 0, by rw [F.out.2.1, F.out.2.2]; try rfl, by rw [F.out.1]; exact (OwnT.nil 0 _).toks⟩, (BL.out.trans (Q1.out.mono hBs)).alloc (by have := Q1.out.size; omega) _⟩
            · rw [if_neg hm] at af
              have N := Lib.hid (AT.out.tok (by have := SL.out; omega) (A2.out _ af) (by omega) (by have := SL.out; omega))
              have mz : ((f.m : Int) == 0) = false := beq_eq_false_iff_ne.2 (by omega)
              clear af fk wsf nb dl tlen A2 gl hw h59 h40
              go_wp2_with (first | (go_at_call 30; ((with_reducible refine FK.out.mono ?_); rintro e w1 ⟨rfl, q1⟩; have Q1 := Lib.hid q1; clear q1)) | (at_builtin; refine tok_append 50 52 ⟨f.k, f.n, k, f.x⟩ w.heap.size u5 ts (w1.heap.size + 1) (by rfl) (by rfl) (two_new w1 _ _ _) (World.ownsRow.alloc (World.ownsRow.alloc (OW.out.kept Q1.out) _) _) (by omega) (le_two hBs Q1.out) ?_; intro v' w2 ho hb; have HO := Lib.hid ho; have hx := after_append BL.out hBs Q1.out hb; have HB := Lib.hid hx.1; have zb := hx.2; clear hx; clear ho hb))
              go_roundw
              case rel => exact ⟨k + f.m, ts ++ [⟨f.k, f.n, k, f.x⟩], N.out, HO.out, HB.out, zb, by go_num⟩
              case measure => simp [intOf]; omega
    · obtain rfl : k = s.size := by omega
      have f := Lib.hid (AT.out.fin (by have := SL.out; omega))
      go_wp2
      try rw [Exit.noGoto_ret]
      go_ret3
      exact ⟨⟨u5, by rw [f.out.2.1, f.out.2.2, SL.out]; try rfl, by rw [f.out.1]; exact OW.out.toks⟩, BL.out⟩
end Go.Proofs.YthfcimfoinidbaaDoor
set_option linter.unusedVariables false
set_option linter.unusedSimpArgs false
namespace Go.Proofs.YthfcimfoinidbaaDoor
def un : Nat → Int
  | 0 => 100000 | 1 => 10000 | 2 => 1000 | 3 => 100 | 4 => 10 | 5 => 1 | _ => 0
def um : Nat → Int
  | 0 => 1000000 | 1 => 100000 | 2 => 10000 | 3 => 1000 | 4 => 100 | 5 => 10 | _ => 1
theorem k6 {k : Nat} (h : k ≤ 6) : k = 0 ∨ k = 1 ∨ k = 2 ∨ k = 3 ∨ k = 4 ∨ k = 5 ∨ k = 6 := by omega
def dn (f : Int) (k : Nat) : Int := f % um k / un k
def dg (f : Int) (k : Nat) : UInt8 := UInt8.ofNat (48 + dn f k).toNat
def dgs (f : Int) (k : Nat) : List UInt8 := (List.range k).map (dg f)
theorem dgs_succ (f : Int) (k : Nat) : dgs f (k + 1) = dgs f k ++ [dg f k] := by unfold dgs; rw [List.range_succ, List.map_append]; rfl
theorem dgs_length (f : Int) (k : Nat) : (dgs f k).length = k := by unfold dgs; simp
theorem dn_bd (f : Int) (k : Nat) (h : k ≤ 5) : 0 ≤ dn f k ∧ dn f k ≤ 9 := by
  unfold dn
  rcases k6 (show k ≤ 6 by omega) with rfl | rfl | rfl | rfl | rfl | rfl | rfl <;> simp only [um, un] <;> omega
theorem dg_nat (f : Int) (k : Nat) (h : k ≤ 5) : ((dg f k).toNat : Int) = 48 + dn f k := by
  have := dn_bd f k h
  unfold dg
  rw [UInt8.toNat_ofNat']
  omega
theorem un_um (k : Nat) (h : k ≤ 5) : un k = um (k + 1) ∧ 1 ≤ un k ∧ un k ≤ 100000 ∧ um k = 10 * un k := by
  rcases k6 (show k ≤ 6 by omega) with rfl | rfl | rfl | rfl | rfl | rfl | rfl <;> first | decide | omega
theorem un_step (k : Nat) (h : k ≤ 5) : un k / 10 = un (k + 1) := by
  rcases k6 (show k ≤ 6 by omega) with rfl | rfl | rfl | rfl | rfl | rfl | rfl <;> first | decide | omega
theorem mod_step (f : Int) (k : Nat) (h : k ≤ 5) : f % um k % un k = f % um (k + 1) := by
  rcases k6 (show k ≤ 6 by omega) with rfl | rfl | rfl | rfl | rfl | rfl | rfl <;> simp only [um, un] <;> omega
theorem um_pos (k : Nat) : 1 ≤ um k := by
  unfold um; split <;> omega
def kf (f : Int) : Nat := if f % 100000 = 0 then 1 else if f % 10000 = 0 then 2 else if f % 1000 = 0 then 3 else if f % 100 = 0 then 4 else if f % 10 = 0 then 5 else 6
theorem kf_range (f : Int) : 1 ≤ kf f ∧ kf f ≤ 6 := by unfold kf; (repeat' split) <;> omega
theorem kf_eq {f : Int} {k : Nat} (hk : k ≤ 6) (h0 : f % um 0 ≠ 0) (h1 : f % um k = 0) (h2 : ∀ i, i < k → f % um i ≠ 0) : kf f = k := by
  unfold kf
  rcases k6 hk with rfl | rfl | rfl | rfl | rfl | rfl | rfl
  · exact absurd h1 h0
  · simp only [um] at h1; rw [if_pos h1]
  · have a := h2 1 (by omega); simp only [um] at h1 a; rw [if_neg a, if_pos h1]
  · have a := h2 1 (by omega); have b := h2 2 (by omega); simp only [um] at h1 a b; rw [if_neg a, if_neg b, if_pos h1]
  · have a := h2 1 (by omega); have b := h2 2 (by omega); have c := h2 3 (by omega); simp only [um] at h1 a b c; rw [if_neg a, if_neg b, if_neg c, if_pos h1]
  · have a := h2 1 (by omega); have b := h2 2 (by omega); have c := h2 3 (by omega); have d := h2 4 (by omega); simp only [um] at h1 a b c d; rw [if_neg a, if_neg b, if_neg c, if_neg d, if_pos h1]
  · have a := h2 1 (by omega); have b := h2 2 (by omega); have c := h2 3 (by omega); have d := h2 4 (by omega); have e := h2 5 (by omega); simp only [um] at a b c d e; rw [if_neg a, if_neg b, if_neg c, if_neg d, if_neg e]
def frac (f : Int) : List UInt8 := if f = 0 then [] else 46 :: dgs f (kf f)
def fmtp (n : Int) : List UInt8 := Lib.decDigits (n / 1000000).toNat ++ frac (n % 1000000)
def fmtl (n : Int) : List UInt8 := if vld n = true then (if n < 0 then 45 :: fmtp (-n) else fmtp n) else []
theorem dec_small {u : Nat} (h : u < 10) : Lib.decDigits u = [UInt8.ofNat (48 + u)] := by rw [Lib.decDigits, dif_pos h]
theorem dec_big {u : Nat} (h : ¬ u < 10) : Lib.decDigits u = Lib.decDigits (u / 10) ++ [UInt8.ofNat (48 + u % 10)] := by rw [Lib.decDigits, dif_neg h]
theorem dec_ne (u : Nat) : Lib.decDigits u ≠ [] := by
  by_cases h : u < 10
  · rw [dec_small h]; simp
  · rw [dec_big h]; simp
theorem dec_len (k u : Nat) (h : u < 10 ^ (k + 1)) : (Lib.decDigits u).length ≤ k + 1 := by
  induction k generalizing u with
  | zero => rw [dec_small (by simpa using h)]; simp
  | succ k ih =>
    by_cases c : u < 10
    · rw [dec_small c]; simp
    · rw [dec_big c, List.length_append]
      have := ih (u / 10) (by rw [Nat.pow_succ] at h; omega)
      simp; omega
end Go.Proofs.YthfcimfoinidbaaDoor
set_option linter.unusedVariables false
set_option linter.unusedSimpArgs false
namespace Go.Proofs
open Go.Shelf
def Tryd.laysM176_ren : Go.Shelf.Ren := ⟨fun | 176 => 79 | 249 => 93 | 288 => 98 | 283 => 74 | 284 => 75 | 285 => 76 | 286 => 77 | 129 => 89 | 317 => 88 | 318 => 90 | 319 => 91 | 320 => 92 | 337 => 96 | 338 => 97 | n => n, fun | 37 => 77 | 2 => 2 | 3 => 3 | 53 => 103 | 4 => 4 | 9 => 9 | 171 => 102 | 0 => 0 | 173 => 106 | 212 => 118 | 51 => 119 | 5 => 5 | 20 => 20 | 213 => 120 | 46 => 121 | 232 => 126 | 233 => 127 | n => n, fun | 17 => 3 | 18 => 4 | 19 => 5 | n => n⟩
theorem Tryd.laysM176 : Go.Proofs.LaysM.n176 Tryd.prog Tryd.laysM176_ren := {
  mixed := by kernel_rfl
  f129 := Tryd.func89.trans (congrArg some (by kernel_rfl))
  f176 := Tryd.func79.trans (congrArg some (by kernel_rfl))
  f249 := Tryd.func93.trans (congrArg some (by kernel_rfl))
  f283 := Tryd.func74.trans (congrArg some (by kernel_rfl))
  f284 := Tryd.func75.trans (congrArg some (by kernel_rfl))
  f285 := Tryd.func76.trans (congrArg some (by kernel_rfl))
  f286 := Tryd.func77.trans (congrArg some (by kernel_rfl))
  f288 := Tryd.func98.trans (congrArg some (by kernel_rfl))
  f317 := Tryd.func88.trans (congrArg some (by kernel_rfl))
  f318 := Tryd.func90.trans (congrArg some (by kernel_rfl))
  f319 := Tryd.func91.trans (congrArg some (by kernel_rfl))
  f320 := Tryd.func92.trans (congrArg some (by kernel_rfl))
  f337 := Tryd.func96.trans (congrArg some (by kernel_rfl))
  f338 := Tryd.func97.trans (congrArg some (by kernel_rfl))
  t0 := Tryd.underlying0
  a0 := Tryd.isAgg0
  z0 := Tryd.sizeOf0
  v0 := Tryd.zeroValue0
  t2 := Tryd.underlying2
  a2 := Tryd.isAgg2
  z2 := Tryd.sizeOf2
  v2 := Tryd.zeroValue2
  t3 := Tryd.underlying3
  a3 := Tryd.isAgg3
  z3 := Tryd.sizeOf3
  v3 := Tryd.zeroValue3
  t4 := Tryd.underlying4
  a4 := Tryd.isAgg4
  z4 := Tryd.sizeOf4
  v4 := Tryd.zeroValue4
  t5 := Tryd.underlying5
  a5 := Tryd.isAgg5
  z5 := Tryd.sizeOf5
  v5 := Tryd.zeroValue5
  t9 := Tryd.underlying9
  a9 := Tryd.isAgg9
  z9 := Tryd.sizeOf9
  v9 := Tryd.zeroValue9
  t20 := Tryd.underlying20
  a20 := Tryd.isAgg20
  z20 := Tryd.sizeOf20
  v20 := Tryd.zeroValue20
  t37 := Tryd.underlying77
  a37 := Tryd.isAgg77
  z37 := Tryd.sizeOf77
  v37 := Tryd.zeroValue77
  t46 := Tryd.underlying121
  a46 := Tryd.isAgg121
  z46 := Tryd.sizeOf121
  v46 := Tryd.zeroValue121
  t51 := Tryd.underlying119
  a51 := Tryd.isAgg119
  z51 := Tryd.sizeOf119
  v51 := Tryd.zeroValue119
  t53 := Tryd.underlying103
  a53 := Tryd.isAgg103
  z53 := Tryd.sizeOf103
  v53 := Tryd.zeroValue103
  t171 := Tryd.underlying102
  a171 := Tryd.isAgg102
  z171 := Tryd.sizeOf102
  v171 := Tryd.zeroValue102
  t173 := Tryd.underlying106
  a173 := Tryd.isAgg106
  z173 := Tryd.sizeOf106
  v173 := Tryd.zeroValue106
  t212 := Tryd.underlying118
  a212 := Tryd.isAgg118
  z212 := Tryd.sizeOf118
  v212 := Tryd.zeroValue118
  t213 := Tryd.underlying120
  a213 := Tryd.isAgg120
  z213 := Tryd.sizeOf120
  t232 := Tryd.underlying126
  a232 := Tryd.isAgg126
  z232 := Tryd.sizeOf126
  v232 := Tryd.zeroValue126
  t233 := Tryd.underlying127
  a233 := Tryd.isAgg127
  z233 := Tryd.sizeOf127
  v233 := Tryd.zeroValue127
  g17 := by kernel_rfl
  g18 := by kernel_rfl
  g19 := by kernel_rfl
  i0 := by kernel_rfl
  i2 := by kernel_rfl
  i3 := by kernel_rfl
  i4 := by kernel_rfl
  i5 := by kernel_rfl
  i9 := by kernel_rfl
  i20 := by kernel_rfl
  i37 := by kernel_rfl
  i46 := by kernel_rfl
  i51 := by kernel_rfl
  i53 := by kernel_rfl
  i171 := by kernel_rfl
  i173 := by kernel_rfl
  i212 := by kernel_rfl
  i232 := by kernel_rfl
  i233 := by kernel_rfl
  m17 := by kernel_rfl
  m18 := by kernel_rfl
  m19 := by kernel_rfl }
open Go.RowKit Go.Sort Go.Lib in
theorem Tryd.strconv_AppendInt_10 (B n : Nat) (i : Int) (h0 : -9223372036854775808 ≤ i) (h1 : i ≤ 9223372036854775807) (sv : Value) (xs : List Value) (w : World) (hown : w.ownsRow B 5 1 sv n xs) (hBw : B ≤ w.heap.size) (hlim : n + 21 ≤ 140737488355328) (htab : Lib.TabBelow Tryd.prog B w "internal/strconv.uint64pow10" .u64 Lib.pow10Tab) :
    Calls Tryd.prog 79 #[sv, .int .i64 i, .int .i64 10] w fun e w' => ∃ v', e = .returned v' ∧ w'.ownsRow B 5 1 v' (n + (Lib.itoa i).length) (xs ++ Lib.byteCells (Lib.itoa i)) ∧ Below B w w' ∧ Lib.OthersKept 5 none w w' := Any.strconv_AppendInt_10 Tryd.laysM176 B n i h0 h1 sv xs w hown hBw hlim htab
end Go.Proofs
set_option linter.unusedVariables false
set_option linter.unusedSimpArgs false
namespace Go.Proofs.YthfcimfoinidbaaDoor.Dg
def val : List Int → Int
  | [] => 0
  | d :: ds => d + 65536 * val ds
theorem pow_pos (k : Nat) : (0 : Int) < 65536 ^ k := Int.pow_pos (by decide)
theorem pow_succ (k : Nat) : (65536 : Int) ^ (k + 1) = 65536 * 65536 ^ k := by rw [Int.pow_succ, Int.mul_comm]
end Go.Proofs.YthfcimfoinidbaaDoor.Dg
set_option linter.unusedVariables false
set_option linter.unusedSimpArgs false
namespace Go.Proofs.YthfcimfoinidbaaDoor
open Go.RowKit
def cells (ds : List Int) : List Value := ds.map (Value.int .u64)
def RawB (B : Nat) (w : World) (v : Value) (ds : List Int) : Prop := w.ownsRow B 103 1 v ds.length (cells ds)
theorem Qw.grown {w wr w1 : World} {v : Value} {ds : List Int} (h : Qw w wr) (hr : RawB w.heap.size wr v ds) (wx : World) (hx : wr.heap.size ≤ wx.heap.size) (hq : Qw wr wx) (hg : wx.grownBy w1 v.ownBlock) : Qw w w1 :=
  Below.grown (Qw.trans h hq) hg (by have := h.size; omega) (fun k hk => (hr.lt k hk).1)
theorem cell_one_new (w : World) (a : Value) (t : TypeId) : ∀ j u, [a][j]? = some u → (w.alloc (.cells #[a] t)).cell? ((⟨w.heap.size, 0, none⟩ : Addr).add j) = some u := by
  intro j u hj
  match j, hj with
  | 0, hj => simp at hj; subst hj; simp [Addr.add]
  | j + 1, hj => simp at hj
end Go.Proofs.YthfcimfoinidbaaDoor
set_option linter.unusedVariables false
set_option linter.unusedSimpArgs false
namespace Go.Proofs.YthfcimfoinidbaaDoor
open Go.RowKit
def OwnB (B : Nat) (w : World) (v : Value) (l : List UInt8) : Prop := w.ownsRow B 5 1 v l.length (Lib.byteCells l)
theorem ownB_nil (B : Nat) (w : World) : OwnB B w (.slice none 0 0) [] := World.ownsRow_nil w _ _ _
theorem info_u8 : (Tryd.prog.info? 5).map (fun i => (i.zero, i.size, i.bytes)) = some (some (.int .u8 0), 1, 1) := by kernel_rfl
theorem ownB_push {B : Nat} {w : World} {v : Value} {l : List UInt8} {c : UInt8} (h : w.ownsRow B 5 1 v (l.length + 1) (Lib.byteCells l ++ [.int .u8 (c.toNat : Int)])) : OwnB B w v (l ++ [c]) := by
  unfold OwnB
  rw [show (l ++ [c]).length = l.length + 1 by simp, show Lib.byteCells (l ++ [c]) = Lib.byteCells l ++ [.int .u8 (c.toNat : Int)] by simp [Lib.byteCells]]
  exact h
theorem below_grown {B : Nat} {w wr w1 : World} {v : Value} {l : List UInt8} (h : Below B w wr) (hB : B ≤ w.heap.size) (hr : OwnB B wr v l) (wx : World) (hq : Below wr.heap.size wr wx) (hg : wx.grownBy w1 v.ownBlock) : Below B w w1 :=
  Below.grown (h.trans (hq.mono (by have := h.size; omega))) hg (by have := h.size; have := hq.size; omega) (fun k hk => (World.ownsRow.lt hr k hk).1)
def FracK (B : Nat) (f : Int) (l : List UInt8) (w : World) (tv fv uv : Value) (wr : World) (k : Nat) : Prop :=
  k ≤ 6 ∧ (∀ i, i < k → f % um i ≠ 0) ∧ fv = .int .i64 (f % um k) ∧ uv = .int .i64 (un k) ∧ OwnB B wr tv (l ++ 46 :: dgs f k) ∧ Below B w wr
set_option maxRecDepth 100000 in
set_option maxHeartbeats 1000000 in
theorem fxFrac (B : Nat) (f : Int) (v : Value) (l : List UInt8) (w : World) (f0 : 0 ≤ f) (f1 : f < 1000000) (hr : OwnB B w v l) (hB : B ≤ w.heap.size) (hl : l.length ≤ 1000) :
    Calls Tryd.prog 80 #[v, .int .i64 f] w fun e w' => ∃ v', e = .returned v' ∧ OwnB B w' v' (l ++ frac f) ∧ Below B w w' := by
  obtain ⟨i0, hi, hz0, hz1, hz2⟩ := info_parts info_u8
  unfold frac
  by_cases hz : f = 0
  · rw [if_pos hz, List.append_nil]
    subst hz
    go_enter Tryd.func80, Tryd.ntmps80
    go_wp2
    go_ret
    exact ⟨_, rfl, hr, Below.refl _ _⟩
  · rw [if_neg hz]
    have bz : (f == 0) = false := beq_eq_false_iff_ne.2 hz
    have Hr := Lib.hid hr
    have Hz := Lib.hid hz
    clear hr hz
    go_enter Tryd.func80, Tryd.ntmps80
    go_wp2_with (at_builtin; refine wpList_append_own _ rfl _ _ 77 rfl B 5 i0 (.int .u8 0) 1 1 Tryd.underlying77 hi hz0 hz1 hz2 rfl (by decide) _ _ _ rfl (World.ownsRow.alloc Hr.out _) ⟨w.heap.size, 0, none⟩ 1 1 [.int .u8 46] rfl rfl (cell_one_new _ _ _) (ints_oneCell .u8 [46]) (by unfold maxLen; omega) (by omega) (by simp; omega) ?_)
    intro v1 w1 hown1 hgrow1 _
    have h1 : OwnB B w1 v1 (l ++ [46]) := ownB_push (c := 46) hown1
    have q1 : Below B w w1 := below_grown (Below.refl _ _) hB Hr.out _ ((Below.refl _ _).alloc (Nat.le_refl _) _) hgrow1
    clear hown1 hgrow1
    have H1 := Lib.hid h1
    clear h1
    go_wp2
    go_loopw [0, 1, 5] (fun tv fv uv wr => ∃ k, FracK B f l w tv fv uv wr k) (fun _ _ uv _ => (intOf uv).toNat)
    case atStart => exact ⟨0, by omega, fun i hi => by omega, by simp only [um]; rw [Int.emod_eq_of_lt f0 f1], rfl, H1.out, q1⟩
    case round =>
      obtain ⟨k, hk6, hne, rfl, rfl, hown, hq⟩ := hrel
      have x0 : 0 ≤ f % um k := Int.emod_nonneg _ (by have := um_pos k; omega)
      have K : Hid (k ≤ 5 → dn f k = f % um k / un k ∧ f % um (k + 1) = f % um k % un k ∧ un (k + 1) = un k / 10) := Lib.hid fun h => ⟨rfl, (mod_step f k h).symm, (un_step k h).symm⟩
      have Hn := Lib.hid hne
      have Ho := Lib.hid hown
      clear hne hown
      by_cases hx : 0 < f % um k
      · have k5 : k ≤ 5 := by
          rcases Nat.lt_or_ge 5 k with h | h
          · have : k = 6 := by omega
            subst this; simp only [um] at hx; omega
          · exact h
        obtain ⟨u1, u2, u3, u4⟩ := un_um k k5
        obtain ⟨d0, d1⟩ := dn_bd f k k5
        have dn' := dg_nat f k k5
        have xu : f % um k < um k := Int.emod_lt_of_pos _ (by have := um_pos k; omega)
        obtain ⟨e1, e2, e3⟩ := K.out k5
        rw [e1] at d0 d1 dn'
        have hne' : ∀ i, i < k + 1 → f % um i ≠ 0 := fun i hi => by
          rcases Nat.lt_or_ge i k with h | h
          · exact Hn.out i h
          · obtain rfl : i = k := by omega
            omega
        have Hn2 := Lib.hid hne'
        clear hne' u1 K
        obtain ⟨x, ex⟩ : ∃ x, f % um k = x := ⟨_, rfl⟩
        obtain ⟨u, eu⟩ : ∃ u, un k = u := ⟨_, rfl⟩
        rw [ex] at hx x0 d0 d1 xu dn' e2
        rw [eu] at d0 d1 u2 u3 u4 dn' e2 e3
        rw [ex, eu]
        have E := Lib.hid (And.intro e2 (And.intro e3 dn'))
        have x1 : x ≤ 1000000 := by omega
        have zu : (u == 0) = false := beq_eq_false_iff_ne.2 (by omega)
        have m0 : 0 ≤ x % u := Int.emod_nonneg _ (by omega)
        have m1 : x % u < u := Int.emod_lt_of_pos _ (by omega)
        clear e1 e2 e3 dn' ex eu xu
        have hs := hq.size
        go_wp2_with (at_builtin; refine wpList_append_own _ rfl _ _ 77 rfl B 5 i0 (.int .u8 0) 1 1 Tryd.underlying77 hi hz0 hz1 hz2 rfl (by decide) _ _ _ rfl (World.ownsRow.alloc Ho.out _) ⟨wr.heap.size, 0, none⟩ 1 1 [.int .u8 (48 + x / u)] rfl rfl (cell_one_new _ _ _) (ints_oneCell .u8 [48 + x / u]) (by unfold maxLen; simp [dgs_length]; omega) (by simp [dgs_length]; omega) (by simp; omega) ?_)
        intro v2 w2 hown2 hgrow2 _
        have h2 : OwnB B w2 v2 ((l ++ 46 :: dgs f k) ++ [dg f k]) := ownB_push (by rw [E.out.2.2, List.length_append, List.length_cons]; exact hown2)
        have q2 : Below B w w2 := below_grown hq hB Ho.out _ ((Below.refl _ _).alloc (Nat.le_refl _) _) hgrow2
        clear hown2 hgrow2 hq hs
        rw [List.append_assoc, List.cons_append, ← dgs_succ] at h2
        have H2 := Lib.hid h2
        clear h2
        go_wp2
        go_roundw
        case rel => exact ⟨k + 1, by omega, Hn2.out, by rw [E.out.1], by rw [E.out.2.1], H2.out, q2⟩
        case measure => simp [intOf]; omega
      · have hx0 : f % um k = 0 := by omega
        have hk : kf f = k := kf_eq hk6 (by simp only [um]; rw [Int.emod_eq_of_lt f0 f1]; exact Hz.out) hx0 Hn.out
        have HK := Lib.hid hk
        rw [hx0]
        clear hk hx0 hx x0 K
        go_wp2
        go_ret
        exact ⟨_, rfl, by rw [HK.out]; exact Ho.out, hq⟩
theorem ownB_more {B : Nat} {w : World} {v : Value} {l k : List UInt8} (h : w.ownsRow B 5 1 v (l.length + k.length) (Lib.byteCells l ++ Lib.byteCells k)) : OwnB B w v (l ++ k) := by
  unfold OwnB
  rw [List.length_append, show Lib.byteCells (l ++ k) = Lib.byteCells l ++ Lib.byteCells k by simp [Lib.byteCells]]
  exact h
theorem dec_len10 (l : List UInt8) (m : Int) (hl : l.length ≤ 1) (h0 : 0 ≤ m) (h1 : m ≤ 1000000000000000) : (l ++ Lib.decDigits (m / 1000000).toNat).length ≤ 1000 := by
  have p : (10 : Nat) ^ (9 + 1) = 10000000000 := by decide
  have := dec_len 9 (m / 1000000).toNat (by rw [p]; omega)
  rw [List.length_append]; omega
def Tb (w : World) : Prop := Lib.TabBelow Tryd.prog w.heap.size w "internal/strconv.uint64pow10" .u64 Lib.pow10Tab
theorem Tb.kept {w w' : World} (h : Tb w) (q : Qw w w') : Tb w' := fun w'' q' => h w'' (Below.trans q (Below.mono q' q.size))
theorem own_cases {B : Nat} {w : World} {v : Value} {l : List UInt8} (h : OwnB B w v l) (hl : l ≠ []) :
    ∃ g cap, v = .slice (some ⟨g, 0, none⟩) l.length cap ∧ ∀ j (hj : j < l.length), w.cell? ((⟨g, 0, none⟩ : Addr).add j) = some (.int .u8 (l[j].toNat : Int)) := by
  have h0 := h
  obtain ⟨h1, h2⟩ := h
  rcases h2 with ⟨h2, h3⟩ | ⟨g, cap, cur, rfl, hg, hh, r1, r2, r3, r4⟩
  · exact absurd (List.eq_nil_of_length_eq_zero h3) hl
  · refine ⟨g, cap, rfl, fun j hj => ?_⟩
    refine World.ownsRow.cells h0 rfl j _ ?_
    unfold Lib.byteCells
    rw [List.getElem?_map, List.getElem?_eq_getElem hj]; rfl
set_option maxRecDepth 100000 in
set_option maxHeartbeats 1000000 in
theorem fxFormat (n : Int) (w : World) (ht : Tb w) :
    Calls Tryd.prog 61 #[.int .i64 n] w fun e w' => e = .returned (.string ⟨(fmtl n).toArray⟩) ∧ Qw w w' := by
  obtain ⟨i0, hi, hz0, hz1, hz2⟩ := info_parts info_u8
  have q0 : Below w.heap.size w w := Below.refl _ _
  have HT := Lib.hid ht
  cases hv : vld n
  · rw [show fmtl n = [] from if_neg (by rw [hv]; decide)]
    go_enter Tryd.func61, Tryd.ntmps61
    go_wp2_with (go_at_call 78; refine (fxValid _ _).mono ?_; rintro e w' ⟨rfl, rfl⟩)
    go_ret
    exact ⟨rfl, Qw.refl _⟩
  · obtain ⟨a1, a2⟩ := vld_bd hv
    by_cases hn : n < 0
    · obtain ⟨m, rfl⟩ : ∃ m, n = -m := ⟨-n, by omega⟩
      rw [show fmtl (-m) = [45] ++ fmtp m by unfold fmtl; rw [if_pos hv, if_pos hn, Int.neg_neg]; rfl]
      have m0 : 0 < m := by omega
      have m1 : m ≤ 1000000000000000 := by omega
      clear hn a1 a2
      unfold fmtp
      rw [← List.append_assoc]
      have o0 := Lib.hid (ownB_nil w.heap.size w)
      go_enter Tryd.func61, Tryd.ntmps61
      go_wp2_with (first | (go_at_call 78; refine (fxValid _ _).mono ?_; rintro e w' ⟨rfl, rfl⟩) | (at_builtin; refine wpList_append_own _ rfl _ _ 77 rfl w.heap.size 5 i0 (.int .u8 0) 1 1 Tryd.underlying77 hi hz0 hz1 hz2 rfl (by decide) _ _ _ rfl (World.ownsRow.alloc o0.out _) ⟨w.heap.size, 0, none⟩ 1 1 [.int .u8 45] rfl rfl (cell_one_new _ _ _) (ints_oneCell .u8 [45]) (by unfold maxLen; simp) (by simp) (by simp) ?_))
      intro v1 w1 hown1 hgrow1 _
      have h1 : OwnB w.heap.size w1 v1 ([] ++ [45]) := ownB_push (c := 45) hown1
      have q1 : Below w.heap.size w w1 := below_grown q0 (Nat.le_refl _) o0.out _ ((Below.refl _ _).alloc (Nat.le_refl _) _) hgrow1
      clear hown1 hgrow1 o0
      rw [List.nil_append] at h1
      have H1 := Lib.hid h1
      clear h1
      go_wp2_with fail
      refine (Tryd.strconv_AppendInt_10 w.heap.size 1 (m / 1000000) (by omega) (by omega) v1 (Lib.byteCells [45]) _ H1.out (by have := q1.size; omega) (by decide) (HT.out.on q1)).mono ?_
      rintro e w2 ⟨v2, rfl, hown2, hb2, _⟩
      have it : Lib.itoa (m / 1000000) = Lib.decDigits (m / 1000000).toNat := by unfold Lib.itoa; rw [if_neg (by omega)]
      rw [it] at hown2
      have h2 : OwnB w.heap.size w2 v2 ([45] ++ Lib.decDigits (m / 1000000).toNat) := ownB_more hown2
      have q2 : Below w.heap.size w w2 := q1.trans hb2
      have l2 : ([45] ++ Lib.decDigits (m / 1000000).toNat).length ≤ 1000 := dec_len10 _ _ (by decide) (by omega) (by omega)
      have H2 := Lib.hid h2
      clear it hown2 hb2 h2
      go_wp2_with fail
      refine (fxFrac w.heap.size (m % 1000000) v2 _ _ (by omega) (by omega) H2.out (by have := q2.size; omega) l2).mono ?_
      rintro e w3 ⟨v3, rfl, h3, hb3⟩
      have q3 : Below w.heap.size w w3 := q2.trans hb3
      obtain ⟨g, cap, rfl, hc⟩ := own_cases h3 (by simp [dec_ne])
      have cv := run_convert_bytes_back (P := Tryd.prog) w3 77 9 5 ⟨g, 0, none⟩ cap _ Tryd.underlying77 Tryd.underlying5 Tryd.underlying9 hc
      clear h3 hb3 hc H2 l2
      generalize hX : [45] ++ Lib.decDigits (m / 1000000).toNat ++ frac (m % 1000000) = X at *
      have HX := Lib.hid hX
      clear hX
      go_wp2
      go_ret
      exact ⟨by rw [← HX.out]; rfl, q3⟩
    · rw [show fmtl n = [] ++ fmtp n from (if_pos hv).trans (if_neg hn)]
      unfold fmtp
      rw [← List.append_assoc]
      have H1 := Lib.hid (ownB_nil w.heap.size w)
      go_enter Tryd.func61, Tryd.ntmps61
      go_wp2_with (go_at_call 78; refine (fxValid _ _).mono ?_; rintro e w' ⟨rfl, rfl⟩)
      go_wp2_with fail
      refine (Tryd.strconv_AppendInt_10 w.heap.size 0 (n / 1000000) (by omega) (by omega) (.slice none 0 0) (Lib.byteCells []) _ H1.out (by have := q0.size; omega) (by decide) (HT.out.on q0)).mono ?_
      rintro e w2 ⟨v2, rfl, hown2, hb2, _⟩
      have it : Lib.itoa (n / 1000000) = Lib.decDigits (n / 1000000).toNat := by unfold Lib.itoa; rw [if_neg (by omega)]
      rw [it] at hown2
      have h2 : OwnB w.heap.size w2 v2 ([] ++ Lib.decDigits (n / 1000000).toNat) := ownB_more hown2
      have q2 : Below w.heap.size w w2 := q0.trans hb2
      have l2 : ([] ++ Lib.decDigits (n / 1000000).toNat).length ≤ 1000 := dec_len10 _ _ (by decide) (by omega) (by omega)
      have H2 := Lib.hid h2
      clear it hown2 hb2 h2
      go_wp2_with fail
      refine (fxFrac w.heap.size (n % 1000000) v2 _ _ (by omega) (by omega) H2.out (by have := q2.size; omega) l2).mono ?_
      rintro e w3 ⟨v3, rfl, h3, hb3⟩
      have q3 : Below w.heap.size w w3 := q2.trans hb3
      obtain ⟨g, cap, rfl, hc⟩ := own_cases h3 (by simp [dec_ne])
      have cv := run_convert_bytes_back (P := Tryd.prog) w3 77 9 5 ⟨g, 0, none⟩ cap _ Tryd.underlying77 Tryd.underlying5 Tryd.underlying9 hc
      clear h3 hb3 hc H2 l2
      generalize hX : [] ++ Lib.decDigits (n / 1000000).toNat ++ frac (n % 1000000) = X at *
      have HX := Lib.hid hX
      clear hX
      go_wp2
      go_ret
      exact ⟨by rw [← HX.out]; rfl, q3⟩
end Go.Proofs.YthfcimfoinidbaaDoor

