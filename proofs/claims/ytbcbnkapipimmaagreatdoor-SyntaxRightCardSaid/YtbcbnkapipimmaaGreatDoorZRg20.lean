import Derived.Test.YtbcbnkapipimmaaGreatDoorZRg12
import Derived.Test.YtbcbnkapipimmaaGreatDoorZRg19
import Derived.Test.YtbcbnkapipimmaaGreatDoorRows
import Derived.Shelf.Strings.Builder1
import Derived.Shelf.Strings.Builder2
import Derived.Shelf.Strings.OnBuilder
import Derived.Shelf.Small.Strs
import Derived.Shelf.Strings.BuilderF
import Derived.Shelf.Strings.BuilderK
import Derived.Shelf.Strconv.Itoa0
import Derived.Shelf.Strconv.Itoa1
import Derived.Shelf.LaysM
import Derived.Shelf.Strconv.Itoa2
import Derived.Shelf.Strconv.Itoa3
import Derived.Shelf.Strings.Search1
import Derived.Shelf.Strings.Search2
import Derived.Shelf.Strings.Search3
import Derived.Shelf.Strings.Count
import Derived.Shelf.Strings.Shaped
import Derived.Shelf.Strconv.AppendUint10
import Derived.Shelf.Strconv.AppendInt10
import Derived.Shelf.Strconv.AppendIntPublic10
import Derived.Shelf.Strings.Prefix
set_option linter.unusedVariables false
set_option linter.unusedSimpArgs false
namespace Go.Proofs
open Go.Shelf
def Tryz.lays156_ren : Go.Shelf.Ren := ⟨fun | 156 => 56 | 165 => 91 | 166 => 61 | 169 => 63 | 240 => 94 | 241 => 120 | 276 => 121 | 277 => 157 | n => n, fun | 31 => 22 | 9 => 9 | 3 => 3 | 4 => 4 | 0 => 0 | 20 => 20 | 72 => 85 | 76 => 88 | 70 => 83 | 37 => 59 | 75 => 87 | 127 => 111 | 164 => 125 | 5 => 5 | 80 => 91 | n => n, fun | n => n⟩
theorem Tryz.Builder_Extra_156 : Builder.Extra Tryz.prog Tryz.lays156_ren := {
  sizeBuilder := by kernel_rfl
  liesBuilder := by kernel_rfl
  t5 := Tryz.underlying5
  a5 := Tryz.isAgg5
  z5 := Tryz.sizeOf5
  v5 := Tryz.zeroValue5
  infoByte := by kernel_rfl
  cellsByte := by kernel_rfl
  sizeByte := by kernel_rfl
  neB5 := by decide }
theorem Tryz.lays156 : Go.Proofs.Lays.n156 Tryz.prog Tryz.lays156_ren := {
  mixed := by kernel_rfl
  f156 := Tryz.func56.trans (congrArg some (by kernel_rfl))
  f165 := Tryz.func91.trans (congrArg some (by kernel_rfl))
  f166 := Tryz.func61.trans (congrArg some (by kernel_rfl))
  f169 := Tryz.func63.trans (congrArg some (by kernel_rfl))
  f240 := Tryz.func94.trans (congrArg some (by kernel_rfl))
  f241 := Tryz.func120.trans (congrArg some (by kernel_rfl))
  f276 := Tryz.func121.trans (congrArg some (by kernel_rfl))
  f277 := Tryz.func157.trans (congrArg some (by kernel_rfl))
  t0 := Tryz.underlying0
  a0 := Tryz.isAgg0
  z0 := Tryz.sizeOf0
  v0 := Tryz.zeroValue0
  t3 := Tryz.underlying3
  a3 := Tryz.isAgg3
  z3 := Tryz.sizeOf3
  v3 := Tryz.zeroValue3
  t4 := Tryz.underlying4
  a4 := Tryz.isAgg4
  z4 := Tryz.sizeOf4
  v4 := Tryz.zeroValue4
  t9 := Tryz.underlying9
  a9 := Tryz.isAgg9
  z9 := Tryz.sizeOf9
  v9 := Tryz.zeroValue9
  t20 := Tryz.underlying20
  a20 := Tryz.isAgg20
  z20 := Tryz.sizeOf20
  v20 := Tryz.zeroValue20
  t31 := Tryz.underlying22
  a31 := Tryz.isAgg22
  z31 := Tryz.sizeOf22
  v31 := Tryz.zeroValue22
  t37 := Tryz.underlying59
  a37 := Tryz.isAgg59
  z37 := Tryz.sizeOf59
  v37 := Tryz.zeroValue59
  t70 := Tryz.underlying83
  a70 := Tryz.isAgg83
  z70 := Tryz.sizeOf83
  v70 := Tryz.zeroValue83
  t72 := Tryz.underlying85
  a72 := Tryz.isAgg85
  z72 := Tryz.sizeOf85
  v72 := Tryz.zeroValue85
  t75 := Tryz.underlying87
  a75 := Tryz.isAgg87
  z75 := Tryz.sizeOf87
  v75 := Tryz.zeroValue87
  t76 := Tryz.underlying88
  a76 := Tryz.isAgg88
  z76 := Tryz.sizeOf88
  v76 := Tryz.zeroValue88
  t127 := Tryz.underlying111
  a127 := Tryz.isAgg111
  z127 := Tryz.sizeOf111
  v127 := Tryz.zeroValue111
  t164 := Tryz.underlying125
  a164 := Tryz.isAgg125
  z164 := Tryz.sizeOf125
  v164 := Tryz.zeroValue125 }
open Go.RowKit in
theorem Tryz.strings_Join (bk o c : Nat) (xs : List ByteArray) (sep : ByteArray) (w : World) (hcells : ∀ (j : Nat) x, xs[j]? = some x → w.cell? ⟨bk, o + j, none⟩ = some (.string x)) (hbk : bk < w.heap.size) (hN : xs.length ≤ 140737488355328) (hcap : xs.length ≤ c) (hlen : (Lib.join (xs.map (·.data.toList)) sep.data.toList).length ≤ 140737488355328) :
    Calls Tryz.prog 56 #[.slice (some ⟨bk, o, none⟩) xs.length c, .string sep] w fun e w' => e = .returned (.string ⟨(Lib.join (xs.map (·.data.toList)) sep.data.toList).toArray⟩) ∧ Below w.heap.size w w' := Any.strings_Join Tryz.lays156 Tryz.Builder_Extra_156 bk o c xs sep w hcells hbk hN hcap hlen
end Go.Proofs
set_option linter.unusedVariables false
set_option linter.unusedSimpArgs false
namespace Go.Proofs.YtbcbnkapipimmaaGreatDoor
open Go.RowKit
def OwnS (B : Nat) (w : World) (v : Value) (ps : List (List UInt8)) : Prop := w.ownsRow B 9 1 v ps.length (ps.map fun p => .string (bs p))
theorem info_str : (Tryz.prog.info? 9).map (fun i => (i.zero, i.size, i.bytes)) = some (some (.string ⟨#[]⟩), 1, 16) := by kernel_rfl
theorem str_run {ty : TypeId} {w : World} (p : List UInt8) (B : Nat) (v : Value) (ps : List (List UInt8)) (g : Nat) {t : TypeId} (hb : Bx w g #[.string (bs p)] t)
    (hown : OwnS B w v ps) (hl : ps.length ≤ 1000000) (hB : B ≤ w.heap.size) :
    ∃ v' w', (Builtin.append_ #[22, 22] ty #[v, .slice (some ⟨g, 0, none⟩) 1 1]).run Tryz.prog w = .ok v' w' ∧ OwnS B w' v' (ps ++ [p]) ∧ w.grownBy w' v.ownBlock ∧ (∀ g, v'.ownBlock = some g → v.ownBlock = some g ∨ w.heap.size ≤ g) := by
  obtain ⟨i0, hi, hz0, hz1, hz2⟩ := info_parts info_str
  obtain ⟨v', w', hr, h2, h3, h4⟩ := run_append_near (P := Tryz.prog) w B 22 ty 9 i0 _ 1 16 Tryz.underlying22 hi hz0 hz1 hz2 rfl (by decide) v ps.length (ps.map fun p => .string (bs p)) hown ⟨g, 0, none⟩ 1 1 [.string (bs p)] rfl (by
    intro j u hj
    match j, hj with
    | 0, hj => simp at hj; subst hj; simpa [Addr.add] using hb.cell' 0 _ rfl
    | n + 1, hj => simp at hj) (by
    intro u hu
    simp at hu
    subst hu; rfl) (by unfold maxLen; omega) (by omega) hB
  refine ⟨v', w', hr, ?_, h3, h4⟩
  unfold OwnS
  rw [List.length_append, List.map_append]
  exact h2
theorem str_append {ops : Array Oper} {rest : List Oper} {dst : Option Tmp} {ty : TypeId} {pos : String} {after : Array Edge} {a : Act} {w : World} {Q : Exit → Act → World → Prop} (s x : Tmp) (p : List UInt8) (B : Nat) (v : Value) (ps : List (List UInt8)) (g : Nat) {t : TypeId}
    (hs : a.eval (.tmp s) = v) (hx : a.eval (.tmp x) = .slice (some ⟨g, 0, none⟩) 1 1) (hb : Bx w g #[.string (bs p)] t)
    (hown : OwnS B w v ps) (hl : ps.length ≤ 1000000) (hB : B ≤ w.heap.size)
    (h : ∀ v' w', OwnS B w' v' (ps ++ [p]) → w.grownBy w' v.ownBlock → (∀ g, v'.ownBlock = some g → v.ownBlock = some g ∨ w.heap.size ≤ g) → wpList Tryz.prog ops Q rest (a.put dst v') w') :
    wpList Tryz.prog ops Q (⟨dst, .call { callee := .builtin .append, args := #[.tmp s, .tmp x], argTypes := #[22, 22] }, ty, pos, after, none⟩ :: rest) a w := by
  obtain ⟨v', w', hr, h2, h3, h4⟩ := str_run (ty := ty) p B v ps g hb hown hl hB
  exact Lib.wpList_append_run w rfl (.tmp s) (.tmp x) 22 22 rfl v _ hs hx v' w' hr (h v' w' h2 h3 h4)
theorem step_str {ops : Array Oper} {o : Oper} {a : Act} {w : World} {K : Act → World → Prop} {Q : Exit → Act → World → Prop} {E : Prop} (hgd : o.guard = none) (s x : Tmp)
    (hop : o.op = .call { callee := .builtin .append, args := #[.tmp s, .tmp x], argTypes := #[22, 22] }) (p : List UInt8) (B : Nat) (v : Value) (ps : List (List UInt8)) (g : Nat) {t : TypeId}
    (hs : a.eval (.tmp s) = v) (hx : a.eval (.tmp x) = .slice (some ⟨g, 0, none⟩) 1 1) (hb : Bx w g #[.string (bs p)] t)
    (hown : OwnS B w v ps) (hl : ps.length ≤ 1000000) (hB : B ≤ w.heap.size)
    (h : ∀ v' w', OwnS B w' v' (ps ++ [p]) → w.grownBy w' v.ownBlock → (∀ g, v'.ownBlock = some g → v.ownBlock = some g ∨ w.heap.size ≤ g) → K (a.put o.dst v') w') :
    if Region.wanted o (yielded ops a.tmps) = true then Oper.wp Tryz.prog o a w K Q else E := by
  have hw : Region.wanted o (yielded ops a.tmps) = true := by simp [Region.wanted, hgd]
  rw [if_pos hw]
  obtain ⟨v', w', hr, h2, h3, h4⟩ := str_run (ty := o.type) p B v ps g hb hown hl hB
  unfold Oper.wp
  simp only [execOp, hop, resolve, invoke, builtin, Sem.run_bind, Sem.run_pure, Result.andThen_ok, List.map_toArray, List.map_cons, List.map_nil, hs, hx, hr]
  exact h v' w' h2 h3 h4
theorem OwnS.lt {B : Nat} {w : World} {v : Value} {ps : List (List UInt8)} (h : OwnS B w v ps) {g : Nat} (hg : v.ownBlock = some g) : B ≤ g ∧ g < w.heap.size := by
  rcases h.2 with ⟨rfl, _⟩ | ⟨g', cap, cur, rfl, k1, k2, k3⟩
  · cases hg
  · have : g' = g := by simpa [Value.ownBlock] using hg
    subst this
    exact ⟨k1, (Array.getElem?_eq_some_iff.1 k2).1⟩
theorem OwnS.kept {B : Nat} {w w' : World} {v : Value} {ps : List (List UInt8)} (h : OwnS B w v ps) (q : Qw w w') : OwnS B w' v ps := by
  refine ⟨h.1, ?_⟩
  rcases h.2 with k | ⟨g, cap, cur, rfl, k1, k2, k3⟩
  · exact .inl k
  · exact .inr ⟨g, cap, cur, rfl, k1, (q.block g (Array.getElem?_eq_some_iff.1 k2).1).trans k2, k3⟩
structure Fm (w : World) (cs : Array Value) (v : Value) (ps : List (List UInt8)) (wr : World) : Prop where
  B : Bx wr w.heap.size cs 32
  O : OwnS (w.heap.size + 1) wr v ps
  q : Qw w wr
section
variable {w wr w' : World} {cs : Array Value} {v : Value} {ps : List (List UInt8)}
theorem Fm.kept (h : Fm w cs v ps wr) (q : Qw wr w') : Fm w cs v ps w' := ⟨h.B.kept q, h.O.kept q, h.q.trans q⟩
theorem Fm.alloc (h : Fm w cs v ps wr) (o : Obj) : Fm w cs v ps (wr.alloc o) := h.kept ((Below.refl _ _).alloc (Nat.le_refl _) _)
theorem Fm.drew (h : Fm w cs v ps wr) : Fm w cs v ps wr.drew := h.kept ((Below.refl _ _).drew)
theorem Fm.app (h : Fm w cs v ps wr) {p : List UInt8} {v' : Value} (ho : OwnS (w.heap.size + 1) w' v' (ps ++ [p])) (hg : wr.grownBy w' v.ownBlock) : Fm w cs v' (ps ++ [p]) w' := by
  have hsz := h.B.lt
  have low : ∀ b, b ≤ w.heap.size → w'.heap[b]? = wr.heap[b]? := fun b hb => hg.block b (by omega) (fun e => by have := (h.O.lt e.symm).1; omega)
  exact ⟨(low _ (Nat.le_refl _)).trans h.B, ho, ⟨hg.os.trans h.q.os, hg.tape.trans h.q.tape, hg.output.trans h.q.output, Nat.le_trans h.q.size hg.size, fun b hb => (low b (by omega)).trans (h.q.block b hb)⟩⟩
theorem Fm.sz (h : Fm w cs v ps wr) : w.heap.size + 1 ≤ wr.heap.size := h.B.lt
end
theorem Bx.c11 {w : World} {b : Nat} {v0 v1 v2 v3 v4 v5 v6 v7 v8 v9 v10 : Value} {t : TypeId} (X : Bx w b #[v0, v1, v2, v3, v4, v5, v6, v7, v8, v9, v10] t) : w.cell? ⟨b, 0, none⟩ = some v0 ∧ w.cell? ⟨b, 1, none⟩ = some v1 ∧ w.cell? ⟨b, 2, none⟩ = some v2 ∧ w.cell? ⟨b, 3, none⟩ = some v3 ∧ w.cell? ⟨b, 4, none⟩ = some v4 ∧ w.cell? ⟨b, 5, none⟩ = some v5 ∧ w.cell? ⟨b, 6, none⟩ = some v6 ∧ w.cell? ⟨b, 7, none⟩ = some v7 ∧ w.cell? ⟨b, 8, none⟩ = some v8 ∧ w.cell? ⟨b, 9, none⟩ = some v9 ∧ w.cell? ⟨b, 10, none⟩ = some v10 :=
  ⟨X.cell 0, X.cell 1, X.cell 2, X.cell 3, X.cell 4, X.cell 5, X.cell 6, X.cell 7, X.cell 8, X.cell 9, X.cell 10⟩
theorem enc_letter {c : Int} (h0 : 65 ≤ c) (h1 : c ≤ 90) : Utf8.encode c = bs [UInt8.ofNat c.toNat] := by
  unfold Utf8.encode Utf8.valid
  have e : ((decide (0 ≤ c) && decide (c < 0xD800)) || (decide (0xE000 ≤ c) && decide (c ≤ 0x10FFFF))) = true := by simp; omega
  simp only [e, if_true]
  rw [if_pos (by omega)]
  rfl
theorem join_joinb : ∀ ps : List (List UInt8), Lib.join ps [32] = Sy.joinb ps
  | [] => by simp [Lib.join, Sy.joinb]
  | [p] => by simp [Lib.join, Sy.joinb]
  | p :: q :: r => by
    have := join_joinb (q :: r)
    rw [Sy.joinb, if_neg (by simp), ← this]
    simp [Lib.join]
theorem joinW {B : Nat} {w : World} {v : Value} {ps : List (List UInt8)} (h : OwnS B w v ps) (hn : ps.length ≤ 1000000) (hl : (Sy.joinb ps).length ≤ 140737488355328) :
    Calls Tryz.prog 56 #[v, .string ⟨#[32]⟩] w fun e w' => e = .returned (.string (bs (Sy.joinb ps))) ∧ Qw w w' := by
  have hmap : (ps.map bs).map (·.data.toList) = ps := by rw [List.map_map]; simp [Function.comp_def, bs]
  rcases h.2 with ⟨rfl, h0⟩ | ⟨g, cap, cur, rfl, k1, k2, hne, hcap, hcur, htake⟩
  · have e0 : ps = [] := List.eq_nil_of_length_eq_zero h0
    subst e0
    refine (Any.strings_Join_none Tryz.lays156 Tryz.Builder_Extra_156 none 0 ⟨#[32]⟩ w).mono ?_
    rintro e w' ⟨rfl, rfl⟩
    exact ⟨rfl, Qw.refl _⟩
  · have hc := h.cells (g := g) rfl
    have := Tryz.strings_Join g 0 cap (ps.map bs) ⟨#[32]⟩ w (by
      intro j x hj
      rw [List.getElem?_map] at hj
      obtain ⟨p, hp, rfl⟩ := Option.map_eq_some_iff.1 hj
      have := hc j (.string (bs p)) (by rw [List.getElem?_map, hp]; rfl)
      rw [show ((⟨g, 0, none⟩ : Addr).add j) = ⟨g, 0 + j, none⟩ from by cases j <;> simp [Addr.add]] at this
      exact this) (Array.getElem?_eq_some_iff.1 k2).1 (by simp; omega) (by simpa using hne) (by rw [hmap]; show (Lib.join ps [32]).length ≤ _; rw [join_joinb]; exact hl)
    rw [hmap, List.length_map] at this
    refine this.mono ?_
    rintro e w' ⟨rfl, q⟩
    refine ⟨?_, q⟩
    show Ending.returned (.string ⟨(Lib.join ps [32]).toArray⟩) = _
    rw [join_joinb]; rfl
end Go.Proofs.YtbcbnkapipimmaaGreatDoor
set_option linter.unusedVariables false
set_option linter.unusedSimpArgs false
namespace Go.Proofs.YtbcbnkapipimmaaGreatDoor
open Go.RowKit
theorem sum_le_len {l : List Nat} {m : Nat} (h : ∀ x ∈ l, x ≤ m) : l.sum ≤ l.length * m := by
  induction l with
  | nil => simp
  | cons a l ih =>
    have h1 := h a (by simp)
    have h2 := ih (fun x hx => h x (by simp [hx]))
    simp only [List.sum_cons, List.length_cons, Nat.add_mul]; omega
theorem Sy.ctl_len {b : Sy.Bl} (h : Sy.vldb b = true) (h0 : b.kind ≠ 0) : (Sy.ctl b).length ≤ 5000000 := by
  obtain ⟨kind, label, skip, words, left, x, n⟩ := b
  simp only [Sy.vldb, Sy.okb, Sy.limb, Bool.and_eq_true] at h
  obtain ⟨⟨_, h⟩, ⟨⟨_, hl⟩, hx⟩⟩ := h
  simp only at h0 h
  rw [if_neg h0] at h
  simp only [Bool.and_eq_true] at h
  replace h := h.2
  have hl : Sy.dpt left ≤ 16 := of_decide_eq_true hl
  have hx : Sy.dpt x ≤ 16 := of_decide_eq_true hx
  have dl : ∀ n : Int, Sy.cnt n 99999 = true → (Sy.decs n).length ≤ 5 := fun n h => Sy.decs_len h (by decide)
  have c3 : ∀ n : Int, Sy.cnt n 3 = true → Sy.cnt n 99999 = true := fun n h => by simp [Sy.cnt] at h ⊢; omega
  have bl : ∀ x : Sy.Ex, (Sy.binb x).length = (Sy.bpr x).length + 2 := binb_len
  unfold Sy.ctl
  simp only
  by_cases k1 : kind = 1
  · rw [if_pos k1]; rw [if_pos (.inl k1)] at h; simp only [Bool.and_eq_true] at h
    have l1 := Sy.blen_16 h.1.1 hl
    have l2 := Sy.blen_16 h.1.2 hx
    have l3 : (Sy.bce left).length ≤ 2000002 := by
      unfold Sy.bce
      split
      · omega
      · rw [bl]; omega
    simp only [List.length_append, List.length_cons, List.length_nil]; omega
  · rw [if_neg k1]
    by_cases k2 : kind = 2
    · rw [if_pos k2]; rw [if_neg (by omega), if_pos k2] at h; simp only [Bool.and_eq_true] at h
      have l2 := Sy.bva_len2 h.1.2 hx
      simp only [Sy.cGOTO, List.length_append, List.length_cons, List.length_nil]; omega
    · rw [if_neg k2]
      by_cases k3 : kind = 3
      · rw [if_pos k3]; rw [if_pos (.inr k3)] at h; simp only [Bool.and_eq_true] at h
        have l1 := Sy.bva_len2 h.1.1 hl
        have l2 := Sy.blen_16 h.1.2 hx
        have l3 := bl x
        simp only [Sy.cIF, Sy.cGOTO, List.length_append, List.length_cons, List.length_nil]; omega
      · rw [if_neg k3]
        rw [if_neg (by omega), if_neg k2] at h
        by_cases k4 : kind = 4
        · rw [if_pos k4]; rw [if_pos k4] at h; simp only [Bool.and_eq_true] at h
          have l2 := Sy.blen_16 h.1.2 hx
          have l3 := bl x
          have l4 := dl _ (c3 _ h.2)
          simp only [Sy.cWHILE, Sy.cDO, List.length_append, List.length_cons, List.length_nil]; omega
        · rw [if_neg k4]; rw [if_neg k4] at h
          by_cases k5 : kind = 5
          · rw [if_pos k5]; rw [if_pos k5] at h; simp only [Bool.and_eq_true] at h
            have l4 := dl _ (c3 _ h.2)
            simp only [Sy.cEND, List.length_append, List.length_cons, List.length_nil]; omega
          · rw [if_neg k5]; rw [if_neg k5] at h
            by_cases k6 : kind = 6
            · rw [if_pos k6] at h; simp only [Bool.and_eq_true] at h
              have l4 := dl _ h.2
              simp only [List.length_cons]; omega
            · rw [if_neg k6] at h; cases h
theorem Sy.vld_word {b : Sy.Bl} (h : Sy.vldb b = true) : b.words.length ≤ 24 ∧ ∀ i (hi : i < b.words.length), Sy.isw b.words[i].1 = true ∧ Sy.okx b.words[i].2 = true ∧ Sy.dpt b.words[i].2 ≤ 16 := by
  simp only [Sy.vldb, Sy.okb, Sy.limb, Bool.and_eq_true] at h
  obtain ⟨⟨_, h⟩, ⟨⟨⟨h1, h2⟩, _⟩, _⟩⟩ := h
  refine ⟨of_decide_eq_true h1, fun i hi => ?_⟩
  have hm := List.getElem_mem hi
  have d := of_decide_eq_true ((List.all_eq_true.1 h2) _ hm)
  by_cases k : b.kind = 0
  · rw [if_pos k] at h
    simp only [Bool.and_eq_true] at h
    have := (List.all_eq_true.1 h.1.1.1) _ hm
    simp only [Bool.and_eq_true] at this
    exact ⟨this.1, this.2, d⟩
  · rw [if_neg k] at h
    simp only [Bool.and_eq_true] at h
    have := of_decide_eq_true h.1
    rw [this] at hi; simp at hi
theorem Sy.vld_nowords {b : Sy.Bl} (h : Sy.vldb b = true) (k : b.kind ≠ 0) : b.words = [] := by
  simp only [Sy.vldb, Sy.okb, Bool.and_eq_true] at h
  have h := h.1.2
  rw [if_neg k] at h
  simp only [Bool.and_eq_true] at h
  exact of_decide_eq_true h.1
theorem Sy.vld_label {b : Sy.Bl} (h : Sy.vldb b = true) (k : b.label ≠ 0) : 0 ≤ b.label ∧ b.label ≤ 99999 := by
  simp only [Sy.vldb, Sy.okb, Bool.and_eq_true, Bool.or_eq_true] at h
  rcases h.1.1 with h | h
  · exact absurd (of_decide_eq_true h) k
  · simp [Sy.cnt] at h; omega
theorem Sy.fmb_big {b : Sy.Bl} (h : Sy.vldb b = true) : (Sy.fmb b).length ≤ 100000000 := by
  obtain ⟨hn, hw⟩ := Sy.vld_word h
  unfold Sy.fmb
  refine Nat.le_trans (Sy.joinb_len _) ?_
  unfold Sy.partsb
  simp only [List.map_append, List.sum_append, List.map_map]
  have h1 : ((if b.skip = true then [[47]] else [] : List (List UInt8)).map (fun p => p.length + 1)).sum ≤ 2 := by split <;> simp
  have h2 : ((if b.label = 0 then [] else [78 :: Sy.decs b.label] : List (List UInt8)).map (fun p => p.length + 1)).sum ≤ 7 := by
    split
    · simp
    · rename_i k
      have := Sy.vld_label h k
      have := Sy.decs_len (n := b.label) (m := 99999) (by simp [Sy.cnt]; omega) (by decide)
      simp; omega
  have h3 : ((if b.kind = 0 then [] else [Sy.ctl b] : List (List UInt8)).map (fun p => p.length + 1)).sum ≤ 5000001 := by
    split
    · simp
    · rename_i k
      have := Sy.ctl_len h k
      simp; omega
  have h4 : ((b.words.map ((fun p : List UInt8 => p.length + 1) ∘ Sy.wdb))).sum ≤ 24 * 2000004 := by
    refine Nat.le_trans (sum_le_len (m := 2000004) ?_) (by rw [List.length_map]; exact Nat.mul_le_mul_right _ hn)
    intro y hy
    obtain ⟨u, hu, rfl⟩ := List.mem_map.1 hy
    obtain ⟨i, hi, rfl⟩ := List.getElem_of_mem hu
    have := Sy.bva_len2 (hw i hi).2.1 (hw i hi).2.2
    show (Sy.wdb _).length + 1 ≤ _
    unfold Sy.wdb
    rw [List.length_cons]; omega
  omega
theorem sx_format_no (b : Sy.Bl) (h : Sy.vldb b = false) (cs : Array Value) (S : Nat → Prop) (w : World) (hO : Ow w) (hB : BlkB w S b cs) : Calls Tryz.prog 26 #[.agg cs] w fun e w' => e = .returned (.string (bs [])) ∧ Qw w w' := by
  have cv : ∀ w1, Qw w w1 → Calls Tryz.prog 24 #[.agg cs] w1 fun e w' => e = .returned (.bool (Sy.vldb b)) ∧ Qw w1 w' := fun w1 q => sv_valid b cs S w1 (hO.kept q) (hB.go fun b hS hb => ⟨q.block b hb, hS⟩)
  rw [h] at cv
  obtain ⟨kind, label, skip, words, left, x, n⟩ := b
  obtain ⟨wa, wc, la, lc, xa, xc, rfl, hW, hL, hX⟩ := hB
  have CV := Lib.hid cv
  clear cv hO hW hL hX h
  have q0 : Hid (Qw w w) := Lib.hid (Qw.refl w)
  go_enter Tryz.func26, Tryz.ntmps26
  go_wp2_with (go_at_call 24; ((with_reducible refine (CV.out _ Qz).mono ?_); rintro e w' ⟨rfl, q⟩; replace q0 : Hid (Qw w w') := Lib.hid (Qw.trans Qz q); clear q))
  go_ret
  exact ⟨rfl, q0.out⟩
end Go.Proofs.YtbcbnkapipimmaaGreatDoor
set_option linter.unusedVariables false
set_option linter.unusedSimpArgs false
namespace Go.Proofs.YtbcbnkapipimmaaGreatDoor
open Go.RowKit
set_option maxRecDepth 100000 in
set_option maxHeartbeats 4000000 in
theorem sx_format_ff {kind label n : Int} {words : List (Int × Sy.Ex)} {left x : Sy.Ex} {wa la xa : Option Addr} {wc lc xc : Nat} {S : Nat → Prop} (w : World) (hO : Ow w) (hT : Tb w) (hW : WordsB w S wa wc words) (hL : KidsB w S la lc left.ks) (hX : KidsB w S xa xc x.ks)
    (hv : Sy.vldb ⟨kind, label, false, words, left, x, n⟩ = true) (hl : label = 0) :
    Calls Tryz.prog 26 #[.agg #[.int .i64 kind, .int .i64 label, .bool false, .slice wa words.length wc, .int .i64 left.op, .int .i64 left.n, .slice la left.ks.length lc, .int .i64 x.op, .int .i64 x.n, .slice xa x.ks.length xc, .int .i64 n]] w fun e w' => e = .returned (.string (bs (Sy.fmb ⟨kind, label, false, words, left, x, n⟩))) ∧ Qw w w' := by
  have hB : BlkB w S ⟨kind, label, false, words, left, x, n⟩ #[.int .i64 kind, .int .i64 label, .bool false, .slice wa words.length wc, .int .i64 left.op, .int .i64 left.n, .slice la left.ks.length lc, .int .i64 x.op, .int .i64 x.n, .slice xa x.ks.length xc, .int .i64 n] := ⟨wa, wc, la, lc, xa, xc, rfl, hW, hL, hX⟩
  have blk : ∀ w1, Qw w w1 → BlkB w1 S ⟨kind, label, false, words, left, x, n⟩ #[.int .i64 kind, .int .i64 label, .bool false, .slice wa words.length wc, .int .i64 left.op, .int .i64 left.n, .slice la left.ks.length lc, .int .i64 x.op, .int .i64 x.n, .slice xa x.ks.length xc, .int .i64 n] := fun w1 q => hB.go fun b hS hb => ⟨q.block b hb, hS⟩
  have cv : ∀ w1, Qw w w1 → Calls Tryz.prog 24 #[.agg #[.int .i64 kind, .int .i64 label, .bool false, .slice wa words.length wc, .int .i64 left.op, .int .i64 left.n, .slice la left.ks.length lc, .int .i64 x.op, .int .i64 x.n, .slice xa x.ks.length xc, .int .i64 n]] w1 fun e w' => e = .returned (.bool true) ∧ Qw w1 w' := fun w1 q => by
    have := sv_valid _ _ S w1 (hO.kept q) (blk w1 q)
    rw [hv] at this; exact this
  have cc : kind ≠ 0 → ∀ w1, Qw w w1 → Calls Tryz.prog 55 #[.agg #[.int .i64 kind, .int .i64 label, .bool false, .slice wa words.length wc, .int .i64 left.op, .int .i64 left.n, .slice la left.ks.length lc, .int .i64 x.op, .int .i64 x.n, .slice xa x.ks.length xc, .int .i64 n]] w1 fun e w' => e = .returned (.string (bs (Sy.ctl ⟨kind, label, false, words, left, x, n⟩))) ∧ Qw w1 w' := fun k w1 q => sx_control ⟨kind, label, false, words, left, x, n⟩ hv k _ S w1 (hO.kept q) (hT.kept q) (blk w1 q)
  obtain ⟨hw24, hwd⟩ := Sy.vld_word hv
  have hnow : kind ≠ 0 → words = [] := fun k => Sy.vld_nowords hv k
  have hbig := Sy.fmb_big hv
  have hparts : Sy.fmb ⟨kind, label, false, words, left, x, n⟩ = Sy.joinb ([] ++ (words.map Sy.wdb ++ if kind = 0 then [] else [Sy.ctl ⟨kind, label, false, words, left, x, n⟩])) := by
    unfold Sy.fmb Sy.partsb; simp [hl]
  subst hl
  have cells : ∀ i (h : i < words.length), ∃ (b off : Nat) (ad : Option Addr) (cc : Nat), wa = some ⟨b, off, none⟩ ∧ b < w.heap.size ∧ (∀ w1, Qw w w1 → w1.cell? ⟨b, off + i * 4, none⟩ = some (.int .i64 words[i].1) ∧ w1.cell? ⟨b, off + i * 4 + 1, none⟩ = some (.int .i64 words[i].2.op) ∧ w1.cell? ⟨b, off + i * 4 + 2, none⟩ = some (.int .i64 words[i].2.n) ∧ w1.cell? ⟨b, off + i * 4 + 3, none⟩ = some (.slice ad words[i].2.ks.length cc)) ∧
      (∀ w1, Qw w w1 → Calls Tryz.prog 54 #[.agg #[.int .i64 words[i].2.op, .int .i64 words[i].2.n, .slice ad words[i].2.ks.length cc]] w1 fun e w' => e = .returned (.string (bs (Sy.bva words[i].2))) ∧ Qw w1 w') := by
    intro i hi
    rcases hW.2.2 with h0 | ⟨b, off, ad, cd, rfl, hS, hc⟩
    · rw [h0] at hi; simp at hi
    · obtain ⟨h1, h2, h3, h4, h5⟩ := hc i hi
      have bl := cell_lt h1
      refine ⟨b, off, ad i, cd i, rfl, bl, fun w1 q => ?_, fun w1 q => ?_⟩
      · have k : ∀ o, w1.cell? ⟨b, o, none⟩ = w.cell? ⟨b, o, none⟩ := fun o => World.cell?_of_block (w := w) (q.block b bl)
        rw [k, k, k, k]; exact ⟨h1, h2, h3, h4⟩
      · exact sx_valued _ (hwd i hi).2.1 (hwd i hi).2.2 (ad i) (cd i) S w1 (hO.kept q) (hT.kept q) (h5.kept q)
  have CV := Lib.hid cv
  have CC := Lib.hid cc
  have HP := Lib.hid hparts
  have CL := Lib.hid cells
  have HB := Lib.hid hbig
  have HN := Lib.hid hnow
  have HW := Lib.hid hwd
  have hwl : words.length ≤ 24 := hw24
  clear cv cc hparts cells hbig hnow hwd hW hL hX hB blk hO hT hv hw24
  have q0 : Hid (Qw w w) := Lib.hid (Qw.refl w)
  go_enter Tryz.func26, Tryz.ntmps26
  go_wp2_with (first
    | (go_at_call 24; go_loud ((with_reducible refine (CV.out _ Qz).mono ?_); rintro e w' ⟨rfl, q⟩; have F : Hid (Fm w #[.int .i64 kind, .int .i64 0, .bool false, .slice wa words.length wc, .int .i64 left.op, .int .i64 left.n, .slice la left.ks.length lc, .int .i64 x.op, .int .i64 x.n, .slice xa x.ks.length xc, .int .i64 n] (.slice none 0 0) [] w') := Lib.hid ⟨Bx.kept (by repeat (first | exact Bx.new _ _ _ | refine Bx.alloc ?_ _ | refine Bx.drew ?_)) q, World.ownsRow_nil _ _ _ _, Qw.trans Qz q⟩; obtain ⟨x0, x1, x2, x3, x4, x5, x6, x7, x8, x9, x10⟩ := Bx.c11 F.out.B; clear q q0)))
  go_loopw [3, 27] (fun pv iv wr => ∃ i : Nat, iv = .int .i64 (i : Int) ∧ i ≤ words.length ∧ Hid (Fm w #[.int .i64 kind, .int .i64 0, .bool false, .slice wa words.length wc, .int .i64 left.op, .int .i64 left.n, .slice la left.ks.length lc, .int .i64 x.op, .int .i64 x.n, .slice xa x.ks.length xc, .int .i64 n] pv ([] ++ (words.take i).map Sy.wdb) wr)) (fun _ iv _ => words.length - (intOf iv).toNat)
  case atStart => exact ⟨0, rfl, Nat.zero_le _, F⟩
  case round =>
    clear F x0 x1 x2 x3 x4 x5 x6 x7 x8 x9 x10
    obtain ⟨i, rfl, hi, F⟩ := hrel
    by_cases hlt : i < words.length
    · obtain ⟨b, off, ad, cc, rfl, bl, hc, cw⟩ := CL.out i hlt
      obtain ⟨c0, c1, c2, c3⟩ := hc _ F.out.q
      obtain ⟨hu, hok, hdp⟩ := HW.out i hlt
      have hiw : (i : Int) < (words.length : Int) := by omega
      have hb90 : 65 ≤ words[i].1 ∧ words[i].1 ≤ 90 := by simp [Sy.isw] at hu; omega
      have hv2 := Sy.bva_len2 hok hdp
      have eW : Utf8.encode words[i].1 ++ bs (Sy.bva words[i].2) = bs (Sy.wdb words[i]) := by rw [enc_letter hb90.1 hb90.2, bs_app]; rfl
      have hzw : ¬ 9223372036854775807 < (Utf8.encode words[i].1).size + (bs (Sy.bva words[i].2)).size := by rw [enc_letter hb90.1 hb90.2, bs_size, bs_size, List.length_singleton]; omega
      have etk : (words.take (i + 1)).map Sy.wdb = (words.take i).map Sy.wdb ++ [Sy.wdb words[i]] := by rw [← List.take_append_getElem hlt, List.map_append]; rfl
      have hcnt : ([] ++ (words.take i).map Sy.wdb).length ≤ 1000000 := by simp; omega
      have ETK := Lib.hid etk
      have EW := Lib.hid eW
      generalize Sy.wdb words[i] = pw at *
      generalize Sy.bva words[i].2 = rv at *
      have CW := Lib.hid cw
      generalize words[i].2.ks.length = kl at *
      generalize words[i].2.op = wop at *
      generalize words[i].2.n = wn at *
      generalize words[i].1 = wc0 at *
      obtain ⟨hb1, hb2⟩ := hb90
      have h32 : IntKind.wrap .i32 wc0 = wc0 := by simp [IntKind.wrap, IntKind.bits, IntKind.signed]; omega
      go_upto_region 11 with fail
      refine code_of (fun w2 => Fm w #[.int .i64 kind, .int .i64 0, .bool false, .slice (some ⟨b, off, none⟩) words.length wc, .int .i64 left.op, .int .i64 left.n, .slice la left.ks.length lc, .int .i64 x.op, .int .i64 x.n, .slice xa x.ks.length xc, .int .i64 n] u3 ([] ++ (words.take i).map Sy.wdb) w2 ∧ Bx w2 wr.heap.size #[.int .i64 wc0, .int .i64 wop, .int .i64 wn, .slice ad kl cc] 77) ⟨F.out.alloc _, Bx.new _ _ _⟩ ?_
      rintro w2 ⟨F1, X⟩
      have z0 := X.cell' 0 _ rfl
      have z1 := X.cell' 1 _ rfl
      have z2 := X.cell' 2 _ rfl
      have z3 := X.cell' 3 _ rfl
      replace F1 := Lib.hid F1
      have XH := Lib.hid X
      clear X F c0 c1 c2 c3
      go_region_law (first
        | (refine step_str rfl 31 40 rfl pw (w.heap.size + 1) u3 ([] ++ (words.take i).map Sy.wdb) w'.heap.size (by simp [Act.eval, Act.put]) (by simp [Act.eval, Act.put]) (by rw [← EW.out]; exact Bx.new _ _ _) (F2.out.alloc _).O hcnt (by have := (F2.out.alloc (.cells #[] 0)).sz; simp at this ⊢; omega) ?_; intro v' w3 ho hg hn; have F3 := Lib.hid ((F2.out.alloc _).app ho hg); clear ho hg hn)
        | (go_simp; go_wp2_with (go_at_call 54; ((with_reducible refine (CW.out _ F1.out.drew.q).mono ?_); rintro e w' ⟨rfl, q⟩; have F2 := Lib.hid (F1.out.drew.kept q); have X2 := Bx.kept XH.out.drew q; have z0 := X2.cell' 0 _ rfl; have z1 := X2.cell' 1 _ rfl; have z2 := X2.cell' 2 _ rfl; have z3 := X2.cell' 3 _ rfl; clear X2))))
      all_goals go_wp2_with fail
      all_goals go_roundw
      all_goals (first | (case measure => simp [intOf]; omega) | skip)
      all_goals exact ⟨i + 1, by go_num, by omega, Lib.hid (by rw [ETK.out, ← List.append_assoc]; exact F3.out)⟩
    · obtain rfl : i = words.length := by omega
      obtain ⟨x0, x1, x2, x3, x4, x5, x6, x7, x8, x9, x10⟩ := Bx.c11 F.out.B
      have hnl : ¬ ((words.length : Nat) : Int) < (words.length : Int) := by omega
      have ePS : [] ++ (words.take words.length).map Sy.wdb = [] ++ words.map Sy.wdb := by rw [List.take_length]
      rw [ePS] at F
      have hcnt : ([] ++ words.map Sy.wdb).length ≤ 1000000 := by simp; omega
      clear ePS CL HW
      by_cases hk : kind = 0
      · subst hk
        have eJ : Sy.fmb ⟨0, 0, false, words, left, x, n⟩ = Sy.joinb ([] ++ words.map Sy.wdb) := by rw [HP.out, if_pos rfl, List.append_nil]
        have EJ := Lib.hid eJ
        rw [eJ] at HB
        have CJ := Lib.hid (joinW F.out.O hcnt (Nat.le_trans HB.out (by decide)))
        clear CC HP HN eJ
        go_wp2_with (go_at_call 56; ((with_reducible refine CJ.out.mono ?_); rintro e w' ⟨rfl, q⟩; have QF := Lib.hid (Qw.trans F.out.q q); clear q))
        go_ret
        exact ⟨by rw [EJ.out] <;> rfl, QF.out⟩
      · have hwn := HN.out hk
        have C1 := Lib.hid (CC.out hk)
        have hk2 : (kind != 0) = true := by simpa using hk
        have eJ : Sy.fmb ⟨kind, 0, false, words, left, x, n⟩ = Sy.joinb ([] ++ words.map Sy.wdb ++ [Sy.ctl ⟨kind, 0, false, words, left, x, n⟩]) := by rw [HP.out, if_neg hk, List.append_assoc]
        have EJ := Lib.hid eJ
        rw [eJ] at HB
        have hcnt2 : ([] ++ words.map Sy.wdb ++ [Sy.ctl ⟨kind, 0, false, words, left, x, n⟩]).length ≤ 1000000 := by simp; omega
        have cj := fun v w1 (h : OwnS (w.heap.size + 1) w1 v ([] ++ words.map Sy.wdb ++ [Sy.ctl ⟨kind, 0, false, words, left, x, n⟩])) => joinW h hcnt2 (Nat.le_trans HB.out (by decide))
        have CJ := Lib.hid cj
        clear CC HP HN eJ HB cj hcnt2 hwn
        generalize Sy.ctl ⟨kind, 0, false, words, left, x, n⟩ = ct at CJ C1 EJ
        go_wp2_with (first
          | (go_at_call 55; ((with_reducible refine (C1.out _ F.out.q).mono ?_); rintro e w' ⟨rfl, q⟩; replace F := Lib.hid (F.out.kept q); obtain ⟨x0, x1, x2, x3, x4, x5, x6, x7, x8, x9, x10⟩ := Bx.c11 F.out.B; clear q))
          | (at_builtin; refine str_append 46 49 ct (w.heap.size + 1) _ _ _ (by rfl) (by rfl) (Bx.new _ _ _) (F.out.alloc _).O (by first | exact hcnt | simp) (by have := (F.out.alloc (.cells #[] 0)).sz; simp at this ⊢; omega) ?_; intro v' w2 ho hg hn; replace F := Lib.hid ((F.out.alloc _).app ho hg); obtain ⟨x0, x1, x2, x3, x4, x5, x6, x7, x8, x9, x10⟩ := Bx.c11 F.out.B; clear ho hg hn)
          | (go_at_call 56; ((with_reducible refine (CJ.out _ _ F.out.O).mono ?_); rintro e w' ⟨rfl, q⟩; have QF := Lib.hid (Qw.trans F.out.q q); clear q)))
        go_ret
        exact ⟨by rw [EJ.out] <;> rfl, QF.out⟩
set_option maxRecDepth 100000 in
set_option maxHeartbeats 4000000 in
theorem sx_format_ft {kind label n : Int} {words : List (Int × Sy.Ex)} {left x : Sy.Ex} {wa la xa : Option Addr} {wc lc xc : Nat} {S : Nat → Prop} (w : World) (hO : Ow w) (hT : Tb w) (hW : WordsB w S wa wc words) (hL : KidsB w S la lc left.ks) (hX : KidsB w S xa xc x.ks)
    (hv : Sy.vldb ⟨kind, label, false, words, left, x, n⟩ = true) (hl : label ≠ 0) :
    Calls Tryz.prog 26 #[.agg #[.int .i64 kind, .int .i64 label, .bool false, .slice wa words.length wc, .int .i64 left.op, .int .i64 left.n, .slice la left.ks.length lc, .int .i64 x.op, .int .i64 x.n, .slice xa x.ks.length xc, .int .i64 n]] w fun e w' => e = .returned (.string (bs (Sy.fmb ⟨kind, label, false, words, left, x, n⟩))) ∧ Qw w w' := by
  have hB : BlkB w S ⟨kind, label, false, words, left, x, n⟩ #[.int .i64 kind, .int .i64 label, .bool false, .slice wa words.length wc, .int .i64 left.op, .int .i64 left.n, .slice la left.ks.length lc, .int .i64 x.op, .int .i64 x.n, .slice xa x.ks.length xc, .int .i64 n] := ⟨wa, wc, la, lc, xa, xc, rfl, hW, hL, hX⟩
  have blk : ∀ w1, Qw w w1 → BlkB w1 S ⟨kind, label, false, words, left, x, n⟩ #[.int .i64 kind, .int .i64 label, .bool false, .slice wa words.length wc, .int .i64 left.op, .int .i64 left.n, .slice la left.ks.length lc, .int .i64 x.op, .int .i64 x.n, .slice xa x.ks.length xc, .int .i64 n] := fun w1 q => hB.go fun b hS hb => ⟨q.block b hb, hS⟩
  have cv : ∀ w1, Qw w w1 → Calls Tryz.prog 24 #[.agg #[.int .i64 kind, .int .i64 label, .bool false, .slice wa words.length wc, .int .i64 left.op, .int .i64 left.n, .slice la left.ks.length lc, .int .i64 x.op, .int .i64 x.n, .slice xa x.ks.length xc, .int .i64 n]] w1 fun e w' => e = .returned (.bool true) ∧ Qw w1 w' := fun w1 q => by
    have := sv_valid _ _ S w1 (hO.kept q) (blk w1 q)
    rw [hv] at this; exact this
  have cc : kind ≠ 0 → ∀ w1, Qw w w1 → Calls Tryz.prog 55 #[.agg #[.int .i64 kind, .int .i64 label, .bool false, .slice wa words.length wc, .int .i64 left.op, .int .i64 left.n, .slice la left.ks.length lc, .int .i64 x.op, .int .i64 x.n, .slice xa x.ks.length xc, .int .i64 n]] w1 fun e w' => e = .returned (.string (bs (Sy.ctl ⟨kind, label, false, words, left, x, n⟩))) ∧ Qw w1 w' := fun k w1 q => sx_control ⟨kind, label, false, words, left, x, n⟩ hv k _ S w1 (hO.kept q) (hT.kept q) (blk w1 q)
  obtain ⟨hw24, hwd⟩ := Sy.vld_word hv
  have hnow : kind ≠ 0 → words = [] := fun k => Sy.vld_nowords hv k
  have hbig := Sy.fmb_big hv
  have hparts : Sy.fmb ⟨kind, label, false, words, left, x, n⟩ = Sy.joinb ([78 :: Sy.decs label] ++ (words.map Sy.wdb ++ if kind = 0 then [] else [Sy.ctl ⟨kind, label, false, words, left, x, n⟩])) := by
    unfold Sy.fmb Sy.partsb; simp [hl]
  obtain ⟨lb0, lb1⟩ := Sy.vld_label hv hl
  have ci : ∀ w1, Qw w w1 → Calls Tryz.prog 53 #[.int .i64 label] w1 fun e w' => e = .returned (.string (bs (Sy.decs label))) ∧ Qw w1 w' := fun w1 q => itW label lb0 lb1 w1 (hT.kept q)
  have eL : bs [78] ++ bs (Sy.decs label) = bs (78 :: Sy.decs label) := by rw [bs_app]; rfl
  have dl := Sy.decs_len (n := label) (m := 99999) (by simp only at lb0 lb1 hl; simp [Sy.cnt]; omega) (by decide)
  have hzl : ¬ 9223372036854775807 < 1 + (bs (Sy.decs label)).size := by rw [bs_size]; omega
  generalize Sy.decs label = dg at *
  have CI := Lib.hid ci
  have EL := Lib.hid eL
  clear ci eL dl
  have hlb : (label != 0) = true := by simpa using hl
  have cells : ∀ i (h : i < words.length), ∃ (b off : Nat) (ad : Option Addr) (cc : Nat), wa = some ⟨b, off, none⟩ ∧ b < w.heap.size ∧ (∀ w1, Qw w w1 → w1.cell? ⟨b, off + i * 4, none⟩ = some (.int .i64 words[i].1) ∧ w1.cell? ⟨b, off + i * 4 + 1, none⟩ = some (.int .i64 words[i].2.op) ∧ w1.cell? ⟨b, off + i * 4 + 2, none⟩ = some (.int .i64 words[i].2.n) ∧ w1.cell? ⟨b, off + i * 4 + 3, none⟩ = some (.slice ad words[i].2.ks.length cc)) ∧
      (∀ w1, Qw w w1 → Calls Tryz.prog 54 #[.agg #[.int .i64 words[i].2.op, .int .i64 words[i].2.n, .slice ad words[i].2.ks.length cc]] w1 fun e w' => e = .returned (.string (bs (Sy.bva words[i].2))) ∧ Qw w1 w') := by
    intro i hi
    rcases hW.2.2 with h0 | ⟨b, off, ad, cd, rfl, hS, hc⟩
    · rw [h0] at hi; simp at hi
    · obtain ⟨h1, h2, h3, h4, h5⟩ := hc i hi
      have bl := cell_lt h1
      refine ⟨b, off, ad i, cd i, rfl, bl, fun w1 q => ?_, fun w1 q => ?_⟩
      · have k : ∀ o, w1.cell? ⟨b, o, none⟩ = w.cell? ⟨b, o, none⟩ := fun o => World.cell?_of_block (w := w) (q.block b bl)
        rw [k, k, k, k]; exact ⟨h1, h2, h3, h4⟩
      · exact sx_valued _ (hwd i hi).2.1 (hwd i hi).2.2 (ad i) (cd i) S w1 (hO.kept q) (hT.kept q) (h5.kept q)
  have CV := Lib.hid cv
  have CC := Lib.hid cc
  have HP := Lib.hid hparts
  have CL := Lib.hid cells
  have HB := Lib.hid hbig
  have HN := Lib.hid hnow
  have HW := Lib.hid hwd
  have hwl : words.length ≤ 24 := hw24
  clear cv cc hparts cells hbig hnow hwd hW hL hX hB blk hO hT hv hw24
  have q0 : Hid (Qw w w) := Lib.hid (Qw.refl w)
  go_enter Tryz.func26, Tryz.ntmps26
  go_wp2_with (first
    | (go_at_call 24; go_loud ((with_reducible refine (CV.out _ Qz).mono ?_); rintro e w' ⟨rfl, q⟩; have F : Hid (Fm w #[.int .i64 kind, .int .i64 label, .bool false, .slice wa words.length wc, .int .i64 left.op, .int .i64 left.n, .slice la left.ks.length lc, .int .i64 x.op, .int .i64 x.n, .slice xa x.ks.length xc, .int .i64 n] (.slice none 0 0) [] w') := Lib.hid ⟨Bx.kept (by repeat (first | exact Bx.new _ _ _ | refine Bx.alloc ?_ _ | refine Bx.drew ?_)) q, World.ownsRow_nil _ _ _ _, Qw.trans Qz q⟩; obtain ⟨x0, x1, x2, x3, x4, x5, x6, x7, x8, x9, x10⟩ := Bx.c11 F.out.B; clear q q0))
    | (go_at_call 53; ((with_reducible refine (CI.out _ F.out.q).mono ?_); rintro e w' ⟨rfl, q⟩; replace F := Lib.hid (F.out.kept q); obtain ⟨x0, x1, x2, x3, x4, x5, x6, x7, x8, x9, x10⟩ := Bx.c11 F.out.B; clear q))
    | (at_builtin; refine str_append 17 22 (78 :: dg) (w.heap.size + 1) _ _ _ (by rfl) (by rfl) (by rw [← EL.out]; exact Bx.new _ _ _) (F.out.alloc _).O (by simp) (by have := (F.out.alloc (.cells #[] 0)).sz; simp at this ⊢; omega) ?_; intro v' w2 ho hg hn; replace F := Lib.hid ((F.out.alloc _).app ho hg); obtain ⟨x0, x1, x2, x3, x4, x5, x6, x7, x8, x9, x10⟩ := Bx.c11 F.out.B; clear ho hg hn))
  go_loopw [3, 27] (fun pv iv wr => ∃ i : Nat, iv = .int .i64 (i : Int) ∧ i ≤ words.length ∧ Hid (Fm w #[.int .i64 kind, .int .i64 label, .bool false, .slice wa words.length wc, .int .i64 left.op, .int .i64 left.n, .slice la left.ks.length lc, .int .i64 x.op, .int .i64 x.n, .slice xa x.ks.length xc, .int .i64 n] pv ([78 :: dg] ++ (words.take i).map Sy.wdb) wr)) (fun _ iv _ => words.length - (intOf iv).toNat)
  case atStart => exact ⟨0, rfl, Nat.zero_le _, F⟩
  case round =>
    clear F x0 x1 x2 x3 x4 x5 x6 x7 x8 x9 x10
    obtain ⟨i, rfl, hi, F⟩ := hrel
    by_cases hlt : i < words.length
    · obtain ⟨b, off, ad, cc, rfl, bl, hc, cw⟩ := CL.out i hlt
      obtain ⟨c0, c1, c2, c3⟩ := hc _ F.out.q
      obtain ⟨hu, hok, hdp⟩ := HW.out i hlt
      have hiw : (i : Int) < (words.length : Int) := by omega
      have hb90 : 65 ≤ words[i].1 ∧ words[i].1 ≤ 90 := by simp [Sy.isw] at hu; omega
      have hv2 := Sy.bva_len2 hok hdp
      have eW : Utf8.encode words[i].1 ++ bs (Sy.bva words[i].2) = bs (Sy.wdb words[i]) := by rw [enc_letter hb90.1 hb90.2, bs_app]; rfl
      have hzw : ¬ 9223372036854775807 < (Utf8.encode words[i].1).size + (bs (Sy.bva words[i].2)).size := by rw [enc_letter hb90.1 hb90.2, bs_size, bs_size, List.length_singleton]; omega
      have etk : (words.take (i + 1)).map Sy.wdb = (words.take i).map Sy.wdb ++ [Sy.wdb words[i]] := by rw [← List.take_append_getElem hlt, List.map_append]; rfl
      have hcnt : ([78 :: dg] ++ (words.take i).map Sy.wdb).length ≤ 1000000 := by simp; omega
      have ETK := Lib.hid etk
      have EW := Lib.hid eW
      generalize Sy.wdb words[i] = pw at *
      generalize Sy.bva words[i].2 = rv at *
      have CW := Lib.hid cw
      generalize words[i].2.ks.length = kl at *
      generalize words[i].2.op = wop at *
      generalize words[i].2.n = wn at *
      generalize words[i].1 = wc0 at *
      obtain ⟨hb1, hb2⟩ := hb90
      have h32 : IntKind.wrap .i32 wc0 = wc0 := by simp [IntKind.wrap, IntKind.bits, IntKind.signed]; omega
      go_upto_region 11 with fail
      refine code_of (fun w2 => Fm w #[.int .i64 kind, .int .i64 label, .bool false, .slice (some ⟨b, off, none⟩) words.length wc, .int .i64 left.op, .int .i64 left.n, .slice la left.ks.length lc, .int .i64 x.op, .int .i64 x.n, .slice xa x.ks.length xc, .int .i64 n] u3 ([78 :: dg] ++ (words.take i).map Sy.wdb) w2 ∧ Bx w2 wr.heap.size #[.int .i64 wc0, .int .i64 wop, .int .i64 wn, .slice ad kl cc] 77) ⟨F.out.alloc _, Bx.new _ _ _⟩ ?_
      rintro w2 ⟨F1, X⟩
      have z0 := X.cell' 0 _ rfl
      have z1 := X.cell' 1 _ rfl
      have z2 := X.cell' 2 _ rfl
      have z3 := X.cell' 3 _ rfl
      replace F1 := Lib.hid F1
      have XH := Lib.hid X
      clear X F c0 c1 c2 c3
      go_region_law (first
        | (refine step_str rfl 31 40 rfl pw (w.heap.size + 1) u3 ([78 :: dg] ++ (words.take i).map Sy.wdb) w'.heap.size (by simp [Act.eval, Act.put]) (by simp [Act.eval, Act.put]) (by rw [← EW.out]; exact Bx.new _ _ _) (F2.out.alloc _).O hcnt (by have := (F2.out.alloc (.cells #[] 0)).sz; simp at this ⊢; omega) ?_; intro v' w3 ho hg hn; have F3 := Lib.hid ((F2.out.alloc _).app ho hg); clear ho hg hn)
        | (go_simp; go_wp2_with (go_at_call 54; ((with_reducible refine (CW.out _ F1.out.drew.q).mono ?_); rintro e w' ⟨rfl, q⟩; have F2 := Lib.hid (F1.out.drew.kept q); have X2 := Bx.kept XH.out.drew q; have z0 := X2.cell' 0 _ rfl; have z1 := X2.cell' 1 _ rfl; have z2 := X2.cell' 2 _ rfl; have z3 := X2.cell' 3 _ rfl; clear X2))))
      all_goals go_wp2_with fail
      all_goals go_roundw
      all_goals (first | (case measure => simp [intOf]; omega) | skip)
      all_goals exact ⟨i + 1, by go_num, by omega, Lib.hid (by rw [ETK.out, ← List.append_assoc]; exact F3.out)⟩
    · obtain rfl : i = words.length := by omega
      obtain ⟨x0, x1, x2, x3, x4, x5, x6, x7, x8, x9, x10⟩ := Bx.c11 F.out.B
      have hnl : ¬ ((words.length : Nat) : Int) < (words.length : Int) := by omega
      have ePS : [78 :: dg] ++ (words.take words.length).map Sy.wdb = [78 :: dg] ++ words.map Sy.wdb := by rw [List.take_length]
      rw [ePS] at F
      have hcnt : ([78 :: dg] ++ words.map Sy.wdb).length ≤ 1000000 := by simp; omega
      clear ePS CL HW
      by_cases hk : kind = 0
      · subst hk
        have eJ : Sy.fmb ⟨0, label, false, words, left, x, n⟩ = Sy.joinb ([78 :: dg] ++ words.map Sy.wdb) := by rw [HP.out, if_pos rfl, List.append_nil]
        have EJ := Lib.hid eJ
        rw [eJ] at HB
        have CJ := Lib.hid (joinW F.out.O hcnt (Nat.le_trans HB.out (by decide)))
        clear CC HP HN eJ
        go_wp2_with (go_at_call 56; ((with_reducible refine CJ.out.mono ?_); rintro e w' ⟨rfl, q⟩; have QF := Lib.hid (Qw.trans F.out.q q); clear q))
        go_ret
        exact ⟨by rw [EJ.out] <;> rfl, QF.out⟩
      · have hwn := HN.out hk
        have C1 := Lib.hid (CC.out hk)
        have hk2 : (kind != 0) = true := by simpa using hk
        have eJ : Sy.fmb ⟨kind, label, false, words, left, x, n⟩ = Sy.joinb ([78 :: dg] ++ words.map Sy.wdb ++ [Sy.ctl ⟨kind, label, false, words, left, x, n⟩]) := by rw [HP.out, if_neg hk, List.append_assoc]
        have EJ := Lib.hid eJ
        rw [eJ] at HB
        have hcnt2 : ([78 :: dg] ++ words.map Sy.wdb ++ [Sy.ctl ⟨kind, label, false, words, left, x, n⟩]).length ≤ 1000000 := by simp; omega
        have cj := fun v w1 (h : OwnS (w.heap.size + 1) w1 v ([78 :: dg] ++ words.map Sy.wdb ++ [Sy.ctl ⟨kind, label, false, words, left, x, n⟩])) => joinW h hcnt2 (Nat.le_trans HB.out (by decide))
        have CJ := Lib.hid cj
        clear CC HP HN eJ HB cj hcnt2 hwn
        generalize Sy.ctl ⟨kind, label, false, words, left, x, n⟩ = ct at CJ C1 EJ
        go_wp2_with (first
          | (go_at_call 55; ((with_reducible refine (C1.out _ F.out.q).mono ?_); rintro e w' ⟨rfl, q⟩; replace F := Lib.hid (F.out.kept q); obtain ⟨x0, x1, x2, x3, x4, x5, x6, x7, x8, x9, x10⟩ := Bx.c11 F.out.B; clear q))
          | (at_builtin; refine str_append 46 49 ct (w.heap.size + 1) _ _ _ (by rfl) (by rfl) (Bx.new _ _ _) (F.out.alloc _).O (by first | exact hcnt | simp) (by have := (F.out.alloc (.cells #[] 0)).sz; simp at this ⊢; omega) ?_; intro v' w2 ho hg hn; replace F := Lib.hid ((F.out.alloc _).app ho hg); obtain ⟨x0, x1, x2, x3, x4, x5, x6, x7, x8, x9, x10⟩ := Bx.c11 F.out.B; clear ho hg hn)
          | (go_at_call 56; ((with_reducible refine (CJ.out _ _ F.out.O).mono ?_); rintro e w' ⟨rfl, q⟩; have QF := Lib.hid (Qw.trans F.out.q q); clear q)))
        go_ret
        exact ⟨by rw [EJ.out] <;> rfl, QF.out⟩
end Go.Proofs.YtbcbnkapipimmaaGreatDoor

