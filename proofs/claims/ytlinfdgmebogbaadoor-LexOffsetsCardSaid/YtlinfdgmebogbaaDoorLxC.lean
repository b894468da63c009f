
/- The walk of lex.Tokens. -/
import Derived.Test.YtlinfdgmebogbaaDoorLxB
import Derived.OwnWalk
import Derived.Outline
set_option linter.unusedVariables false
set_option linter.unusedSimpArgs false
namespace Go.Proofs.YtlinfdgmebogbaaDoor
open Go.RowKit

/-! ### lists of tokens in memory -/

def tcell (t : Lx.Tok) : List Value := [.int .i64 t.k, .int .i64 t.n, .int .i64 (t.p : Int), .string (bs t.x)]
def tcells (ts : List Lx.Tok) : List Value := ts.flatMap tcell
/-- A list of tokens that the call has made, in blocks from B on. -/
def OwnT (B : Nat) (w : World) (v : Value) (ts : List Lx.Tok) : Prop := w.ownsRow B 39 4 v ts.length (tcells ts)
theorem OwnT.nil (B : Nat) (w : World) : OwnT B w (.slice none 0 0) [] := World.ownsRow_nil w _ _ _
theorem OwnT.kept {B : Nat} {w w' : World} {v : Value} {ts : List Lx.Tok} (h : OwnT B w v ts) (q : Qw w w') : OwnT B w' v ts :=
  World.ownsRow.kept h (row := none) ⟨q.os, q.tape, q.output, q.size, fun k hk _ => q.block k hk⟩ (by cases hv : v.ownBlock <;> simp)

theorem info_tok : (Tryd.prog.info? 39).map (fun i => (i.zero, i.size, i.bytes)) = some (some (.agg #[.int .i64 0, .int .i64 0, .int .i64 0, .string ⟨#[]⟩]), 4, 40) := by kernel_rfl

theorem tok_append {ops : Array Oper} {rest : List Oper} {dst : Option Tmp} {ty : TypeId} {pos : String} {after : Array Edge} {a : Act} {w : World} {Q : Exit → Act → World → Prop} (s x : Tmp) (t : Lx.Tok) (B : Nat) (v : Value) (ts : List Lx.Tok) (g : Nat)
    (hs : a.eval (.tmp s) = v) (hx : a.eval (.tmp x) = .slice (some ⟨g, 0, none⟩) 1 1) (hb : w.heap[g]? = some (.cells #[.int .i64 t.k, .int .i64 t.n, .int .i64 (t.p : Int), .string (bs t.x)] 39 (0, 0)))
    (hown : OwnT B w v ts) (hl : ts.length ≤ 1000000) (hB : B ≤ w.heap.size)
    (h : ∀ v' w', OwnT B w' v' (ts ++ [t]) → Below B w w' → wpList Tryd.prog ops Q rest (a.put dst v') w') :
    wpList Tryd.prog ops Q (⟨dst, .call { callee := .builtin .append, args := #[.tmp s, .tmp x], argTypes := #[28, 28] }, ty, pos, after, none⟩ :: rest) a w := by
  obtain ⟨i0, hi, hz0, hz1, hz2⟩ := info_parts info_tok
  refine wpList_append_own w rfl (.tmp s) (.tmp x) 28 rfl B 39 i0 _ 4 40 Tryd.underlying28 hi hz0 hz1 hz2 rfl (by decide) v ts.length (tcells ts) hs hown ⟨g, 0, none⟩ 1 1 (tcell t) hx rfl ?_ ?_ (by unfold maxLen; omega) (by omega) hB ?_
  · intro j u hj
    have := cell4 hb
    match j, hj with
    | 0, hj => simp [tcell] at hj; subst hj; simpa [Addr.add] using this.1
    | 1, hj => simp [tcell] at hj; subst hj; simpa [Addr.add] using this.2.1
    | 2, hj => simp [tcell] at hj; subst hj; simpa [Addr.add] using this.2.2.1
    | 3, hj => simp [tcell] at hj; subst hj; simpa [Addr.add] using this.2.2.2.1
    | n + 4, hj => simp [tcell] at hj
  · intro u hu
    simp [tcell] at hu
    rcases hu with rfl | rfl | rfl | rfl <;> rfl
  · intro v' w' ho hg _
    refine h v' w' ?_ (Below.grown (Below.refl B w) hg hB (fun k hk => (World.ownsRow.lt hown k hk).1))
    unfold OwnT
    rw [List.length_append, show tcells (ts ++ [t]) = tcells ts ++ tcell t by simp [tcells]]
    exact ho

/-- A slice of tokens below block B. -/
def ToksB (B : Nat) (w : World) (v : Value) (ts : List Lx.Tok) : Prop :=
  ∃ (a : Option Addr) (cap : Nat), v = .slice a ts.length cap ∧ ts.length ≤ cap ∧ cap ≤ 9223372036854775807 ∧ (ts = [] ∨ ∃ b off, a = some ⟨b, off, none⟩ ∧ b < B ∧
    ∀ i (h : i < ts.length), w.cell? ⟨b, off + i * 4, none⟩ = some (.int .i64 ts[i].k) ∧ w.cell? ⟨b, off + i * 4 + 1, none⟩ = some (.int .i64 ts[i].n) ∧ w.cell? ⟨b, off + i * 4 + 2, none⟩ = some (.int .i64 (ts[i].p : Int)) ∧ w.cell? ⟨b, off + i * 4 + 3, none⟩ = some (.string (bs ts[i].x)))

theorem ToksB.kept {B C : Nat} {w w' : World} {v : Value} {ts : List Lx.Tok} (h : ToksB B w v ts) (hb : Below C w w') (hC : B ≤ C) : ToksB B w' v ts := by
  obtain ⟨a, cap, h1, h2, h3, h4⟩ := h
  refine ⟨a, cap, h1, h2, h3, ?_⟩
  rcases h4 with h4 | ⟨b, off, e, hB, h⟩
  · exact .inl h4
  · refine .inr ⟨b, off, e, hB, fun i hi => ?_⟩
    have k : ∀ o, w'.cell? ⟨b, o, none⟩ = w.cell? ⟨b, o, none⟩ := fun o => hb.cell (p := ⟨b, o, none⟩) (by show b < C; omega)
    rw [k, k, k, k]
    exact h i hi

theorem ToksB.mono {B C : Nat} {w : World} {v : Value} {ts : List Lx.Tok} (h : ToksB B w v ts) (hC : B ≤ C) : ToksB C w v ts := by
  obtain ⟨a, cap, h1, h2, h3, h4⟩ := h
  refine ⟨a, cap, h1, h2, h3, ?_⟩
  rcases h4 with h4 | ⟨b, off, e, hB, h⟩
  · exact .inl h4
  · exact .inr ⟨b, off, e, by omega, h⟩

theorem tcells_get (ts : List Lx.Tok) (i : Nat) (h : i < ts.length) (j : Nat) (hj : j < 4) : (tcells ts)[i * 4 + j]? = (tcell ts[i])[j]? := by
  induction ts generalizing i with
  | nil => simp at h
  | cons t ts ih =>
    have e : tcells (t :: ts) = tcell t ++ tcells ts := rfl
    have l : (tcell t).length = 4 := rfl
    rw [e]
    cases i with
    | zero => rw [List.getElem?_append_left (by omega)]; simp
    | succ i =>
      rw [List.getElem?_append_right (by omega), l, show (i + 1) * 4 + j - 4 = i * 4 + j by omega]
      rw [ih i (by simpa using h)]; rfl

theorem OwnT.toks {B : Nat} {w : World} {v : Value} {ts : List Lx.Tok} (h : OwnT B w v ts) : ToksB w.heap.size w v ts := by
  rcases h.2 with ⟨rfl, h0⟩ | ⟨g, cap, cur, rfl, hb, hg, h1, h2, h3, h4⟩
  · have : ts = [] := List.eq_nil_of_length_eq_zero h0
    subst this
    exact ⟨none, 0, rfl, Nat.le_refl _, by decide, .inl rfl⟩
  · refine ⟨_, cap, rfl, h1, by unfold maxLen at h2; omega, .inr ⟨g, 0, rfl, (Array.getElem?_eq_some_iff.1 hg).1, fun i hi => ?_⟩⟩
    have k : ∀ j (hj : j < 4), w.cell? ⟨g, 0 + i * 4 + j, none⟩ = (tcell ts[i])[j]? := fun j hj => by
      have t := tcells_get ts i hi j hj
      have u : ∃ u, (tcell ts[i])[j]? = some u := ⟨_, List.getElem?_eq_getElem (show j < (tcell ts[i]).length from hj)⟩
      obtain ⟨u, hu⟩ := u
      rw [hu] at t ⊢
      have c := World.ownsRow.cells h (g := g) rfl (i * 4 + j) u t
      rw [Addr.add_mid, Nat.zero_add] at c
      rw [Nat.zero_add]
      exact c
    exact ⟨k 0 (by decide), k 1 (by decide), k 2 (by decide), k 3 (by decide)⟩

theorem ToksB.len {B : Nat} {w : World} {v : Value} {ts : List Lx.Tok} (h : ToksB B w v ts) : ∃ a cap, v = .slice a ts.length cap ∧ ts.length ≤ cap ∧ cap ≤ 9223372036854775807 := by
  obtain ⟨a, cap, h1, h2, h3, _⟩ := h
  exact ⟨a, cap, h1, h2, h3⟩

theorem drop_data (s : ByteArray) (k : Nat) : (s.extract k s.size).data.toList = s.data.toList.drop k := by
  rw [Lib.extract_data, List.take_of_length_le (by rw [List.length_drop, size_len]; omega)]

/-! ### what comes next -/

namespace Lx
theorem act_ws {c : UInt8} {t : List UInt8} (h : ws c = true) : act c t = .skip 0 := if_pos h
theorem act_semi {t : List UInt8} : act 59 t = .skip t.length := rfl
theorem act_open {t : List UInt8} : act 40 t = if Lib.indexByte t 41 = -1 then .bad else .skip ((Lib.indexByte t 41).toNat + 1) := rfl
theorem act_first {c : UInt8} {t : List UInt8} (h : ws c = false) (h1 : c ≠ 59) (h2 : c ≠ 40) : act c t = if (fst (c :: t)).m = 0 then .bad else .tok (fst (c :: t)) := by
  unfold act; rw [if_neg (by rw [h]; decide), if_neg h1, if_neg h2]
theorem index_open (t : List UInt8) : Lib.indexByte (40 :: t) 41 = if Lib.indexByte t 41 = -1 then -1 else Lib.indexByte t 41 + 1 := by
  have e : Lib.indexByte (40 :: t) 41 = if Lib.indexByte t 41 == -1 then -1 else Lib.indexByte t 41 + 1 := rfl
  rw [e]
  by_cases h : Lib.indexByte t 41 = -1
  · rw [h]; rfl
  · rw [if_neg h, if_neg (by simpa using h)]
theorem index_le (t : List UInt8) (c : UInt8) : Lib.indexByte t c < t.length := by
  induction t with
  | nil => unfold Lib.indexByte; simp
  | cons b t ih =>
    unfold Lib.indexByte
    simp only [List.length_cons]
    split
    · omega
    · split
      · omega
      · omega
end Lx

end Go.Proofs.YtlinfdgmebogbaaDoor
