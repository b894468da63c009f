import Derived.Test.YtkfipjlknfinpaaDoorSY
import Derived.Test.YtkfipjlknfinpaaDoorL1a
import Derived.Test.YtkfipjlknfinpaaDoorL2a
import Derived.Deep.MidRow
import Derived.Lib.Strings
import Derived.Outline
import Derived.Test.YtkfipjlknfinpaaDoorKept
import Derived.OwnWalk

/- The walks of package lex: characters and names. -/
set_option linter.unusedVariables false
set_option linter.unusedSimpArgs false
namespace Go.Proofs.YtkfipjlknfinpaaDoor
open Go.RowKit

theorem ret_str5 {a b : ByteArray} (h : a = b) : Ending.returned (.string a) = .returned (.string b) := by rw [h]
theorem ret_bool5 {a b : Bool} (h : a = b) : Ending.returned (.bool a) = .returned (.bool b) := by rw [h]

/-- The bytes as a text. -/
def bs (l : List UInt8) : ByteArray := ⟨l.toArray⟩
theorem bs_size (l : List UInt8) : (bs l).size = l.length := by unfold bs; simp [ByteArray.size]
theorem bs_list (l : List UInt8) : (bs l).data.toList = l := by unfold bs; simp
theorem bs_of (s : ByteArray) : bs s.data.toList = s := by unfold bs; simp
theorem bs_inj {a b : List UInt8} : bs a = bs b ↔ a = b := ⟨fun h => by rw [← bs_list a, h, bs_list], fun h => by rw [h]⟩
theorem size_len (s : ByteArray) : s.data.toList.length = s.size := by rw [Array.length_toList]; rfl
/-- How texts are compared. -/
theorem beq_txt (a b : ByteArray) : (a.toList == b.toList) = decide (a = b) := by
  by_cases h : a = b
  · subst h; simp
  · rw [decide_eq_false h]
    cases e : a.toList == b.toList
    · rfl
    · rw [beq_iff_eq, ByteArray.toList_eq, ByteArray.toList_eq] at e
      exact absurd (ByteArray.ext (Array.toList_inj.mp e)) h

/-- Name number j. -/
def nb (j : Nat) : ByteArray := bs (Lx.nm j)
theorem nb_size (j : Nat) : (nb j).size ≤ 5 := by
  unfold nb; rw [bs_size]; unfold Lx.nm
  rcases Nat.lt_or_ge j 24 with h | h
  · have : ∀ j : Fin 24, (Lx.nms.getD j.val []).length ≤ 5 := by decide
    exact this ⟨j, h⟩
  · rw [List.getD_eq_getElem?_getD, List.getElem?_eq_none (by rw [Lx.nms_length]; exact h)]; simp
theorem nb_list (j : Nat) : (nb j).data.toList = Lx.nm j := bs_list _

/-- The byte as the walk has it. -/
def chI (c : Int) : Bool := decide (48 ≤ c ∧ c ≤ 57) || c == 46
theorem isn_chI (c : UInt8) : Lx.isn c = chI (c.toNat : Int) := by
  unfold Lx.isn chI isd
  congr 1
  rw [Bool.eq_iff_iff, beq_iff_eq, beq_iff_eq, ← UInt8.toNat_inj]
  show c.toNat = 46 ↔ _
  omega

/-! ### the table of names -/

def nmA : Array Value := (Lx.nms.map fun n => .string (bs n)).toArray
theorem nmA_get (j : Nat) (hj : j < 24) : (Lx.nms.map fun n => Value.string (bs n))[j]? = some (.string (nb j)) := by
  rw [List.getElem?_map]
  unfold nb Lx.nm
  rw [List.getD_eq_getElem?_getD, List.getElem?_eq_getElem (by rw [Lx.nms_length]; exact hj)]
  rfl

/-! ### parts of texts -/

theorem take_data (s : ByteArray) (k : Nat) : (s.extract 0 k).data.toList = s.data.toList.take k := by rw [Lib.extract_data, List.drop_zero, Nat.sub_zero]

theorem pfx_of (t n : ByteArray) : Lx.pfx n.data.toList t.data.toList = (decide (n.size ≤ t.size) && decide (t.extract 0 n.size = n)) := by
  have tl : t.data.toList.length = t.size := by rw [Array.length_toList]; rfl
  have nl : n.data.toList.length = n.size := by rw [Array.length_toList]; rfl
  unfold Lx.pfx
  rw [tl, nl, ← take_data]
  congr 1
  refine decide_eq_decide.2 ⟨fun h => ?_, fun h => by rw [h]⟩
  exact ByteArray.ext (Array.toList_inj.1 h)

/-! ### names -/

theorem pfx_nb (s : ByteArray) (j : Nat) : Lx.pfx (nb j).data.toList s.data.toList = Lx.pfx (Lx.nm j) s.data.toList := by rw [nb_list]

/-- Is it one of the names? -/
def isnm (l : List UInt8) : Bool := Lx.nms.contains l

end Go.Proofs.YtkfipjlknfinpaaDoor

/- The walks of package lex: the first token of a text. -/
set_option linter.unusedVariables false
set_option linter.unusedSimpArgs false
namespace Go.Proofs.YtkfipjlknfinpaaDoor
open Go.RowKit

namespace Lx
theorem nrun_step (l : List UInt8) (k : Nat) (h : k < l.length) : (isn l[k] = true → nrun (l.drop k) = nrun (l.drop (k + 1)) + 1) ∧ (isn l[k] = false → nrun (l.drop k) = 0) := by
  rw [List.drop_eq_getElem_cons h, show nrun (l[k] :: l.drop (k + 1)) = if isn l[k] = true then nrun (l.drop (k + 1)) + 1 else 0 from rfl]
  exact ⟨fun e => if_pos e, fun e => if_neg (by rw [e]; decide)⟩
theorem nrun_end (l : List UInt8) (k : Nat) (h : l.length ≤ k) : nrun (l.drop k) = 0 := by rw [List.drop_eq_nil_of_le h]; rfl
end Lx

/-- A token and its length, as lex.first hands them back. -/
def fv (f : Lx.F) : Value := .tuple #[.agg #[.int .i64 f.k, .int .i64 f.n, .int .i64 0, .string (bs f.x)], .int .i64 (f.m : Int)]

theorem fnum_ok (l : List UInt8) (h : pre (l.take (Lx.nrun l)) = 0) : Lx.fnum l = ⟨2, prv (l.take (Lx.nrun l)), [], Lx.nrun l⟩ := by
  unfold pre at h
  unfold Lx.fnum prv
  cases e : pok (l.take (Lx.nrun l))
  · rw [e] at h; exact absurd h (by decide)
  · rfl
theorem fnum_no (l : List UInt8) (h : pre (l.take (Lx.nrun l)) ≠ 0) : Lx.fnum l = ⟨0, 0, [], 0⟩ := by
  unfold pre at h
  unfold Lx.fnum
  cases e : pok (l.take (Lx.nrun l))
  · rfl
  · rw [e] at h; exact absurd rfl h

theorem cell4 {w : World} {b : Nat} {a0 a1 a2 a3 : Value} {t : TypeId} (h : w.heap[b]? = some (.cells #[a0, a1, a2, a3] t (0, 0))) :
    w.cell? ⟨b, 0, none⟩ = some a0 ∧ w.cell? ⟨b, 1, none⟩ = some a1 ∧ w.cell? ⟨b, 2, none⟩ = some a2 ∧ w.cell? ⟨b, 3, none⟩ = some a3 ∧
    w.frozen? ⟨b, 0, none⟩ = false ∧ w.frozen? ⟨b, 1, none⟩ = false ∧ w.frozen? ⟨b, 2, none⟩ = false ∧ w.frozen? ⟨b, 3, none⟩ = false := by simp [World.cell?, World.frozen?, h]

/-- Behind a world of the call's own, with stores into its blocks. -/
theorem Qw.trans' {a b c : World} (h : Qw a b) (k : Below a.heap.size b c) : Qw a c := Below.trans h k

theorem empty_txt (a : ByteArray) : a.toList.isEmpty = decide (a.size = 0) := by
  rw [ByteArray.toList_eq]
  cases h : a.data.toList with
  | nil => rw [← size_len, h]; rfl
  | cons c l => rw [← size_len, h]; rfl
theorem rune_txt (c : UInt8) (h : (c.toNat : Int) < 128) : Utf8.encode (wrap32 (c.toNat : Int)) = bs [c] ∧ Utf8.encode (c.toNat : Int) = bs [c] := by
  have h' : c.toNat < 128 := by omega
  have e : wrap32 (c.toNat : Int) = (c.toNat : Int) := by unfold wrap32; omega
  rw [e, and_self]
  unfold Utf8.encode
  have v : Utf8.valid (c.toNat : Int) = true := by unfold Utf8.valid; simp; omega
  simp only [v, if_true, Int.toNat_natCast]
  rw [if_pos h', UInt8.ofNat_toNat]; rfl

theorem sg_char (c : UInt8) (h : Lx.isg c = true) : (c.toNat : Int) < 128 := by
  have : ∀ c : Fin 256, Lx.isg (UInt8.ofNat c.val) = true → c.val < 128 := by decide +kernel
  have k := this ⟨c.toNat, c.toNat_lt⟩ (by rw [UInt8.ofNat_toNat]; exact h)
  show ((c.toNat : Nat) : Int) < 128
  exact Int.ofNat_lt.2 k

end Go.Proofs.YtkfipjlknfinpaaDoor

/- The walk of lex.Tokens. -/
set_option linter.unusedVariables false
set_option linter.unusedSimpArgs false
namespace Go.Proofs.YtkfipjlknfinpaaDoor
open Go.RowKit

/-! ### lists of tokens in memory -/

def tcell (t : Lx.Tok) : List Value := [.int .i64 t.k, .int .i64 t.n, .int .i64 (t.p : Int), .string (bs t.x)]
def tcells (ts : List Lx.Tok) : List Value := ts.flatMap tcell
/-- A slice of tokens below block B. -/
def ToksB (B : Nat) (w : World) (v : Value) (ts : List Lx.Tok) : Prop :=
  ∃ (a : Option Addr) (cap : Nat), v = .slice a ts.length cap ∧ ts.length ≤ cap ∧ cap ≤ 9223372036854775807 ∧ (ts = [] ∨ ∃ b off, a = some ⟨b, off, none⟩ ∧ b < B ∧
    ∀ i (h : i < ts.length), w.cell? ⟨b, off + i * 4, none⟩ = some (.int .i64 ts[i].k) ∧ w.cell? ⟨b, off + i * 4 + 1, none⟩ = some (.int .i64 ts[i].n) ∧ w.cell? ⟨b, off + i * 4 + 2, none⟩ = some (.int .i64 (ts[i].p : Int)) ∧ w.cell? ⟨b, off + i * 4 + 3, none⟩ = some (.string (bs ts[i].x)))

theorem ToksB.kept {B C : Nat} {w w' : World} {v : Value} {ts : List Lx.Tok} (h : ToksB B w v ts) (hb : Below C w w') (hC : B ≤ C) : ToksB B w' v ts := by
  obtain ⟨a, cap, h1, h2, h3, h4⟩ := h
  refine ⟨a, cap, h1, h2, h3, ?_⟩
  rcases h4 with h4 | ⟨b, off, e, hB, h⟩
  · exact .inl h4
  · refine .inr ⟨b, off, e, hB, fun i hi => ?_⟩
    have k : ∀ o, w'.cell? ⟨b, o, none⟩ = w.cell? ⟨b, o, none⟩ := fun o => hb.cell (p := ⟨b, o, none⟩) (by show b < C; omega)
    rw [k, k, k, k]
    exact h i hi

theorem ToksB.mono {B C : Nat} {w : World} {v : Value} {ts : List Lx.Tok} (h : ToksB B w v ts) (hC : B ≤ C) : ToksB C w v ts := by
  obtain ⟨a, cap, h1, h2, h3, h4⟩ := h
  refine ⟨a, cap, h1, h2, h3, ?_⟩
  rcases h4 with h4 | ⟨b, off, e, hB, h⟩
  · exact .inl h4
  · exact .inr ⟨b, off, e, by omega, h⟩

theorem tcells_get (ts : List Lx.Tok) (i : Nat) (h : i < ts.length) (j : Nat) (hj : j < 4) : (tcells ts)[i * 4 + j]? = (tcell ts[i])[j]? := by
  induction ts generalizing i with
  | nil => simp at h
  | cons t ts ih =>
    have e : tcells (t :: ts) = tcell t ++ tcells ts := rfl
    have l : (tcell t).length = 4 := rfl
    rw [e]
    cases i with
    | zero => rw [List.getElem?_append_left (by omega)]; simp
    | succ i =>
      rw [List.getElem?_append_right (by omega), l, show (i + 1) * 4 + j - 4 = i * 4 + j by omega]
      rw [ih i (by simpa using h)]; rfl

theorem ToksB.len {B : Nat} {w : World} {v : Value} {ts : List Lx.Tok} (h : ToksB B w v ts) : ∃ a cap, v = .slice a ts.length cap ∧ ts.length ≤ cap ∧ cap ≤ 9223372036854775807 := by
  obtain ⟨a, cap, h1, h2, h3, _⟩ := h
  exact ⟨a, cap, h1, h2, h3⟩

theorem drop_data (s : ByteArray) (k : Nat) : (s.extract k s.size).data.toList = s.data.toList.drop k := by
  rw [Lib.extract_data, List.take_of_length_le (by rw [List.length_drop, size_len]; omega)]

/-! ### what comes next -/

namespace Lx
theorem act_ws {c : UInt8} {t : List UInt8} (h : ws c = true) : act c t = .skip 0 := if_pos h
theorem act_semi {t : List UInt8} : act 59 t = .skip t.length := rfl
theorem act_open {t : List UInt8} : act 40 t = if Lib.indexByte t 41 = -1 then .bad else .skip ((Lib.indexByte t 41).toNat + 1) := rfl
theorem act_first {c : UInt8} {t : List UInt8} (h : ws c = false) (h1 : c ≠ 59) (h2 : c ≠ 40) : act c t = if (fst (c :: t)).m = 0 then .bad else .tok (fst (c :: t)) := by
  unfold act; rw [if_neg (by rw [h]; decide), if_neg h1, if_neg h2]
theorem index_open (t : List UInt8) : Lib.indexByte (40 :: t) 41 = if Lib.indexByte t 41 = -1 then -1 else Lib.indexByte t 41 + 1 := by
  have e : Lib.indexByte (40 :: t) 41 = if Lib.indexByte t 41 == -1 then -1 else Lib.indexByte t 41 + 1 := rfl
  rw [e]
  by_cases h : Lib.indexByte t 41 = -1
  · rw [h]; rfl
  · rw [if_neg h, if_neg (by simpa using h)]
theorem index_le (t : List UInt8) (c : UInt8) : Lib.indexByte t c < t.length := by
  induction t with
  | nil => unfold Lib.indexByte; simp
  | cons b t ih =>
    unfold Lib.indexByte
    simp only [List.length_cons]
    split
    · omega
    · split
      · omega
      · omega
end Lx

end Go.Proofs.YtkfipjlknfinpaaDoor
