import Derived.Test.YtfijmdaeaahodaaDoorZN0
import Derived.Deep.RegionWith
import Derived.Deep.LoopGhost
import Derived.Lib.AppendZeros
import Derived.Laws.OwnMore
import Derived.Maps.OwnSet
set_option linter.unusedVariables false
set_option linter.unusedSimpArgs false
namespace Go.Proofs.YtfijmdaeaahodaaDoor
open Go.RowKit
theorem KidsB.alloc {w : World} {S : Nat → Prop} {a : Option Addr} {cap : Nat} {ks : List Sy.Ex} (h : KidsB w S a cap ks) (o : Obj) : KidsB (w.alloc o) S a cap ks := h.kept ((Below.refl _ _).alloc (Nat.le_refl _) _)
theorem Bx.drew {w : World} {b : Nat} {cs : Array Value} {t : TypeId} (h : Bx w b cs t) : Bx w.drew b cs t := h
theorem KidsB.drew {w : World} {S : Nat → Prop} {a : Option Addr} {cap : Nat} {ks : List Sy.Ex} (h : KidsB w S a cap ks) : KidsB w.drew S a cap ks := h.kept ((Below.refl _ _).drew)
theorem Rz {w : World} {b : Nat} {cs : Array Value} {t : TypeId} (h : Bx w b cs t := by repeat (first | exact R.out | refine Bx.alloc ?_ _ | refine Bx.drew ?_)) : Bx w b cs t := h
end Go.Proofs.YtfijmdaeaahodaaDoor
set_option linter.unusedVariables false
set_option linter.unusedSimpArgs false
namespace Go.Proofs.YtfijmdaeaahodaaDoor
open Go.RowKit
theorem run_append_near {P : Program} (w : World) (base : Nat) (t ty e : TypeId) (i : TypeInfo) (z : Value) (size bytes : Nat) (ht : P.underlying t = some (.slice e)) (hi : P.info? e = some i) (hz : i.zero = some z)
    (hsize : i.size = size) (hby : i.bytes = bytes) (hzs : z.cells.size = size) (hsz : 0 < size) (v : Value) (n : Nat) (xs : List Value) (hown : w.ownsRow base e size v n xs)
    (a : Addr) (m c : Nat) (news : List Value) (hl : news.length = m * size) (hnews : ∀ j u, news[j]? = some u → w.cell? (a.add j) = some u) (h1 : ∀ u ∈ news, u.oneCell' = true)
    (h63 : n + m ≤ maxLen) (hbytes : (n + m) * bytes ≤ 140737488355328) (hbase : base ≤ w.heap.size) :
    ∃ v' w', (Builtin.append_ #[t, t] ty #[v, .slice (some a) m c]).run P w = .ok v' w' ∧ w'.ownsRow base e size v' (n + m) (xs ++ news) ∧ w.grownBy w' v.ownBlock ∧
      (∀ g, v'.ownBlock = some g → v.ownBlock = some g ∨ w.heap.size ≤ g) := by
  rcases hown.2 with ⟨hv, hn⟩ | ⟨g, cap, cur, hv, hb, hg, hn, hm, hc, htk⟩
  · have hown' : w.ownsRow w.heap.size e size v n xs := ⟨hown.1, .inl ⟨hv, hn⟩⟩
    obtain ⟨v', w', h2, h3, h4, h5⟩ := run_append_own (P := P) w w.heap.size t ty e i z size bytes ht hi hz hsize hby hzs hsz v n xs hown' a m c news hl hnews h1 h63 hbytes (Nat.le_refl _)
    refine ⟨v', w', h2, ⟨h3.1, ?_⟩, h4, fun g hg => ?_⟩
    · rcases h3.2 with h | ⟨g, cap, cur, k1, k2, k3⟩
      · exact .inl h
      · exact .inr ⟨g, cap, cur, k1, Nat.le_trans hbase k2, k3⟩
    · rcases h3.2 with ⟨h, _⟩ | ⟨g', cap, cur, k1, k2, k3⟩
      · rw [h] at hg; cases hg
      · rw [k1] at hg
        have : g' = g := by simpa [Value.ownBlock] using hg
        exact .inr (this ▸ k2)
  · subst hv
    by_cases hroom : n + m ≤ cap
    · obtain ⟨w', h2, h3, h4⟩ := run_append_fits (P := P) w base t ty e i size ht hi hsize g n cap xs hown a m c news hl hnews h1 hroom
      exact ⟨_, w', h2, h3, h4, fun g' hg' => .inl hg'⟩
    · obtain ⟨v', w', h2, h3, h4, h5⟩ := run_append_own (P := P) w base t ty e i z size bytes ht hi hz hsize hby hzs hsz _ n xs hown a m c news hl hnews h1 h63 hbytes hbase
      refine ⟨v', w', h2, h3, h4, fun g' hg' => .inr ?_⟩
      subst hsize hby
      have hr := run_append_grow (P := P) w t ty e i z ht hi hz ⟨g, 0, none⟩ n cap xs hown.1 (hown.cells (g := g) rfl) a m c news hl hnews (by omega) (by unfold maxLen at h63; omega) (growslice_fits (by omega) hbytes)
      rw [h2] at hr
      injection hr with e1 e2
      rw [e1] at hg'
      have : w.heap.size = g' := by simpa [Value.ownBlock] using hg'
      omega
structure Wd where
  c : Int
  x : Sy.Ex
  a : Option Addr
  n : Nat
def wcell (d : Wd) : List Value := [.int .i64 d.c, .int .i64 d.x.op, .int .i64 d.x.n, .slice d.a d.x.ks.length d.n]
def wds (ds : List Wd) : List (Int × Sy.Ex) := ds.map fun d => (d.c, d.x)
theorem info_word : (Tryd.prog.info? 58).map (fun i => (i.zero, i.size, i.bytes)) = some (some (.agg #[.int .i64 0, .int .i64 0, .int .i64 0, .slice none 0 0]), 4, 48) := by kernel_rfl
def WordsB (w : World) (S : Nat → Prop) (a : Option Addr) (cap : Nat) (ws : List (Int × Sy.Ex)) : Prop :=
  ws.length ≤ cap ∧ cap ≤ 9223372036854775807 ∧ (ws = [] ∨ ∃ (b off : Nat) (ad : Nat → Option Addr) (cc : Nat → Nat), a = some ⟨b, off, none⟩ ∧ S b ∧ ∀ i (h : i < ws.length),
    w.cell? ⟨b, off + i * 4, none⟩ = some (.int .i64 ws[i].1) ∧ w.cell? ⟨b, off + i * 4 + 1, none⟩ = some (.int .i64 ws[i].2.op) ∧ w.cell? ⟨b, off + i * 4 + 2, none⟩ = some (.int .i64 ws[i].2.n) ∧ w.cell? ⟨b, off + i * 4 + 3, none⟩ = some (.slice (ad i) ws[i].2.ks.length (cc i)) ∧
    KidsB w S (ad i) (cc i) ws[i].2.ks)
theorem WordsB.nil (w : World) (S : Nat → Prop) : WordsB w S none 0 [] := ⟨Nat.le_refl _, by decide, .inl rfl⟩
theorem WordsB.go {w w' : World} {S T : Nat → Prop} (hb : ∀ b, S b → b < w.heap.size → w'.heap[b]? = w.heap[b]? ∧ T b) {a : Option Addr} {cap : Nat} {ws : List (Int × Sy.Ex)} (h : WordsB w S a cap ws) : WordsB w' T a cap ws := by
  obtain ⟨h1, h2, h3⟩ := h
  refine ⟨h1, h2, ?_⟩
  rcases h3 with h3 | ⟨b, off, ad, cc, e, hS, hc⟩
  · exact .inl h3
  · by_cases h0 : ws = []
    · exact .inl h0
    have hlt := cell_lt (hc 0 (by cases ws with | nil => exact absurd rfl h0 | cons _ _ => simp)).1
    refine .inr ⟨b, off, ad, cc, e, (hb b hS hlt).2, fun i hi => ?_⟩
    have k : ∀ o, w'.cell? ⟨b, o, none⟩ = w.cell? ⟨b, o, none⟩ := fun o => World.cell?_of_block (w := w) (hb b hS hlt).1
    rw [k, k, k, k]
    obtain ⟨c0, c1, c2, c3, c4⟩ := hc i hi
    exact ⟨c0, c1, c2, c3, c4.go hb⟩
def BlkB (w : World) (S : Nat → Prop) (b : Sy.Bl) (cs : Array Value) : Prop :=
  ∃ (wa : Option Addr) (wc : Nat) (la : Option Addr) (lc : Nat) (xa : Option Addr) (xc : Nat),
    cs = #[.int .i64 b.kind, .int .i64 b.label, .bool b.skip, .slice wa b.words.length wc, .int .i64 b.left.op, .int .i64 b.left.n, .slice la b.left.ks.length lc, .int .i64 b.x.op, .int .i64 b.x.n, .slice xa b.x.ks.length xc, .int .i64 b.n] ∧
    WordsB w S wa wc b.words ∧ KidsB w S la lc b.left.ks ∧ KidsB w S xa xc b.x.ks
theorem BlkB.go {w w' : World} {S T : Nat → Prop} (hb : ∀ b, S b → b < w.heap.size → w'.heap[b]? = w.heap[b]? ∧ T b) {b : Sy.Bl} {cs : Array Value} (h : BlkB w S b cs) : BlkB w' T b cs := by
  obtain ⟨wa, wc, la, lc, xa, xc, e, h1, h2, h3⟩ := h
  exact ⟨wa, wc, la, lc, xa, xc, e, h1.go hb, h2.go hb, h3.go hb⟩
end Go.Proofs.YtfijmdaeaahodaaDoor
set_option linter.unusedVariables false
set_option linter.unusedSimpArgs false
namespace Go.Proofs.YtfijmdaeaahodaaDoor
open Go.RowKit
open Go.Maps (Keyed IsMap)
def OwnG (B : Nat) (w : World) (T : TypeId) (z : Nat) (v : Value) (xs : List (List Value)) : Prop := (∀ x ∈ xs, x.length = z) ∧ w.ownsRow B T z v xs.length xs.flatten
theorem flat_len {z : Nat} : ∀ {xs : List (List Value)}, (∀ x ∈ xs, x.length = z) → xs.flatten.length = xs.length * z
  | [], _ => by simp
  | x :: xs, h => by
    rw [List.flatten_cons, List.length_append, h x (List.mem_cons_self ..), flat_len (fun y hy => h y (List.mem_cons_of_mem _ hy)), List.length_cons, Nat.succ_mul, Nat.add_comm]
theorem flat_get {z : Nat} : ∀ {xs : List (List Value)}, (∀ x ∈ xs, x.length = z) → ∀ (i : Nat) (h : i < xs.length) (j : Nat), j < z → xs.flatten[i * z + j]? = (xs[i])[j]?
  | [], _, i, h, _, _ => by simp at h
  | x :: xs, hx, i, h, j, hj => by
    have l := hx x (List.mem_cons_self ..)
    have hxs : ∀ y ∈ xs, y.length = z := fun y hy => hx y (List.mem_cons_of_mem _ hy)
    rw [List.flatten_cons]
    cases i with
    | zero => rw [List.getElem?_append_left (by omega)]; simp
    | succ i =>
      have e : (i + 1) * z = i * z + z := Nat.succ_mul i z
      rw [List.getElem?_append_right (by omega), l, show (i + 1) * z + j - z = i * z + j by omega, flat_get hxs i (by simpa using h) j hj]
      rfl
theorem flat_set {z : Nat} : ∀ {xs : List (List Value)}, (∀ x ∈ xs, x.length = z) → ∀ (i : Nat) (h : i < xs.length) (j : Nat) (u : Value), j < z → xs.flatten.set (i * z + j) u = (xs.set i ((xs[i]).set j u)).flatten
  | [], _, i, h, _, _, _ => by simp at h
  | x :: xs, hx, i, h, j, u, hj => by
    have l := hx x (List.mem_cons_self ..)
    have hxs : ∀ y ∈ xs, y.length = z := fun y hy => hx y (List.mem_cons_of_mem _ hy)
    cases i with
    | zero =>
      show (x ++ xs.flatten).set (0 * z + j) u = (x.set j u) ++ xs.flatten
      rw [Nat.zero_mul, Nat.zero_add, List.set_append_left _ _ (by omega)]
    | succ i =>
      have e : (i + 1) * z = i * z + z := Nat.succ_mul i z
      show (x ++ xs.flatten).set ((i + 1) * z + j) u = x ++ (xs.set i ((xs[i]'(by simpa using h)).set j u)).flatten
      rw [List.set_append_right _ _ (by omega), l, show (i + 1) * z + j - z = i * z + j by omega, flat_set hxs i (by simpa using h) j u hj]
section
variable {B : Nat} {w w' : World} {T : TypeId} {z : Nat} {v : Value} {xs : List (List Value)}
theorem OwnG.go (h : OwnG B w T z v xs) (hb : ∀ g, v.ownBlock = some g → g < w.heap.size → w'.heap[g]? = w.heap[g]?) : OwnG B w' T z v xs := by
  refine ⟨h.1, h.2.1, ?_⟩
  rcases h.2.2 with k | ⟨g, cap, cur, rfl, k1, k2, k3⟩
  · exact .inl k
  · exact .inr ⟨g, cap, cur, rfl, k1, (hb g rfl (Array.getElem?_eq_some_iff.1 k2).1).trans k2, k3⟩
theorem OwnG.lt (h : OwnG B w T z v xs) {g : Nat} (hg : v.ownBlock = some g) : B ≤ g ∧ g < w.heap.size := by
  rcases h.2.2 with ⟨rfl, _⟩ | ⟨g', cap, cur, rfl, k1, k2, k3⟩
  · cases hg
  · have : g' = g := by simpa [Value.ownBlock] using hg
    subst this
    exact ⟨k1, (Array.getElem?_eq_some_iff.1 k2).1⟩
theorem OwnG.nil (B : Nat) (w : World) (T : TypeId) (z : Nat) : OwnG B w T z (.slice none 0 0) [] := ⟨by simp, by simp, .inl ⟨rfl, rfl⟩⟩
theorem OwnG.form (h : OwnG B w T z v xs) : ∃ (a : Option Addr) (cap : Nat), v = .slice a xs.length cap ∧ xs.length ≤ cap ∧ cap ≤ 9223372036854775807 ∧ (xs ≠ [] → ∃ g, a = some ⟨g, 0, none⟩ ∧ B ≤ g ∧ g < w.heap.size) := by
  rcases h.2.2 with ⟨rfl, h0⟩ | ⟨g, cap, cur, rfl, k0, kb, k1, k2, _⟩
  · have : xs = [] := List.eq_nil_of_length_eq_zero h0
    subst this
    exact ⟨none, 0, rfl, Nat.le_refl _, by decide, fun h => absurd rfl h⟩
  · exact ⟨_, cap, rfl, k1, by unfold maxLen at k2; omega, fun _ => ⟨g, rfl, k0, (Array.getElem?_eq_some_iff.1 kb).1⟩⟩
theorem OwnG.at (h : OwnG B w T z v xs) {g : Nat} (hg : v.ownBlock = some g) {i : Nat} (hi : i < xs.length) {j : Nat} {u : Value} (hj : (xs[i])[j]? = some u) : w.cell? ⟨g, i * z + j, none⟩ = some u := by
  have hz : j < z := by
    have := h.1 xs[i] (List.getElem_mem hi)
    rcases Nat.lt_or_ge j z with k | k
    · exact k
    · rw [List.getElem?_eq_none (by omega)] at hj; cases hj
  have c := World.ownsRow.cells h.2 hg (i * z + j) u (by rw [flat_get h.1 i hi j hz]; exact hj)
  rw [Addr.add_mid, Nat.zero_add] at c
  exact c
theorem OwnG.free (h : OwnG B w T z v xs) {g : Nat} (hg : v.ownBlock = some g) (j : Nat) : w.frozen? ⟨g, j, none⟩ = false := by
  obtain ⟨a, cap, rfl, _⟩ := h.form
  rcases h.2.2 with ⟨h', _⟩ | ⟨g', cap', cur, h', _⟩
  · obtain ⟨rfl, _⟩ : a = none ∧ _ := by simpa using h'
    cases hg
  · have e : a = some ⟨g', 0, none⟩ := by simp at h'; exact h'.1
    subst e
    have : g' = g := by simpa [Value.ownBlock] using hg
    subst this
    exact h.2.frozenAt j
theorem OwnG.set (h : OwnG B w T z v xs) {g : Nat} (hg : v.ownBlock = some g) {i : Nat} (hi : i < xs.length) {j : Nat} (hj : j < z) (u : Value) : OwnG B (w.setCell ⟨g, i * z + j, none⟩ u) T z v (xs.set i ((xs[i]).set j u)) := by
  refine ⟨fun x hx => ?_, ?_⟩
  · rcases List.mem_or_eq_of_mem_set hx with k | k
    · exact h.1 x k
    · rw [k, List.length_set]; exact h.1 _ (List.getElem_mem hi)
  · obtain ⟨a, cap, rfl, _⟩ := h.form
    have e : a = some ⟨g, 0, none⟩ := by
      rcases h.2.2 with ⟨h', _⟩ | ⟨g', cap', cur, h', _⟩
      · obtain ⟨rfl, _⟩ : a = none ∧ _ := by simpa using h'
        cases hg
      · have e : a = some ⟨g', 0, none⟩ := by simp at h'; exact h'.1
        subst e
        have : g' = g := by simpa [Value.ownBlock] using hg
        rw [this]
    subst e
    rw [List.length_set, ← flat_set h.1 i hi j u hj]
    exact (h.2.stored (i * z + j) u).1
theorem OwnG.cut {x : List Value} (h : OwnG B w T z v (xs ++ [x])) : ∃ (g cap : Nat), v = .slice (some ⟨g, 0, none⟩) (xs.length + 1) cap ∧ xs.length + 1 ≤ cap ∧ cap ≤ 9223372036854775807 ∧ B ≤ g ∧ g < w.heap.size ∧ OwnG B w T z (.slice (some ⟨g, 0, none⟩) xs.length cap) xs := by
  have hl : (xs ++ [x]).length = xs.length + 1 := by simp
  have hx : ∀ y ∈ xs, y.length = z := fun y hy => h.1 y (List.mem_append_left _ hy)
  rcases h.2.2 with ⟨_, h0⟩ | ⟨g, cap, cur, rfl, k0, k2, k1, k3, k4, k5⟩
  · rw [hl] at h0; omega
  · rw [hl] at k1 k5 ⊢
    refine ⟨g, cap, rfl, k1, by unfold maxLen at k3; omega, k0, (Array.getElem?_eq_some_iff.1 k2).1, hx, flat_len hx, .inr ⟨g, cap, cur, rfl, k0, k2, by omega, k3, k4, ?_⟩⟩
    have := congrArg (List.take (xs.length * z)) k5
    rw [List.take_take, Nat.min_eq_left (Nat.mul_le_mul_right z (by omega)), List.flatten_append, List.take_append_of_le_length (by rw [flat_len hx]; exact Nat.le_refl _), List.take_of_length_le (l := xs.flatten) (by rw [flat_len hx]; exact Nat.le_refl _)] at this
    exact this
end
theorem g_append {B : Nat} {w : World} {v : Value} {xs : List (List Value)} (T sl ty : TypeId) (z bytes : Nat) (zv : Value) (x : List Value) (g : Nat) {t : TypeId}
    (info : (Tryd.prog.info? T).map (fun i => (i.zero, i.size, i.bytes)) = some (some zv, z, bytes)) (hu : Tryd.prog.underlying sl = some (.slice T)) (hzs : zv.cells.size = z) (hz : 0 < z) (hby : bytes ≤ 1000)
    (hb : Bx w g x.toArray t) (hx : x.length = z) (h1 : ∀ u ∈ x, u.oneCell' = true) (hown : OwnG B w T z v xs) (hl : xs.length ≤ 1000000) (hB : B ≤ w.heap.size) :
    ∃ v' w', (Builtin.append_ #[sl, sl] ty #[v, .slice (some ⟨g, 0, none⟩) 1 1]).run Tryd.prog w = .ok v' w' ∧ OwnG B w' T z v' (xs ++ [x]) ∧ w.grownBy w' v.ownBlock ∧ (∀ g, v'.ownBlock = some g → v.ownBlock = some g ∨ w.heap.size ≤ g) := by
  obtain ⟨i0, hi, hz0, hz1, hz2⟩ := info_parts info
  have hmb : (xs.length + 1) * bytes ≤ 1000001 * 1000 := Nat.mul_le_mul (by omega) hby
  obtain ⟨v', w', hr, h2, h3, h4⟩ := run_append_near (P := Tryd.prog) w B sl ty T i0 zv z bytes hu hi hz0 hz1 hz2 hzs hz v xs.length xs.flatten hown.2 ⟨g, 0, none⟩ 1 1 x (by omega) (by
    intro j u hj
    have := hb.cell' j u (by simpa using hj)
    rcases j with _ | j <;> simpa [Addr.add] using this) h1 (by unfold maxLen; omega) (by omega) hB
  refine ⟨v', w', hr, ⟨fun y hy => ?_, ?_⟩, h3, h4⟩
  · rcases List.mem_append.1 hy with k | k
    · exact hown.1 y k
    · rw [List.mem_singleton.1 k]; exact hx
  · rw [List.length_append, List.flatten_append, show [x].flatten = x by simp]
    exact h2
theorem plainElem_bool_inv {H : Type} {P : Program} {e : TypeId} (he : P.underlying e = some .bool) {v : Value} {z : DataW H × List MemPlace} (h : plainElem P e v = some z) : ∃ a, v = .bool a ∧ z = (.lit (.bool a), []) := by
  unfold plainElem at h
  rw [he] at h
  cases v <;> simp at h
  exact ⟨_, rfl, h.symm⟩
theorem keyed_int : Keyed Tryd.prog 3 := Go.Maps.int_keyed Tryd.underlying3
theorem zero_bool (w : World) : (zeroValue 4).run Tryd.prog w = .ok (.bool false) w := by kernel_rfl
theorem und_set : Tryd.prog.underlying 73 = some (.map 3 4) := by kernel_rfl
def SetM (w : World) (b : Nat) (L : List Int) : Prop := ∃ D : DataW Unit, w.ownsMap Tryd.prog 3 (plainElem Tryd.prog 4) b L.length D ∧ ∀ x : Int, D.atKey (.int .i64 x) (.lit (.bool false)) = .lit (.bool (L.contains x))
theorem SetM.lt {w : World} {b : Nat} {L : List Int} (h : SetM w b L) : b < w.heap.size := by obtain ⟨D, h, _⟩ := h; exact h.lt
theorem SetM.go {w w' : World} {b : Nat} {L : List Int} (h : SetM w b L) (hb : w'.heap[b]? = w.heap[b]?) : SetM w' b L := by
  obtain ⟨D, ⟨es, clock, h1, h2⟩, h3⟩ := h
  exact ⟨D, ⟨es, clock, hb.trans h1, h2⟩, h3⟩
theorem SetM.made (w : World) : SetM (w.alloc (.map #[] 0)) w.heap.size [] := ⟨_, World.ownsMap_made _ _ _ _, fun x => rfl⟩
theorem SetM.look {w : World} {b : Nat} {L : List Int} (h : SetM w b L) (n : Int) (h1 : -9223372036854775808 ≤ n) (h2 : n ≤ 9223372036854775807) : (Instr.lookup 73 (.map (some b)) (.int .i64 n) false).run Tryd.prog w = .ok (.bool (L.contains n)) w := by
  obtain ⟨D, h, hD⟩ := h
  obtain ⟨v, ps, hrun, hv⟩ := h.lookup keyed_int und_set (zero_bool w) (plainElem_bool Tryd.underlying4 false) (Go.Maps.keyOf_int_mk Tryd.underlying3 (WalkArith.wf_i64 ⟨h1, h2⟩))
  obtain ⟨c, rfl, hc⟩ := plainElem_bool_inv Tryd.underlying4 hv
  simp only [Prod.mk.injEq] at hc
  rw [hD n] at hc
  have : L.contains n = c := by simpa using hc.1
  rw [this]; exact hrun
theorem SetM.put {w : World} {b : Nat} {L : List Int} (h : SetM w b L) (n : Int) (h1 : -9223372036854775808 ≤ n) (h2 : n ≤ 9223372036854775807) (hl : L.length ≤ 1000000) : ∃ w', (Instr.mapUpdate 73 (.map (some b)) (.int .i64 n) (.bool true)).run Tryd.prog w = .ok () w' ∧ SetM w' b (n :: L) ∧ w.grownBy w' (some b) := by
  obtain ⟨D, h, hD⟩ := h
  obtain ⟨w', hrun, r1, r2⟩ := h.update keyed_int und_set (by unfold maxLen; omega) (Go.Maps.keyOf_int_mk Tryd.underlying3 (WalkArith.wf_i64 ⟨h1, h2⟩)) (plainElem_bool Tryd.underlying4 true)
  refine ⟨w', hrun, ⟨_, r1, fun x => ?_⟩, r2⟩
  by_cases e : x = n
  · subst e
    rw [Go.Maps.atKey_put_same h.isMap (show WideAt.IsKeyLit (.int .i64 x) from trivial)]
    simp
  · rw [Go.Maps.atKey_put_other (by simpa using e), hD x, List.contains_cons, show (x == n) = false by simpa using e, Bool.false_or]
section
variable {ops : Array Oper} {rest : List Oper} {a : Act} {w : World} {Q : Exit → Act → World → Prop} {o : Oper} {b : Nat} {L : List Int}
theorem set_look (hg : o.guard = none) (m x : Operand) (hop : o.op = Op.lookup 73 m x false) (hm : a.eval m = .map (some b)) (n : Int) (hx : a.eval x = .int .i64 n) (hS : SetM w b L) (h1 : -9223372036854775808 ≤ n) (h2 : n ≤ 9223372036854775807)
    (hK : wpList Tryd.prog ops Q rest (a.put o.dst (.bool (L.contains n))) w) : wpList Tryd.prog ops Q (o :: rest) a w := by
  refine wpList_plain hg fun K' hK' => ?_
  have hrun := hS.look n h1 h2
  generalize L.contains n = c at hrun hK
  unfold Oper.wp
  simp [execOp, hop, hm, hx, hrun, Result.andThen]
  exact hK' _ _ hK
theorem set_put (hg : o.guard = none) (m x v : Operand) (hop : o.op = Op.mapUpdate 73 m x v) (hm : a.eval m = .map (some b)) (n : Int) (hx : a.eval x = .int .i64 n) (hv : a.eval v = .bool true) (hS : SetM w b L) (h1 : -9223372036854775808 ≤ n) (h2 : n ≤ 9223372036854775807) (hl : L.length ≤ 1000000)
    (hK : ∀ w', SetM w' b (n :: L) → w.grownBy w' (some b) → wpList Tryd.prog ops Q rest (a.put o.dst undef) w') : wpList Tryd.prog ops Q (o :: rest) a w := by
  refine wpList_plain hg fun K' hK' => ?_
  obtain ⟨w', hrun, r1, r2⟩ := hS.put n h1 h2 hl
  unfold Oper.wp
  simp [execOp, hop, hm, hx, hv, hrun, Result.andThen]
  exact hK' _ _ (hK w' r1 r2)
end
end Go.Proofs.YtfijmdaeaahodaaDoor
set_option linter.unusedVariables false
set_option linter.unusedSimpArgs false
namespace Go.Proofs.YtfijmdaeaahodaaDoor
open Go.RowKit
theorem made_flat (z : Array Value) (n : Nat) (hz : 0 < z.size) : (madeCells z (n * z.size)).toList = (List.replicate n z.toList).flatten := by
  have hr : ∀ x ∈ List.replicate n z.toList, x.length = z.size := fun x hx => by rw [(List.mem_replicate.1 hx).2]; simp
  apply List.ext_getElem?
  intro j
  by_cases hj : j < n * z.size
  · have h1 : j / z.size < n := (Nat.div_lt_iff_lt_mul hz).2 hj
    have h2 : j % z.size < z.size := Nat.mod_lt _ hz
    have e : j / z.size * z.size + j % z.size = j := by rw [Nat.mul_comm]; exact Nat.div_add_mod j z.size
    have := flat_get hr (j / z.size) (by simpa using h1) (j % z.size) h2
    rw [e] at this
    rw [this]
    simp [madeCells, hj, h2]
  · rw [List.getElem?_eq_none (by simp [madeCells]; omega), List.getElem?_eq_none (by rw [flat_len hr]; simp; omega)]
theorem g_make (w : World) (B : Nat) (T sl : TypeId) (z bytes : Nat) (zv : Value) (n : Nat)
    (info : (Tryd.prog.info? T).map (fun i => (i.zero, i.size, i.bytes)) = some (some zv, z, bytes)) (hu : Tryd.prog.underlying sl = some (.slice T)) (hzs : zv.cells.size = z) (hz : 0 < z) (hby : bytes ≤ 1000) (hn : n ≤ 100000) (hB : B ≤ w.heap.size) :
    ∃ w', (Instr.makeSlice sl (.int .i64 (n : Nat)) (.int .i64 (n : Nat))).run Tryd.prog w = .ok (.slice (some ⟨w.heap.size, 0, none⟩) n n) w' ∧ OwnG B w' T z (.slice (some ⟨w.heap.size, 0, none⟩) n n) (List.replicate n zv.cells.toList) ∧ w.grownBy w' none := by
  obtain ⟨i0, hi, hz0, hz1, hz2⟩ := info_parts info
  have hmb : bytes * n ≤ 1000 * 100000 := Nat.mul_le_mul hby hn
  obtain ⟨w', h1, h2, h3⟩ := run_make_full (P := Tryd.prog) w B sl T i0 zv z hu hi hz0 hz1 .i64 .i64 n (by rw [hz2]; omega) (by unfold maxLen; omega) hB
  refine ⟨w', h1, ⟨fun x hx => by rw [(List.mem_replicate.1 hx).2]; simpa using hzs, ?_⟩, h3⟩
  rw [List.length_replicate, ← made_flat zv.cells n (by omega), hzs]
  exact h2
def setCs (w : World) (g : Nat) : Nat → List Value → World
  | _, [] => w
  | o, v :: vs => setCs (w.setCell ⟨g, o, none⟩ v) g (o + 1) vs
theorem setCs_other {g b : Nat} (hb : b ≠ g) : ∀ (vs : List Value) (w : World) (o : Nat), (setCs w g o vs).heap[b]? = w.heap[b]?
  | [], _, _ => rfl
  | v :: vs, w, o => (setCs_other hb vs _ (o + 1)).trans (Below.heap_setCell w ⟨g, o, none⟩ v b hb)
theorem setCs_qw {g : Nat} {w0 : World} (hg : w0.heap.size ≤ g) : ∀ (vs : List Value) (w : World) (o : Nat), Qw w0 w → Qw w0 (setCs w g o vs)
  | [], _, _, q => q
  | v :: vs, w, o, q => setCs_qw hg vs _ (o + 1) (Qw.sc q hg v)
theorem row_step {B : Nat} {T : TypeId} {z : Nat} {v : Value} {xs : List (List Value)} {g i : Nat} (hg : v.ownBlock = some g) (hi : i < xs.length) : ∀ (vs ws old : List Value) (w : World), ws.length + vs.length = z → old.length = vs.length → OwnG B w T z v (xs.set i (ws ++ old)) → OwnG B (setCs w g (i * z + ws.length) vs) T z v (xs.set i (ws ++ vs))
  | [], ws, old, w, h1, h2, h => by
    have : old = [] := List.eq_nil_of_length_eq_zero h2
    subst this; exact h
  | u :: vs, ws, [], w, h1, h2, h => by simp at h2
  | u :: vs, ws, o :: old, w, h1, h2, h => by
    have hz : ws.length < z := by simp only [List.length_cons] at h1; omega
    have k := h.set hg (i := i) (by simpa using hi) (j := ws.length) hz u
    have e : (xs.set i (ws ++ o :: old)).set i (((xs.set i (ws ++ o :: old))[i]'(by simpa using hi)).set ws.length u) = xs.set i ((ws ++ [u]) ++ old) := by
      rw [List.set_set, List.getElem_set_self, List.set_append_right _ _ (Nat.le_refl _), Nat.sub_self]
      simp
    rw [e] at k
    have r := row_step hg hi vs (ws ++ [u]) old _ (by simp only [List.length_append, List.length_cons, List.length_nil] at h1 ⊢; omega) (by simpa using h2) k
    rw [show (ws ++ [u]).length = ws.length + 1 by simp, show ws ++ [u] ++ vs = ws ++ u :: vs by simp] at r
    exact r
theorem OwnG.row {B : Nat} {w : World} {T : TypeId} {z : Nat} {v : Value} {xs : List (List Value)} (h : OwnG B w T z v xs) {g i : Nat} (hg : v.ownBlock = some g) (hi : i < xs.length) (vs : List Value) (hv : vs.length = z) : OwnG B (setCs w g (i * z) vs) T z v (xs.set i vs) := by
  have e : xs.set i ([] ++ xs[i]) = xs := by simp
  have := row_step (B := B) (w := w) (T := T) (z := z) hg hi vs [] xs[i] (by simpa using hv) (by rw [hv]; exact h.1 _ (List.getElem_mem hi)) (by rw [e]; exact h)
  simpa using this
theorem set_next {α : Type} {A R : List α} {x y : α} {i : Nat} (hi : A.length = i) : (A ++ x :: R).set i y = A ++ [y] ++ R := by
  subst hi
  rw [List.set_append_right _ _ (Nat.le_refl _), Nat.sub_self]
  simp
end Go.Proofs.YtfijmdaeaahodaaDoor
set_option linter.unusedVariables false
set_option linter.unusedSimpArgs false
namespace Go.Proofs.YtfijmdaeaahodaaDoor
open Go.RowKit
structure Ed where
  x : Sy.Ex
  a : Option Addr
  n : Nat
instance : Inhabited Ed := ⟨⟨Sy.zx, none, 0⟩⟩
def ecell (d : Ed) : List Value := [.int .i64 d.x.op, .int .i64 d.x.n, .slice d.a d.x.ks.length d.n]
theorem info_exprT : (Tryd.prog.info? 35).map (fun i => (i.zero, i.size, i.bytes)) = some (some (.agg #[.int .i64 0, .int .i64 0, .slice none 0 0]), 3, 40) := by kernel_rfl
theorem kids_of {B g : Nat} {w : World} {S : Nat → Prop} {n : Nat} {ds : List Ed} (h : OwnG B w 35 3 (.slice (some ⟨g, 0, none⟩) n n) (ds.map ecell)) (hn : ds.length = n) (hl : n ≤ 100000) (hS : S g) (hk : ∀ d ∈ ds, KidsB w S d.a d.n d.x.ks) : KidsB w S (some ⟨g, 0, none⟩) n (ds.map Ed.x) := by
  have gd : ∀ i (hi : i < ds.length), ds.getD i default = ds[i] := fun i hi => by rw [List.getD_eq_getElem?_getD, List.getElem?_eq_getElem hi]; rfl
  refine KidsB.mk g 0 n (ds.map Ed.x) (fun i => (ds.getD i default).a) (fun i => (ds.getD i default).n) hS (by rw [List.length_map]; omega) (by omega) (fun i hi => ?_) (fun i hi => ?_)
  · have hi' : i < ds.length := by simpa using hi
    have c := fun j u hj => h.at (g := g) rfl (i := i) (by simpa using hi') (j := j) (u := u) hj
    have c0 := c 0 (.int .i64 ds[i].x.op) (by rw [List.getElem_map]; rfl)
    have c1 := c 1 (.int .i64 ds[i].x.n) (by rw [List.getElem_map]; rfl)
    have c2 := c 2 (.slice ds[i].a ds[i].x.ks.length ds[i].n) (by rw [List.getElem_map]; rfl)
    rw [gd i hi', List.getElem_map, Nat.zero_add]
    exact ⟨c0, c1, c2⟩
  · have hi' : i < ds.length := by simpa using hi
    rw [gd i hi', List.getElem_map]
    exact hk _ (List.getElem_mem hi')
inductive Smx : Sy.Ex → Prop where
  | mk (op n : Int) (ks : List Sy.Ex) (hl : ks.length ≤ 100) (hk : ∀ k ∈ ks, Smx k) : Smx (.mk op n ks)
theorem Smx.len {x : Sy.Ex} (h : Smx x) : x.ks.length ≤ 100 := by cases h with | mk op n ks hl hk => exact hl
theorem Smx.kid {x : Sy.Ex} (h : Smx x) : ∀ k ∈ x.ks, Smx k := by cases h with | mk op n ks hl hk => exact hk
def CpX (x : Sy.Ex) (a : Option Addr) (cap : Nat) (w : World) : Prop := Calls Tryd.prog 62 #[.agg #[.int .i64 x.op, .int .i64 x.n, .slice a x.ks.length cap]] w fun e w' => ∃ a' c', e = .returned (.agg #[.int .i64 x.op, .int .i64 x.n, .slice a' x.ks.length c']) ∧ KidsB w' (fun b => w.heap.size ≤ b) a' c' x.ks ∧ Qw w w'
set_option maxRecDepth 100000 in
set_option maxHeartbeats 4000000 in
theorem cp_kids (ks : List Sy.Ex) (hl : ks.length ≤ 100) (IH : ∀ k ∈ ks, ∀ (a : Option Addr) (cap : Nat) (S : Nat → Prop) (w : World), KidsB w S a cap k.ks → CpX k a cap w) (a : Option Addr) (cap : Nat) (S : Nat → Prop) (w : World) (h : KidsB w S a cap ks) :
    Calls Tryd.prog 69 #[.slice a ks.length cap, .func (.func 62) #[] #[]] w fun e w' => ∃ a' c', e = .returned (.slice a' ks.length c') ∧ KidsB w' (fun b => w.heap.size ≤ b) a' c' ks ∧ Qw w w' := by
  obtain ⟨w1, hr, hO, hg⟩ := g_make w w.heap.size 35 33 3 40 _ ks.length info_exprT Tryd.underlying33 rfl (by decide) (by decide) (by omega) (Nat.le_refl _)
  have q1 : Qw w w1 := (Below.refl _ _).grown hg (Nat.le_refl _) (by intro k e; cases e)
  have hG := (hO.lt (g := w.heap.size) rfl).2
  obtain ⟨l1, l2⟩ := h.cap
  have HK := Lib.hid h
  have HI := Lib.hid IH
  clear h IH
  go_enter Tryd.func69, Tryd.ntmps69
  go_wp2
  go_loopw [13] (fun iv wr => ∃ (i : Nat) (ds : List Ed), i ≤ ks.length ∧ iv = .int .i64 (i : Int) ∧ ds.length = i ∧ Hid (ds.map Ed.x = ks.take i) ∧ Hid (OwnG w.heap.size wr 35 3 (.slice (some ⟨w.heap.size, 0, none⟩) ks.length ks.length) (ds.map ecell ++ List.replicate (ks.length - i) [.int .i64 0, .int .i64 0, .slice none 0 0])) ∧ Hid (∀ d ∈ ds, KidsB wr (fun b => w.heap.size < b) d.a d.n d.x.ks) ∧ Hid (Qw w wr)) (fun iv _ => ks.length - (intOf iv).toNat)
  case atStart => exact ⟨0, [], by omega, rfl, rfl, Lib.hid rfl, Lib.hid hO, Lib.hid (by simp), Lib.hid q1⟩
  case round =>
    clear hO hg hr q1
    obtain ⟨i, ds, hi, rfl, hds, HX, HO, HD, HQ⟩ := hrel
    have h63 : (i : Int) ≤ 9223372036854775806 := by omega
    have hGr : w.heap.size < wr.heap.size := by have := HO.out.lt (g := w.heap.size) rfl; exact this.2
    have hGn : w.heap.size ≠ wr.heap.size := by omega
    by_cases hlt : i < ks.length
    · have hKr := HK.out.kept HQ.out
      have IHr := HI.out ks[i] (List.getElem_mem hlt)
      cases hKr with
      | nl => simp at hlt
      | mk b off cap ks ad cc hS h1 h2 hc hkk =>
        obtain ⟨z0, z1, z2⟩ := hc i hlt
        have KK := Lib.hid (hkk i hlt)
        have hi2 : (i : Int) < (ks.length : Int) := by omega
        have bl := cell_lt z0
        have hne : b ≠ wr.heap.size := by omega
        have hu : ∀ w', Qw wr w' → w'.cell? ⟨w.heap.size, i * 3, none⟩ = some (.int .i64 0) ∧ w'.frozen? ⟨w.heap.size, i * 3, none⟩ = false ∧ w'.cell? ⟨w.heap.size, i * 3 + 1, none⟩ = some (.int .i64 0) ∧ w'.frozen? ⟨w.heap.size, i * 3 + 1, none⟩ = false ∧ w'.cell? ⟨w.heap.size, i * 3 + 2, none⟩ = some (.slice none 0 0) ∧ w'.frozen? ⟨w.heap.size, i * 3 + 2, none⟩ = false := fun w' q => by
          have o := HO.out.go (w' := w') fun g hg hl => q.block g hl
          have hlen : (ds.map ecell ++ List.replicate (ks.length - i) ([.int .i64 0, .int .i64 0, .slice none 0 0] : List Value)).length = ks.length := by simp; omega
          have c := fun j u (hj : ([.int .i64 0, .int .i64 0, .slice none 0 0] : List Value)[j]? = some u) => o.at (g := w.heap.size) rfl (i := i) (by rw [hlen]; exact hlt) (j := j) (u := u) (by rw [List.getElem_append_right (by simp; omega), List.getElem_replicate]; exact hj)
          exact ⟨c 0 _ rfl, o.free (g := w.heap.size) rfl _, c 1 _ rfl, o.free (g := w.heap.size) rfl _, c 2 _ rfl, o.free (g := w.heap.size) rfl _⟩
        have HU := Lib.hid hu
        have CR := Lib.hid (fun w1 h => IHr (ad i) (cc i) S w1 h)
        have q0 : Hid (Qw wr wr) := Lib.hid (Qw.refl wr)
        clear hu hc hkk IHr
        have HX2 : Hid (ks[i] = ks[i]) := Lib.hid rfl
        obtain ⟨x, hx⟩ : ∃ x, x = ks[i] := ⟨_, rfl⟩
        rw [← hx] at z0 z1 z2 KK CR
        have HX3 := Lib.hid hx
        clear HX2 hx
        unfold CpX at CR
        go_wp2_with (go_at_call 62; ((with_reducible refine (CR.out _ (KidsB.kept KK.out Qz)).mono ?_); rintro e w' ⟨a', c', rfl, kb, q⟩; replace q0 : Hid (Qw wr w') := Lib.hid (Qw.trans Qz q); obtain ⟨u0, g0, u1, g1, u2, g2⟩ := HU.out w' q0.out))
        have hw' : w.heap.size < w'.heap.size := Nat.lt_of_lt_of_le hGr q0.out.size
        have o := (HO.out.go (w' := w') fun g hg hl => q0.out.block g hl).row (g := w.heap.size) rfl (i := i) (by simp; omega) (ecell ⟨x, a', c'⟩) rfl
        rw [show ks.length - i = (ks.length - (i + 1)) + 1 by omega, List.replicate_succ, set_next (by simpa using hds)] at o
        have eS : ∀ b, b ≠ w.heap.size → (setCs w' w.heap.size (i * 3) (ecell ⟨x, a', c'⟩)).heap[b]? = w'.heap[b]? := fun b hb => setCs_other hb _ _ _
        have qS : Qw w (setCs w' w.heap.size (i * 3) (ecell ⟨x, a', c'⟩)) := setCs_qw (Nat.le_refl _) _ _ _ (Qw.trans HQ.out q0.out)
        have hD : ∀ d ∈ ds ++ [(⟨x, a', c'⟩ : Ed)], KidsB (setCs w' w.heap.size (i * 3) (ecell ⟨x, a', c'⟩)) (fun b => w.heap.size < b) d.a d.n d.x.ks := fun d hd => by
          rcases List.mem_append.1 hd with hd | hd
          · exact (HD.out d hd).go fun b hb hl => ⟨(eS b (by omega)).trans (q0.out.block b hl), hb⟩
          · obtain rfl := List.mem_singleton.1 hd
            exact kb.go fun b hb hl => ⟨eS b (by have := q0.out.size; simp at hb; omega), by have := hb; simp at this; omega⟩
        have hx2 : (ds ++ [(⟨x, a', c'⟩ : Ed)]).map Ed.x = ks.take (i + 1) := by
          rw [List.map_append, HX.out, List.take_succ_eq_append_getElem hlt, ← HX3.out]; rfl
        go_roundw
        case measure => simp [intOf]; omega
        case rel => exact ⟨i + 1, ds ++ [⟨x, a', c'⟩], by omega, by go_num, by simp [hds], Lib.hid hx2, Lib.hid (by rw [List.map_append]; exact o), Lib.hid hD, Lib.hid qS⟩
    · obtain rfl : i = ks.length := by omega
      have hb : ¬ (ks.length : Int) < (ks.length : Int) := by omega
      have e1 : ds.map Ed.x = ks := by have := HX.out; rwa [List.take_length] at this
      have kf : KidsB wr (fun b => w.heap.size ≤ b) (some ⟨w.heap.size, 0, none⟩) ks.length ks := by
        have o := HO.out
        rw [Nat.sub_self, List.replicate_zero, List.append_nil] at o
        have := kids_of o hds (by omega) (S := fun b => w.heap.size ≤ b) (Nat.le_refl _) (fun d hd => (HD.out d hd).mono fun b hb => by omega)
        rwa [e1] at this
      go_wp2
      go_ret
      exact ⟨some ⟨w.heap.size, 0, none⟩, ks.length, rfl, kf, HQ.out⟩
end Go.Proofs.YtfijmdaeaahodaaDoor

