import Derived.Test.YtkfipjlknfinpaaDoorSY
import Derived.Test.YtkfipjlknfinpaaDoorLX
import Derived.Test.YtkfipjlknfinpaaDoorKept
import Derived.Deep.QuietTactic
import Derived.BigQuiet
import Derived.StillTailTactics
import Derived.WalkLawsBesides
import Derived.Outline
import Derived.Test.YtkfipjlknfinpaaDoorL2a
import Derived.Deep.RegionWith
import Derived.Deep.LoopGhost
import Derived.Lib.AppendZeros
import Derived.Laws.OwnMore

/- The parser of package syntax: its memory; the walks of its small methods. -/
set_option linter.unusedVariables false
set_option linter.unusedSimpArgs false
namespace Go.Proofs.YtkfipjlknfinpaaDoor
open Go.RowKit

/-- Only block P of the old ones has turned. -/
structure Px (P : Nat) (w w' : World) : Prop where
  os : w'.os = w.os
  tape : w'.tape = w.tape
  output : w'.output = w.output
  size : w.heap.size ≤ w'.heap.size
  block : ∀ k, k < w.heap.size → k ≠ P → w'.heap[k]? = w.heap[k]?

theorem Px.refl (P : Nat) (w : World) : Px P w w := ⟨rfl, rfl, rfl, Nat.le_refl _, fun _ _ _ => rfl⟩
theorem Px.of {P : Nat} {w w' : World} (q : Qw w w') : Px P w w' := ⟨q.os, q.tape, q.output, q.size, fun k h _ => q.block k h⟩
theorem Px.trans {P : Nat} {a b c : World} (h : Px P a b) (k : Px P b c) : Px P a c :=
  ⟨k.os.trans h.os, k.tape.trans h.tape, k.output.trans h.output, Nat.le_trans h.size k.size, fun i hi hp => (k.block i (Nat.lt_of_lt_of_le hi h.size) hp).trans (h.block i hi hp)⟩
theorem Px.set (P : Nat) (w : World) (o : Nat) (u : Value) : Px P w (w.setCell ⟨P, o, none⟩ u) :=
  ⟨rfl, rfl, rfl, by simp [World.setCell], fun k _ hp => Below.heap_setCell _ _ _ _ hp⟩
/-- What lies below block P is as it was. -/
theorem Px.below {P : Nat} {w w' : World} (h : Px P w w') (hP : P ≤ w.heap.size) : Below P w w' := ⟨h.os, h.tape, h.output, h.size, fun k hk => h.block k (by omega) (by omega)⟩
theorem Px.alloc {P : Nat} {a w : World} (h : Px P a w) (o : Obj) : Px P a (w.alloc o) :=
  h.trans ⟨rfl, rfl, rfl, by simp, fun k hk _ => Below.heap_alloc _ _ _ hk⟩
theorem Px.setP {P : Nat} {a w : World} (h : Px P a w) (o : Nat) (u : Value) : Px P a (w.setCell ⟨P, o, none⟩ u) := h.trans (Px.set P w o u)
theorem Px.setNew {P : Nat} {a w : World} (h : Px P a w) {p : Addr} (hp : a.heap.size ≤ p.block) (u : Value) : Px P a (w.setCell p u) :=
  ⟨h.os, h.tape, h.output, by have := h.size; simpa [World.setCell] using this, fun k hk hP => (Below.heap_setCell _ _ _ _ (by omega)).trans (h.block k hk hP)⟩
theorem Px.drew {P : Nat} {a w : World} (h : Px P a w) : Px P a w.drew := ⟨h.os, h.tape, h.output, h.size, h.block⟩
theorem Px.drewN {P : Nat} {a w : World} (h : Px P a w) (n : Nat) : Px P a (w.drewN n) := h.trans ⟨rfl, rfl, rfl, Nat.le_refl _, fun _ _ _ => rfl⟩
theorem Bx.px {P : Nat} {w w' : World} {b : Nat} {cs : Array Value} {t : TypeId} (h : Bx w b cs t) (q : Px P w w') (hb : b ≠ P) : Bx w' b cs t := (q.block b h.lt hb).trans h

theorem Qw.al {a w : World} (h : Qw a w) (o : Obj) : Qw a (w.alloc o) := Below.alloc h h.size o
theorem Qw.dr {a w : World} (h : Qw a w) : Qw a w.drew := Below.drew h
theorem Qw.dn {a w : World} (h : Qw a w) (n : Nat) : Qw a (w.drewN n) := Below.trans h ⟨rfl, rfl, rfl, Nat.le_refl _, fun _ _ => rfl⟩
theorem Qw.sc {a w : World} (h : Qw a w) {p : Addr} (hp : a.heap.size ≤ p.block) (u : Value) : Qw a (w.setCell p u) := Below.setCell h hp u
theorem Qw.le {w w' : World} (h : Qw w w') : w.heap.size ≤ w'.heap.size := h.size
theorem Qw.bel {w w' : World} (h : Qw w w') : Below w.heap.size w w' := h

/-- The table of the operators reads as it was laid. -/
def Ow (w : World) : Prop := 0 < w.heap.size ∧ ∀ j, j < 26 → w.cell? ⟨0, j * 2, none⟩ = some (.string (bs (Sy.onm j))) ∧ w.cell? ⟨0, j * 2 + 1, none⟩ = some (.int .i64 (Sy.kds j : Nat))
theorem Ow.cong {w w' : World} (h : Ow w) (hs : w.heap.size ≤ w'.heap.size) (hb : w'.heap[0]? = w.heap[0]?) : Ow w' :=
  ⟨Nat.lt_of_lt_of_le h.1 hs, fun j hj => by
    have k : ∀ o, w'.cell? ⟨0, o, none⟩ = w.cell? ⟨0, o, none⟩ := fun o => World.cell?_of_block (w := w) hb
    rw [k, k]; exact h.2 j hj⟩
theorem Ow.kept {w w' : World} (h : Ow w) (q : Qw w w') : Ow w' := h.cong q.size (q.block _ h.1)

def parP (P : Nat) : Value := .pointer (some ⟨P, 0, none⟩)
def tokV (ts : List Lx.Tok) (len i : Nat) : Value := .agg #[.int .i64 (Sy.kd ts i), .int .i64 (Sy.tn ts i), .int .i64 (Sy.tp ts len i : Nat), .string (bs (Sy.tx ts i))]

theorem tok_end {ts : List Lx.Tok} {i : Nat} (h : i = ts.length) (len : Nat) : tokV ts len i = .agg #[.int .i64 0, .int .i64 0, .int .i64 (len : Nat), .string ⟨#[]⟩] := by
  unfold tokV Sy.kd Sy.tn Sy.tp Sy.tx
  rw [List.getElem?_eq_none (by omega)]
  rfl
theorem tok_mid {ts : List Lx.Tok} {i : Nat} (h : i < ts.length) (len : Nat) : tokV ts len i = .agg #[.int .i64 ts[i].k, .int .i64 ts[i].n, .int .i64 (ts[i].p : Nat), .string (bs ts[i].x)] := by
  unfold tokV Sy.kd Sy.tn Sy.tp Sy.tx
  rw [List.getElem?_eq_getElem h]

theorem bel_drewN {B : Nat} {a w : World} (h : Below B a w) (n : Nat) : Below B a (w.drewN n) := h.trans ⟨rfl, rfl, rfl, Nat.le_refl _, fun _ _ => rfl⟩

theorem ret_ex {fn : Func} {s : Nat} {a : Act} {w : World} {b : Nat} {v0 v1 v2 : Value} {t : TypeId} (hr : fn.results = #[.cell s 31]) (hs : a.tmps[s]?.getD undef = .pointer (some ⟨b, 0, none⟩)) (X : Bx w b #[v0, v1, v2] t) :
    (results fn a.tmps).run Tryd.prog w = .ok (.agg #[v0, v1, v2]) w := by
  have c0 : w.cell? ⟨b, 0, none⟩ = some v0 := X.cell' 0 _ rfl
  have c1 : w.cell? ⟨b, 1, none⟩ = some v1 := X.cell' 1 _ rfl
  have c2 : w.cell? ⟨b, 2, none⟩ = some v2 := X.cell' 2 _ rfl
  simp [results, hr, hs, go_sem, c0, c1, c2]

end Go.Proofs.YtkfipjlknfinpaaDoor

/- The parser of package syntax: expressions in memory; the walks of its methods that read one token. -/
set_option linter.unusedVariables false
set_option linter.unusedSimpArgs false
namespace Go.Proofs.YtkfipjlknfinpaaDoor
open Go.RowKit

/-- The expressions behind an address, in blocks of S. -/
inductive KidsB (w : World) (S : Nat → Prop) : Option Addr → Nat → List Sy.Ex → Prop where
  | nl (a : Option Addr) (cap : Nat) (h : cap ≤ 9223372036854775807) : KidsB w S a cap []
  | mk (b off cap : Nat) (ks : List Sy.Ex) (ad : Nat → Option Addr) (cc : Nat → Nat) (hS : S b) (h1 : ks.length ≤ cap) (h2 : cap ≤ 9223372036854775807)
    (hc : ∀ i (h : i < ks.length), w.cell? ⟨b, off + i * 3, none⟩ = some (.int .i64 ks[i].op) ∧ w.cell? ⟨b, off + i * 3 + 1, none⟩ = some (.int .i64 ks[i].n) ∧ w.cell? ⟨b, off + i * 3 + 2, none⟩ = some (.slice (ad i) ks[i].ks.length (cc i)))
    (hk : ∀ i (h : i < ks.length), KidsB w S (ad i) (cc i) ks[i].ks) : KidsB w S (some ⟨b, off, none⟩) cap ks

theorem KidsB.cap {w : World} {S : Nat → Prop} {a : Option Addr} {cap : Nat} {ks : List Sy.Ex} (h : KidsB w S a cap ks) : ks.length ≤ cap ∧ cap ≤ 9223372036854775807 := by
  cases h with
  | nl a cap h => exact ⟨Nat.zero_le _, h⟩
  | mk b off cap ks ad cc hS h1 h2 hc hk => exact ⟨h1, h2⟩

theorem cell_lt {w : World} {b o : Nat} {v : Value} (h : w.cell? ⟨b, o, none⟩ = some v) : b < w.heap.size := by
  rcases Nat.lt_or_ge b w.heap.size with g | g
  · exact g
  · simp [World.cell?, Array.getElem?_eq_none g] at h

/-- From world to world, and to more blocks. -/
theorem KidsB.go {w w' : World} {S T : Nat → Prop} (hb : ∀ b, S b → b < w.heap.size → w'.heap[b]? = w.heap[b]? ∧ T b) {a : Option Addr} {cap : Nat} {ks : List Sy.Ex} (h : KidsB w S a cap ks) : KidsB w' T a cap ks := by
  induction h with
  | nl a cap h => exact .nl a cap h
  | mk b off cap ks ad cc hS h1 h2 hc hk ih =>
    by_cases h0 : ks = []
    · subst h0; exact .nl _ _ h2
    have g := cell_lt (hc 0 (by cases ks with | nil => exact absurd rfl h0 | cons _ _ => simp)).1
    refine .mk b off cap ks ad cc (hb b hS g).2 h1 h2 (fun i hi => ?_) ih
    have k : ∀ o, w'.cell? ⟨b, o, none⟩ = w.cell? ⟨b, o, none⟩ := fun o => World.cell?_of_block (w := w) (hb b hS g).1
    rw [k, k, k]
    exact hc i hi
theorem KidsB.kept {w w' : World} {S : Nat → Prop} {a : Option Addr} {cap : Nat} {ks : List Sy.Ex} (h : KidsB w S a cap ks) (q : Qw w w') : KidsB w' S a cap ks := h.go fun b hS hb => ⟨q.block b hb, hS⟩
theorem KidsB.px {w w' : World} {P : Nat} {S : Nat → Prop} {a : Option Addr} {cap : Nat} {ks : List Sy.Ex} (h : KidsB w S a cap ks) (hS : ∀ b, S b → b ≠ P) (q : Px P w w') : KidsB w' S a cap ks := h.go fun b h hb => ⟨q.block b hb (hS b h), h⟩
theorem KidsB.mono {w : World} {S T : Nat → Prop} {a : Option Addr} {cap : Nat} {ks : List Sy.Ex} (h : KidsB w S a cap ks) (hT : ∀ b, S b → T b) : KidsB w T a cap ks := h.go fun b hS _ => ⟨rfl, hT b hS⟩
theorem KidsB.set {w : World} {S : Nat → Prop} {a : Option Addr} {cap : Nat} {ks : List Sy.Ex} (h : KidsB w S a cap ks) {p : Addr} (hp : ¬ S p.block) (u : Value) : KidsB (w.setCell p u) S a cap ks :=
  h.go fun b hS hb => ⟨Below.heap_setCell _ _ _ _ (fun e => hp (e ▸ hS)), hS⟩

theorem KidsB.one {w : World} {S : Nat → Prop} {G : Nat} {x : Sy.Ex} {t : TypeId} {ka : Option Addr} {kc : Nat} (X : Bx w G #[.int .i64 x.op, .int .i64 x.n, .slice ka x.ks.length kc] t) (hS : S G) (h : KidsB w S ka kc x.ks) : KidsB w S (some ⟨G, 0, none⟩) 1 [x] := by
  refine .mk G 0 1 [x] (fun _ => ka) (fun _ => kc) hS (Nat.le_refl _) (by decide) (fun i hi => ?_) (fun i hi => ?_)
  · obtain rfl : i = 0 := by simp at hi; exact hi
    exact ⟨X.cell' 0 _ rfl, X.cell' 1 _ rfl, X.cell' 2 _ rfl⟩
  · obtain rfl : i = 0 := by simp at hi; exact hi
    exact h
theorem KidsB.two {w : World} {S : Nat → Prop} {G : Nat} {x y : Sy.Ex} {t : TypeId} {ka kb : Option Addr} {kc kd : Nat} (X : Bx w G #[.int .i64 x.op, .int .i64 x.n, .slice ka x.ks.length kc, .int .i64 y.op, .int .i64 y.n, .slice kb y.ks.length kd] t) (hS : S G)
    (h : KidsB w S ka kc x.ks) (h' : KidsB w S kb kd y.ks) : KidsB w S (some ⟨G, 0, none⟩) 2 [x, y] := by
  refine .mk G 0 2 [x, y] (fun i => if i = 0 then ka else kb) (fun i => if i = 0 then kc else kd) hS (Nat.le_refl _) (by decide) (fun i hi => ?_) (fun i hi => ?_)
  · have : i = 0 ∨ i = 1 := by simp at hi; omega
    rcases this with rfl | rfl
    · exact ⟨X.cell' 0 _ rfl, X.cell' 1 _ rfl, X.cell' 2 _ rfl⟩
    · exact ⟨X.cell' 3 _ rfl, X.cell' 4 _ rfl, X.cell' 5 _ rfl⟩
  · have : i = 0 ∨ i = 1 := by simp at hi; omega
    rcases this with rfl | rfl
    · exact h
    · exact h'

end Go.Proofs.YtkfipjlknfinpaaDoor

/- The parser of package syntax: the walks of expect, acceptOperator, function, node. -/
set_option linter.unusedVariables false
set_option linter.unusedSimpArgs false
namespace Go.Proofs.YtkfipjlknfinpaaDoor
open Go.RowKit

theorem info_ops : (Tryd.prog.info? 81).map (·.size) = some 52 := by kernel_rfl

theorem fop_step {x : List UInt8} {lo k n : Nat} (h1 : lo ≤ n) (h2 : n < lo + k) : Sy.fop x n (lo + k - n) = if x = Sy.onm n then some n else Sy.fop x (n + 1) (lo + k - (n + 1)) := by
  rw [show lo + k - n = (lo + k - (n + 1)) + 1 by omega, Sy.fop]

end Go.Proofs.YtkfipjlknfinpaaDoor

/- The parser of package syntax: the rules that call one another. -/
set_option linter.unusedVariables false
set_option linter.unusedSimpArgs false
namespace Go.Proofs.YtkfipjlknfinpaaDoor
open Go.RowKit

theorem KidsB.alloc {w : World} {S : Nat → Prop} {a : Option Addr} {cap : Nat} {ks : List Sy.Ex} (h : KidsB w S a cap ks) (o : Obj) : KidsB (w.alloc o) S a cap ks := h.kept ((Below.refl _ _).alloc (Nat.le_refl _) _)

/-- For a way through a region that ends in a panic: what is left is no goal. -/
theorem dying {G : Prop} {P : Program} {w : World} (h : G) (k : wpAny P .any #[] (fun _ _ _ => True) 0 #[] { tmps := #[], defers := [] } w) : G := h

theorem KidsB.fresh {w : World} {S : Nat → Prop} {a : Option Addr} {cap : Nat} {ks : List Sy.Ex} (h : KidsB w S a cap ks) (o : Obj) : KidsB (w.alloc o) (fun b => S b ∧ b ≠ w.heap.size) a cap ks := h.go fun b hS hb => ⟨Below.heap_alloc _ _ _ hb, hS, by omega⟩
theorem Bx.drew {w : World} {b : Nat} {cs : Array Value} {t : TypeId} (h : Bx w b cs t) : Bx w.drew b cs t := h
theorem KidsB.drew {w : World} {S : Nat → Prop} {a : Option Addr} {cap : Nat} {ks : List Sy.Ex} (h : KidsB w S a cap ks) : KidsB w.drew S a cap ks := h.kept ((Below.refl _ _).drew)
def exZ : Array Value := #[.int .i64 0, .int .i64 0, .slice none 0 0]

end Go.Proofs.YtkfipjlknfinpaaDoor

/- Blocks in memory; an append whose row is the old one or a new one. -/
set_option linter.unusedVariables false
set_option linter.unusedSimpArgs false
namespace Go.Proofs.YtkfipjlknfinpaaDoor
open Go.RowKit

/-- append onto a row of the call's own: the row behind it is the old one, or a new block. -/
theorem run_append_near {P : Program} (w : World) (base : Nat) (t ty e : TypeId) (i : TypeInfo) (z : Value) (size bytes : Nat) (ht : P.underlying t = some (.slice e)) (hi : P.info? e = some i) (hz : i.zero = some z)
    (hsize : i.size = size) (hby : i.bytes = bytes) (hzs : z.cells.size = size) (hsz : 0 < size) (v : Value) (n : Nat) (xs : List Value) (hown : w.ownsRow base e size v n xs)
    (a : Addr) (m c : Nat) (news : List Value) (hl : news.length = m * size) (hnews : ∀ j u, news[j]? = some u → w.cell? (a.add j) = some u) (h1 : ∀ u ∈ news, u.oneCell' = true)
    (h63 : n + m ≤ maxLen) (hbytes : (n + m) * bytes ≤ 140737488355328) (hbase : base ≤ w.heap.size) :
    ∃ v' w', (Builtin.append_ #[t, t] ty #[v, .slice (some a) m c]).run P w = .ok v' w' ∧ w'.ownsRow base e size v' (n + m) (xs ++ news) ∧ w.grownBy w' v.ownBlock ∧
      (∀ g, v'.ownBlock = some g → v.ownBlock = some g ∨ w.heap.size ≤ g) := by
  rcases hown.2 with ⟨hv, hn⟩ | ⟨g, cap, cur, hv, hb, hg, hn, hm, hc, htk⟩
  · have hown' : w.ownsRow w.heap.size e size v n xs := ⟨hown.1, .inl ⟨hv, hn⟩⟩
    obtain ⟨v', w', h2, h3, h4, h5⟩ := run_append_own (P := P) w w.heap.size t ty e i z size bytes ht hi hz hsize hby hzs hsz v n xs hown' a m c news hl hnews h1 h63 hbytes (Nat.le_refl _)
    refine ⟨v', w', h2, ⟨h3.1, ?_⟩, h4, fun g hg => ?_⟩
    · rcases h3.2 with h | ⟨g, cap, cur, k1, k2, k3⟩
      · exact .inl h
      · exact .inr ⟨g, cap, cur, k1, Nat.le_trans hbase k2, k3⟩
    · rcases h3.2 with ⟨h, _⟩ | ⟨g', cap, cur, k1, k2, k3⟩
      · rw [h] at hg; cases hg
      · rw [k1] at hg
        have : g' = g := by simpa [Value.ownBlock] using hg
        exact .inr (this ▸ k2)
  · subst hv
    by_cases hroom : n + m ≤ cap
    · obtain ⟨w', h2, h3, h4⟩ := run_append_fits (P := P) w base t ty e i size ht hi hsize g n cap xs hown a m c news hl hnews h1 hroom
      exact ⟨_, w', h2, h3, h4, fun g' hg' => .inl hg'⟩
    · obtain ⟨v', w', h2, h3, h4, h5⟩ := run_append_own (P := P) w base t ty e i z size bytes ht hi hz hsize hby hzs hsz _ n xs hown a m c news hl hnews h1 h63 hbytes hbase
      refine ⟨v', w', h2, h3, h4, fun g' hg' => .inr ?_⟩
      subst hsize hby
      have hr := run_append_grow (P := P) w t ty e i z ht hi hz ⟨g, 0, none⟩ n cap xs hown.1 (hown.cells (g := g) rfl) a m c news hl hnews (by omega) (by unfold maxLen at h63; omega) (growslice_fits (by omega) hbytes)
      rw [h2] at hr
      injection hr with e1 e2
      rw [e1] at hg'
      have : w.heap.size = g' := by simpa [Value.ownBlock] using hg'
      omega

/-- A word, and where its expression's Kids lie. -/
structure Wd where
  c : Int
  x : Sy.Ex
  a : Option Addr
  n : Nat
def wcell (d : Wd) : List Value := [.int .i64 d.c, .int .i64 d.x.op, .int .i64 d.x.n, .slice d.a d.x.ks.length d.n]
def wcells (ds : List Wd) : List Value := ds.flatMap wcell
def wds (ds : List Wd) : List (Int × Sy.Ex) := ds.map fun d => (d.c, d.x)
/-- Words in memory, in blocks of S. -/
def WordsB (w : World) (S : Nat → Prop) (a : Option Addr) (cap : Nat) (ws : List (Int × Sy.Ex)) : Prop :=
  ws.length ≤ cap ∧ cap ≤ 9223372036854775807 ∧ (ws = [] ∨ ∃ (b off : Nat) (ad : Nat → Option Addr) (cc : Nat → Nat), a = some ⟨b, off, none⟩ ∧ S b ∧ ∀ i (h : i < ws.length),
    w.cell? ⟨b, off + i * 4, none⟩ = some (.int .i64 ws[i].1) ∧ w.cell? ⟨b, off + i * 4 + 1, none⟩ = some (.int .i64 ws[i].2.op) ∧ w.cell? ⟨b, off + i * 4 + 2, none⟩ = some (.int .i64 ws[i].2.n) ∧ w.cell? ⟨b, off + i * 4 + 3, none⟩ = some (.slice (ad i) ws[i].2.ks.length (cc i)) ∧
    KidsB w S (ad i) (cc i) ws[i].2.ks)

theorem WordsB.nil (w : World) (S : Nat → Prop) : WordsB w S none 0 [] := ⟨Nat.le_refl _, by decide, .inl rfl⟩
theorem WordsB.go {w w' : World} {S T : Nat → Prop} (hb : ∀ b, S b → b < w.heap.size → w'.heap[b]? = w.heap[b]? ∧ T b) {a : Option Addr} {cap : Nat} {ws : List (Int × Sy.Ex)} (h : WordsB w S a cap ws) : WordsB w' T a cap ws := by
  obtain ⟨h1, h2, h3⟩ := h
  refine ⟨h1, h2, ?_⟩
  rcases h3 with h3 | ⟨b, off, ad, cc, e, hS, hc⟩
  · exact .inl h3
  · by_cases h0 : ws = []
    · exact .inl h0
    have hlt := cell_lt (hc 0 (by cases ws with | nil => exact absurd rfl h0 | cons _ _ => simp)).1
    refine .inr ⟨b, off, ad, cc, e, (hb b hS hlt).2, fun i hi => ?_⟩
    have k : ∀ o, w'.cell? ⟨b, o, none⟩ = w.cell? ⟨b, o, none⟩ := fun o => World.cell?_of_block (w := w) (hb b hS hlt).1
    rw [k, k, k, k]
    obtain ⟨c0, c1, c2, c3, c4⟩ := hc i hi
    exact ⟨c0, c1, c2, c3, c4.go hb⟩

/-- A block's cells. -/
def BlkB (w : World) (S : Nat → Prop) (b : Sy.Bl) (cs : Array Value) : Prop :=
  ∃ (wa : Option Addr) (wc : Nat) (la : Option Addr) (lc : Nat) (xa : Option Addr) (xc : Nat),
    cs = #[.int .i64 b.kind, .int .i64 b.label, .bool b.skip, .slice wa b.words.length wc, .int .i64 b.left.op, .int .i64 b.left.n, .slice la b.left.ks.length lc, .int .i64 b.x.op, .int .i64 b.x.n, .slice xa b.x.ks.length xc, .int .i64 b.n] ∧
    WordsB w S wa wc b.words ∧ KidsB w S la lc b.left.ks ∧ KidsB w S xa xc b.x.ks
theorem BlkB.go {w w' : World} {S T : Nat → Prop} (hb : ∀ b, S b → b < w.heap.size → w'.heap[b]? = w.heap[b]? ∧ T b) {b : Sy.Bl} {cs : Array Value} (h : BlkB w S b cs) : BlkB w' T b cs := by
  obtain ⟨wa, wc, la, lc, xa, xc, e, h1, h2, h3⟩ := h
  exact ⟨wa, wc, la, lc, xa, xc, e, h1.go hb, h2.go hb, h3.go hb⟩

theorem wcells_get (ds : List Wd) (i : Nat) (h : i < ds.length) (j : Nat) (hj : j < 4) : (wcells ds)[i * 4 + j]? = (wcell ds[i])[j]? := by
  induction ds generalizing i with
  | nil => simp at h
  | cons t ts ih =>
    have e : wcells (t :: ts) = wcell t ++ wcells ts := rfl
    have l : (wcell t).length = 4 := rfl
    rw [e]
    cases i with
    | zero => rw [List.getElem?_append_left (by omega)]; simp
    | succ i =>
      rw [List.getElem?_append_right (by omega), l, show (i + 1) * 4 + j - 4 = i * 4 + j by omega]
      rw [ih i (by simpa using h)]; rfl

end Go.Proofs.YtkfipjlknfinpaaDoor
