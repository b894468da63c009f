import Derived.Test.YtlgdjbabbfdngaaDoorZSP0
import Derived.Test.YtlgdjbabbfdngaaDoorZSP1
import Derived.Test.YtlgdjbabbfdngaaDoorZSP3
import Derived.Test.YtlgdjbabbfdngaaDoorZSP9
import Derived.Test.YtlgdjbabbfdngaaDoorZSP12
import Derived.Test.YtlgdjbabbfdngaaDoorRows
import Derived.Deep.RegionLaw
import Derived.WalkSmall
import Derived.OwnWalk
import Derived.Outline
import Derived.IntWalk
import Derived.Lib.MinMax
import Derived.WalkMore
import Derived.Deep.QuietTactic
import Derived.BigQuiet
import Derived.Maps.AppendAt
import Derived.Lib.Join
import Derived.Deep.Cut
import Derived.Defers
import Derived.Recover
import Derived.BigRegion
import Derived.Laws.IdiomStrings
set_option linter.unusedVariables false
set_option linter.unusedSimpArgs false
namespace Go.Proofs.YtlgdjbabbfdngaaDoor
open Go.RowKit
namespace Sy
def dw (k : Nat) (ks : List Ex) (i : Nat) : Nat := 1 + dmx ((ks.take i).map (fun x => min (dpt x) k))
end Sy
end Go.Proofs.YtlgdjbabbfdngaaDoor
set_option linter.unusedVariables false
set_option linter.unusedSimpArgs false
namespace Go.Proofs.YtlgdjbabbfdngaaDoor
open Go.RowKit
theorem step_word {ops : Array Oper} {o : Oper} {a : Act} {w : World} {K : Act → World → Prop} {Q : Exit → Act → World → Prop} {E : Prop} (hgd : o.guard = none) (s x : Tmp)
    (hop : o.op = .call { callee := .builtin .append, args := #[.tmp s, .tmp x], argTypes := #[32, 32] }) (d : Wd) (B : Nat) (v : Value) (ds : List Wd) (g : Nat) {t : TypeId}
    (hs : a.eval (.tmp s) = v) (hx : a.eval (.tmp x) = .slice (some ⟨g, 0, none⟩) 1 1) (hb : Bx w g #[.int .i64 d.c, .int .i64 d.x.op, .int .i64 d.x.n, .slice d.a d.x.ks.length d.n] t)
    (hown : OwnW B w v ds) (hl : ds.length ≤ 1000000) (hB : B ≤ w.heap.size)
    (h : ∀ v' w', OwnW B w' v' (ds ++ [d]) → w.grownBy w' v.ownBlock → (∀ g, v'.ownBlock = some g → v.ownBlock = some g ∨ w.heap.size ≤ g) → K (a.put o.dst v') w') :
    if Region.wanted o (yielded ops a.tmps) = true then Oper.wp Tryd.prog o a w K Q else E := by
  have hw : Region.wanted o (yielded ops a.tmps) = true := by simp [Region.wanted, hgd]
  rw [if_pos hw]
  obtain ⟨i0, hi, hz0, hz1, hz2⟩ := info_parts info_word
  obtain ⟨v', w', hr, h2, h3, h4⟩ := run_append_near (P := Tryd.prog) w B 32 o.type 56 i0 _ 4 48 Tryd.underlying32 hi hz0 hz1 hz2 rfl (by decide) v ds.length (wcells ds) hown ⟨g, 0, none⟩ 1 1 (wcell d) rfl (by
    intro j u hj
    match j, hj with
    | 0, hj => simp [wcell] at hj; subst hj; simpa [Addr.add] using hb.cell' 0 _ rfl
    | 1, hj => simp [wcell] at hj; subst hj; simpa [Addr.add] using hb.cell' 1 _ rfl
    | 2, hj => simp [wcell] at hj; subst hj; simpa [Addr.add] using hb.cell' 2 _ rfl
    | 3, hj => simp [wcell] at hj; subst hj; simpa [Addr.add] using hb.cell' 3 _ rfl
    | n + 4, hj => simp [wcell] at hj) (by
    intro u hu
    simp [wcell] at hu
    rcases hu with rfl | rfl | rfl | rfl <;> rfl) (by unfold maxLen; omega) (by omega) hB
  unfold Oper.wp
  simp only [execOp, hop, resolve, invoke, builtin, Sem.run_bind, Sem.run_pure, Result.andThen_ok, List.map_toArray, List.map_cons, List.map_nil, hs, hx, hr]
  refine h v' w' ?_ h3 h4
  unfold OwnW
  rw [List.length_append, show wcells (ds ++ [d]) = wcells ds ++ wcell d by simp [wcells]]
  exact h2
theorem OwnW.go {B : Nat} {w w' : World} {v : Value} {ds : List Wd} (h : OwnW B w v ds) (hb : ∀ g, v.ownBlock = some g → g < w.heap.size → w'.heap[g]? = w.heap[g]?) : OwnW B w' v ds := by
  refine ⟨h.1, ?_⟩
  rcases h.2 with k | ⟨g, cap, cur, rfl, k1, k2, k3⟩
  · exact .inl k
  · exact .inr ⟨g, cap, cur, rfl, k1, (hb g rfl (Array.getElem?_eq_some_iff.1 k2).1).trans k2, k3⟩
theorem OwnW.lt {B : Nat} {w : World} {v : Value} {ds : List Wd} (h : OwnW B w v ds) {g : Nat} (hg : v.ownBlock = some g) : B ≤ g ∧ g < w.heap.size ∧ ∃ cur, w.heap[g]? = some (.cells cur 56 (0, 0)) := by
  rcases h.2 with ⟨rfl, _⟩ | ⟨g', cap, cur, rfl, k1, k2, k3⟩
  · cases hg
  · have : g' = g := by simpa [Value.ownBlock] using hg
    subst this
    exact ⟨k1, (Array.getElem?_eq_some_iff.1 k2).1, cur, k2⟩
theorem OwnW.px {B P : Nat} {w w' : World} {v : Value} {ds : List Wd} (h : OwnW B w v ds) (hP : P < B) (q : Px P w w') : OwnW B w' v ds := h.go fun g hg hl => q.block g hl (by have := (h.lt hg).1; omega)
section
variable {P : Nat} {a : Option Addr} {cap : Nat} {ts : List Lx.Tok} {len : Nat} {w : World} {v : Value} {ds : List Wd} {b4 j k : Nat} {wr w' : World}
end
end Go.Proofs.YtlgdjbabbfdngaaDoor
set_option linter.unusedVariables false
set_option linter.unusedSimpArgs false
namespace Go.Proofs.YtlgdjbabbfdngaaDoor.Dg
theorem pow_succ (k : Nat) : (65536 : Int) ^ (k + 1) = 65536 * 65536 ^ k := by rw [Int.pow_succ, Int.mul_comm]
end Go.Proofs.YtlgdjbabbfdngaaDoor.Dg
set_option linter.unusedVariables false
set_option linter.unusedSimpArgs false
namespace Go.Proofs.YtlgdjbabbfdngaaDoor
open Go.RowKit
def cells (ds : List Int) : List Value := ds.map (Value.int .u64)
end Go.Proofs.YtlgdjbabbfdngaaDoor
set_option linter.unusedVariables false
set_option linter.unusedSimpArgs false
namespace Go.Proofs.YtlgdjbabbfdngaaDoor
namespace Lx
def Tok.mv (d : Nat) (t : Tok) : Tok := ⟨t.k, t.n, t.p + d, t.x⟩
def plain (c : UInt8) : Prop := ws c = false ∧ c ≠ 59 ∧ c ≠ 40
end Lx
end Go.Proofs.YtlgdjbabbfdngaaDoor
set_option linter.unusedVariables false
set_option linter.unusedSimpArgs false
namespace Go.Proofs.YtlgdjbabbfdngaaDoor
def un : Nat → Int
  | 0 => 100000 | 1 => 10000 | 2 => 1000 | 3 => 100 | 4 => 10 | 5 => 1 | _ => 0
def um : Nat → Int
  | 0 => 1000000 | 1 => 100000 | 2 => 10000 | 3 => 1000 | 4 => 100 | 5 => 10 | _ => 1
theorem k6 {k : Nat} (h : k ≤ 6) : k = 0 ∨ k = 1 ∨ k = 2 ∨ k = 3 ∨ k = 4 ∨ k = 5 ∨ k = 6 := by omega
def dn (f : Int) (k : Nat) : Int := f % um k / un k
def dg (f : Int) (k : Nat) : UInt8 := UInt8.ofNat (48 + dn f k).toNat
def dgs (f : Int) (k : Nat) : List UInt8 := (List.range k).map (dg f)
theorem dgs_length (f : Int) (k : Nat) : (dgs f k).length = k := by unfold dgs; simp
def kf (f : Int) : Nat := if f % 100000 = 0 then 1 else if f % 10000 = 0 then 2 else if f % 1000 = 0 then 3 else if f % 100 = 0 then 4 else if f % 10 = 0 then 5 else 6
theorem kf_range (f : Int) : 1 ≤ kf f ∧ kf f ≤ 6 := by unfold kf; (repeat' split) <;> omega
def frac (f : Int) : List UInt8 := if f = 0 then [] else 46 :: dgs f (kf f)
def fmtp (n : Int) : List UInt8 := Lib.decDigits (n / 1000000).toNat ++ frac (n % 1000000)
theorem dec_small {u : Nat} (h : u < 10) : Lib.decDigits u = [UInt8.ofNat (48 + u)] := by rw [Lib.decDigits, dif_pos h]
theorem dec_big {u : Nat} (h : ¬ u < 10) : Lib.decDigits u = Lib.decDigits (u / 10) ++ [UInt8.ofNat (48 + u % 10)] := by rw [Lib.decDigits, dif_neg h]
theorem dec_len (k u : Nat) (h : u < 10 ^ (k + 1)) : (Lib.decDigits u).length ≤ k + 1 := by
  induction k generalizing u with
  | zero => rw [dec_small (by simpa using h)]; simp
  | succ k ih =>
    by_cases c : u < 10
    · rw [dec_small c]; simp
    · rw [dec_big c, List.length_append]
      have := ih (u / 10) (by rw [Nat.pow_succ] at h; omega)
      simp; omega
end Go.Proofs.YtlgdjbabbfdngaaDoor
set_option linter.unusedVariables false
set_option linter.unusedSimpArgs false
namespace Go.Proofs.YtlgdjbabbfdngaaDoor
open Go.RowKit
theorem grown_drawn (w : World) (n : Nat) (row : Option Nat) : w.grownBy (w.drewN n) row := ⟨rfl, rfl, rfl, Nat.le_refl _, fun _ _ _ => rfl⟩
theorem grown_set (w : World) (b i : Nat) (u : Value) : w.grownBy (w.setCell ⟨b, i, none⟩ u) (some b) :=
  ⟨rfl, rfl, rfl, by simp [World.setCell], fun k hk hne => Below.heap_setCell w ⟨b, i, none⟩ u k (fun e => hne (by rw [e]))⟩
theorem Bx.grown {w w' : World} {b B : Nat} {cs : Array Value} {t : TypeId} (h : Bx w b cs t) (q : w.grownBy w' (some B)) (hb : b ≠ B) : Bx w' b cs t := (q.block b h.lt (by simpa using hb)).trans h
theorem IntsB.grown {B C : Nat} {w w' : World} {v : Value} {zs : List Int} (h : IntsB B w v zs) (q : w.grownBy w' (some C)) (hC : B ≤ C) (hw : B ≤ w.heap.size) : IntsB B w' v zs :=
  h.kept (C := B) ⟨q.os, q.tape, q.output, q.size, fun k hk => q.block k (by omega) (by simp; omega)⟩ (Nat.le_refl _)
set_option maxRecDepth 100000 in
set_option maxHeartbeats 1000000 in
theorem nextG (B : Nat) (v : Value) (zs : List Int) (k : Nat) (n : Int) (n1 : 1 ≤ n) (n2 : n ≤ 9223372036854775807) (w : World) (h : TapeAt w B v zs k) :
    Calls Tryd.prog 29 #[.pointer (some ⟨B, 0, none⟩), .int .i64 n] w fun e w' => e = .returned (.int .i64 (nxt zs k n)) ∧ TapeAt w' B v zs (adv zs k) ∧ w.grownBy w' (some B) := by
  have hB := lt_of_block h.1
  obtain ⟨h1, h2, h3⟩ := h
  obtain ⟨a, cap, rfl, l1, l2, h4⟩ := h2
  obtain ⟨c0, c1, f1⟩ := cells_of_two h1
  unfold nxt adv
  by_cases hk : k < zs.length
  · rw [if_pos hk, if_pos hk]
    rcases h4 with rfl | ⟨b, off, rfl, hb, hz⟩
    · simp at hk
    · obtain ⟨z0, z1, z2⟩ := hz k hk
      have hlt := lt_of_block h1
      have hk' : (k : Int) < zs.length := by omega
      have HZ := Lib.hid hz
      have H1 := Lib.hid h1
      have md := fun w => modW (zs.getD k 0) n z1 z2 n1 n2 w
      obtain ⟨z, ez⟩ : ∃ z, zs.getD k 0 = z := ⟨_, rfl⟩
      rw [ez] at z0 z1 z2 md
      rw [ez]
      have MD := Lib.hid md
      have bB : b ≠ B := by omega
      clear hz ez md h1
      go_enter Tryd.func29, Tryd.ntmps29
      go_wp2
      go_quiet (fail)
      go_wp2
      obtain ⟨w1, hw1⟩ : ∃ w1, w1 = (w.drewN nq).setCell { block := B, off := 1 } (Value.int IntKind.i64 (↑k + 1)) := ⟨_, rfl⟩
      rw [← hw1]
      have g1 : w1.heap[B]? = some (.cells #[.slice (some ⟨b, off, none⟩) zs.length cap, .int .i64 ((k + 1 : Nat) : Int)] 60 (0, 0)) := by
        rw [hw1]
        exact two_setCell (w := w.drewN nq) H1.out
      have q1 : w.grownBy w1 (some B) := by
        rw [hw1]
        exact (grown_drawn w nq (some B)).trans (grown_set (w.drewN nq) B 1 _)
      have p1 : w1.cell? ⟨b, off + k, none⟩ = w.cell? ⟨b, off + k, none⟩ := World.cell?_of_block (a := ⟨b, off + k, none⟩) (q1.block b (by omega) (by simp; omega))
      obtain ⟨d0, d1, _⟩ := cells_of_two g1
      have d2 : w1.cell? ⟨b, off + k, none⟩ = some (.int .i64 z) := p1.trans z0
      rw [Int.natCast_add] at d1
      have T1 : Hid (TapeAt w1 B (.slice (some ⟨b, off, none⟩) zs.length cap) zs (k + 1)) := Lib.hid ⟨g1, IntsB.grown ⟨some ⟨b, off, none⟩, cap, rfl, l1, l2, .inr ⟨b, off, rfl, hb, HZ.out⟩⟩ q1 (Nat.le_refl _) (by omega), by omega⟩
      have e1 : IntKind.i64.wrap ((k : Int) + 1 - 1) = k := (IntWalk.i64_in ((k : Int) + 1 - 1) (by omega)).trans (by omega)
      clear g1 hw1 c0 c1 f1 z0 p1
      go_quiet ((go_at_call 16; exact Calls.quiet_of_same ((MD.out _).mono fun _ _ ⟨h1, h2⟩ => ⟨h1, h2.symm⟩)))
      go_wp2
      go_ret
      exact ⟨rfl, T1.out.kept (Qw.drewN w1 _), q1.trans (grown_drawn w1 _ _)⟩
  · rw [if_neg hk, if_neg hk]
    have hk' : (zs.length : Int) ≤ k := by omega
    have H1 := Lib.hid (show TapeAt w B (.slice a zs.length cap) zs k from ⟨h1, ⟨a, cap, rfl, l1, l2, h4⟩, h3⟩)
    clear h1 h4 hk
    go_enter Tryd.func29, Tryd.ntmps29
    go_wp2
    go_quiet (fail)
    go_wp2
    go_ret
    exact ⟨rfl, H1.out.kept (Qw.drewN w nq), grown_drawn w _ _⟩
end Go.Proofs.YtlgdjbabbfdngaaDoor
set_option linter.unusedVariables false
set_option linter.unusedSimpArgs false
namespace Go.Proofs.YtlgdjbabbfdngaaDoor
namespace Sy
open Lx
def bpc : Ex → List UInt8 × List UInt8
  | .mk op n [] => (fmtp n, fmtp n)
  | .mk op n [x] =>
    if op = 1 then
      let c := 35 :: (if x.op = 0 ∨ x.op = 1 then (bpc x).2 else 91 :: (bpc x).1 ++ [93])
      (c, c)
    else if op = 2 then
      let p := 45 :: (bpc x).2
      (p, 91 :: p ++ [93])
    else
      let c := onm op.toNat ++ 91 :: (bpc x).1 ++ [93]
      (c, c)
  | .mk op n (x :: y :: _) =>
    if op = 11 then
      let c := onm 11 ++ 91 :: (bpc x).1 ++ 93 :: 47 :: 91 :: (bpc y).1 ++ [93]
      (c, c)
    else
      let p := (bpc x).2 ++ 32 :: onm op.toNat ++ 32 :: (bpc y).2
      (p, 91 :: p ++ [93])
def bpr (x : Ex) : List UInt8 := (bpc x).1
def bcl (x : Ex) : List UInt8 := (bpc x).2
def binb (x : Ex) : List UInt8 := 91 :: bpr x ++ [93]
def bce (x : Ex) : List UInt8 := if smp x = true then bcl x else binb x
end Sy
end Go.Proofs.YtlgdjbabbfdngaaDoor
set_option linter.unusedVariables false
set_option linter.unusedSimpArgs false
namespace Go.Proofs.YtlgdjbabbfdngaaDoor
namespace Sy
open Lx
def bva (x : Ex) : List UInt8 := if smp x = true then bcl x else match x with
  | .mk 2 _ [k] => if smp k = true then 45 :: bcl k else binb x
  | _ => binb x
def decs (n : Int) : List UInt8 := Lib.decDigits n.toNat
def ctl (b : Bl) : List UInt8 :=
  if b.kind = 1 then (35 :: bce b.left) ++ ([32] ++ ([61] ++ ([32] ++ bpr b.x)))
  else if b.kind = 2 then cGOTO ++ ([32] ++ bva b.x)
  else if b.kind = 3 then cIF ++ ([32] ++ (binb b.x ++ ([32] ++ (cGOTO ++ ([32] ++ bva b.left)))))
  else if b.kind = 4 then cWHILE ++ ([32] ++ (binb b.x ++ ([32] ++ (cDO ++ ([32] ++ decs b.n)))))
  else if b.kind = 5 then cEND ++ ([32] ++ decs b.n)
  else 79 :: decs b.n
def joinb : List (List UInt8) → List UInt8
  | [] => []
  | p :: ps => if ps = [] then p else p ++ ([32] ++ joinb ps)
def wdb (w : Int × Ex) : List UInt8 := UInt8.ofNat w.1.toNat :: bva w.2
def partsb (b : Bl) : List (List UInt8) :=
  (if b.skip = true then [[47]] else []) ++ ((if b.label = 0 then [] else [78 :: decs b.label]) ++ (b.words.map wdb ++ if b.kind = 0 then [] else [ctl b]))
def fmb (b : Bl) : List UInt8 := joinb (partsb b)
end Sy
end Go.Proofs.YtlgdjbabbfdngaaDoor
set_option linter.unusedVariables false
set_option linter.unusedSimpArgs false
namespace Go.Proofs.YtlgdjbabbfdngaaDoor
namespace Sy
open Lx
theorem fmtp_16 {m : Int} (h0 : 0 ≤ m) (h1 : m < 1000000000000000) : (fmtp m).length ≤ 16 := by
  have a := dec_len 8 (m / 1000000).toNat (by omega)
  have b : (frac (m % 1000000)).length ≤ 7 := by
    unfold frac
    split
    · simp
    · have := (kf_range (m % 1000000)).2
      rw [List.length_cons, dgs_length]; omega
  unfold fmtp
  rw [List.length_append]; omega
theorem onm_len : ∀ o, o < 26 → (onm o).length ≤ 5 := by decide
def Ln (x : Ex) : Prop := (bpr x).length + 12 ≤ 30 * 2 ^ dpt x ∧ (bcl x).length + 12 ≤ 30 * 2 ^ dpt x
theorem two_le {a b : Nat} (h : a ≤ b) : 2 ^ a ≤ 2 ^ b := Nat.pow_le_pow_right (by decide) h
end Sy
end Go.Proofs.YtlgdjbabbfdngaaDoor
set_option linter.unusedVariables false
set_option linter.unusedSimpArgs false
namespace Go.Proofs.YtlgdjbabbfdngaaDoor
namespace Sy
open Lx
def sz : Ex → Nat
  | .mk op n ks => 1 + (ks.attach.map (fun ⟨k, h⟩ => sz k)).sum
theorem sz_mk (op n : Int) (ks : List Ex) : sz (.mk op n ks) = 1 + (ks.map sz).sum := by
  rw [sz]; simp
theorem sz_num (n : Int) : sz (num n) = 1 := by rw [num, sz_mk]; rfl
theorem sz_un (o : Int) (x : Ex) : sz (un o x) = 1 + sz x := by rw [un, sz_mk]; simp
theorem sz_bin (o : Int) (x y : Ex) : sz (bin o x y) = 1 + sz x + sz y := by rw [bin, sz_mk]; simp; omega
def Lz (x : Ex) : Prop := (bpr x).length + 2 ≤ 20 * sz x ∧ (bcl x).length + 2 ≤ 20 * sz x
theorem blz (x : Ex) : okx x = true → Lz x := by
  induction x using Ex.ind with
  | h op n ks ih =>
    intro hok
    have hF := form hok
    cases hF with
    | num n h0 h1 =>
      have e1 : bpr (.mk 0 n []) = fmtp n := by simp [bpr, bpc]
      have e2 : bcl (.mk 0 n []) = fmtp n := by simp [bcl, bpc]
      have l := fmtp_16 h0 h1
      have d : sz (.mk 0 n []) = 1 := sz_num n
      unfold Lz; rw [e1, e2]; omega
    | un o x hx ho =>
      have ihx := ih x (by simp) hx
      have hT : ((o : Int)).toNat = o := by omega
      have d : sz (.mk (o : Int) 0 [x]) = 1 + sz x := sz_un _ x
      unfold Lz at ihx ⊢
      rw [d]
      by_cases o1 : o = 1
      · subst o1
        have e1 : bpr (.mk ((1 : Nat) : Int) 0 [x]) = 35 :: bce x := by
          simp only [bpr, bpc, bce, smp, binb, bcl]; simp [bpr]
        have e2 : bcl (.mk ((1 : Nat) : Int) 0 [x]) = 35 :: bce x := by
          simp only [bcl, bpc, bce, smp, binb]; simp [bpr]
        have l : (bce x).length ≤ max (bcl x).length ((bpr x).length + 2) := by
          unfold bce binb; split
          · omega
          · simp; omega
        rw [e1, e2, List.length_cons]; omega
      · by_cases o2 : o = 2
        · subst o2
          have e1 : bpr (.mk ((2 : Nat) : Int) 0 [x]) = 45 :: bcl x := by simp [bpr, bcl, bpc]
          have e2 : bcl (.mk ((2 : Nat) : Int) 0 [x]) = 91 :: (45 :: bcl x) ++ [93] := by simp [bcl, bpc]
          rw [e1, e2]; simp only [List.length_cons, List.length_append, List.length_nil]; omega
        · have e1 : bpr (.mk (o : Int) 0 [x]) = onm o ++ binb x := by
            unfold bpr; rw [bpc, if_neg (by omega), if_neg (by omega), hT]; simp [binb, bpr]
          have e2 : bcl (.mk (o : Int) 0 [x]) = onm o ++ binb x := by
            unfold bcl; rw [bpc, if_neg (by omega), if_neg (by omega), hT]; simp [binb, bpr]
          have lo := onm_len o (by omega)
          rw [e1, e2]; unfold binb; simp only [List.length_cons, List.length_append, List.length_nil]; omega
    | bin o x y hx hy ho =>
      have ihx := ih x (by simp) hx
      have ihy := ih y (by simp) hy
      have hT : ((o : Int)).toNat = o := by omega
      have lo := onm_len o (by omega)
      have d : sz (.mk (o : Int) 0 [x, y]) = 1 + sz x + sz y := sz_bin _ x y
      unfold Lz at ihx ihy ⊢
      rw [d]
      by_cases o11 : o = 11
      · subst o11
        have e1 : bpr (.mk ((11 : Nat) : Int) 0 [x, y]) = onm 11 ++ (binb x ++ ([47] ++ binb y)) := by
          unfold bpr; rw [bpc, if_pos (show ((11 : Nat) : Int) = 11 from rfl)]; simp [binb, bpr]
        have e2 : bcl (.mk ((11 : Nat) : Int) 0 [x, y]) = onm 11 ++ (binb x ++ ([47] ++ binb y)) := by
          unfold bcl; rw [bpc, if_pos (show ((11 : Nat) : Int) = 11 from rfl)]; simp [binb, bpr]
        have l4 : (onm 11).length = 4 := by decide
        rw [e1, e2]; unfold binb; simp only [List.length_cons, List.length_append, List.length_nil]; omega
      · have e1 : bpr (.mk (o : Int) 0 [x, y]) = bcl x ++ ((32 :: onm o ++ [32]) ++ bcl y) := by
          unfold bpr; rw [bpc, if_neg (by omega), hT]; simp [bcl]
        have e2 : bcl (.mk (o : Int) 0 [x, y]) = 91 :: (bcl x ++ ((32 :: onm o ++ [32]) ++ bcl y)) ++ [93] := by
          unfold bcl; rw [bpc, if_neg (by omega), hT]; simp [bcl]
        rw [e1, e2]; simp only [List.length_cons, List.length_append, List.length_nil]; omega
def SzR (i : Nat) (r : Rs Ex) : Prop := match r with
  | .ok x j => i + sz x ≤ j
  | .bad _ => True
theorem SzR.shut {ts : List Lx.Tok} {i : Nat} {r : Rs Ex} (h : SzR i r) : SzR i (shut ts r) := by
  cases r with
  | bad j => trivial
  | ok x j =>
    unfold Sy.shut; simp only
    by_cases e : tx ts j = [93]
    · rw [if_pos e]; unfold SzR at *; simp only at *; omega
    · rw [if_neg e]; trivial
theorem SzR.wrapU {i : Nat} {o : Int} {r : Rs Ex} (h : SzR (i + 1) r) : SzR i (wrapU o r) := by
  cases r with
  | bad j => trivial
  | ok x j => unfold SzR at *; simp only [Sy.wrapU, sz_un] at *; omega
theorem SzR.wrapB {i k : Nat} {o : Int} {x : Ex} {r : Rs Ex} (hx : i + 1 + sz x ≤ k) (h : SzR k r) : SzR i (wrapB o x r) := by
  cases r with
  | bad j => trivial
  | ok y j => unfold SzR at *; simp only [Sy.wrapB, sz_bin] at *; omega
theorem SzR.later {i k : Nat} {r : Rs Ex} (h : SzR k r) (g : i ≤ k) : SzR i r := by
  cases r with
  | bad j => trivial
  | ok y j => unfold SzR at *; simp only at *; omega
structure SzAll (ts : List Lx.Tok) (f : Nat) : Prop where
  e : ∀ l i, SzR i (pE ts f l i)
  l : ∀ l x i y j, pL ts f l x i = .ok y j → sz y + i ≤ sz x + j
  p : ∀ i, SzR i (pP ts f i)
  c : ∀ i, SzR i (pC ts f i)
  b : ∀ i, SzR i (pB ts f i)
theorem szr (ts : List Lx.Tok) : ∀ f, SzAll ts f
  | 0 => ⟨fun l i => by unfold pE; trivial, fun l x i y j e => by unfold pL at e; (cases e), fun i => by unfold pP; trivial, fun i => by unfold pC; trivial, fun i => by unfold pB; trivial⟩
  | f + 1 => by
    have ih := szr ts f
    refine ⟨fun l i => ?_, fun l x i y j e => ?_, fun i => ?_, fun i => ?_, fun i => ?_⟩
    · unfold pE
      split
      · split
        · exact SzR.wrapU (ih.e 5 (i + 1))
        · split
          · exact (ih.e 5 (i + 1)).later (by omega)
          · exact ih.p i
      · have g := ih.e (l + 1) i
        cases e : pE ts f (l + 1) i with
        | bad j => trivial
        | ok x j =>
          rw [e] at g
          unfold SzR at g
          simp only at g ⊢
          cases e2 : pL ts f l x j with
          | bad k => trivial
          | ok y k =>
            have k2 := ih.l l x j y k e2
            unfold SzR; simp only; omega
    · unfold pL at e
      cases e0 : lop l (tx ts i) with
      | none => rw [e0] at e; cases e; exact Nat.le_refl _
      | some o =>
        rw [e0] at e
        simp only at e
        have g := ih.e (l + 1) (i + 1)
        cases e1 : pE ts f (l + 1) (i + 1) with
        | bad k => rw [e1] at e; cases e
        | ok z k =>
          rw [e1] at e g
          unfold SzR at g
          simp only at e g
          by_cases h2 : l = 2
          · rw [if_pos h2] at e; cases e; rw [sz_bin]; omega
          · rw [if_neg h2] at e
            have k2 := ih.l l _ _ _ _ e
            rw [sz_bin] at k2; omega
    · unfold pP
      split
      · have g := ih.b (i + 1)
        cases e1 : pB ts f (i + 1) with
        | bad j => trivial
        | ok x j =>
          rw [e1] at g
          unfold SzR at g
          simp only at g ⊢
          by_cases e2 : tx ts j = [47]
          · rw [if_pos e2]
            exact SzR.wrapB (k := j) (by omega) ((ih.b (j + 1)).later (by omega))
          · rw [if_neg e2]; trivial
      · cases e1 : fun1 (tx ts i) with
        | none => exact ih.c i
        | some o => exact SzR.wrapU (ih.b (i + 1))
    · unfold pC
      split
      · unfold SzR; simp only [sz_num]; omega
      · split
        · exact SzR.wrapU (ih.c (i + 1))
        · exact ih.b i
    · unfold pB
      split
      · exact SzR.shut ((ih.e 0 (i + 1)).later (by omega))
      · trivial
theorem joinb_len : ∀ ps : List (List UInt8), (joinb ps).length ≤ (ps.map (fun p => p.length + 1)).sum
  | [] => Nat.zero_le _
  | p :: ps => by
    have := joinb_len ps
    rw [joinb]
    split
    · simp only [List.map_cons, List.sum_cons]; omega
    · simp only [List.length_append, List.length_cons, List.length_nil, List.map_cons, List.sum_cons]; omega
theorem decs_len {n : Int} {m : Nat} (h : cnt n m = true) (hm : m ≤ 99999) : (decs n).length ≤ 5 := by
  simp [cnt] at h
  exact dec_len 4 n.toNat (by omega)
theorem bce_len {x : Ex} (h : okx x = true) : (bce x).length ≤ 20 * sz x := by
  have := blz x h
  unfold Lz at this
  unfold bce binb; split
  · omega
  · simp; omega
theorem bva_len {x : Ex} (h : okx x = true) : (bva x).length ≤ 20 * sz x := by
  have l := blz x h
  obtain ⟨op, n, ks⟩ := x
  unfold Lz at l
  have lb : (binb (.mk op n ks)).length = (bpr (.mk op n ks)).length + 2 := by unfold binb; simp
  unfold bva
  by_cases hs : smp (.mk op n ks) = true
  · rw [if_pos hs]; omega
  · rw [if_neg hs]
    split
    · rename_i o k' heq
      cases heq
      by_cases h2 : smp k' = true
      · rw [if_pos h2]
        have hk : okx k' = true := by rw [okx_mk] at h; simp at h; exact h.2
        have := blz k' hk
        unfold Lz at this
        rw [sz_mk]; simp; omega
      · rw [if_neg h2]; omega
    · omega
def bodb (b : Bl) : Nat := (b.words.map (fun w => (wdb w).length + 1)).sum + (if b.kind = 0 then 0 else (ctl b).length + 1)
theorem fmb_len {b : Bl} (h : okb b = true) : (fmb b).length ≤ bodb b + 9 := by
  have hl : ((if b.label = 0 then [] else [78 :: decs b.label] : List (List UInt8)).map (fun p => p.length + 1)).sum ≤ 7 := by
    simp only [okb, Bool.and_eq_true, Bool.or_eq_true, decide_eq_true_eq] at h
    split
    · simp
    · rcases h.1 with g | g
      · omega
      · have := decs_len g (by decide)
        simp; omega
  have := joinb_len (partsb b)
  unfold fmb bodb
  refine Nat.le_trans this ?_
  unfold partsb
  simp only [List.map_append, List.sum_append, List.map_map]
  have hs : ((if b.skip = true then [[47]] else [] : List (List UInt8)).map (fun p => p.length + 1)).sum ≤ 2 := by split <;> simp
  have hc : ((if b.kind = 0 then [] else [ctl b] : List (List UInt8)).map (fun p => p.length + 1)).sum = (if b.kind = 0 then 0 else (ctl b).length + 1) := by split <;> simp
  rw [hc]
  have hw : ((fun p : List UInt8 => p.length + 1) ∘ wdb) = (fun w => (wdb w).length + 1) := rfl
  rw [hw]
  omega
end Sy
end Go.Proofs.YtlgdjbabbfdngaaDoor
set_option linter.unusedVariables false
set_option linter.unusedSimpArgs false
namespace Go.Proofs.YtlgdjbabbfdngaaDoor
open Go.RowKit
section
variable {w wr w' : World} {cs : Array Value} {v : Value} {ps : List (List UInt8)}
end
theorem Bx.c11 {w : World} {b : Nat} {v0 v1 v2 v3 v4 v5 v6 v7 v8 v9 v10 : Value} {t : TypeId} (X : Bx w b #[v0, v1, v2, v3, v4, v5, v6, v7, v8, v9, v10] t) : w.cell? ⟨b, 0, none⟩ = some v0 ∧ w.cell? ⟨b, 1, none⟩ = some v1 ∧ w.cell? ⟨b, 2, none⟩ = some v2 ∧ w.cell? ⟨b, 3, none⟩ = some v3 ∧ w.cell? ⟨b, 4, none⟩ = some v4 ∧ w.cell? ⟨b, 5, none⟩ = some v5 ∧ w.cell? ⟨b, 6, none⟩ = some v6 ∧ w.cell? ⟨b, 7, none⟩ = some v7 ∧ w.cell? ⟨b, 8, none⟩ = some v8 ∧ w.cell? ⟨b, 9, none⟩ = some v9 ∧ w.cell? ⟨b, 10, none⟩ = some v10 :=
  ⟨X.cell 0, X.cell 1, X.cell 2, X.cell 3, X.cell 4, X.cell 5, X.cell 6, X.cell 7, X.cell 8, X.cell 9, X.cell 10⟩
end Go.Proofs.YtlgdjbabbfdngaaDoor
set_option linter.unusedVariables false
set_option linter.unusedSimpArgs false
namespace Go.Proofs.YtlgdjbabbfdngaaDoor
open Go.RowKit
theorem sum_le_len {l : List Nat} {m : Nat} (h : ∀ x ∈ l, x ≤ m) : l.sum ≤ l.length * m := by
  induction l with
  | nil => simp
  | cons a l ih =>
    have h1 := h a (by simp)
    have h2 := ih (fun x hx => h x (by simp [hx]))
    simp only [List.sum_cons, List.length_cons, Nat.add_mul]; omega
theorem Sy.vld_word {b : Sy.Bl} (h : Sy.vldb b = true) : b.words.length ≤ 24 ∧ ∀ i (hi : i < b.words.length), Sy.isw b.words[i].1 = true ∧ Sy.okx b.words[i].2 = true ∧ Sy.dpt b.words[i].2 ≤ 16 := by
  simp only [Sy.vldb, Sy.okb, Sy.limb, Bool.and_eq_true] at h
  obtain ⟨⟨_, h⟩, ⟨⟨⟨h1, h2⟩, _⟩, _⟩⟩ := h
  refine ⟨of_decide_eq_true h1, fun i hi => ?_⟩
  have hm := List.getElem_mem hi
  have d := of_decide_eq_true ((List.all_eq_true.1 h2) _ hm)
  by_cases k : b.kind = 0
  · rw [if_pos k] at h
    simp only [Bool.and_eq_true] at h
    have := (List.all_eq_true.1 h.1.1.1) _ hm
    simp only [Bool.and_eq_true] at this
    exact ⟨this.1, this.2, d⟩
  · rw [if_neg k] at h
    simp only [Bool.and_eq_true] at h
    have := of_decide_eq_true h.1
    rw [this] at hi; simp at hi
end Go.Proofs.YtlgdjbabbfdngaaDoor
set_option linter.unusedVariables false
set_option linter.unusedSimpArgs false
namespace Go.Proofs.YtlgdjbabbfdngaaDoor
open Go.RowKit
namespace Sy
open Lx
theorem sz_le (x : Ex) : okx x = true → sz x + 1 ≤ 2 ^ dpt x := by
  induction x using Ex.ind with
  | h op n ks ih =>
    intro hok
    have hF := form hok
    cases hF with
    | num n h0 h1 =>
      have d : 2 ≤ 2 ^ dpt (.mk 0 n []) := two_le (a := 1) (by rw [dpt_mk]; omega)
      rw [sz_mk]; simp; omega
    | un o x hx ho =>
      have ihx := ih x (by simp) hx
      have d : dpt (.mk (o : Int) 0 [x]) = dpt x + 1 := by rw [dpt_mk]; simp [dmx]; omega
      rw [sz_mk, d, Nat.pow_succ]; simp; omega
    | bin o x y hx hy ho =>
      have ihx := ih x (by simp) hx
      have ihy := ih y (by simp) hy
      have d : dpt (.mk (o : Int) 0 [x, y]) = max (dpt x) (dpt y) + 1 := by rw [dpt_mk]; simp [dmx]; omega
      have a : 2 ^ dpt x ≤ 2 ^ max (dpt x) (dpt y) := two_le (by omega)
      have b : 2 ^ dpt y ≤ 2 ^ max (dpt x) (dpt y) := two_le (by omega)
      rw [sz_mk, d, Nat.pow_succ]; simp; omega
structure Dwn (b : Bl) : Prop where
  v : vldb b = true
  dl : dpt b.left ≤ 4
  dx : dpt b.x ≤ 4
  wl : b.words.length ≤ 3
  dw : ∀ w ∈ b.words, dpt w.2 ≤ 2
  k2 : b.kind = 2 → b.x.op = 0
  k3 : b.kind = 3 → b.left.op = 0
theorem lab_ok {lab : Int} (h : 0 ≤ lab ∧ lab ≤ 6) : (decide (lab = 0) || cnt lab 99999) = true := by
  simp [cnt]; omega
theorem dep_le {x : Ex} {d : Nat} (h : dpt x ≤ d) (hd : d ≤ 16) : depB x = true := decide_eq_true (by omega)
theorem dep_zx : depB zx = true := dpt_zx
theorem dwn1 {lab : Int} {sk : Bool} {m : Int} {x : Ex} (h : 0 ≤ lab ∧ lab ≤ 6) (m0 : 0 ≤ m) (m1 : m < 1000000000000000) (hx : okx x = true) (d : dpt x ≤ 4) : Dwn ⟨1, lab, sk, [], num m, x, 0⟩ where
  v := by
    have l1 := lab_ok h; have o1 := okx_num' m0 m1; have d1 := dep_le d (by decide); have d2 : depB (num m) = true := dep_le (d := 1) (by rw [dpt_num]; exact Nat.le_refl _) (by decide)
    simp only [vldb, okb, limb, l1, o1, hx, d1, d2]; simp
  dl := by rw [dpt_num]; decide
  dx := d
  wl := Nat.zero_le _
  dw := fun w hw => by simp at hw
  k2 := fun h => by simp at h
  k3 := fun h => by simp at h
theorem dwn2 {lab : Int} {sk : Bool} {m : Int} (h : 0 ≤ lab ∧ lab ≤ 6) (m0 : 0 ≤ m) (m1 : m < 1000000000000000) : Dwn ⟨2, lab, sk, [], zx, num m, 0⟩ where
  v := by
    have l1 := lab_ok h; have o1 := okx_num' m0 m1; have d2 : depB (num m) = true := dep_le (d := 1) (by rw [dpt_num]; exact Nat.le_refl _) (by decide)
    simp only [vldb, okb, limb, l1, o1, noneB_zx, dep_zx, d2]; simp
  dl := by rw [dpt_zx']; decide
  dx := by rw [dpt_num]; decide
  wl := Nat.zero_le _
  dw := fun w hw => by simp at hw
  k2 := fun _ => rfl
  k3 := fun h => by simp at h
theorem dwn3 {lab : Int} {sk : Bool} {m : Int} {x : Ex} (h : 0 ≤ lab ∧ lab ≤ 6) (m0 : 0 ≤ m) (m1 : m < 1000000000000000) (hx : okx x = true) (d : dpt x ≤ 4) : Dwn ⟨3, lab, sk, [], num m, x, 0⟩ where
  v := by
    have l1 := lab_ok h; have o1 := okx_num' m0 m1; have d1 := dep_le d (by decide); have d2 : depB (num m) = true := dep_le (d := 1) (by rw [dpt_num]; exact Nat.le_refl _) (by decide)
    simp only [vldb, okb, limb, l1, o1, hx, d1, d2]; simp
  dl := by rw [dpt_num]; decide
  dx := d
  wl := Nat.zero_le _
  dw := fun w hw => by simp at hw
  k2 := fun h => by simp at h
  k3 := fun _ => rfl
theorem dwn4 {lab : Int} {sk : Bool} {n : Int} {x : Ex} (h : 0 ≤ lab ∧ lab ≤ 6) (n0 : 1 ≤ n) (n1 : n ≤ 3) (hx : okx x = true) (d : dpt x ≤ 4) : Dwn ⟨4, lab, sk, [], zx, x, n⟩ where
  v := by
    have l1 := lab_ok h; have d1 := dep_le d (by decide); have c1 : cnt n 3 = true := by simp [cnt]; omega
    simp only [vldb, okb, limb, l1, hx, d1, c1, noneB_zx, dep_zx]; simp
  dl := by rw [dpt_zx']; decide
  dx := d
  wl := Nat.zero_le _
  dw := fun w hw => by simp at hw
  k2 := fun h => by simp at h
  k3 := fun h => by simp at h
theorem dwn5 {lab : Int} {sk : Bool} {n : Int} (h : 0 ≤ lab ∧ lab ≤ 6) (n0 : 1 ≤ n) (n1 : n ≤ 3) : Dwn ⟨5, lab, sk, [], zx, zx, n⟩ where
  v := by
    have l1 := lab_ok h; have c1 : cnt n 3 = true := by simp [cnt]; omega
    simp only [vldb, okb, limb, l1, c1, noneB_zx, dep_zx]; simp
  dl := by rw [dpt_zx']; decide
  dx := by rw [dpt_zx']; decide
  wl := Nat.zero_le _
  dw := fun w hw => by simp at hw
  k2 := fun h => by simp at h
  k3 := fun h => by simp at h
theorem dwn6 {lab : Int} {sk : Bool} {n : Int} (h : 0 ≤ lab ∧ lab ≤ 6) (n0 : 1 ≤ n) (n1 : n ≤ 99999) : Dwn ⟨6, lab, sk, [], zx, zx, n⟩ where
  v := by
    have l1 := lab_ok h; have c1 : cnt n 99999 = true := by simp [cnt]; omega
    simp only [vldb, okb, limb, l1, c1, noneB_zx, dep_zx]; simp
  dl := by rw [dpt_zx']; decide
  dx := by rw [dpt_zx']; decide
  wl := Nat.zero_le _
  dw := fun w hw => by simp at hw
  k2 := fun h => by simp at h
  k3 := fun h => by simp at h
theorem dwn0 {lab : Int} {sk : Bool} {ws : List (Int × Ex)} (h : 0 ≤ lab ∧ lab ≤ 6) (hl : ws.length ≤ 3) (hw : ∀ w ∈ ws, isw w.1 = true ∧ okx w.2 = true ∧ dpt w.2 ≤ 2) : Dwn ⟨0, lab, sk, ws, zx, zx, 0⟩ where
  v := by
    have l1 := lab_ok h
    have w1 : ws.all (fun w => isw w.1 && okx w.2) = true := List.all_eq_true.2 fun w k => by simp [(hw w k).1, (hw w k).2.1]
    have w2 : ws.all (fun w => depB w.2) = true := List.all_eq_true.2 fun w k => dep_le (hw w k).2.2 (by decide)
    have w3 : decide (ws.length ≤ 24) = true := decide_eq_true (by omega)
    simp only [vldb, okb, limb, l1, w1, w2, w3, noneB_zx, dep_zx]; simp
  dl := by rw [dpt_zx']; decide
  dx := by rw [dpt_zx']; decide
  wl := hl
  dw := fun w k => (hw w k).2.2
  k2 := fun h => by simp at h
  k3 := fun h => by simp at h
theorem len4 {x : Ex} (h : okx x = true) (d : dpt x ≤ 4) : (bpr x).length ≤ 300 ∧ (bva x).length ≤ 300 ∧ (bce x).length ≤ 300 := by
  have s := sz_le x h
  have t : 2 ^ dpt x ≤ 16 := two_le (b := 4) d
  have l := blz x h
  have l2 := bva_len h
  have l3 := bce_len h
  unfold Lz at l
  omega
theorem Dwn.len {b : Bl} (h : Dwn b) : (fmb b).length ≤ 3000 := by
  obtain ⟨kind, label, skip, words, left, x, n⟩ := b
  obtain ⟨hv, dl, dx, wl, dw, _, _⟩ := h
  simp only at dl dx wl dw
  have hok : okb ⟨kind, label, skip, words, left, x, n⟩ = true := by simp only [vldb, Bool.and_eq_true] at hv; exact hv.1
  have k := fmb_len hok
  have hvw : words.length ≤ 24 ∧ ∀ i (hi : i < words.length), isw words[i].1 = true ∧ okx words[i].2 = true ∧ dpt words[i].2 ≤ 16 := Sy.vld_word hv
  have ww : (words.map (fun w => (wdb w).length + 1)).sum ≤ 3 * 302 := by
    have := sum_le_len (l := words.map (fun w => (wdb w).length + 1)) (m := 302) (fun n hn => by
      obtain ⟨w, hw, rfl⟩ := List.mem_map.1 hn
      obtain ⟨i, hi, rfl⟩ := List.getElem_of_mem hw
      have l := (len4 (hvw.2 i hi).2.1 (by have := dw _ hw; omega)).2.1
      have hw' : (wdb words[i]).length = (bva words[i].2).length + 1 := by unfold wdb; rw [List.length_cons]
      omega)
    rw [List.length_map] at this
    exact Nat.le_trans this (Nat.mul_le_mul_right _ wl)
  have cl : kind ≠ 0 → (ctl ⟨kind, label, skip, words, left, x, n⟩).length ≤ 1000 := by
    intro k0
    simp only [okb, Bool.and_eq_true] at hok
    have hk := hok.2
    rw [if_neg k0] at hk
    simp only [Bool.and_eq_true] at hk
    replace hk := hk.2
    have cn3 : ∀ {n : Int}, cnt n 3 = true → (decs n).length ≤ 5 := fun h => decs_len h (by decide)
    unfold ctl
    by_cases k1 : kind = 1
    · simp [k1] at hk ⊢
      have a := len4 hk.1.1 dl; have b := len4 hk.1.2 dx
      omega
    · by_cases k2 : kind = 2
      · simp [k2] at hk ⊢
        have b := len4 hk.1.2 dx
        simp [cGOTO]; omega
      · by_cases k3 : kind = 3
        · simp [k3] at hk ⊢
          have a := len4 hk.1.1 dl; have b := len4 hk.1.2 dx
          simp [cGOTO, cIF, binb]; omega
        · by_cases k4 : kind = 4
          · simp [k4] at hk ⊢
            have b := len4 hk.1.2 dx
            have c := cn3 hk.2
            simp [cWHILE, cDO, binb]; omega
          · by_cases k5 : kind = 5
            · simp [k5] at hk ⊢
              have c := cn3 hk.2
              simp [cEND]; omega
            · by_cases k6 : kind = 6
              · simp [k6] at hk ⊢
                have c := decs_len hk.2 (Nat.le_refl _)
                omega
              · simp [k1, k2, k3, k4, k5, k6] at hk
  unfold bodb at k
  simp only at k
  by_cases k0 : kind = 0
  · rw [if_pos k0] at k; omega
  · rw [if_neg k0] at k; have := cl k0; omega
end Sy
end Go.Proofs.YtlgdjbabbfdngaaDoor

