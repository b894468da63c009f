import Derived.Test.YtciglhecjkeogaaGreatDoorZTX3
import Derived.Test.YtciglhecjkeogaaGreatDoorZTX4
import Derived.Test.YtciglhecjkeogaaGreatDoorZTX5
import Derived.Test.YtciglhecjkeogaaGreatDoorZTX19
import Derived.Test.YtciglhecjkeogaaGreatDoorZTX21
import Derived.Test.YtciglhecjkeogaaGreatDoorZTX24
import Derived.Maps.AppendAt
import Derived.Outline
set_option linter.unusedVariables false
set_option linter.unusedSimpArgs false
namespace Go.Proofs.YtciglhecjkeogaaGreatDoor
open Go.RowKit
theorem grown_drawn (w : World) (n : Nat) (row : Option Nat) : w.grownBy (w.drewN n) row := ⟨rfl, rfl, rfl, Nat.le_refl _, fun _ _ _ => rfl⟩
theorem grown_set (w : World) (b i : Nat) (u : Value) : w.grownBy (w.setCell ⟨b, i, none⟩ u) (some b) :=
  ⟨rfl, rfl, rfl, by simp [World.setCell], fun k hk hne => Below.heap_setCell w ⟨b, i, none⟩ u k (fun e => hne (by rw [e]))⟩
theorem Bx.grown {w w' : World} {b B : Nat} {cs : Array Value} {t : TypeId} (h : Bx w b cs t) (q : w.grownBy w' (some B)) (hb : b ≠ B) : Bx w' b cs t := (q.block b h.lt (by simpa using hb)).trans h
theorem IntsB.grown {B C : Nat} {w w' : World} {v : Value} {zs : List Int} (h : IntsB B w v zs) (q : w.grownBy w' (some C)) (hC : B ≤ C) (hw : B ≤ w.heap.size) : IntsB B w' v zs :=
  h.kept (C := B) ⟨q.os, q.tape, q.output, q.size, fun k hk => q.block k (by omega) (by simp; omega)⟩ (Nat.le_refl _)
set_option maxRecDepth 100000 in
set_option maxHeartbeats 1000000 in
theorem nextG (B : Nat) (v : Value) (zs : List Int) (k : Nat) (n : Int) (n1 : 1 ≤ n) (n2 : n ≤ 9223372036854775807) (w : World) (h : TapeAt w B v zs k) :
    Calls Tryz.prog 19 #[.pointer (some ⟨B, 0, none⟩), .int .i64 n] w fun e w' => e = .returned (.int .i64 (nxt zs k n)) ∧ TapeAt w' B v zs (adv zs k) ∧ w.grownBy w' (some B) := by
  have hB := lt_of_block h.1
  obtain ⟨h1, h2, h3⟩ := h
  obtain ⟨a, cap, rfl, l1, l2, h4⟩ := h2
  obtain ⟨c0, c1, f1⟩ := cells_of_two h1
  unfold nxt adv
  by_cases hk : k < zs.length
  · rw [if_pos hk, if_pos hk]
    rcases h4 with rfl | ⟨b, off, rfl, hb, hz⟩
    · simp at hk
    · obtain ⟨z0, z1, z2⟩ := hz k hk
      have hlt := lt_of_block h1
      have hk' : (k : Int) < zs.length := by omega
      have HZ := Lib.hid hz
      have H1 := Lib.hid h1
      have md := fun w => modW (zs.getD k 0) n z1 z2 n1 n2 w
      obtain ⟨z, ez⟩ : ∃ z, zs.getD k 0 = z := ⟨_, rfl⟩
      rw [ez] at z0 z1 z2 md
      rw [ez]
      have MD := Lib.hid md
      have bB : b ≠ B := by omega
      clear hz ez md h1
      go_enter Tryz.func19, Tryz.ntmps19
      go_wp2
      go_quiet (fail)
      go_wp2
      obtain ⟨w1, hw1⟩ : ∃ w1, w1 = (w.drewN nq).setCell { block := B, off := 1 } (Value.int IntKind.i64 (↑k + 1)) := ⟨_, rfl⟩
      rw [← hw1]
      have g1 : w1.heap[B]? = some (.cells #[.slice (some ⟨b, off, none⟩) zs.length cap, .int .i64 ((k + 1 : Nat) : Int)] 54 (0, 0)) := by
        rw [hw1]
        exact two_setCell (w := w.drewN nq) H1.out
      have q1 : w.grownBy w1 (some B) := by
        rw [hw1]
        exact (grown_drawn w nq (some B)).trans (grown_set (w.drewN nq) B 1 _)
      have p1 : w1.cell? ⟨b, off + k, none⟩ = w.cell? ⟨b, off + k, none⟩ := World.cell?_of_block (a := ⟨b, off + k, none⟩) (q1.block b (by omega) (by simp; omega))
      obtain ⟨d0, d1, _⟩ := cells_of_two g1
      have d2 : w1.cell? ⟨b, off + k, none⟩ = some (.int .i64 z) := p1.trans z0
      rw [Int.natCast_add] at d1
      have T1 : Hid (TapeAt w1 B (.slice (some ⟨b, off, none⟩) zs.length cap) zs (k + 1)) := Lib.hid ⟨g1, IntsB.grown ⟨some ⟨b, off, none⟩, cap, rfl, l1, l2, .inr ⟨b, off, rfl, hb, HZ.out⟩⟩ q1 (Nat.le_refl _) (by omega), by omega⟩
      have e1 : IntKind.i64.wrap ((k : Int) + 1 - 1) = k := (IntWalk.i64_in ((k : Int) + 1 - 1) (by omega)).trans (by omega)
      clear g1 hw1 c0 c1 f1 z0 p1
      go_quiet ((go_at_call 30; exact Calls.quiet_of_same ((MD.out _).mono fun _ _ ⟨h1, h2⟩ => ⟨h1, h2.symm⟩)))
      go_wp2
      go_ret
      exact ⟨rfl, T1.out.kept (Qw.drewN w1 _), q1.trans (grown_drawn w1 _ _)⟩
  · rw [if_neg hk, if_neg hk]
    have hk' : (zs.length : Int) ≤ k := by omega
    have H1 := Lib.hid (show TapeAt w B (.slice a zs.length cap) zs k from ⟨h1, ⟨a, cap, rfl, l1, l2, h4⟩, h3⟩)
    clear h1 h4 hk
    go_enter Tryz.func19, Tryz.ntmps19
    go_wp2
    go_quiet (fail)
    go_wp2
    go_ret
    exact ⟨rfl, H1.out.kept (Qw.drewN w nq), grown_drawn w _ _⟩
end Go.Proofs.YtciglhecjkeogaaGreatDoor
set_option linter.unusedVariables false
set_option linter.unusedSimpArgs false
namespace Go.Proofs.YtciglhecjkeogaaGreatDoor
open Go.RowKit
theorem ToksB.next {w w' : World} {v : Value} {ts : List Lx.Tok} (h : ToksB w.heap.size w v ts) (q : Qw w w') : ToksB w'.heap.size w' v ts := (h.kept q (Nat.le_refl _)).mono q.size
theorem toks_form {B : Nat} {w : World} {v : Value} {ts : List Lx.Tok} (h : ToksB B w v ts) : ∃ a cap, v = .slice a ts.length cap ∧ ts.length ≤ cap ∧ cap ≤ 9223372036854775807 ∧ ToksB B w (.slice a ts.length cap) ts := by
  have k := h
  obtain ⟨a, cap, rfl, l1, l2, h3⟩ := h
  exact ⟨a, cap, rfl, l1, l2, k⟩
end Go.Proofs.YtciglhecjkeogaaGreatDoor
set_option linter.unusedVariables false
set_option linter.unusedSimpArgs false
namespace Go.Proofs.YtciglhecjkeogaaGreatDoor
open Go.RowKit
namespace Sy
def zb : Bl := ⟨0, 0, false, [], zx, zx, 0⟩
def lnR (l : List UInt8) : Bl × Nat × Int :=
  if 65536 < l.length then (zb, 0, 10)
  else match Lx.lx l 0 with
    | .bad a => (zb, a, 2)
    | .ok ts => match pLn ts with
      | .bad j => (zb, tp ts l.length j, 2)
      | .ok b _ => if vldb b = true then (b, l.length, 0) else (zb, 0, 10)
end Sy
def LnP (w : World) (r : Sy.Bl × Nat × Int) (e : Ending) (w' : World) : Prop :=
  (∃ cs, e = .returned (.tuple #[.agg cs, .int .i64 (r.2.1 : Int), .int .i64 r.2.2]) ∧ BlkB w' (fun b => w.heap.size ≤ b) r.1 cs) ∧ Qw w w'
theorem lnDone {w w' : World} {tmps : Array Value} {b : Sy.Bl} {at1 : Nat} {er : Int} {v0 v1 v2 v3 v4 v5 v6 v7 v8 v9 v10 : Value} {t0 t1 t2 : TypeId} (h2 : tmps[2]?.getD undef = .pointer (some ⟨w.heap.size, 0, none⟩)) (h3 : tmps[3]?.getD undef = .pointer (some ⟨w.heap.size + 1, 0, none⟩)) (h4 : tmps[4]?.getD undef = .pointer (some ⟨w.heap.size + 1 + 1, 0, none⟩))
    (R0 : Bx w' w.heap.size #[v0, v1, v2, v3, v4, v5, v6, v7, v8, v9, v10] t0) (R1 : Bx w' (w.heap.size + 1) #[.int .i64 (at1 : Int)] t1) (R2 : Bx w' (w.heap.size + 1 + 1) #[.int .i64 er] t2) (B : BlkB w' (fun b => w.heap.size ≤ b) b #[v0, v1, v2, v3, v4, v5, v6, v7, v8, v9, v10]) (q : Qw w w') :
    ∃ v, (results Tryz.f9 tmps).run Tryz.prog w' = .ok v w' ∧ LnP w (b, at1, er) (.returned v) w' := by
  have c0 : w'.cell? ⟨w.heap.size, 0, none⟩ = some v0 := R0.cell' 0 _ rfl
  have c1 : w'.cell? ⟨w.heap.size, 1, none⟩ = some v1 := R0.cell' 1 _ rfl
  have c2 : w'.cell? ⟨w.heap.size, 2, none⟩ = some v2 := R0.cell' 2 _ rfl
  have c3 : w'.cell? ⟨w.heap.size, 3, none⟩ = some v3 := R0.cell' 3 _ rfl
  have c4 : w'.cell? ⟨w.heap.size, 4, none⟩ = some v4 := R0.cell' 4 _ rfl
  have c5 : w'.cell? ⟨w.heap.size, 5, none⟩ = some v5 := R0.cell' 5 _ rfl
  have c6 : w'.cell? ⟨w.heap.size, 6, none⟩ = some v6 := R0.cell' 6 _ rfl
  have c7 : w'.cell? ⟨w.heap.size, 7, none⟩ = some v7 := R0.cell' 7 _ rfl
  have c8 : w'.cell? ⟨w.heap.size, 8, none⟩ = some v8 := R0.cell' 8 _ rfl
  have c9 : w'.cell? ⟨w.heap.size, 9, none⟩ = some v9 := R0.cell' 9 _ rfl
  have c10 : w'.cell? ⟨w.heap.size, 10, none⟩ = some v10 := R0.cell' 10 _ rfl
  have d : w'.cell? ⟨w.heap.size + 1, 0, none⟩ = some (.int .i64 (at1 : Int)) := R1.cell' 0 _ rfl
  have e : w'.cell? ⟨w.heap.size + 1 + 1, 0, none⟩ = some (.int .i64 er) := R2.cell' 0 _ rfl
  refine ⟨.tuple #[.agg #[v0, v1, v2, v3, v4, v5, v6, v7, v8, v9, v10], .int .i64 (at1 : Int), .int .i64 er], ?_, ⟨_, rfl, B⟩, q⟩
  simp [results, Tryz.results9, h2, h3, h4, go_sem, c0, c1, c2, c3, c4, c5, c6, c7, c8, c9, c10, d, e]
theorem zbB (w : World) (S : Nat → Prop) : BlkB w S Sy.zb #[.int .i64 0, .int .i64 0, .bool false, .slice none 0 0, .int .i64 0, .int .i64 0, .slice none 0 0, .int .i64 0, .int .i64 0, .slice none 0 0, .int .i64 0] :=
  ⟨none, 0, none, 0, none, 0, rfl, WordsB.nil _ _, KidsB.nl none 0 (by decide), KidsB.nl none 0 (by decide)⟩
set_option maxRecDepth 100000 in
set_option maxHeartbeats 4000000 in
theorem sz_long (s : ByteArray) (h : 65536 < s.size) (hs : s.size ≤ 1000000) (w : World) : Calls Tryz.prog 9 #[.string s] w (LnP w (Sy.zb, 0, 10)) := by
  have hl : (65536 : Int) < (s.size : Int) := by omega
  go_enter_defers Tryz.func9, Tryz.ntmps9
  go_wp2_with fail
  have A1 := Bx.new w #[.int .i64 0, .int .i64 0, .bool false, .slice none 0 0, .int .i64 0, .int .i64 0, .slice none 0 0, .int .i64 0, .int .i64 0, .slice none 0 0, .int .i64 0] 37
  have A2 : Bx ((w.alloc (.cells #[.int .i64 0, .int .i64 0, .bool false, .slice none 0 0, .int .i64 0, .int .i64 0, .slice none 0 0, .int .i64 0, .int .i64 0, .slice none 0 0, .int .i64 0] 37)).alloc (.cells #[.int .i64 0] 3)) (w.heap.size + 1) #[.int .i64 0] 3 := by
    have := Bx.new (w.alloc (.cells #[.int .i64 0, .int .i64 0, .bool false, .slice none 0 0, .int .i64 0, .int .i64 0, .slice none 0 0, .int .i64 0, .int .i64 0, .slice none 0 0, .int .i64 0] 37)) #[.int .i64 0] 3
    simpa using this
  have A3 : Bx (((w.alloc (.cells #[.int .i64 0, .int .i64 0, .bool false, .slice none 0 0, .int .i64 0, .int .i64 0, .slice none 0 0, .int .i64 0, .int .i64 0, .slice none 0 0, .int .i64 0] 37)).alloc (.cells #[.int .i64 0] 3)).alloc (.cells #[.int .i64 10] 38)) (w.heap.size + 1 + 1) #[.int .i64 10] 38 := by
    have := Bx.new ((w.alloc (.cells #[.int .i64 0, .int .i64 0, .bool false, .slice none 0 0, .int .i64 0, .int .i64 0, .slice none 0 0, .int .i64 0, .int .i64 0, .slice none 0 0, .int .i64 0] 37)).alloc (.cells #[.int .i64 0] 3)) #[.int .i64 10] 38
    simpa using this
  exact lnDone rfl rfl rfl ((A1.alloc _).alloc _) (A2.alloc _) A3 (zbB _ _) Qz
theorem ln3 (w : World) : Bx (((w.alloc (.cells #[.int .i64 0, .int .i64 0, .bool false, .slice none 0 0, .int .i64 0, .int .i64 0, .slice none 0 0, .int .i64 0, .int .i64 0, .slice none 0 0, .int .i64 0] 37)).alloc (.cells #[.int .i64 0] 3)).alloc (.cells #[.int .i64 0] 38)) w.heap.size #[.int .i64 0, .int .i64 0, .bool false, .slice none 0 0, .int .i64 0, .int .i64 0, .slice none 0 0, .int .i64 0, .int .i64 0, .slice none 0 0, .int .i64 0] 37 ∧ Bx (((w.alloc (.cells #[.int .i64 0, .int .i64 0, .bool false, .slice none 0 0, .int .i64 0, .int .i64 0, .slice none 0 0, .int .i64 0, .int .i64 0, .slice none 0 0, .int .i64 0] 37)).alloc (.cells #[.int .i64 0] 3)).alloc (.cells #[.int .i64 0] 38)) (w.heap.size + 1) #[.int .i64 0] 3 ∧ Bx (((w.alloc (.cells #[.int .i64 0, .int .i64 0, .bool false, .slice none 0 0, .int .i64 0, .int .i64 0, .slice none 0 0, .int .i64 0, .int .i64 0, .slice none 0 0, .int .i64 0] 37)).alloc (.cells #[.int .i64 0] 3)).alloc (.cells #[.int .i64 0] 38)) (w.heap.size + 1 + 1) #[.int .i64 0] 38 ∧ Qw w (((w.alloc (.cells #[.int .i64 0, .int .i64 0, .bool false, .slice none 0 0, .int .i64 0, .int .i64 0, .slice none 0 0, .int .i64 0, .int .i64 0, .slice none 0 0, .int .i64 0] 37)).alloc (.cells #[.int .i64 0] 3)).alloc (.cells #[.int .i64 0] 38)) := by
  have A1 := Bx.new w #[.int .i64 0, .int .i64 0, .bool false, .slice none 0 0, .int .i64 0, .int .i64 0, .slice none 0 0, .int .i64 0, .int .i64 0, .slice none 0 0, .int .i64 0] 37
  have A2 : Bx ((w.alloc (.cells #[.int .i64 0, .int .i64 0, .bool false, .slice none 0 0, .int .i64 0, .int .i64 0, .slice none 0 0, .int .i64 0, .int .i64 0, .slice none 0 0, .int .i64 0] 37)).alloc (.cells #[.int .i64 0] 3)) (w.heap.size + 1) #[.int .i64 0] 3 := by
    have := Bx.new (w.alloc (.cells #[.int .i64 0, .int .i64 0, .bool false, .slice none 0 0, .int .i64 0, .int .i64 0, .slice none 0 0, .int .i64 0, .int .i64 0, .slice none 0 0, .int .i64 0] 37)) #[.int .i64 0] 3
    simpa using this
  have A3 : Bx (((w.alloc (.cells #[.int .i64 0, .int .i64 0, .bool false, .slice none 0 0, .int .i64 0, .int .i64 0, .slice none 0 0, .int .i64 0, .int .i64 0, .slice none 0 0, .int .i64 0] 37)).alloc (.cells #[.int .i64 0] 3)).alloc (.cells #[.int .i64 0] 38)) (w.heap.size + 1 + 1) #[.int .i64 0] 38 := by
    have := Bx.new ((w.alloc (.cells #[.int .i64 0, .int .i64 0, .bool false, .slice none 0 0, .int .i64 0, .int .i64 0, .slice none 0 0, .int .i64 0, .int .i64 0, .slice none 0 0, .int .i64 0] 37)).alloc (.cells #[.int .i64 0] 3)) #[.int .i64 0] 38
    simpa using this
  exact ⟨(A1.alloc _).alloc _, A2.alloc _, A3, Qz⟩
theorem ToksB.one {B : Nat} {w : World} {v : Value} {ts : List Lx.Tok} {b1 : Nat} {x : Value} {t : TypeId} (h : ToksB B w v ts) (R : Bx w b1 #[x] t) (u : Value) : ToksB B (w.setCell ⟨b1, 0, none⟩ u) v ts := by
  obtain ⟨a, cap, e, l1, l2, h3⟩ := h
  refine ⟨a, cap, e, l1, l2, ?_⟩
  by_cases h0 : ts = []
  · exact .inl h0
  rcases h3 with h3 | ⟨b, off, e2, hb, hc⟩
  · exact .inl h3
  · refine .inr ⟨b, off, e2, hb, fun i hi => ?_⟩
    have hne : b ≠ b1 := by
      rintro rfl
      have h1 := (hc 0 (by cases ts with | nil => exact absurd rfl h0 | cons _ _ => simp)).2.1
      rw [R.cell] at h1
      simp at h1
    have k : ∀ o, (w.setCell ⟨b1, 0, none⟩ u).cell? ⟨b, o, none⟩ = w.cell? ⟨b, o, none⟩ := fun o => World.cell?_of_block (w := w) (Below.heap_setCell _ _ _ _ hne)
    rw [k, k, k, k]
    exact hc i hi
theorem lnPar {w w4 : World} {a : Option Addr} {cap n : Nat} {ts : List Lx.Tok} {at0 er0 at1 er1 : Value} (hO : Ow w) (Q4 : Qw w w4) {cs : Array Value} (R0 : Bx w4 w.heap.size cs 37) (R1 : Bx w4 (w.heap.size + 1) #[at0] 3) (R2 : Bx w4 (w.heap.size + 1 + 1) #[er0] 38)
    (tk : ToksB w4.heap.size w4 (.slice a ts.length cap) ts) (hl : ts.length ≤ 1000000) (w6 : World)
    (hw : w6 = ((w4.setCell ⟨w.heap.size + 1, 0, none⟩ at1).setCell ⟨w.heap.size + 1 + 1, 0, none⟩ er1).alloc (.cells #[.slice a ts.length cap, .int .i64 0, .int .i64 (n : Int)] 62)) :
    Par w6 w4.heap.size a cap ts n 0 ∧ Bx w6 w.heap.size cs 37 ∧ Bx w6 (w.heap.size + 1) #[at1] 3 ∧ Bx w6 (w.heap.size + 1 + 1) #[er1] 38 ∧ Qw w w6 ∧ w.heap.size + 1 + 1 < w4.heap.size := by
  subst hw
  have n1 : w.heap.size ≠ w.heap.size + 1 := by omega
  have n2 : w.heap.size ≠ w.heap.size + 1 + 1 := by omega
  have n3 : w.heap.size + 1 ≠ w.heap.size + 1 + 1 := by omega
  have n4 : w.heap.size + 1 + 1 ≠ w.heap.size + 1 := by omega
  have sz := R2.lt
  have hg := hO.1
  have S2 : Bx (w4.setCell ⟨w.heap.size + 1, 0, none⟩ at1) (w.heap.size + 1 + 1) #[er0] 38 := R2.other n4 _
  have es : ((w4.setCell ⟨w.heap.size + 1, 0, none⟩ at1).setCell ⟨w.heap.size + 1 + 1, 0, none⟩ er1).heap.size = w4.heap.size := by simp [World.setCell]
  have bx := Bx.new ((w4.setCell ⟨w.heap.size + 1, 0, none⟩ at1).setCell ⟨w.heap.size + 1 + 1, 0, none⟩ er1) #[.slice a ts.length cap, .int .i64 0, .int .i64 (n : Int)] 62
  rw [es] at bx
  have tk2 := (tk.one R1 at1).one S2 er1
  have q5 : Qw w ((w4.setCell ⟨w.heap.size + 1, 0, none⟩ at1).setCell ⟨w.heap.size + 1 + 1, 0, none⟩ er1) := (Q4.setCell (p := ⟨w.heap.size + 1, 0, none⟩) (by show w.heap.size ≤ w.heap.size + 1; omega) _).setCell (p := ⟨w.heap.size + 1 + 1, 0, none⟩) (by show w.heap.size ≤ w.heap.size + 1 + 1; omega) _
  refine ⟨⟨bx, tk2.kept ((Below.refl w4.heap.size _).alloc (by rw [es]; exact Nat.le_refl _) _) (Nat.le_refl _), hO.kept (Qw.trans q5 ((Below.refl _ _).alloc (Nat.le_refl _) _)), by omega, Nat.zero_le _, hl⟩, ((R0.other n1 _).other n2 _).alloc _, ((R1.set 0 _).other n3 _).alloc _, (S2.set 0 _).alloc _, Qw.trans q5 ((Below.refl _ _).alloc (Nat.le_refl _) _), sz⟩
theorem good_lx {l : List UInt8} {ts : List Lx.Tok} (h : Lx.lx l 0 = .ok ts) : Sy.Good ts ∧ ts.length ≤ l.length := by
  have O := Lx.offs l ts 0 (Nat.zero_le _) (by rw [List.drop_zero]; exact h)
  refine ⟨fun t ht => ?_, by have := O.1; omega⟩
  obtain ⟨i, hi, rfl⟩ := List.mem_iff_getElem.1 ht
  obtain ⟨_, ⟨hp, _, hm, e⟩, _⟩ := O.2 i hi
  rw [List.drop_eq_getElem_cons hp] at hm e
  rcases Lx.fst_kinds _ _ hm with ⟨_, n, m, k, k1, k2⟩ | ⟨u, k⟩ | ⟨x, hx, k, _⟩ | ⟨_, k⟩ <;> rw [k] at e <;> rw [e]
  · exact ⟨fun _ => ⟨k1, k2⟩, fun h => absurd rfl h, fun h => by simp at h, fun h => by simp at h⟩
  · refine ⟨fun h => by simp at h, fun h => absurd rfl h, fun h => by simp at h, fun _ => ?_⟩
    unfold Lx.isu at u
    exact of_decide_eq_true u
  · have hne : x ≠ [] := by
      have : ∀ n ∈ Lx.nms, n ≠ [] := by decide
      exact this x hx
    exact ⟨fun h => by simp at h, fun _ => .inl rfl, fun _ => hne, fun h => by simp at h⟩
  · exact ⟨fun h => by simp at h, fun _ => .inr rfl, fun _ => by simp, fun h => by simp at h⟩
theorem lnMid {w w4 w6 w7 : World} {a : Option Addr} {cap n : Nat} {ts : List Lx.Tok} {cs : Array Value} {at1 er1 : Value} {b : Sy.Bl} {wa la xa : Option Addr} {wc lc xc : Nat}
    (K : Par w6 w4.heap.size a cap ts n 0 ∧ Bx w6 w.heap.size cs 37 ∧ Bx w6 (w.heap.size + 1) #[at1] 3 ∧ Bx w6 (w.heap.size + 1 + 1) #[er1] 38 ∧ Qw w w6 ∧ w.heap.size + 1 + 1 < w4.heap.size) (q : Px w4.heap.size w6 w7)
    (hw : WordsB w7 (fun b => w6.heap.size ≤ b) wa wc b.words) (hl : KidsB w7 (fun b => w6.heap.size ≤ b) la lc b.left.ks) (hx : KidsB w7 (fun b => w6.heap.size ≤ b) xa xc b.x.ks) :
    Bx w7 w.heap.size cs 37 ∧ Bx w7 (w.heap.size + 1) #[at1] 3 ∧ Bx w7 (w.heap.size + 1 + 1) #[er1] 38 ∧ Qw w w7 ∧ BlkB w7 (fun b => w.heap.size + 1 + 1 < b) b #[.int .i64 b.kind, .int .i64 b.label, .bool b.skip, .slice wa b.words.length wc, .int .i64 b.left.op, .int .i64 b.left.n, .slice la b.left.ks.length lc, .int .i64 b.x.op, .int .i64 b.x.n, .slice xa b.x.ks.length xc, .int .i64 b.n] := by
  obtain ⟨K3, K0, K1, K2, kq, ksz⟩ := K
  refine ⟨K0.px q (by omega), K1.px q (by omega), K2.px q (by omega), Below.trans kq ((q.below (Nat.le_of_lt K3.bx.lt)).mono (by omega)), ?_⟩
  exact BlkB.go (fun b hb _ => ⟨rfl, by have := K2.lt; omega⟩) ⟨wa, wc, la, lc, xa, xc, rfl, hw, hl, hx⟩
theorem lnPut {w w7 : World} {u0 u1 u2 u3 u4 u5 u6 u7 u8 u9 u10 at1 er1 : Value} {b : Sy.Bl} {wa la xa : Option Addr} {wc lc xc : Nat} (F : Bx w7 w.heap.size #[u0, u1, u2, u3, u4, u5, u6, u7, u8, u9, u10] 37 ∧ Bx w7 (w.heap.size + 1) #[at1] 3 ∧ Bx w7 (w.heap.size + 1 + 1) #[er1] 38 ∧ Qw w w7 ∧ BlkB w7 (fun b => w.heap.size + 1 + 1 < b) b #[.int .i64 b.kind, .int .i64 b.label, .bool b.skip, .slice wa b.words.length wc, .int .i64 b.left.op, .int .i64 b.left.n, .slice la b.left.ks.length lc, .int .i64 b.x.op, .int .i64 b.x.n, .slice xa b.x.ks.length xc, .int .i64 b.n]) (hO : Ow w) (w8 : World) (hw : w8 = (World.setCell (World.setCell (World.setCell (World.setCell (World.setCell (World.setCell (World.setCell (World.setCell (World.setCell (World.setCell (World.setCell w7 ⟨w.heap.size, 0, none⟩ (.int .i64 b.kind)) ⟨w.heap.size, 1, none⟩ (.int .i64 b.label)) ⟨w.heap.size, 2, none⟩ (.bool b.skip)) ⟨w.heap.size, 3, none⟩ (.slice wa b.words.length wc)) ⟨w.heap.size, 4, none⟩ (.int .i64 b.left.op)) ⟨w.heap.size, 5, none⟩ (.int .i64 b.left.n)) ⟨w.heap.size, 6, none⟩ (.slice la b.left.ks.length lc)) ⟨w.heap.size, 7, none⟩ (.int .i64 b.x.op)) ⟨w.heap.size, 8, none⟩ (.int .i64 b.x.n)) ⟨w.heap.size, 9, none⟩ (.slice xa b.x.ks.length xc)) ⟨w.heap.size, 10, none⟩ (.int .i64 b.n))) :
    Bx w8 w.heap.size #[.int .i64 b.kind, .int .i64 b.label, .bool b.skip, .slice wa b.words.length wc, .int .i64 b.left.op, .int .i64 b.left.n, .slice la b.left.ks.length lc, .int .i64 b.x.op, .int .i64 b.x.n, .slice xa b.x.ks.length xc, .int .i64 b.n] 37 ∧ Bx w8 (w.heap.size + 1) #[at1] 3 ∧ Bx w8 (w.heap.size + 1 + 1) #[er1] 38 ∧ Qw w w8 ∧ BlkB w8 (fun b => w.heap.size + 1 + 1 < b) b #[.int .i64 b.kind, .int .i64 b.label, .bool b.skip, .slice wa b.words.length wc, .int .i64 b.left.op, .int .i64 b.left.n, .slice la b.left.ks.length lc, .int .i64 b.x.op, .int .i64 b.x.n, .slice xa b.x.ks.length xc, .int .i64 b.n] ∧ Ow w8 := by
  have e : w8 = putB w7 w.heap.size (.int .i64 b.kind) (.int .i64 b.label) (.bool b.skip) (.slice wa b.words.length wc) (.int .i64 b.left.op) (.int .i64 b.left.n) (.slice la b.left.ks.length lc) (.int .i64 b.x.op) (.int .i64 b.x.n) (.slice xa b.x.ks.length xc) (.int .i64 b.n) := hw
  obtain ⟨F0, F1, F2, Fq, FB⟩ := F
  clear hw
  subst e
  have q8 : Qw w (putB w7 w.heap.size (.int .i64 b.kind) (.int .i64 b.label) (.bool b.skip) (.slice wa b.words.length wc) (.int .i64 b.left.op) (.int .i64 b.left.n) (.slice la b.left.ks.length lc) (.int .i64 b.x.op) (.int .i64 b.x.n) (.slice xa b.x.ks.length xc) (.int .i64 b.n)) := by
    show Below w.heap.size w _
    unfold putB
    iterate 11 refine Below.setCell ?_ (by exact Nat.le_refl _) _
    exact Fq
  exact ⟨putB_bx _ _ _ _ _ _ _ _ _ _ _ F0, (putB_heap _ _ _ _ _ _ _ _ _ _ _ _ _ _ (by omega)).trans F1, (putB_heap _ _ _ _ _ _ _ _ _ _ _ _ _ _ (by omega)).trans F2, q8, FB.go fun b hS _ => ⟨putB_heap _ _ _ _ _ _ _ _ _ _ _ _ _ _ (by omega), hS⟩, hO.kept q8⟩
theorem lnVal {w w8 w9 : World} {at1 er1 : Value} {b : Sy.Bl} {wa la xa : Option Addr} {wc lc xc : Nat} (F : Bx w8 w.heap.size #[.int .i64 b.kind, .int .i64 b.label, .bool b.skip, .slice wa b.words.length wc, .int .i64 b.left.op, .int .i64 b.left.n, .slice la b.left.ks.length lc, .int .i64 b.x.op, .int .i64 b.x.n, .slice xa b.x.ks.length xc, .int .i64 b.n] 37 ∧ Bx w8 (w.heap.size + 1) #[at1] 3 ∧ Bx w8 (w.heap.size + 1 + 1) #[er1] 38 ∧ Qw w w8 ∧ BlkB w8 (fun b => w.heap.size + 1 + 1 < b) b #[.int .i64 b.kind, .int .i64 b.label, .bool b.skip, .slice wa b.words.length wc, .int .i64 b.left.op, .int .i64 b.left.n, .slice la b.left.ks.length lc, .int .i64 b.x.op, .int .i64 b.x.n, .slice xa b.x.ks.length xc, .int .i64 b.n] ∧ Ow w8) (q : Qw w8 w9) :
    Bx w9 w.heap.size #[.int .i64 b.kind, .int .i64 b.label, .bool b.skip, .slice wa b.words.length wc, .int .i64 b.left.op, .int .i64 b.left.n, .slice la b.left.ks.length lc, .int .i64 b.x.op, .int .i64 b.x.n, .slice xa b.x.ks.length xc, .int .i64 b.n] 37 ∧ Bx w9 (w.heap.size + 1) #[at1] 3 ∧ Bx w9 (w.heap.size + 1 + 1) #[er1] 38 ∧ Qw w w9 ∧ BlkB w9 (fun b => w.heap.size + 1 + 1 < b) b #[.int .i64 b.kind, .int .i64 b.label, .bool b.skip, .slice wa b.words.length wc, .int .i64 b.left.op, .int .i64 b.left.n, .slice la b.left.ks.length lc, .int .i64 b.x.op, .int .i64 b.x.n, .slice xa b.x.ks.length xc, .int .i64 b.n] :=
  ⟨F.1.kept q, F.2.1.kept q, F.2.2.1.kept q, F.2.2.2.1.trans q, F.2.2.2.2.1.go fun b hS hb => ⟨q.block b hb, hS⟩⟩
theorem lnFin {w w9 : World} {at1 er1 at2 er2 : Value} {b : Sy.Bl} {wa la xa : Option Addr} {wc lc xc : Nat} (F : Bx w9 w.heap.size #[.int .i64 b.kind, .int .i64 b.label, .bool b.skip, .slice wa b.words.length wc, .int .i64 b.left.op, .int .i64 b.left.n, .slice la b.left.ks.length lc, .int .i64 b.x.op, .int .i64 b.x.n, .slice xa b.x.ks.length xc, .int .i64 b.n] 37 ∧ Bx w9 (w.heap.size + 1) #[at1] 3 ∧ Bx w9 (w.heap.size + 1 + 1) #[er1] 38 ∧ Qw w w9 ∧ BlkB w9 (fun b => w.heap.size + 1 + 1 < b) b #[.int .i64 b.kind, .int .i64 b.label, .bool b.skip, .slice wa b.words.length wc, .int .i64 b.left.op, .int .i64 b.left.n, .slice la b.left.ks.length lc, .int .i64 b.x.op, .int .i64 b.x.n, .slice xa b.x.ks.length xc, .int .i64 b.n]) (wf : World) (hw : wf = (((World.setCell (World.setCell (World.setCell (World.setCell (World.setCell (World.setCell (World.setCell (World.setCell (World.setCell (World.setCell (World.setCell w9 ⟨w.heap.size, 0, none⟩ (.int .i64 b.kind)) ⟨w.heap.size, 1, none⟩ (.int .i64 b.label)) ⟨w.heap.size, 2, none⟩ (.bool b.skip)) ⟨w.heap.size, 3, none⟩ (.slice wa b.words.length wc)) ⟨w.heap.size, 4, none⟩ (.int .i64 b.left.op)) ⟨w.heap.size, 5, none⟩ (.int .i64 b.left.n)) ⟨w.heap.size, 6, none⟩ (.slice la b.left.ks.length lc)) ⟨w.heap.size, 7, none⟩ (.int .i64 b.x.op)) ⟨w.heap.size, 8, none⟩ (.int .i64 b.x.n)) ⟨w.heap.size, 9, none⟩ (.slice xa b.x.ks.length xc)) ⟨w.heap.size, 10, none⟩ (.int .i64 b.n))).setCell ⟨w.heap.size + 1, 0, none⟩ at2).setCell ⟨w.heap.size + 1 + 1, 0, none⟩ er2) :
    Bx wf w.heap.size #[.int .i64 b.kind, .int .i64 b.label, .bool b.skip, .slice wa b.words.length wc, .int .i64 b.left.op, .int .i64 b.left.n, .slice la b.left.ks.length lc, .int .i64 b.x.op, .int .i64 b.x.n, .slice xa b.x.ks.length xc, .int .i64 b.n] 37 ∧ Bx wf (w.heap.size + 1) #[at2] 3 ∧ Bx wf (w.heap.size + 1 + 1) #[er2] 38 ∧ Qw w wf ∧ BlkB wf (fun b => w.heap.size ≤ b) b #[.int .i64 b.kind, .int .i64 b.label, .bool b.skip, .slice wa b.words.length wc, .int .i64 b.left.op, .int .i64 b.left.n, .slice la b.left.ks.length lc, .int .i64 b.x.op, .int .i64 b.x.n, .slice xa b.x.ks.length xc, .int .i64 b.n] := by
  have e : wf = ((putB w9 w.heap.size (.int .i64 b.kind) (.int .i64 b.label) (.bool b.skip) (.slice wa b.words.length wc) (.int .i64 b.left.op) (.int .i64 b.left.n) (.slice la b.left.ks.length lc) (.int .i64 b.x.op) (.int .i64 b.x.n) (.slice xa b.x.ks.length xc) (.int .i64 b.n)).setCell ⟨w.heap.size + 1, 0, none⟩ at2).setCell ⟨w.heap.size + 1 + 1, 0, none⟩ er2 := hw
  obtain ⟨F0, F1, F2, Fq, FB⟩ := F
  clear hw
  subst e
  have n1 : w.heap.size ≠ w.heap.size + 1 := by omega
  have n2 : w.heap.size ≠ w.heap.size + 1 + 1 := by omega
  have n3 : w.heap.size + 1 ≠ w.heap.size + 1 + 1 := by omega
  have n4 : w.heap.size + 1 + 1 ≠ w.heap.size + 1 := by omega
  have G0 := putB_bx (.int .i64 b.kind) (.int .i64 b.label) (.bool b.skip) (.slice wa b.words.length wc) (.int .i64 b.left.op) (.int .i64 b.left.n) (.slice la b.left.ks.length lc) (.int .i64 b.x.op) (.int .i64 b.x.n) (.slice xa b.x.ks.length xc) (.int .i64 b.n) F0
  have G1 : Bx (putB w9 w.heap.size (.int .i64 b.kind) (.int .i64 b.label) (.bool b.skip) (.slice wa b.words.length wc) (.int .i64 b.left.op) (.int .i64 b.left.n) (.slice la b.left.ks.length lc) (.int .i64 b.x.op) (.int .i64 b.x.n) (.slice xa b.x.ks.length xc) (.int .i64 b.n)) (w.heap.size + 1) #[at1] 3 := (putB_heap _ _ _ _ _ _ _ _ _ _ _ _ _ _ (by omega)).trans F1
  have G2 : Bx (putB w9 w.heap.size (.int .i64 b.kind) (.int .i64 b.label) (.bool b.skip) (.slice wa b.words.length wc) (.int .i64 b.left.op) (.int .i64 b.left.n) (.slice la b.left.ks.length lc) (.int .i64 b.x.op) (.int .i64 b.x.n) (.slice xa b.x.ks.length xc) (.int .i64 b.n)) (w.heap.size + 1 + 1) #[er1] 38 := (putB_heap _ _ _ _ _ _ _ _ _ _ _ _ _ _ (by omega)).trans F2
  have q8 : Qw w (putB w9 w.heap.size (.int .i64 b.kind) (.int .i64 b.label) (.bool b.skip) (.slice wa b.words.length wc) (.int .i64 b.left.op) (.int .i64 b.left.n) (.slice la b.left.ks.length lc) (.int .i64 b.x.op) (.int .i64 b.x.n) (.slice xa b.x.ks.length xc) (.int .i64 b.n)) := by
    show Below w.heap.size w _
    unfold putB
    iterate 11 refine Below.setCell ?_ (by exact Nat.le_refl _) _
    exact Fq
  refine ⟨(G0.other n1 _).other n2 _, (G1.set 0 _).other n3 _, (Bx.set (G2.other n4 _) 0 _), (q8.setCell (p := ⟨w.heap.size + 1, 0, none⟩) (by show w.heap.size ≤ w.heap.size + 1; omega) _).setCell (p := ⟨w.heap.size + 1 + 1, 0, none⟩) (by show w.heap.size ≤ w.heap.size + 1 + 1; omega) _, ?_⟩
  refine FB.go fun b hS _ => ⟨?_, by omega⟩
  rw [Below.heap_setCell _ _ _ _ (show b ≠ w.heap.size + 1 + 1 by omega), Below.heap_setCell _ _ _ _ (show b ≠ w.heap.size + 1 by omega)]
  exact putB_heap _ _ _ _ _ _ _ _ _ _ _ _ _ _ (by omega)
set_option maxRecDepth 100000 in
set_option maxHeartbeats 4000000 in
theorem sz_go (s : ByteArray) (hs : s.size ≤ 65536) (w : World) (hT : Tn w) (hO : Ow w) (ts : List Lx.Tok) (e1 : Lx.lx s.data.toList 0 = .ok ts) : Calls Tryz.prog 9 #[.string s] w (LnP w (Sy.lnR s.data.toList)) := by
  have hl : ¬ (65536 : Int) < (s.size : Int) := by omega
  have c1 := fun w (h : Tn w) => lxTokens s (by omega) w h
  have k1 : Lx.tks s.data.toList = ts ∧ Lx.tat s.data.toList = s.data.toList.length ∧ Lx.ter s.data.toList = 0 := by unfold Lx.tks Lx.tat Lx.ter; rw [e1]; exact ⟨rfl, rfl, rfl⟩
  rw [k1.1, k1.2.1, k1.2.2, size_len] at c1
  have C1 := Lib.hid c1
  have HT := Lib.hid hT
  have HO := Lib.hid hO
  have hgd := (good_lx e1).1
  have hlen : ts.length ≤ 1000000 := by have := (good_lx e1).2; rw [size_len] at this; omega
  have cl := fun (w : World) (P : Nat) (a : Option Addr) (cap : Nat) (h : Par w P a cap ts s.size 0) => sy_line hgd w h
  have eL : Sy.lnR s.data.toList = (match Sy.pLn ts with
      | .bad j => (Sy.zb, Sy.tp ts s.size j, 2)
      | .ok b _ => if Sy.vldb b = true then (b, s.size, 0) else (Sy.zb, 0, 10)) := by
    unfold Sy.lnR
    rw [e1, size_len, if_neg (by omega)]
  rw [eL]
  have hmf : ∀ (fn : Fn) (first cap : Array Value) (w : World), (Instr.makeFunc fn first cap).run Tryz.prog w = .ok (.func fn first cap) w := fun _ _ _ _ => rfl
  clear c1 k1 hT hO
  cases eP : Sy.pLn ts with
  | bad j =>
    rw [eP] at cl
    have CL := Lib.hid cl
    clear cl eL e1 eP hgd
    go_enter_defers Tryz.func9, Tryz.ntmps9
    obtain ⟨A0, A1, A2, qa⟩ := ln3 w
    have AA := Lib.hid (And.intro A0 (And.intro A1 (And.intro A2 qa)))
    clear A0 A1 A2 qa
    go_wp2_with (first | (go_at_call 22; ((with_reducible refine (C1.out _ (Tn.kept HT.out AA.out.2.2.2)).mono ?_); rintro e w4 ⟨⟨v, rfl, tk⟩, q⟩; obtain ⟨a, cap, rfl, l1, l2, tk⟩ := toks_form tk; have R0 := AA.out.1.kept q; have R1 := AA.out.2.1.kept q; have R2 := AA.out.2.2.1.kept q; have c0 := R1.cell' 0 _ rfl; have f0 := R1.free 0; have d0 := R2.cell' 0 _ rfl; have g0 := R2.free 0; have sz := R2.lt; have Q4 := Lib.hid (AA.out.2.2.2.trans q); replace R0 := Lib.hid R0; replace R1 := Lib.hid R1; replace R2 := Lib.hid R2; replace tk := Lib.hid tk; clear q)) | (go_at_call 24; have K := lnPar (at1 := .int .i64 (s.size : Int)) (er1 := .int .i64 0) (n := s.size) HO.out Q4.out R0.out R1.out R2.out tk.out hlen _ rfl; ((with_reducible refine (CL.out _ _ _ _ K.1).mono ?_); rintro e w7 ⟨rfl, q7⟩; replace K := Lib.hid K; replace q7 := Lib.hid q7)))
    obtain ⟨_, K0, K1, K2, kq, ksz⟩ := K.out
    have q9 := q7.out
    have N0 := K0.px q9 (by omega)
    have N1 := K1.px q9 (by omega)
    have N2 := K2.px q9 (by omega)
    have kb : Qw w w7 := Below.trans kq ((q9.below (Nat.le_of_lt K.out.1.bx.lt)).mono (by omega))
    refine leaves_cons (f := 23) (args := #[.pointer (some ⟨w.heap.size, 0, none⟩), .pointer (some ⟨w.heap.size + 1, 0, none⟩), .pointer (some ⟨w.heap.size + 1 + 1, 0, none⟩)]) (by simp) (by simp [go_sem]) ?_
    refine (catch_panicking w.heap.size _ _ [] w7 N2.lt _ _ _ _ _ _ _ _ _ _ _ _ _ _ _ _ N0 N1 N2).mono ?_
    rintro e u' w8 ⟨rfl, rfl, P0, P1, P2, q⟩
    exact lnDone rfl rfl rfl P0 P1 P2 (zbB _ _) (Below.trans kb q)
  | ok b j =>
    rw [eP] at cl
    have CL := Lib.hid cl
    have cv := fun (w : World) (S : Nat → Prop) (cs : Array Value) (hO : Ow w) (hB : BlkB w S b cs) => sv_valid b cs S w hO hB
    clear cl eL e1 eP hgd
    simp only
    cases eV : Sy.vldb b with
    | false =>
      rw [eV] at cv
      have CV := Lib.hid (fun (w : World) {S : Nat → Prop} {cs : Array Value} (hO : Ow w) (hB : BlkB w S b cs) => cv w S cs hO hB)
      clear cv eV
      rw [if_neg (by decide)]
      go_enter_defers Tryz.func9, Tryz.ntmps9
      obtain ⟨A0, A1, A2, qa⟩ := ln3 w
      have AA := Lib.hid (And.intro A0 (And.intro A1 (And.intro A2 qa)))
      clear A0 A1 A2 qa
      go_wp2_with (first | (go_at_call 22; ((with_reducible refine (C1.out _ (Tn.kept HT.out AA.out.2.2.2)).mono ?_); rintro e w4 ⟨⟨v, rfl, tk⟩, q⟩; obtain ⟨a, cap, rfl, l1, l2, tk⟩ := toks_form tk; have R0 := AA.out.1.kept q; have R1 := AA.out.2.1.kept q; have R2 := AA.out.2.2.1.kept q; have c0 := R1.cell' 0 _ rfl; have f0 := R1.free 0; have d0 := R2.cell' 0 _ rfl; have g0 := R2.free 0; have sz := R2.lt; have Q4 := Lib.hid (AA.out.2.2.2.trans q); replace R0 := Lib.hid R0; replace R1 := Lib.hid R1; replace R2 := Lib.hid R2; replace tk := Lib.hid tk; clear q)) | (go_at_call 24; have K := lnPar (at1 := .int .i64 (s.size : Int)) (er1 := .int .i64 0) (n := s.size) HO.out Q4.out R0.out R1.out R2.out tk.out hlen _ rfl; ((with_reducible refine (CL.out _ _ _ _ K.1).mono ?_); rintro e w7 ⟨⟨cs, rfl, wa, wc, la, lc, xa, xc, rfl, hw, hl1, hx1⟩, hp7, q7⟩; have F := lnMid K q7 hw hl1 hx1; have r0 := F.1.cell' 0 _ rfl; have s0 := F.1.free 0; have r1 := F.1.cell' 1 _ rfl; have s1 := F.1.free 1; have r2 := F.1.cell' 2 _ rfl; have s2 := F.1.free 2; have r3 := F.1.cell' 3 _ rfl; have s3 := F.1.free 3; have r4 := F.1.cell' 4 _ rfl; have s4 := F.1.free 4; have r5 := F.1.cell' 5 _ rfl; have s5 := F.1.free 5; have r6 := F.1.cell' 6 _ rfl; have s6 := F.1.free 6; have r7 := F.1.cell' 7 _ rfl; have s7 := F.1.free 7; have r8 := F.1.cell' 8 _ rfl; have s8 := F.1.free 8; have r9 := F.1.cell' 9 _ rfl; have s9 := F.1.free 9; have r10 := F.1.cell' 10 _ rfl; have s10 := F.1.free 10; replace F := Lib.hid F; clear hw hl1 hx1 hp7 q7 K)) | (go_at_call 25; have F2 := lnPut F.out HO.out _ rfl; ((with_reducible refine (CV.out _ F2.2.2.2.2.2 F2.2.2.2.2.1).mono ?_); rintro e w9 ⟨rfl, q9⟩; have G := lnVal F2 q9; have r0 := G.1.cell' 0 _ rfl; have s0 := G.1.free 0; have r1 := G.1.cell' 1 _ rfl; have s1 := G.1.free 1; have r2 := G.1.cell' 2 _ rfl; have s2 := G.1.free 2; have r3 := G.1.cell' 3 _ rfl; have s3 := G.1.free 3; have r4 := G.1.cell' 4 _ rfl; have s4 := G.1.free 4; have r5 := G.1.cell' 5 _ rfl; have s5 := G.1.free 5; have r6 := G.1.cell' 6 _ rfl; have s6 := G.1.free 6; have r7 := G.1.cell' 7 _ rfl; have s7 := G.1.free 7; have r8 := G.1.cell' 8 _ rfl; have s8 := G.1.free 8; have r9 := G.1.cell' 9 _ rfl; have s9 := G.1.free 9; have r10 := G.1.cell' 10 _ rfl; have s10 := G.1.free 10; have c9 := G.2.1.cell' 0 _ rfl; have f9 := G.2.1.free 0; have d9 := G.2.2.1.cell' 0 _ rfl; have g9 := G.2.2.1.free 0; have nz := G.2.2.1.lt; replace G := Lib.hid G; clear q9 F2)))
      obtain ⟨N0, N1, N2, kb, _⟩ := G.out
      refine leaves_cons (f := 23) (args := #[.pointer (some ⟨w.heap.size, 0, none⟩), .pointer (some ⟨w.heap.size + 1, 0, none⟩), .pointer (some ⟨w.heap.size + 1 + 1, 0, none⟩)]) (by simp) (by simp [go_sem]) ?_
      refine (catch_panicking w.heap.size 0 10 [] w9 N2.lt _ _ _ _ _ _ _ _ _ _ _ _ _ _ _ _ N0 N1 N2).mono ?_
      rintro e u' w8 ⟨rfl, rfl, P0, P1, P2, q⟩
      exact lnDone rfl rfl rfl P0 P1 P2 (zbB _ _) (Below.trans kb q)
    | true =>
      rw [eV] at cv
      have CV := Lib.hid (fun (w : World) {S : Nat → Prop} {cs : Array Value} (hO : Ow w) (hB : BlkB w S b cs) => cv w S cs hO hB)
      clear cv eV
      rw [if_pos rfl]
      go_enter_defers Tryz.func9, Tryz.ntmps9
      obtain ⟨A0, A1, A2, qa⟩ := ln3 w
      have AA := Lib.hid (And.intro A0 (And.intro A1 (And.intro A2 qa)))
      clear A0 A1 A2 qa
      go_wp2_with (first | (go_at_call 22; ((with_reducible refine (C1.out _ (Tn.kept HT.out AA.out.2.2.2)).mono ?_); rintro e w4 ⟨⟨v, rfl, tk⟩, q⟩; obtain ⟨a, cap, rfl, l1, l2, tk⟩ := toks_form tk; have R0 := AA.out.1.kept q; have R1 := AA.out.2.1.kept q; have R2 := AA.out.2.2.1.kept q; have c0 := R1.cell' 0 _ rfl; have f0 := R1.free 0; have d0 := R2.cell' 0 _ rfl; have g0 := R2.free 0; have sz := R2.lt; have Q4 := Lib.hid (AA.out.2.2.2.trans q); replace R0 := Lib.hid R0; replace R1 := Lib.hid R1; replace R2 := Lib.hid R2; replace tk := Lib.hid tk; clear q)) | (go_at_call 24; have K := lnPar (at1 := .int .i64 (s.size : Int)) (er1 := .int .i64 0) (n := s.size) HO.out Q4.out R0.out R1.out R2.out tk.out hlen _ rfl; ((with_reducible refine (CL.out _ _ _ _ K.1).mono ?_); rintro e w7 ⟨⟨cs, rfl, wa, wc, la, lc, xa, xc, rfl, hw, hl1, hx1⟩, hp7, q7⟩; have F := lnMid K q7 hw hl1 hx1; have r0 := F.1.cell' 0 _ rfl; have s0 := F.1.free 0; have r1 := F.1.cell' 1 _ rfl; have s1 := F.1.free 1; have r2 := F.1.cell' 2 _ rfl; have s2 := F.1.free 2; have r3 := F.1.cell' 3 _ rfl; have s3 := F.1.free 3; have r4 := F.1.cell' 4 _ rfl; have s4 := F.1.free 4; have r5 := F.1.cell' 5 _ rfl; have s5 := F.1.free 5; have r6 := F.1.cell' 6 _ rfl; have s6 := F.1.free 6; have r7 := F.1.cell' 7 _ rfl; have s7 := F.1.free 7; have r8 := F.1.cell' 8 _ rfl; have s8 := F.1.free 8; have r9 := F.1.cell' 9 _ rfl; have s9 := F.1.free 9; have r10 := F.1.cell' 10 _ rfl; have s10 := F.1.free 10; replace F := Lib.hid F; clear hw hl1 hx1 hp7 q7 K)) | (go_at_call 25; have F2 := lnPut F.out HO.out _ rfl; ((with_reducible refine (CV.out _ F2.2.2.2.2.2 F2.2.2.2.2.1).mono ?_); rintro e w9 ⟨rfl, q9⟩; have G := lnVal F2 q9; have r0 := G.1.cell' 0 _ rfl; have s0 := G.1.free 0; have r1 := G.1.cell' 1 _ rfl; have s1 := G.1.free 1; have r2 := G.1.cell' 2 _ rfl; have s2 := G.1.free 2; have r3 := G.1.cell' 3 _ rfl; have s3 := G.1.free 3; have r4 := G.1.cell' 4 _ rfl; have s4 := G.1.free 4; have r5 := G.1.cell' 5 _ rfl; have s5 := G.1.free 5; have r6 := G.1.cell' 6 _ rfl; have s6 := G.1.free 6; have r7 := G.1.cell' 7 _ rfl; have s7 := G.1.free 7; have r8 := G.1.cell' 8 _ rfl; have s8 := G.1.free 8; have r9 := G.1.cell' 9 _ rfl; have s9 := G.1.free 9; have r10 := G.1.cell' 10 _ rfl; have s10 := G.1.free 10; have c9 := G.2.1.cell' 0 _ rfl; have f9 := G.2.1.free 0; have d9 := G.2.2.1.cell' 0 _ rfl; have g9 := G.2.2.1.free 0; have nz := G.2.2.1.lt; replace G := Lib.hid G; clear q9 F2)))
      have E := lnFin (at2 := .int .i64 (s.size : Int)) (er2 := .int .i64 0) G.out _ rfl
      refine leaves_cons (f := 23) (args := #[.pointer (some ⟨w.heap.size, 0, none⟩), .pointer (some ⟨w.heap.size + 1, 0, none⟩), .pointer (some ⟨w.heap.size + 1 + 1, 0, none⟩)]) (by simp) (by simp [go_sem]) ?_
      refine (catch_idle _ _ _ _).mono ?_
      rintro e u' w8 ⟨rfl, rfl, q⟩
      exact lnDone rfl rfl rfl (E.1.kept q) (E.2.1.kept q) (E.2.2.1.kept q) (E.2.2.2.2.go fun b hS hb => ⟨q.block b hb, hS⟩) (E.2.2.2.1.trans q)
set_option maxRecDepth 100000 in
set_option maxHeartbeats 4000000 in
theorem sz_err (s : ByteArray) (hs : s.size ≤ 65536) (w : World) (hT : Tn w) (k : Nat) (e1 : Lx.lx s.data.toList 0 = .bad k) : Calls Tryz.prog 9 #[.string s] w (LnP w (Sy.lnR s.data.toList)) := by
  have hl : ¬ (65536 : Int) < (s.size : Int) := by omega
  have c1 := fun w (h : Tn w) => lxTokens s (by omega) w h
  have k1 : Lx.tks s.data.toList = [] ∧ Lx.tat s.data.toList = k ∧ Lx.ter s.data.toList = 2 := by unfold Lx.tks Lx.tat Lx.ter; rw [e1]; exact ⟨rfl, rfl, rfl⟩
  rw [k1.1, k1.2.1, k1.2.2] at c1
  have eL : Sy.lnR s.data.toList = (Sy.zb, k, 2) := by
    unfold Sy.lnR
    rw [e1, size_len, if_neg (by omega)]
  rw [eL]
  have C1 := Lib.hid c1
  have HT := Lib.hid hT
  clear c1 k1 hT eL e1
  go_enter_defers Tryz.func9, Tryz.ntmps9
  obtain ⟨A0, A1, A2, qa⟩ := ln3 w
  have AA := Lib.hid (And.intro A0 (And.intro A1 (And.intro A2 qa)))
  clear A0 A1 A2 qa
  go_wp2_with (go_at_call 22; ((with_reducible refine (C1.out _ (Tn.kept HT.out AA.out.2.2.2)).mono ?_); rintro e w4 ⟨⟨v, rfl, tk⟩, q⟩; obtain ⟨a, cap, rfl, l1, l2, tk⟩ := toks_form tk; have R0 := AA.out.1.kept q; have R1 := AA.out.2.1.kept q; have R2 := AA.out.2.2.1.kept q; have c0 := R1.cell' 0 _ rfl; have f0 := R1.free 0; have d0 := R2.cell' 0 _ rfl; have g0 := R2.free 0; have sz := R2.lt; have Q4 := Lib.hid (AA.out.2.2.2.trans q); have r0 := R0.cell' 0 _ rfl; have s0 := R0.free 0; have r1 := R0.cell' 1 _ rfl; have s1 := R0.free 1; have r2 := R0.cell' 2 _ rfl; have s2 := R0.free 2; have r3 := R0.cell' 3 _ rfl; have s3 := R0.free 3; have r4 := R0.cell' 4 _ rfl; have s4 := R0.free 4; have r5 := R0.cell' 5 _ rfl; have s5 := R0.free 5; have r6 := R0.cell' 6 _ rfl; have s6 := R0.free 6; have r7 := R0.cell' 7 _ rfl; have s7 := R0.free 7; have r8 := R0.cell' 8 _ rfl; have s8 := R0.free 8; have r9 := R0.cell' 9 _ rfl; have s9 := R0.free 9; have r10 := R0.cell' 10 _ rfl; have s10 := R0.free 10; replace R0 := Lib.hid R0; replace R1 := Lib.hid R1; replace R2 := Lib.hid R2; replace tk := Lib.hid tk; clear q))
  have n1 : w.heap.size ≠ w.heap.size + 1 := by omega
  have n2 : w.heap.size ≠ w.heap.size + 1 + 1 := by omega
  have n3 : w.heap.size + 1 ≠ w.heap.size + 1 + 1 := by omega
  have n4 : w.heap.size + 1 + 1 ≠ w.heap.size + 1 := by omega
  have n5 : w.heap.size + 1 ≠ w.heap.size := by omega
  have n6 : w.heap.size + 1 + 1 ≠ w.heap.size := by omega
  refine code_of (fun w2 => Bx w2 w.heap.size #[.int .i64 0, .int .i64 0, .bool false, .slice none 0 0, .int .i64 0, .int .i64 0, .slice none 0 0, .int .i64 0, .int .i64 0, .slice none 0 0, .int .i64 0] 37 ∧ Bx w2 (w.heap.size + 1) #[.int .i64 (k : Int)] 3 ∧ Bx w2 (w.heap.size + 1 + 1) #[.int .i64 2] 38 ∧ Qw w w2)
    ⟨(R0.out.other n1 _).other n2 _, (R1.out.set 0 _).other n3 _, Bx.set (R2.out.other n4 _) 0 _, (Q4.out.setCell (p := ⟨w.heap.size + 1, 0, none⟩) (by show w.heap.size ≤ w.heap.size + 1; omega) _).setCell (p := ⟨w.heap.size + 1 + 1, 0, none⟩) (by show w.heap.size ≤ w.heap.size + 1 + 1; omega) _⟩ ?_
  rintro w2 ⟨B0, B1, B2, q2⟩
  clear r0 s0 r1 s1 r2 s2 r3 s3 r4 s4 r5 s5 r6 s6 r7 s7 r8 s8 r9 s9 r10 s10 c0 f0 d0 g0
  generalize hN : w.heap.size = N at *
  have r0 := B0.cell' 0 _ rfl
  have s0 := B0.free 0
  have r1 := B0.cell' 1 _ rfl
  have s1 := B0.free 1
  have r2 := B0.cell' 2 _ rfl
  have s2 := B0.free 2
  have r3 := B0.cell' 3 _ rfl
  have s3 := B0.free 3
  have r4 := B0.cell' 4 _ rfl
  have s4 := B0.free 4
  have r5 := B0.cell' 5 _ rfl
  have s5 := B0.free 5
  have r6 := B0.cell' 6 _ rfl
  have s6 := B0.free 6
  have r7 := B0.cell' 7 _ rfl
  have s7 := B0.free 7
  have r8 := B0.cell' 8 _ rfl
  have s8 := B0.free 8
  have r9 := B0.cell' 9 _ rfl
  have s9 := B0.free 9
  have r10 := B0.cell' 10 _ rfl
  have s10 := B0.free 10
  have c0 := B1.cell' 0 _ rfl
  have f0 := B1.free 0
  have d0 := B2.cell' 0 _ rfl
  have g0 := B2.free 0
  have BB := Lib.hid (And.intro B0 (And.intro B1 (And.intro B2 q2)))
  replace hN := Lib.hid hN
  clear B0 B1 B2 q2
  go_region
  all_goals go_wp2_with fail
  have hM := hN.out
  subst hM
  obtain ⟨B0, B1, B2, q2⟩ := BB.out
  have q8 : Qw w (putB w2 w.heap.size (.int .i64 0) (.int .i64 0) (.bool false) (.slice none 0 0) (.int .i64 0) (.int .i64 0) (.slice none 0 0) (.int .i64 0) (.int .i64 0) (.slice none 0 0) (.int .i64 0)) := by
    show Below w.heap.size w _
    unfold putB
    iterate 11 refine Below.setCell ?_ (by exact Nat.le_refl _) _
    exact q2
  have G0 := putB_bx (.int .i64 0) (.int .i64 0) (.bool false) (.slice none 0 0) (.int .i64 0) (.int .i64 0) (.slice none 0 0) (.int .i64 0) (.int .i64 0) (.slice none 0 0) (.int .i64 0) B0
  have G1 : Bx (putB w2 w.heap.size (.int .i64 0) (.int .i64 0) (.bool false) (.slice none 0 0) (.int .i64 0) (.int .i64 0) (.slice none 0 0) (.int .i64 0) (.int .i64 0) (.slice none 0 0) (.int .i64 0)) (w.heap.size + 1) #[.int .i64 (k : Int)] 3 := (putB_heap _ _ _ _ _ _ _ _ _ _ _ _ _ _ n5).trans B1
  have G2 : Bx (putB w2 w.heap.size (.int .i64 0) (.int .i64 0) (.bool false) (.slice none 0 0) (.int .i64 0) (.int .i64 0) (.slice none 0 0) (.int .i64 0) (.int .i64 0) (.slice none 0 0) (.int .i64 0)) (w.heap.size + 1 + 1) #[.int .i64 2] 38 := (putB_heap _ _ _ _ _ _ _ _ _ _ _ _ _ _ n6).trans B2
  have q9 : Qw w (((putB w2 w.heap.size (.int .i64 0) (.int .i64 0) (.bool false) (.slice none 0 0) (.int .i64 0) (.int .i64 0) (.slice none 0 0) (.int .i64 0) (.int .i64 0) (.slice none 0 0) (.int .i64 0)).setCell ⟨w.heap.size + 1, 0, none⟩ (.int .i64 (k : Int))).setCell ⟨w.heap.size + 1 + 1, 0, none⟩ (.int .i64 2)) := (q8.setCell (p := ⟨w.heap.size + 1, 0, none⟩) (by show w.heap.size ≤ w.heap.size + 1; omega) _).setCell (p := ⟨w.heap.size + 1 + 1, 0, none⟩) (by show w.heap.size ≤ w.heap.size + 1 + 1; omega) _
  exact lnDone rfl rfl rfl ((G0.other n1 _).other n2 _).drew ((G1.set 0 _).other n3 _).drew (Bx.set (G2.other n4 _) 0 _).drew (zbB _ _) (Below.drew q9)
theorem sz_line (s : ByteArray) (hs : s.size ≤ 1000000) (w : World) (hT : Tn w) (hO : Ow w) : Calls Tryz.prog 9 #[.string s] w (LnP w (Sy.lnR s.data.toList)) := by
  by_cases h : s.size ≤ 65536
  · cases e : Lx.lx s.data.toList 0 with
    | ok ts => exact sz_go s h w hT hO ts e
    | bad k => exact sz_err s h w hT k e
  · have e : Sy.lnR s.data.toList = (Sy.zb, 0, 10) := by unfold Sy.lnR; rw [if_pos (by rw [size_len]; omega)]
    rw [e]
    exact sz_long s (by omega) hs w
end Go.Proofs.YtciglhecjkeogaaGreatDoor

