import Derived.Test.YtbcbnkapipimmaaGreatDoorZRg0
import Derived.Test.YtbcbnkapipimmaaGreatDoorZRg4
import Derived.Deep.RegionWith
import Derived.Deep.LoopGhost
set_option linter.unusedVariables false
set_option linter.unusedSimpArgs false
namespace Go.Proofs.YtbcbnkapipimmaaGreatDoor
open Go.RowKit
inductive KidsB (w : World) (S : Nat → Prop) : Option Addr → Nat → List Sy.Ex → Prop where
  | nl (a : Option Addr) (cap : Nat) (h : cap ≤ 9223372036854775807) : KidsB w S a cap []
  | mk (b off cap : Nat) (ks : List Sy.Ex) (ad : Nat → Option Addr) (cc : Nat → Nat) (hS : S b) (h1 : ks.length ≤ cap) (h2 : cap ≤ 9223372036854775807)
    (hc : ∀ i (h : i < ks.length), w.cell? ⟨b, off + i * 3, none⟩ = some (.int .i64 ks[i].op) ∧ w.cell? ⟨b, off + i * 3 + 1, none⟩ = some (.int .i64 ks[i].n) ∧ w.cell? ⟨b, off + i * 3 + 2, none⟩ = some (.slice (ad i) ks[i].ks.length (cc i)))
    (hk : ∀ i (h : i < ks.length), KidsB w S (ad i) (cc i) ks[i].ks) : KidsB w S (some ⟨b, off, none⟩) cap ks
theorem KidsB.cap {w : World} {S : Nat → Prop} {a : Option Addr} {cap : Nat} {ks : List Sy.Ex} (h : KidsB w S a cap ks) : ks.length ≤ cap ∧ cap ≤ 9223372036854775807 := by
  cases h with
  | nl a cap h => exact ⟨Nat.zero_le _, h⟩
  | mk b off cap ks ad cc hS h1 h2 hc hk => exact ⟨h1, h2⟩
theorem cell_lt {w : World} {b o : Nat} {v : Value} (h : w.cell? ⟨b, o, none⟩ = some v) : b < w.heap.size := by
  rcases Nat.lt_or_ge b w.heap.size with g | g
  · exact g
  · simp [World.cell?, Array.getElem?_eq_none g] at h
theorem KidsB.go {w w' : World} {S T : Nat → Prop} (hb : ∀ b, S b → b < w.heap.size → w'.heap[b]? = w.heap[b]? ∧ T b) {a : Option Addr} {cap : Nat} {ks : List Sy.Ex} (h : KidsB w S a cap ks) : KidsB w' T a cap ks := by
  induction h with
  | nl a cap h => exact .nl a cap h
  | mk b off cap ks ad cc hS h1 h2 hc hk ih =>
    by_cases h0 : ks = []
    · subst h0; exact .nl _ _ h2
    have g := cell_lt (hc 0 (by cases ks with | nil => exact absurd rfl h0 | cons _ _ => simp)).1
    refine .mk b off cap ks ad cc (hb b hS g).2 h1 h2 (fun i hi => ?_) ih
    have k : ∀ o, w'.cell? ⟨b, o, none⟩ = w.cell? ⟨b, o, none⟩ := fun o => World.cell?_of_block (w := w) (hb b hS g).1
    rw [k, k, k]
    exact hc i hi
theorem KidsB.kept {w w' : World} {S : Nat → Prop} {a : Option Addr} {cap : Nat} {ks : List Sy.Ex} (h : KidsB w S a cap ks) (q : Qw w w') : KidsB w' S a cap ks := h.go fun b hS hb => ⟨q.block b hb, hS⟩
theorem KidsB.px {w w' : World} {P : Nat} {S : Nat → Prop} {a : Option Addr} {cap : Nat} {ks : List Sy.Ex} (h : KidsB w S a cap ks) (hS : ∀ b, S b → b ≠ P) (q : Px P w w') : KidsB w' S a cap ks := h.go fun b h hb => ⟨q.block b hb (hS b h), h⟩
theorem KidsB.mono {w : World} {S T : Nat → Prop} {a : Option Addr} {cap : Nat} {ks : List Sy.Ex} (h : KidsB w S a cap ks) (hT : ∀ b, S b → T b) : KidsB w T a cap ks := h.go fun b hS _ => ⟨rfl, hT b hS⟩
theorem KidsB.set {w : World} {S : Nat → Prop} {a : Option Addr} {cap : Nat} {ks : List Sy.Ex} (h : KidsB w S a cap ks) {p : Addr} (hp : ¬ S p.block) (u : Value) : KidsB (w.setCell p u) S a cap ks :=
  h.go fun b hS hb => ⟨Below.heap_setCell _ _ _ _ (fun e => hp (e ▸ hS)), hS⟩
theorem KidsB.one {w : World} {S : Nat → Prop} {G : Nat} {x : Sy.Ex} {t : TypeId} {ka : Option Addr} {kc : Nat} (X : Bx w G #[.int .i64 x.op, .int .i64 x.n, .slice ka x.ks.length kc] t) (hS : S G) (h : KidsB w S ka kc x.ks) : KidsB w S (some ⟨G, 0, none⟩) 1 [x] := by
  refine .mk G 0 1 [x] (fun _ => ka) (fun _ => kc) hS (Nat.le_refl _) (by decide) (fun i hi => ?_) (fun i hi => ?_)
  · obtain rfl : i = 0 := by simp at hi; exact hi
    exact ⟨X.cell' 0 _ rfl, X.cell' 1 _ rfl, X.cell' 2 _ rfl⟩
  · obtain rfl : i = 0 := by simp at hi; exact hi
    exact h
theorem KidsB.two {w : World} {S : Nat → Prop} {G : Nat} {x y : Sy.Ex} {t : TypeId} {ka kb : Option Addr} {kc kd : Nat} (X : Bx w G #[.int .i64 x.op, .int .i64 x.n, .slice ka x.ks.length kc, .int .i64 y.op, .int .i64 y.n, .slice kb y.ks.length kd] t) (hS : S G)
    (h : KidsB w S ka kc x.ks) (h' : KidsB w S kb kd y.ks) : KidsB w S (some ⟨G, 0, none⟩) 2 [x, y] := by
  refine .mk G 0 2 [x, y] (fun i => if i = 0 then ka else kb) (fun i => if i = 0 then kc else kd) hS (Nat.le_refl _) (by decide) (fun i hi => ?_) (fun i hi => ?_)
  · have : i = 0 ∨ i = 1 := by simp at hi; omega
    rcases this with rfl | rfl
    · exact ⟨X.cell' 0 _ rfl, X.cell' 1 _ rfl, X.cell' 2 _ rfl⟩
    · exact ⟨X.cell' 3 _ rfl, X.cell' 4 _ rfl, X.cell' 5 _ rfl⟩
  · have : i = 0 ∨ i = 1 := by simp at hi; omega
    rcases this with rfl | rfl
    · exact h
    · exact h'
def POk (P : Nat) (a : Option Addr) (cap : Nat) (ts : List Lx.Tok) (len : Nat) (w : World) (x : Sy.Ex) (j : Nat) (e : Ending) (w' : World) : Prop :=
  ∃ ka kc, e = .returned (.agg #[.int .i64 x.op, .int .i64 x.n, .slice ka x.ks.length kc]) ∧ KidsB w' (fun b => w.heap.size ≤ b) ka kc x.ks ∧ Par w' P a cap ts len j ∧ Px P w w'
def PBad (P : Nat) (ts : List Lx.Tok) (len : Nat) (w : World) (j : Nat) (e : Ending) (w' : World) : Prop := e = .panicked (failP (Sy.tp ts len j) 2) ∧ Px P w w'
def PR (P : Nat) (a : Option Addr) (cap : Nat) (ts : List Lx.Tok) (len : Nat) (w : World) (r : Sy.Rs Sy.Ex) (e : Ending) (w' : World) : Prop := match r with
  | .ok x j => POk P a cap ts len w x j e w'
  | .bad j => PBad P ts len w j e w'
theorem syCounts (n : Int) (m : Nat) (w : World) : Calls Tryz.prog 49 #[.int .i64 n, .int .i64 (m : Int)] w fun e w' => e = .returned (.bool (Sy.cnt n m)) ∧ w = w' := by
  have main : ∀ b, Sy.cnt n m = b → Calls Tryz.prog 49 #[.int .i64 n, .int .i64 (m : Int)] w fun e w' => e = .returned (.bool b) ∧ w = w' := by
    intro b hb
    unfold Sy.cnt at hb
    by_cases h1 : 1 ≤ n
    · by_cases h2 : n ≤ (m : Int)
      · obtain rfl : b = true := by rw [← hb]; simp [h1, h2]
        clear hb
        go_enter Tryz.func49, Tryz.ntmps49
        go_wp2
        go_ret
        exact ⟨rfl, rfl⟩
      · obtain rfl : b = false := by rw [← hb]; simp [h2]
        clear hb
        have h3 : (m : Int) < n := by omega
        go_enter Tryz.func49, Tryz.ntmps49
        go_wp2
        go_ret
        exact ⟨rfl, rfl⟩
    · obtain rfl : b = false := by rw [← hb]; simp [h1]
      clear hb
      go_enter Tryz.func49, Tryz.ntmps49
      go_wp2
      go_ret
      exact ⟨rfl, rfl⟩
  exact main _ rfl
theorem syIsWord (n : Int) (w : World) : Calls Tryz.prog 85 #[.int .i64 n] w fun e w' => e = .returned (.bool (Sy.isw n)) ∧ w = w' := by
  have main : ∀ b, Sy.isw n = b → Calls Tryz.prog 85 #[.int .i64 n] w fun e w' => e = .returned (.bool b) ∧ w = w' := by
    intro b hb
    unfold Sy.isw at hb
    by_cases h1 : 65 ≤ n
    · by_cases h2 : n ≤ 90
      · by_cases h3 : n = 78
        · obtain rfl : b = false := by rw [← hb]; simp [h3]
          subst h3
          clear hb
          go_enter Tryz.func85, Tryz.ntmps85
          go_wp2
          go_ret
          exact ⟨rfl, rfl⟩
        · by_cases h4 : n = 79
          · obtain rfl : b = false := by rw [← hb]; simp [h4]
            subst h4
            clear hb
            go_enter Tryz.func85, Tryz.ntmps85
            go_wp2
            go_ret
            exact ⟨rfl, rfl⟩
          · obtain rfl : b = true := by rw [← hb]; simp [h1, h2, h3, h4]
            have b3 : (n != 78) = true := by simpa using h3
            have b4 : (n != 79) = true := by simpa using h4
            clear hb
            go_enter Tryz.func85, Tryz.ntmps85
            go_wp2
            go_ret
            exact ⟨rfl, rfl⟩
      · obtain rfl : b = false := by rw [← hb]; simp [h2]
        clear hb
        go_enter Tryz.func85, Tryz.ntmps85
        go_wp2
        go_ret
        exact ⟨rfl, rfl⟩
    · obtain rfl : b = false := by rw [← hb]; simp [h1]
      clear hb
      go_enter Tryz.func85, Tryz.ntmps85
      go_wp2
      go_ret
      exact ⟨rfl, rfl⟩
  exact main _ rfl
theorem syLetterY {w : World} {P : Nat} {a : Option Addr} {cap : Nat} {ts : List Lx.Tok} {len i : Nat} (h : Par w P a cap ts len i) (c : Int) (hk : Sy.kd ts i = 1) (hn : Sy.tn ts i = c) :
    Calls Tryz.prog 77 #[.pointer (some ⟨P, 0, none⟩), .int .i64 c] w fun e w' => e = .returned (.bool true) ∧ Par w' P a cap ts len (i + 1) ∧ Px P w w' := by
  have hi := Sy.kd_lt hk (by decide)
  have hl := h.hl
  have H := Lib.hid h
  have e1 : Hid (((i + 1 : Nat) : Int) = (i : Int) + 1) := Lib.hid (by omega)
  have hv : tokV ts len i = .agg #[.int .i64 1, .int .i64 c, .int .i64 (Sy.tp ts len i : Nat), .string (bs (Sy.tx ts i))] := by unfold tokV; rw [hk, hn]
  replace hv := Lib.hid hv
  clear h hk hn
  have q0 : Hid (Qw w w) := Lib.hid (Qw.refl w)
  go_enter Tryz.func77, Tryz.ntmps77
  go_wp2_with (go_at_call 109; ((with_reducible refine (syNext (H.out.kept Qz)).mono ?_); rintro e w' ⟨rfl, q⟩; rw [hv.out]; have p1 : w'.cell? ⟨P, 1, none⟩ = some (.int .i64 (i : Int)) := (H.out.kept q).bx.cell' 1 _ rfl; have p2 := (H.out.kept q).bx.free 1; have pl := (H.out.kept q).bx.lt; replace q0 : Hid (Qw w w') := Lib.hid (Qw.trans Qz q); clear q))
  go_ret
  refine ⟨rfl, Par.kept (w := w'.setCell ⟨P, 1, none⟩ (.int .i64 ((i : Int) + 1))) ?_ ((Below.refl _ _).alloc (Nat.le_refl _) _), Pz⟩
  have := ((H.out.kept q0.out).set (i + 1) hi)
  rw [e1.out] at this; exact this
theorem syLetterN {w : World} {P : Nat} {a : Option Addr} {cap : Nat} {ts : List Lx.Tok} {len i : Nat} (h : Par w P a cap ts len i) (c : Int) (hk : Sy.kd ts i ≠ 1 ∨ Sy.tn ts i ≠ c) :
    Calls Tryz.prog 77 #[.pointer (some ⟨P, 0, none⟩), .int .i64 c] w fun e w' => e = .returned (.bool false) ∧ Qw w w' := by
  have H := Lib.hid h
  have hv : Hid (tokV ts len i = .agg #[.int .i64 (Sy.kd ts i), .int .i64 (Sy.tn ts i), .int .i64 (Sy.tp ts len i : Nat), .string (bs (Sy.tx ts i))]) := Lib.hid rfl
  clear h
  have q0 : Hid (Qw w w) := Lib.hid (Qw.refl w)
  generalize Sy.kd ts i = k at *
  generalize Sy.tn ts i = n at *
  by_cases h1 : k = 1
  · have h2 : n ≠ c := by omega
    have b2 : (n != c) = true := by simpa using h2
    subst h1
    clear hk h2
    go_enter Tryz.func77, Tryz.ntmps77
    go_wp2_with (go_at_call 109; ((with_reducible refine (syNext (H.out.kept Qz)).mono ?_); rintro e w' ⟨rfl, q⟩; rw [hv.out]; replace q0 : Hid (Qw w w') := Lib.hid (Qw.trans Qz q); clear q))
    go_ret
    exact ⟨rfl, Qz⟩
  · have b2 : (k != 1) = true := by simpa using h1
    clear hk h1
    go_enter Tryz.func77, Tryz.ntmps77
    go_wp2_with (go_at_call 109; ((with_reducible refine (syNext (H.out.kept Qz)).mono ?_); rintro e w' ⟨rfl, q⟩; rw [hv.out]; replace q0 : Hid (Qw w w') := Lib.hid (Qw.trans Qz q); clear q))
    go_ret
    exact ⟨rfl, Qz⟩
theorem syWholeY {w : World} {P : Nat} {a : Option Addr} {cap : Nat} {ts : List Lx.Tok} {len i : Nat} (h : Par w P a cap ts len i) (m : Nat) (hk : Sy.kd ts i = 2) (ho : whole (Sy.tn ts i) = true) (hc : Sy.cnt (wholev (Sy.tn ts i)) m = true) :
    Calls Tryz.prog 110 #[.pointer (some ⟨P, 0, none⟩), .int .i64 (m : Int)] w fun e w' => e = .returned (.int .i64 (wholev (Sy.tn ts i))) ∧ Par w' P a cap ts len (i + 1) ∧ Px P w w' := by
  have hi := Sy.kd_lt hk (by decide)
  have hl := h.hl
  have H := Lib.hid h
  have e1 : Hid (((i + 1 : Nat) : Int) = (i : Int) + 1) := Lib.hid (by omega)
  have hv : tokV ts len i = .agg #[.int .i64 2, .int .i64 (Sy.tn ts i), .int .i64 (Sy.tp ts len i : Nat), .string (bs (Sy.tx ts i))] := by unfold tokV; rw [hk]
  replace hv := Lib.hid hv
  have fw := fun w => fxWhole (Sy.tn ts i) w
  rw [ho] at fw
  have fc := fun w => syCounts (wholev (Sy.tn ts i)) m w
  rw [hc] at fc
  generalize wholev (Sy.tn ts i) = V at *
  generalize Sy.tn ts i = n at *
  replace fw := Lib.hid fw
  replace fc := Lib.hid fc
  clear h hk ho hc
  have q0 : Hid (Qw w w) := Lib.hid (Qw.refl w)
  go_enter Tryz.func110, Tryz.ntmps110
  go_wp2_with (first | (go_at_call 109; ((with_reducible refine (syNext (H.out.kept Qz)).mono ?_); rintro e w' ⟨rfl, q⟩; rw [hv.out]; have p1 : w'.cell? ⟨P, 1, none⟩ = some (.int .i64 (i : Int)) := (H.out.kept q).bx.cell' 1 _ rfl; have p2 := (H.out.kept q).bx.free 1; have pl := (H.out.kept q).bx.lt; replace q0 : Hid (Qw w w') := Lib.hid (Qw.trans Qz q); clear q)) | (go_at_call 143; ((with_reducible refine (fw.out _).mono ?_); rintro e w' ⟨rfl, rfl⟩)) | (go_at_call 49; ((with_reducible refine (fc.out _).mono ?_); rintro e w' ⟨rfl, rfl⟩)))
  go_ret
  refine ⟨rfl, Par.kept (w := w'.setCell ⟨P, 1, none⟩ (.int .i64 ((i : Int) + 1))) ?_ ((Below.refl _ _).alloc (Nat.le_refl _) _), Pz⟩
  have := ((H.out.kept q0.out).set (i + 1) hi)
  rw [e1.out] at this; exact this
theorem syWholeN {w : World} {P : Nat} {a : Option Addr} {cap : Nat} {ts : List Lx.Tok} {len i : Nat} (h : Par w P a cap ts len i) (m : Nat) (hk : Sy.kd ts i ≠ 2 ∨ whole (Sy.tn ts i) = false ∨ Sy.cnt (wholev (Sy.tn ts i)) m = false) :
    Calls Tryz.prog 110 #[.pointer (some ⟨P, 0, none⟩), .int .i64 (m : Int)] w fun e w' => e = .panicked (failP (Sy.tp ts len i) 2) ∧ Qw w w' := by
  have H := Lib.hid h
  have hv : Hid (tokV ts len i = .agg #[.int .i64 (Sy.kd ts i), .int .i64 (Sy.tn ts i), .int .i64 (Sy.tp ts len i : Nat), .string (bs (Sy.tx ts i))]) := Lib.hid rfl
  have fw := fun w => fxWhole (Sy.tn ts i) w
  have fc := fun w => syCounts (wholev (Sy.tn ts i)) m w
  clear h
  have q0 : Hid (Qw w w) := Lib.hid (Qw.refl w)
  generalize Sy.kd ts i = k at *
  by_cases h1 : k = 2
  · replace hk : whole (Sy.tn ts i) = false ∨ Sy.cnt (wholev (Sy.tn ts i)) m = false := hk.resolve_left (fun h => h h1)
    subst h1
    cases ho : whole (Sy.tn ts i)
    · rw [ho] at fw
      generalize wholev (Sy.tn ts i) = V at *
      generalize Sy.tn ts i = n at *
      replace fw := Lib.hid fw
      clear fc hk ho
      go_enter Tryz.func110, Tryz.ntmps110
      go_wp2_with (first | (go_at_call 109; ((with_reducible refine (syNext (H.out.kept Qz)).mono ?_); rintro e w' ⟨rfl, q⟩; rw [hv.out]; replace q0 : Hid (Qw w w') := Lib.hid (Qw.trans Qz q); clear q)) | (go_at_call 143; ((with_reducible refine (fw.out _).mono ?_); rintro e w' ⟨rfl, rfl⟩)) | (go_at_call 80; ((with_reducible refine (syUnexpected (H.out.kept Qz)).mono ?_); rintro e w' ⟨rfl, q⟩; replace q0 : Hid (Qw w w') := Lib.hid (Qw.trans Qz q); clear q)))
      exact ⟨rfl, rfl, q0.out⟩
    · have hc := hk.resolve_left (by rw [ho]; decide)
      rw [ho] at fw
      rw [hc] at fc
      generalize wholev (Sy.tn ts i) = V at *
      generalize Sy.tn ts i = n at *
      replace fw := Lib.hid fw
      replace fc := Lib.hid fc
      clear hk ho hc
      go_enter Tryz.func110, Tryz.ntmps110
      go_wp2_with (first | (go_at_call 109; ((with_reducible refine (syNext (H.out.kept Qz)).mono ?_); rintro e w' ⟨rfl, q⟩; rw [hv.out]; replace q0 : Hid (Qw w w') := Lib.hid (Qw.trans Qz q); clear q)) | (go_at_call 143; ((with_reducible refine (fw.out _).mono ?_); rintro e w' ⟨rfl, rfl⟩)) | (go_at_call 49; ((with_reducible refine (fc.out _).mono ?_); rintro e w' ⟨rfl, rfl⟩)) | (go_at_call 80; ((with_reducible refine (syUnexpected (H.out.kept Qz)).mono ?_); rintro e w' ⟨rfl, q⟩; replace q0 : Hid (Qw w w') := Lib.hid (Qw.trans Qz q); clear q)))
      exact ⟨rfl, rfl, q0.out⟩
  · have b2 : (k != 2) = true := by simpa using h1
    clear hk h1 fc
    generalize whole (Sy.tn ts i) = b at *
    generalize wholev (Sy.tn ts i) = V at *
    generalize Sy.tn ts i = n at *
    replace fw := Lib.hid fw
    go_enter Tryz.func110, Tryz.ntmps110
    go_wp2_with (first | (go_at_call 109; ((with_reducible refine (syNext (H.out.kept Qz)).mono ?_); rintro e w' ⟨rfl, q⟩; rw [hv.out]; replace q0 : Hid (Qw w w') := Lib.hid (Qw.trans Qz q); clear q)) | (go_at_call 143; ((with_reducible refine (fw.out _).mono ?_); rintro e w' ⟨rfl, rfl⟩)) | (go_at_call 80; ((with_reducible refine (syUnexpected (H.out.kept Qz)).mono ?_); rintro e w' ⟨rfl, q⟩; replace q0 : Hid (Qw w w') := Lib.hid (Qw.trans Qz q); clear q)))
    exact ⟨rfl, rfl, q0.out⟩
def PN (P : Nat) (a : Option Addr) (cap : Nat) (ts : List Lx.Tok) (len : Nat) (w : World) (r : Sy.Rs Int) (e : Ending) (w' : World) : Prop := match r with
  | .ok x j => e = .returned (.int .i64 x) ∧ Par w' P a cap ts len j ∧ Px P w w'
  | .bad j => PBad P ts len w j e w'
theorem syWhole {w : World} {P : Nat} {a : Option Addr} {cap : Nat} {ts : List Lx.Tok} {len i : Nat} (h : Par w P a cap ts len i) (hg : Sy.Good ts) (m : Nat) : Calls Tryz.prog 110 #[.pointer (some ⟨P, 0, none⟩), .int .i64 (m : Int)] w (PN P a cap ts len w (Sy.pN ts m i)) := by
  have key : (Sy.kd ts i = 2 ∧ Sy.isc (Sy.tn ts i) m = true) → (whole (Sy.tn ts i) = true ∧ wholev (Sy.tn ts i) = Sy.tn ts i / 1000000 ∧ Sy.cnt (wholev (Sy.tn ts i)) m = true) := by
    rintro ⟨h1, h2⟩
    have := Sy.num_ok hg h1
    unfold Sy.isc at h2
    simp only [Bool.and_eq_true, decide_eq_true_eq] at h2
    have hw : whole (Sy.tn ts i) = true := by unfold whole; rw [vld_t (by omega) (by omega), decide_eq_true h2.1.1]; rfl
    have hv : wholev (Sy.tn ts i) = Sy.tn ts i / 1000000 := by unfold wholev; rw [if_pos hw]
    exact ⟨hw, hv, by rw [hv]; unfold Sy.cnt; simp; omega⟩
  have key2 : ¬ (Sy.kd ts i = 2 ∧ Sy.isc (Sy.tn ts i) m = true) → (Sy.kd ts i ≠ 2 ∨ whole (Sy.tn ts i) = false ∨ Sy.cnt (wholev (Sy.tn ts i)) m = false) := by
    intro h1
    by_cases h2 : Sy.kd ts i = 2
    · right
      cases hw : whole (Sy.tn ts i)
      · exact .inl rfl
      · right
        have hv : wholev (Sy.tn ts i) = Sy.tn ts i / 1000000 := by unfold wholev; rw [if_pos hw]
        cases hc : Sy.cnt (wholev (Sy.tn ts i)) m
        · rfl
        · exfalso
          refine h1 ⟨h2, ?_⟩
          rw [hv] at hc
          unfold whole at hw
          unfold Sy.cnt at hc
          unfold Sy.isc
          simp at hw hc ⊢
          omega
    · exact .inl h2
  by_cases hy : Sy.kd ts i = 2 ∧ Sy.isc (Sy.tn ts i) m = true
  · obtain ⟨h1, h2, h3⟩ := key hy
    unfold Sy.pN
    rw [if_pos hy]
    refine (syWholeY h m hy.1 h1 h3).mono ?_
    rintro e w' ⟨rfl, hp, hq⟩
    exact ⟨by rw [h2], hp, hq⟩
  · unfold Sy.pN
    rw [if_neg hy]
    refine (syWholeN h m (key2 hy)).mono ?_
    rintro e w' ⟨rfl, hq⟩
    exact ⟨rfl, Px.of hq⟩
end Go.Proofs.YtbcbnkapipimmaaGreatDoor
set_option linter.unusedVariables false
set_option linter.unusedSimpArgs false
namespace Go.Proofs.YtbcbnkapipimmaaGreatDoor
open Go.RowKit
theorem fop_step {x : List UInt8} {lo k n : Nat} (h1 : lo ≤ n) (h2 : n < lo + k) : Sy.fop x n (lo + k - n) = if x = Sy.onm n then some n else Sy.fop x (n + 1) (lo + k - (n + 1)) := by
  rw [show lo + k - n = (lo + k - (n + 1)) + 1 by omega, Sy.fop]
def PO (P : Nat) (a : Option Addr) (cap : Nat) (ts : List Lx.Tok) (len i : Nat) (w : World) (r : Option Nat) (e : Ending) (w' : World) : Prop := match r with
  | some o => e = .returned (.tuple #[.int .i64 (o : Int), .bool true]) ∧ Par w' P a cap ts len (i + 1) ∧ Px P w w'
  | none => e = .returned (.tuple #[.int .i64 0, .bool false]) ∧ Qw w w'
set_option maxRecDepth 100000 in
set_option maxHeartbeats 4000000 in
theorem syOperator {w : World} {P : Nat} {a : Option Addr} {cap : Nat} {ts : List Lx.Tok} {len i : Nat} (h : Par w P a cap ts len i) (lo k : Nat) (h1 : 1 ≤ lo) (h2 : lo + k ≤ 26) :
    Calls Tryz.prog 180 #[.pointer (some ⟨P, 0, none⟩), .int .i64 (lo : Int), .int .i64 ((lo + k - 1 : Nat) : Int)] w (PO P a cap ts len i w (Sy.fop (Sy.tx ts i) lo k)) := by
  have H := Lib.hid h
  clear h
  obtain ⟨last, hlast⟩ : ∃ last : Nat, lo + k = last + 1 := ⟨lo + k - 1, by omega⟩
  have e0 : lo + k - 1 = last := by omega
  rw [e0]
  have hl26 : last < 26 := by omega
  have R0 : Hid (Sy.fop (Sy.tx ts i) lo k = Sy.fop (Sy.tx ts i) lo (lo + k - lo)) := Lib.hid (by rw [Nat.add_sub_cancel_left])
  have LK := Lib.hid hlast
  have hlo : lo ≤ last + 1 := by omega
  clear e0 hlast h2
  go_enter Tryz.func180, Tryz.ntmps180
  go_wp2
  go_loopw [8] (fun ov wr => ∃ n : Nat, lo ≤ n ∧ n ≤ last + 1 ∧ ov = .int .i64 (n : Int) ∧ Hid (Sy.fop (Sy.tx ts i) lo k = Sy.fop (Sy.tx ts i) n (lo + k - n)) ∧ Qw w wr) (fun ov _ => last + 1 - (intOf ov).toNat)
  case atStart => exact ⟨lo, Nat.le_refl _, hlo, rfl, R0, Qw.refl w⟩
  case round =>
    obtain ⟨n, hn1, hn2, rfl, hR, hQ⟩ := hrel
    by_cases hlt : n ≤ last
    · have hO := ((H.out.kept hQ).ow.2 n (by omega)).1
      have hin : (n : Int) ≤ (last : Int) := by omega
      have hin2 : (n : Int) < 26 := by omega
      have q0 := Lib.hid hQ
      clear hQ
      have hlk := LK.out
      rw [fop_step hn1 (by omega)] at hR
      have hne := Sy.onm_ne n (by omega) (by omega)
      by_cases hx : Sy.tx ts i = Sy.onm n
      · rw [if_pos hx] at hR
        have eq1 : Hid (Sy.fop (Sy.tx ts i) lo k = some n) := hR
        have hx' : Hid (bs (Sy.onm n) = bs (Sy.tx ts i)) := Lib.hid (by rw [hx])
        have hne' : Hid (Sy.tx ts i ≠ []) := Lib.hid (by rw [hx]; exact hne)
        clear hR hx hne hlk
        go_wp2_with (go_at_call 76; ((with_reducible refine (syAcceptY (H.out.kept Qz) _ hx'.out hne'.out).mono ?_); rintro e w' ⟨rfl, hp, q⟩; replace hp := Lib.hid hp; have q1 : Hid (Px P w w') := Lib.hid (Px.trans (Px.of q0.out) q); clear q))
        go_ret2
        rw [eq1.out]
        exact ⟨rfl, hp.out, q1.out⟩
      · rw [if_neg hx] at hR
        have hx' : Hid (bs (Sy.onm n) ≠ bs (Sy.tx ts i)) := Lib.hid (fun h => hx (bs_inj.1 h).symm)
        clear hx hne hlk
        replace hR := Lib.hid hR
        go_wp2_with (go_at_call 76; ((with_reducible refine (syAcceptN (H.out.kept Qz) _ hx'.out).mono ?_); rintro e w' ⟨rfl, q⟩; replace q0 : Hid (Qw w w') := Lib.hid (Qw.trans q0.out q); clear q))
        go_roundw
        case rel => exact ⟨n + 1, by omega, by omega, by go_num, hR.out, q0.out⟩
        case measure => simp [intOf]; omega
    · obtain rfl : n = last + 1 := by omega
      have eq1 : Hid (Sy.fop (Sy.tx ts i) lo k = none) := Lib.hid (by
        have := hR.out
        rw [LK.out, Nat.sub_self] at this; exact this)
      have q0 := Lib.hid hQ
      have hb : ¬ ((last + 1 : Nat) : Int) ≤ (last : Int) := by omega
      clear hR hQ
      go_wp2
      go_ret2
      rw [eq1.out]
      exact ⟨rfl, q0.out⟩
set_option maxRecDepth 100000 in
set_option maxHeartbeats 4000000 in
theorem syFunction {w : World} {P : Nat} {a : Option Addr} {cap : Nat} {ts : List Lx.Tok} {len i : Nat} (h : Par w P a cap ts len i) :
    Calls Tryz.prog 191 #[.pointer (some ⟨P, 0, none⟩)] w (PO P a cap ts len i w (Sy.fun1 (Sy.tx ts i))) := by
  have c1 : ∀ (w : World), Par w P a cap ts len i → Calls Tryz.prog 180 #[.pointer (some ⟨P, 0, none⟩), .int .i64 8, .int .i64 10] w (PO P a cap ts len i w (Sy.fop (Sy.tx ts i) 8 3)) := fun w h => syOperator h 8 3 (by omega) (by omega)
  have c2 : ∀ (w : World), Par w P a cap ts len i → Calls Tryz.prog 180 #[.pointer (some ⟨P, 0, none⟩), .int .i64 12, .int .i64 16] w (PO P a cap ts len i w (Sy.fop (Sy.tx ts i) 12 5)) := fun w h => syOperator h 12 5 (by omega) (by omega)
  have H := Lib.hid h
  clear h
  unfold Sy.fun1
  cases e1 : Sy.fop (Sy.tx ts i) 8 3 with
  | some o =>
    rw [e1] at c1
    have C1 := Lib.hid c1
    clear c1 c2 e1
    go_enter Tryz.func191, Tryz.ntmps191
    go_wp2_with (go_at_call 180; ((with_reducible refine (C1.out _ (H.out.kept Qz)).mono ?_); rintro e w' ⟨rfl, hp, q⟩; replace hp := Lib.hid hp; replace q := Lib.hid q))
    go_ret2
    exact ⟨rfl, hp.out, q.out⟩
  | none =>
    rw [e1] at c1
    have C1 := Lib.hid c1
    clear c1 e1
    cases e2 : Sy.fop (Sy.tx ts i) 12 5 with
    | some o =>
      rw [e2] at c2
      have C2 := Lib.hid c2
      clear c2 e2
      have q0 : Hid (Qw w w) := Lib.hid (Qw.refl w)
      go_enter Tryz.func191, Tryz.ntmps191
      go_wp2_with (first | (go_at_call 180; ((with_reducible refine (C1.out _ (H.out.kept Qz)).mono ?_); rintro e w' ⟨rfl, q⟩; replace q0 : Hid (Qw w w') := Lib.hid (Qw.trans Qz q); clear q)) | (go_at_call 180; ((with_reducible refine (C2.out _ (H.out.kept Qz)).mono ?_); rintro e w' ⟨rfl, hp, q⟩; replace hp := Lib.hid hp; have q1 : Hid (Px P w w') := Lib.hid (Px.trans (Px.of q0.out) q); clear q)))
      go_ret2
      exact ⟨rfl, hp.out, q1.out⟩
    | none =>
      rw [e2] at c2
      have C2 := Lib.hid c2
      clear c2 e2
      have q0 : Hid (Qw w w) := Lib.hid (Qw.refl w)
      go_enter Tryz.func191, Tryz.ntmps191
      go_wp2_with (first | (go_at_call 180; ((with_reducible refine (C1.out _ (H.out.kept Qz)).mono ?_); rintro e w' ⟨rfl, q⟩; replace q0 : Hid (Qw w w') := Lib.hid (Qw.trans Qz q); clear q)) | (go_at_call 180; ((with_reducible refine (C2.out _ (H.out.kept Qz)).mono ?_); rintro e w' ⟨rfl, q⟩; replace q0 : Hid (Qw w w') := Lib.hid (Qw.trans Qz q); clear q)))
      go_ret2
      exact ⟨rfl, q0.out⟩
theorem syNode (o : Int) (a : Option Addr) (n cap : Nat) (w : World) : Calls Tryz.prog 167 #[.int .i64 o, .slice a n cap] w fun e w' => e = .returned (.agg #[.int .i64 o, .int .i64 0, .slice a n cap]) ∧ Qw w w' := by
  go_enter Tryz.func167, Tryz.ntmps167
  go_wp2
  refine bodyPost_ret (v := .agg #[.int .i64 o, .int .i64 0, .slice a n cap]) (by simp [results, Tryz.results167, go_sem]) rfl ⟨rfl, Qz⟩
end Go.Proofs.YtbcbnkapipimmaaGreatDoor
set_option linter.unusedVariables false
set_option linter.unusedSimpArgs false
namespace Go.Proofs.YtbcbnkapipimmaaGreatDoor
open Go.RowKit
def lvF : Nat → FuncId
  | 0 => 146
  | 1 => 169
  | 2 => 181
  | 3 => 187
  | 4 => 188
  | _ => 189
structure SyAll (P : Nat) (a : Option Addr) (cap : Nat) (ts : List Lx.Tok) (len f : Nat) : Prop where
  e : ∀ l i w, l ≤ 5 → Par w P a cap ts len i → Sy.need ts.length i l ≤ f → Calls Tryz.prog (lvF l) #[.pointer (some ⟨P, 0, none⟩)] w (PR P a cap ts len w (Sy.pE ts f l i))
  p : ∀ i w, Par w P a cap ts len i → 16 * (ts.length - i) + 3 ≤ f → Calls Tryz.prog 190 #[.pointer (some ⟨P, 0, none⟩)] w (PR P a cap ts len w (Sy.pP ts f i))
  c : ∀ i w, Par w P a cap ts len i → 16 * (ts.length - i) + 2 ≤ f → Calls Tryz.prog 145 #[.pointer (some ⟨P, 0, none⟩)] w (PR P a cap ts len w (Sy.pC ts f i))
  b : ∀ i w, Par w P a cap ts len i → 16 * (ts.length - i) + 1 ≤ f → Calls Tryz.prog 147 #[.pointer (some ⟨P, 0, none⟩)] w (PR P a cap ts len w (Sy.pB ts f i))
theorem Par.other {w : World} {P : Nat} {a : Option Addr} {cap : Nat} {ts : List Lx.Tok} {len i : Nat} (h : Par w P a cap ts len i) {b : Nat} (hb : P < b) (hg : 0 ≠ b) (o : Nat) (u : Value) : Par (w.setCell ⟨b, o, none⟩ u) P a cap ts len i :=
  ⟨h.bx.other (by show P ≠ b; omega) u, h.tk.kept ((Below.refl P w).setCell (p := ⟨b, o, none⟩) (by show P ≤ b; omega) u) (Nat.le_refl _), h.ow.cong (by simp [World.setCell]) (Below.heap_setCell _ _ _ _ hg), h.og, h.le, h.hl⟩
theorem Par.lt {w : World} {P : Nat} {a : Option Addr} {cap : Nat} {ts : List Lx.Tok} {len i : Nat} (h : Par w P a cap ts len i) : P < w.heap.size ∧ 0 < w.heap.size := ⟨h.bx.lt, h.ow.1⟩
theorem KidsB.alloc {w : World} {S : Nat → Prop} {a : Option Addr} {cap : Nat} {ks : List Sy.Ex} (h : KidsB w S a cap ks) (o : Obj) : KidsB (w.alloc o) S a cap ks := h.kept ((Below.refl _ _).alloc (Nat.le_refl _) _)
theorem dying {G : Prop} {P : Program} {w : World} (h : G) (k : wpAny P .any #[] (fun _ _ _ => True) 0 #[] { tmps := #[], defers := [] } w) : G := h
theorem KidsB.fresh {w : World} {S : Nat → Prop} {a : Option Addr} {cap : Nat} {ks : List Sy.Ex} (h : KidsB w S a cap ks) (o : Obj) : KidsB (w.alloc o) (fun b => S b ∧ b ≠ w.heap.size) a cap ks := h.go fun b hS hb => ⟨Below.heap_alloc _ _ _ hb, hS, by omega⟩
theorem Bx.drew {w : World} {b : Nat} {cs : Array Value} {t : TypeId} (h : Bx w b cs t) : Bx w.drew b cs t := h
theorem KidsB.drew {w : World} {S : Nat → Prop} {a : Option Addr} {cap : Nat} {ks : List Sy.Ex} (h : KidsB w S a cap ks) : KidsB w.drew S a cap ks := h.kept ((Below.refl _ _).drew)
theorem Par.drew {w : World} {P : Nat} {a : Option Addr} {cap : Nat} {ts : List Lx.Tok} {len i : Nat} (h : Par w P a cap ts len i) : Par w.drew P a cap ts len i := h.kept ((Below.refl _ _).drew)
def exZ : Array Value := #[.int .i64 0, .int .i64 0, .slice none 0 0]
theorem exEnd {w w' : World} {P : Nat} {a : Option Addr} {cap : Nat} {ts : List Lx.Tok} {len j : Nat} {x : Sy.Ex} {ka : Option Addr} {kc : Nat} {o n : Int} {l : Nat} (hP : P < w.heap.size) (hO : 0 < w.heap.size) (xo : x.op = o) (xn : x.n = n) (xl : x.ks.length = l)
    (R : Bx w' w.heap.size exZ 27) (K : KidsB w' (fun b => w.heap.size < b) ka kc x.ks) (H : Par w' P a cap ts len j) (q : Px P w w') :
    Bx (((w'.setCell ⟨w.heap.size, 0, none⟩ (.int .i64 o)).setCell ⟨w.heap.size, 1, none⟩ (.int .i64 n)).setCell ⟨w.heap.size, 2, none⟩ (.slice ka l kc)) w.heap.size #[.int .i64 o, .int .i64 n, .slice ka l kc] 27 ∧
    POk P a cap ts len w x j (.returned (.agg #[.int .i64 o, .int .i64 n, .slice ka l kc])) (((w'.setCell ⟨w.heap.size, 0, none⟩ (.int .i64 o)).setCell ⟨w.heap.size, 1, none⟩ (.int .i64 n)).setCell ⟨w.heap.size, 2, none⟩ (.slice ka l kc)) := by
  subst xo xn xl
  have n : ¬ w.heap.size < w.heap.size := Nat.lt_irrefl _
  refine ⟨((R.set 0 _).set 1 _).set 2 _, ka, kc, rfl, KidsB.mono (((K.set n _).set n _).set n _) (fun b hb => Nat.le_of_lt hb), ((H.other hP (by omega) _ _).other hP (by omega) _ _).other hP (by omega) _ _, ((q.setNew (Nat.le_refl _) _).setNew (Nat.le_refl _) _).setNew (Nat.le_refl _) _⟩
theorem exAl {w wf : World} {P : Nat} {a : Option Addr} {cap : Nat} {ts : List Lx.Tok} {len j : Nat} {x : Sy.Ex} {ka : Option Addr} {kc : Nat} {o n : Int} {l : Nat} (b : Obj)
    (h : Bx wf w.heap.size #[.int .i64 o, .int .i64 n, .slice ka l kc] 27 ∧ POk P a cap ts len w x j (.returned (.agg #[.int .i64 o, .int .i64 n, .slice ka l kc])) wf) :
    Bx (wf.alloc b) w.heap.size #[.int .i64 o, .int .i64 n, .slice ka l kc] 27 ∧ POk P a cap ts len w x j (.returned (.agg #[.int .i64 o, .int .i64 n, .slice ka l kc])) (wf.alloc b) := by
  obtain ⟨h1, ka', kc', e, k, hp, q⟩ := h
  exact ⟨h1.alloc _, ka', kc', e, k.alloc _, hp.kept ((Below.refl _ _).alloc (Nat.le_refl _) _), q.alloc _⟩
theorem exRet {fn : Func} {s : Nat} {act : Act} {wf : World} {P : Nat} {a : Option Addr} {cap : Nat} {ts : List Lx.Tok} {len j : Nat} {w : World} {x : Sy.Ex} {ka : Option Addr} {kc : Nat} {o n : Int} {l : Nat} (hr : fn.results = #[.cell s 27]) (hs : act.tmps[s]?.getD undef = .pointer (some ⟨w.heap.size, 0, none⟩)) (hd : act.defers = [])
    (h : Bx wf w.heap.size #[.int .i64 o, .int .i64 n, .slice ka l kc] 27 ∧ POk P a cap ts len w x j (.returned (.agg #[.int .i64 o, .int .i64 n, .slice ka l kc])) wf) :
    bodyPost Tryz.prog fn (PR P a cap ts len w (.ok x j)) .ret act wf := bodyPost_ret (ret_ex hr hs h.1) hd h.2
set_option maxRecDepth 100000 in
set_option maxHeartbeats 4000000 in
theorem sy_bracketed {P : Nat} {a : Option Addr} {cap : Nat} {ts : List Lx.Tok} {len f : Nat} (A : SyAll P a cap ts len f) (i : Nat) (w : World) (h : Par w P a cap ts len i) (hf : 16 * (ts.length - i) + 1 ≤ f + 1) :
    Calls Tryz.prog 147 #[.pointer (some ⟨P, 0, none⟩)] w (PR P a cap ts len w (Sy.pB ts (f + 1) i)) := by
  obtain ⟨hP, hO⟩ := h.lt
  have hle := h.le
  have H := Lib.hid h
  clear h
  have R : Hid (Bx (w.alloc (.cells exZ 27)) w.heap.size exZ 27) := Lib.hid (Bx.new w _ _)
  rw [Sy.pB]
  by_cases hx : Sy.tx ts i = [91]
  · rw [if_pos hx]
    have hi := Sy.tx_lt hx (by decide)
    have x1 : Hid ((⟨#[91]⟩ : ByteArray) = bs (Sy.tx ts i)) := Lib.hid (by rw [hx]; rfl)
    have x2 : Hid (Sy.tx ts i ≠ []) := Lib.hid (by rw [hx]; decide)
    have c1 : ∀ w, Par w P a cap ts len (i + 1) → Calls Tryz.prog 146 #[.pointer (some ⟨P, 0, none⟩)] w (PR P a cap ts len w (Sy.pE ts f 0 (i + 1))) := fun w h => A.e 0 (i + 1) w (by omega) h (by unfold Sy.need; omega)
    clear hx
    cases e1 : Sy.pE ts f 0 (i + 1) with
    | bad j =>
      rw [e1] at c1
      have C1 := Lib.hid c1
      clear c1 e1
      have q0 : Hid (Px P w w) := Lib.hid (Px.refl P w)
      go_enter Tryz.func147, Tryz.ntmps147
      go_wp2_with (first | (go_at_call 144; ((with_reducible refine (syExpectY (H.out.kept Qz) _ x1.out x2.out).mono ?_); rintro e w' ⟨rfl, hp, q⟩; have pw := (Par.lt hp).1; skip; replace H := Lib.hid hp; clear hp; replace q0 : Hid (Px P w w') := Lib.hid (Px.trans Pz q); clear q)) | (go_at_call 146; ((with_reducible refine (C1.out _ (H.out.kept Qz)).mono ?_); rintro e w' ⟨rfl, q⟩; replace q0 : Hid (Px P w w') := Lib.hid (Px.trans Pz q); clear q)))
      exact ⟨rfl, rfl, q0.out⟩
    | ok x j =>
      rw [e1] at c1
      have C1 := Lib.hid c1
      clear c1 e1
      unfold Sy.shut
      simp only
      by_cases hx : Sy.tx ts j = [93]
      · rw [if_pos hx]
        have y1 : Hid ((⟨#[93]⟩ : ByteArray) = bs (Sy.tx ts j)) := Lib.hid (by rw [hx]; rfl)
        have y2 : Hid (Sy.tx ts j ≠ []) := Lib.hid (by rw [hx]; decide)
        clear hx
        have q0 : Hid (Px P w w) := Lib.hid (Px.refl P w)
        go_enter Tryz.func147, Tryz.ntmps147
        go_wp2_with (first | (go_at_call 144; ((with_reducible refine (syExpectY (H.out.kept Qz) _ x1.out x2.out).mono ?_); rintro e w' ⟨rfl, hp, q⟩; have pw := (Par.lt hp).1; replace R : Hid (Bx w' w.heap.size exZ 27) := Lib.hid (Bx.px (by repeat (first | exact R.out | refine Bx.alloc ?_ _ | refine Bx.drew ?_)) q (by omega)); replace H := Lib.hid hp; clear hp; replace q0 : Hid (Px P w w') := Lib.hid (Px.trans Pz q); clear q)) | (go_at_call 146; ((with_reducible refine (C1.out _ (H.out.kept Qz)).mono ?_); rintro e w' ⟨ka, kc, rfl, k, hp, q⟩; have pw := (Par.lt hp).1; have K : Hid (KidsB w' (fun b => w.heap.size < b) ka kc (Sy.Ex.ks x)) := Lib.hid (KidsB.mono k (fun b hb => Nat.lt_of_lt_of_le (Bx.lt (by repeat (first | exact R.out | refine Bx.alloc ?_ _ | refine Bx.drew ?_))) hb)); clear k; replace R : Hid (Bx w' w.heap.size exZ 27) := Lib.hid (Bx.px (by repeat (first | exact R.out | refine Bx.alloc ?_ _ | refine Bx.drew ?_)) q (by omega)); have X : Hid (Bx (w'.alloc (.cells #[.int .i64 x.op, .int .i64 x.n, .slice ka x.ks.length kc] 27)) w'.heap.size _ _) := Lib.hid (Bx.new w' _ _); replace H := Lib.hid hp; clear hp; replace q0 : Hid (Px P w w') := Lib.hid (Px.trans Pz q); clear q)) | (go_at_call 144; ((with_reducible refine (syExpectY (H.out.kept Qz) _ y1.out y2.out).mono ?_); rintro e w' ⟨rfl, hp, q⟩; have pw := (Par.lt hp).1; replace R : Hid (Bx w' w.heap.size exZ 27) := Lib.hid (Bx.px (by repeat (first | exact R.out | refine Bx.alloc ?_ _ | refine Bx.drew ?_)) q (by omega)); have rl := R.out.lt; have r0 := R.out.cell' 0 _ rfl; have r1 := R.out.cell' 1 _ rfl; have r2 := R.out.cell' 2 _ rfl; have s0 := R.out.free 0; have s1 := R.out.free 1; have s2 := R.out.free 2; replace K : Hid (KidsB w' (fun b => w.heap.size < b) ka kc x.ks) := Lib.hid (KidsB.px (by repeat (first | exact K.out | refine KidsB.alloc ?_ _ | refine KidsB.drew ?_)) (fun b hb => by omega) q); have X2 := Bx.px X.out q (by omega); have z0 := X2.cell' 0 _ rfl; have z1 := X2.cell' 1 _ rfl; have z2 := X2.cell' 2 _ rfl; replace H := Lib.hid hp; clear hp; replace q0 : Hid (Px P w w') := Lib.hid (Px.trans Pz q); clear q)))
        exact exRet Tryz.results147 rfl rfl (exEnd hP hO rfl rfl rfl R.out K.out H.out q0.out)
      · rw [if_neg hx]
        have y1 : Hid ((⟨#[93]⟩ : ByteArray) ≠ bs (Sy.tx ts j)) := Lib.hid (fun h => hx (bs_inj.1 (show bs [93] = _ from h)).symm)
        clear hx
        have q0 : Hid (Px P w w) := Lib.hid (Px.refl P w)
        go_enter Tryz.func147, Tryz.ntmps147
        go_wp2_with (first | (go_at_call 144; ((with_reducible refine (syExpectY (H.out.kept Qz) _ x1.out x2.out).mono ?_); rintro e w' ⟨rfl, hp, q⟩; have pw := (Par.lt hp).1; replace R : Hid (Bx w' w.heap.size exZ 27) := Lib.hid (Bx.px (by repeat (first | exact R.out | refine Bx.alloc ?_ _ | refine Bx.drew ?_)) q (by omega)); replace H := Lib.hid hp; clear hp; replace q0 : Hid (Px P w w') := Lib.hid (Px.trans Pz q); clear q)) | (go_at_call 146; ((with_reducible refine (C1.out _ (H.out.kept Qz)).mono ?_); rintro e w' ⟨ka, kc, rfl, k, hp, q⟩; have pw := (Par.lt hp).1; have K : Hid (KidsB w' (fun b => w.heap.size < b) ka kc (Sy.Ex.ks x)) := Lib.hid (KidsB.mono k (fun b hb => Nat.lt_of_lt_of_le (Bx.lt (by repeat (first | exact R.out | refine Bx.alloc ?_ _ | refine Bx.drew ?_))) hb)); clear k; replace R : Hid (Bx w' w.heap.size exZ 27) := Lib.hid (Bx.px (by repeat (first | exact R.out | refine Bx.alloc ?_ _ | refine Bx.drew ?_)) q (by omega)); replace H := Lib.hid hp; clear hp; replace q0 : Hid (Px P w w') := Lib.hid (Px.trans Pz q); clear q)) | (go_at_call 144; ((with_reducible refine (syExpectN (H.out.kept Qz) _ y1.out).mono ?_); rintro e w' ⟨rfl, q⟩; replace q0 : Hid (Px P w w') := Lib.hid (Px.trans Pz (Px.of q)); clear q)))
        exact ⟨rfl, rfl, q0.out⟩
  · rw [if_neg hx]
    have x1 : Hid ((⟨#[91]⟩ : ByteArray) ≠ bs (Sy.tx ts i)) := Lib.hid (fun h => hx (bs_inj.1 (show bs [91] = _ from h)).symm)
    clear hx
    have q0 : Hid (Px P w w) := Lib.hid (Px.refl P w)
    go_enter Tryz.func147, Tryz.ntmps147
    go_wp2_with (go_at_call 144; ((with_reducible refine (syExpectN (H.out.kept Qz) _ x1.out).mono ?_); rintro e w' ⟨rfl, q⟩; replace q0 : Hid (Px P w w') := Lib.hid (Px.trans Pz (Px.of q)); clear q))
    exact ⟨rfl, rfl, q0.out⟩
theorem Rz {w : World} {b : Nat} {cs : Array Value} {t : TypeId} (h : Bx w b cs t := by repeat (first | exact R.out | refine Bx.alloc ?_ _ | refine Bx.drew ?_)) : Bx w b cs t := h
end Go.Proofs.YtbcbnkapipimmaaGreatDoor

