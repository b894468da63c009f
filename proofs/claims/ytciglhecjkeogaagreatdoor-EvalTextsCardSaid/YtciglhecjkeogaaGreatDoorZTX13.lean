import Derived.Test.YtciglhecjkeogaaGreatDoorZTX3
import Derived.Test.YtciglhecjkeogaaGreatDoorZTX12
import Derived.Deep.RegionWith
import Derived.Deep.LoopGhost
import Derived.Lib.AppendZeros
import Derived.Laws.OwnMore
set_option linter.unusedVariables false
set_option linter.unusedSimpArgs false
namespace Go.Proofs.YtciglhecjkeogaaGreatDoor
open Go.RowKit
theorem fop_step {x : List UInt8} {lo k n : Nat} (h1 : lo ≤ n) (h2 : n < lo + k) : Sy.fop x n (lo + k - n) = if x = Sy.onm n then some n else Sy.fop x (n + 1) (lo + k - (n + 1)) := by
  rw [show lo + k - n = (lo + k - (n + 1)) + 1 by omega, Sy.fop]
def PO (P : Nat) (a : Option Addr) (cap : Nat) (ts : List Lx.Tok) (len i : Nat) (w : World) (r : Option Nat) (e : Ending) (w' : World) : Prop := match r with
  | some o => e = .returned (.tuple #[.int .i64 (o : Int), .bool true]) ∧ Par w' P a cap ts len (i + 1) ∧ Px P w w'
  | none => e = .returned (.tuple #[.int .i64 0, .bool false]) ∧ Qw w w'
set_option maxRecDepth 100000 in
set_option maxHeartbeats 4000000 in
theorem syOperator {w : World} {P : Nat} {a : Option Addr} {cap : Nat} {ts : List Lx.Tok} {len i : Nat} (h : Par w P a cap ts len i) (lo k : Nat) (h1 : 1 ≤ lo) (h2 : lo + k ≤ 26) :
    Calls Tryz.prog 135 #[.pointer (some ⟨P, 0, none⟩), .int .i64 (lo : Int), .int .i64 ((lo + k - 1 : Nat) : Int)] w (PO P a cap ts len i w (Sy.fop (Sy.tx ts i) lo k)) := by
  have H := Lib.hid h
  clear h
  obtain ⟨last, hlast⟩ : ∃ last : Nat, lo + k = last + 1 := ⟨lo + k - 1, by omega⟩
  have e0 : lo + k - 1 = last := by omega
  rw [e0]
  have hl26 : last < 26 := by omega
  have R0 : Hid (Sy.fop (Sy.tx ts i) lo k = Sy.fop (Sy.tx ts i) lo (lo + k - lo)) := Lib.hid (by rw [Nat.add_sub_cancel_left])
  have LK := Lib.hid hlast
  have hlo : lo ≤ last + 1 := by omega
  clear e0 hlast h2
  go_enter Tryz.func135, Tryz.ntmps135
  go_wp2
  go_loopw [8] (fun ov wr => ∃ n : Nat, lo ≤ n ∧ n ≤ last + 1 ∧ ov = .int .i64 (n : Int) ∧ Hid (Sy.fop (Sy.tx ts i) lo k = Sy.fop (Sy.tx ts i) n (lo + k - n)) ∧ Qw w wr) (fun ov _ => last + 1 - (intOf ov).toNat)
  case atStart => exact ⟨lo, Nat.le_refl _, hlo, rfl, R0, Qw.refl w⟩
  case round =>
    obtain ⟨n, hn1, hn2, rfl, hR, hQ⟩ := hrel
    by_cases hlt : n ≤ last
    · have hO := ((H.out.kept hQ).ow.2 n (by omega)).1
      have hin : (n : Int) ≤ (last : Int) := by omega
      have hin2 : (n : Int) < 26 := by omega
      have q0 := Lib.hid hQ
      clear hQ
      have hlk := LK.out
      rw [fop_step hn1 (by omega)] at hR
      have hne := Sy.onm_ne n (by omega) (by omega)
      by_cases hx : Sy.tx ts i = Sy.onm n
      · rw [if_pos hx] at hR
        have eq1 : Hid (Sy.fop (Sy.tx ts i) lo k = some n) := hR
        have hx' : Hid (bs (Sy.onm n) = bs (Sy.tx ts i)) := Lib.hid (by rw [hx])
        have hne' : Hid (Sy.tx ts i ≠ []) := Lib.hid (by rw [hx]; exact hne)
        clear hR hx hne hlk
        go_wp2_with (go_at_call 40; ((with_reducible refine (syAcceptY (H.out.kept Qz) _ hx'.out hne'.out).mono ?_); rintro e w' ⟨rfl, hp, q⟩; replace hp := Lib.hid hp; have q1 : Hid (Px P w w') := Lib.hid (Px.trans (Px.of q0.out) q); clear q))
        go_ret2
        rw [eq1.out]
        exact ⟨rfl, hp.out, q1.out⟩
      · rw [if_neg hx] at hR
        have hx' : Hid (bs (Sy.onm n) ≠ bs (Sy.tx ts i)) := Lib.hid (fun h => hx (bs_inj.1 h).symm)
        clear hx hne hlk
        replace hR := Lib.hid hR
        go_wp2_with (go_at_call 40; ((with_reducible refine (syAcceptN (H.out.kept Qz) _ hx'.out).mono ?_); rintro e w' ⟨rfl, q⟩; replace q0 : Hid (Qw w w') := Lib.hid (Qw.trans q0.out q); clear q))
        go_roundw
        case rel => exact ⟨n + 1, by omega, by omega, by go_num, hR.out, q0.out⟩
        case measure => simp [intOf]; omega
    · obtain rfl : n = last + 1 := by omega
      have eq1 : Hid (Sy.fop (Sy.tx ts i) lo k = none) := Lib.hid (by
        have := hR.out
        rw [LK.out, Nat.sub_self] at this; exact this)
      have q0 := Lib.hid hQ
      have hb : ¬ ((last + 1 : Nat) : Int) ≤ (last : Int) := by omega
      clear hR hQ
      go_wp2
      go_ret2
      rw [eq1.out]
      exact ⟨rfl, q0.out⟩
set_option maxRecDepth 100000 in
set_option maxHeartbeats 4000000 in
theorem syFunction {w : World} {P : Nat} {a : Option Addr} {cap : Nat} {ts : List Lx.Tok} {len i : Nat} (h : Par w P a cap ts len i) :
    Calls Tryz.prog 155 #[.pointer (some ⟨P, 0, none⟩)] w (PO P a cap ts len i w (Sy.fun1 (Sy.tx ts i))) := by
  have c1 : ∀ (w : World), Par w P a cap ts len i → Calls Tryz.prog 135 #[.pointer (some ⟨P, 0, none⟩), .int .i64 8, .int .i64 10] w (PO P a cap ts len i w (Sy.fop (Sy.tx ts i) 8 3)) := fun w h => syOperator h 8 3 (by omega) (by omega)
  have c2 : ∀ (w : World), Par w P a cap ts len i → Calls Tryz.prog 135 #[.pointer (some ⟨P, 0, none⟩), .int .i64 12, .int .i64 16] w (PO P a cap ts len i w (Sy.fop (Sy.tx ts i) 12 5)) := fun w h => syOperator h 12 5 (by omega) (by omega)
  have H := Lib.hid h
  clear h
  unfold Sy.fun1
  cases e1 : Sy.fop (Sy.tx ts i) 8 3 with
  | some o =>
    rw [e1] at c1
    have C1 := Lib.hid c1
    clear c1 c2 e1
    go_enter Tryz.func155, Tryz.ntmps155
    go_wp2_with (go_at_call 135; ((with_reducible refine (C1.out _ (H.out.kept Qz)).mono ?_); rintro e w' ⟨rfl, hp, q⟩; replace hp := Lib.hid hp; replace q := Lib.hid q))
    go_ret2
    exact ⟨rfl, hp.out, q.out⟩
  | none =>
    rw [e1] at c1
    have C1 := Lib.hid c1
    clear c1 e1
    cases e2 : Sy.fop (Sy.tx ts i) 12 5 with
    | some o =>
      rw [e2] at c2
      have C2 := Lib.hid c2
      clear c2 e2
      have q0 : Hid (Qw w w) := Lib.hid (Qw.refl w)
      go_enter Tryz.func155, Tryz.ntmps155
      go_wp2_with (first | (go_at_call 135; ((with_reducible refine (C1.out _ (H.out.kept Qz)).mono ?_); rintro e w' ⟨rfl, q⟩; replace q0 : Hid (Qw w w') := Lib.hid (Qw.trans Qz q); clear q)) | (go_at_call 135; ((with_reducible refine (C2.out _ (H.out.kept Qz)).mono ?_); rintro e w' ⟨rfl, hp, q⟩; replace hp := Lib.hid hp; have q1 : Hid (Px P w w') := Lib.hid (Px.trans (Px.of q0.out) q); clear q)))
      go_ret2
      exact ⟨rfl, hp.out, q1.out⟩
    | none =>
      rw [e2] at c2
      have C2 := Lib.hid c2
      clear c2 e2
      have q0 : Hid (Qw w w) := Lib.hid (Qw.refl w)
      go_enter Tryz.func155, Tryz.ntmps155
      go_wp2_with (first | (go_at_call 135; ((with_reducible refine (C1.out _ (H.out.kept Qz)).mono ?_); rintro e w' ⟨rfl, q⟩; replace q0 : Hid (Qw w w') := Lib.hid (Qw.trans Qz q); clear q)) | (go_at_call 135; ((with_reducible refine (C2.out _ (H.out.kept Qz)).mono ?_); rintro e w' ⟨rfl, q⟩; replace q0 : Hid (Qw w w') := Lib.hid (Qw.trans Qz q); clear q)))
      go_ret2
      exact ⟨rfl, q0.out⟩
theorem syNode (o : Int) (a : Option Addr) (n cap : Nat) (w : World) : Calls Tryz.prog 124 #[.int .i64 o, .slice a n cap] w fun e w' => e = .returned (.agg #[.int .i64 o, .int .i64 0, .slice a n cap]) ∧ Qw w w' := by
  go_enter Tryz.func124, Tryz.ntmps124
  go_wp2
  refine bodyPost_ret (v := .agg #[.int .i64 o, .int .i64 0, .slice a n cap]) (by simp [results, Tryz.results124, go_sem]) rfl ⟨rfl, Qz⟩
end Go.Proofs.YtciglhecjkeogaaGreatDoor
set_option linter.unusedVariables false
set_option linter.unusedSimpArgs false
namespace Go.Proofs.YtciglhecjkeogaaGreatDoor
open Go.RowKit
def lvF : Nat → FuncId
  | 0 => 106
  | 1 => 126
  | 2 => 136
  | 3 => 141
  | 4 => 146
  | _ => 151
structure SyAll (P : Nat) (a : Option Addr) (cap : Nat) (ts : List Lx.Tok) (len f : Nat) : Prop where
  e : ∀ l i w, l ≤ 5 → Par w P a cap ts len i → Sy.need ts.length i l ≤ f → Calls Tryz.prog (lvF l) #[.pointer (some ⟨P, 0, none⟩)] w (PR P a cap ts len w (Sy.pE ts f l i))
  p : ∀ i w, Par w P a cap ts len i → 16 * (ts.length - i) + 3 ≤ f → Calls Tryz.prog 154 #[.pointer (some ⟨P, 0, none⟩)] w (PR P a cap ts len w (Sy.pP ts f i))
  c : ∀ i w, Par w P a cap ts len i → 16 * (ts.length - i) + 2 ≤ f → Calls Tryz.prog 105 #[.pointer (some ⟨P, 0, none⟩)] w (PR P a cap ts len w (Sy.pC ts f i))
  b : ∀ i w, Par w P a cap ts len i → 16 * (ts.length - i) + 1 ≤ f → Calls Tryz.prog 107 #[.pointer (some ⟨P, 0, none⟩)] w (PR P a cap ts len w (Sy.pB ts f i))
theorem Par.other {w : World} {P : Nat} {a : Option Addr} {cap : Nat} {ts : List Lx.Tok} {len i : Nat} (h : Par w P a cap ts len i) {b : Nat} (hb : P < b) (hg : 0 ≠ b) (o : Nat) (u : Value) : Par (w.setCell ⟨b, o, none⟩ u) P a cap ts len i :=
  ⟨h.bx.other (by show P ≠ b; omega) u, h.tk.kept ((Below.refl P w).setCell (p := ⟨b, o, none⟩) (by show P ≤ b; omega) u) (Nat.le_refl _), h.ow.cong (by simp [World.setCell]) (Below.heap_setCell _ _ _ _ hg), h.og, h.le, h.hl⟩
theorem Par.lt {w : World} {P : Nat} {a : Option Addr} {cap : Nat} {ts : List Lx.Tok} {len i : Nat} (h : Par w P a cap ts len i) : P < w.heap.size ∧ 0 < w.heap.size := ⟨h.bx.lt, h.ow.1⟩
theorem KidsB.alloc {w : World} {S : Nat → Prop} {a : Option Addr} {cap : Nat} {ks : List Sy.Ex} (h : KidsB w S a cap ks) (o : Obj) : KidsB (w.alloc o) S a cap ks := h.kept ((Below.refl _ _).alloc (Nat.le_refl _) _)
theorem dying {G : Prop} {P : Program} {w : World} (h : G) (k : wpAny P .any #[] (fun _ _ _ => True) 0 #[] { tmps := #[], defers := [] } w) : G := h
theorem KidsB.fresh {w : World} {S : Nat → Prop} {a : Option Addr} {cap : Nat} {ks : List Sy.Ex} (h : KidsB w S a cap ks) (o : Obj) : KidsB (w.alloc o) (fun b => S b ∧ b ≠ w.heap.size) a cap ks := h.go fun b hS hb => ⟨Below.heap_alloc _ _ _ hb, hS, by omega⟩
theorem Bx.drew {w : World} {b : Nat} {cs : Array Value} {t : TypeId} (h : Bx w b cs t) : Bx w.drew b cs t := h
theorem KidsB.drew {w : World} {S : Nat → Prop} {a : Option Addr} {cap : Nat} {ks : List Sy.Ex} (h : KidsB w S a cap ks) : KidsB w.drew S a cap ks := h.kept ((Below.refl _ _).drew)
theorem Par.drew {w : World} {P : Nat} {a : Option Addr} {cap : Nat} {ts : List Lx.Tok} {len i : Nat} (h : Par w P a cap ts len i) : Par w.drew P a cap ts len i := h.kept ((Below.refl _ _).drew)
def exZ : Array Value := #[.int .i64 0, .int .i64 0, .slice none 0 0]
theorem exEnd {w w' : World} {P : Nat} {a : Option Addr} {cap : Nat} {ts : List Lx.Tok} {len j : Nat} {x : Sy.Ex} {ka : Option Addr} {kc : Nat} {o n : Int} {l : Nat} (hP : P < w.heap.size) (hO : 0 < w.heap.size) (xo : x.op = o) (xn : x.n = n) (xl : x.ks.length = l)
    (R : Bx w' w.heap.size exZ 31) (K : KidsB w' (fun b => w.heap.size < b) ka kc x.ks) (H : Par w' P a cap ts len j) (q : Px P w w') :
    Bx (((w'.setCell ⟨w.heap.size, 0, none⟩ (.int .i64 o)).setCell ⟨w.heap.size, 1, none⟩ (.int .i64 n)).setCell ⟨w.heap.size, 2, none⟩ (.slice ka l kc)) w.heap.size #[.int .i64 o, .int .i64 n, .slice ka l kc] 31 ∧
    POk P a cap ts len w x j (.returned (.agg #[.int .i64 o, .int .i64 n, .slice ka l kc])) (((w'.setCell ⟨w.heap.size, 0, none⟩ (.int .i64 o)).setCell ⟨w.heap.size, 1, none⟩ (.int .i64 n)).setCell ⟨w.heap.size, 2, none⟩ (.slice ka l kc)) := by
  subst xo xn xl
  have n : ¬ w.heap.size < w.heap.size := Nat.lt_irrefl _
  refine ⟨((R.set 0 _).set 1 _).set 2 _, ka, kc, rfl, KidsB.mono (((K.set n _).set n _).set n _) (fun b hb => Nat.le_of_lt hb), ((H.other hP (by omega) _ _).other hP (by omega) _ _).other hP (by omega) _ _, ((q.setNew (Nat.le_refl _) _).setNew (Nat.le_refl _) _).setNew (Nat.le_refl _) _⟩
theorem exAl {w wf : World} {P : Nat} {a : Option Addr} {cap : Nat} {ts : List Lx.Tok} {len j : Nat} {x : Sy.Ex} {ka : Option Addr} {kc : Nat} {o n : Int} {l : Nat} (b : Obj)
    (h : Bx wf w.heap.size #[.int .i64 o, .int .i64 n, .slice ka l kc] 31 ∧ POk P a cap ts len w x j (.returned (.agg #[.int .i64 o, .int .i64 n, .slice ka l kc])) wf) :
    Bx (wf.alloc b) w.heap.size #[.int .i64 o, .int .i64 n, .slice ka l kc] 31 ∧ POk P a cap ts len w x j (.returned (.agg #[.int .i64 o, .int .i64 n, .slice ka l kc])) (wf.alloc b) := by
  obtain ⟨h1, ka', kc', e, k, hp, q⟩ := h
  exact ⟨h1.alloc _, ka', kc', e, k.alloc _, hp.kept ((Below.refl _ _).alloc (Nat.le_refl _) _), q.alloc _⟩
theorem exRet {fn : Func} {s : Nat} {act : Act} {wf : World} {P : Nat} {a : Option Addr} {cap : Nat} {ts : List Lx.Tok} {len j : Nat} {w : World} {x : Sy.Ex} {ka : Option Addr} {kc : Nat} {o n : Int} {l : Nat} (hr : fn.results = #[.cell s 31]) (hs : act.tmps[s]?.getD undef = .pointer (some ⟨w.heap.size, 0, none⟩)) (hd : act.defers = [])
    (h : Bx wf w.heap.size #[.int .i64 o, .int .i64 n, .slice ka l kc] 31 ∧ POk P a cap ts len w x j (.returned (.agg #[.int .i64 o, .int .i64 n, .slice ka l kc])) wf) :
    bodyPost Tryz.prog fn (PR P a cap ts len w (.ok x j)) .ret act wf := bodyPost_ret (ret_ex hr hs h.1) hd h.2
set_option maxRecDepth 100000 in
set_option maxHeartbeats 4000000 in
theorem sy_bracketed {P : Nat} {a : Option Addr} {cap : Nat} {ts : List Lx.Tok} {len f : Nat} (A : SyAll P a cap ts len f) (i : Nat) (w : World) (h : Par w P a cap ts len i) (hf : 16 * (ts.length - i) + 1 ≤ f + 1) :
    Calls Tryz.prog 107 #[.pointer (some ⟨P, 0, none⟩)] w (PR P a cap ts len w (Sy.pB ts (f + 1) i)) := by
  obtain ⟨hP, hO⟩ := h.lt
  have hle := h.le
  have H := Lib.hid h
  clear h
  have R : Hid (Bx (w.alloc (.cells exZ 31)) w.heap.size exZ 31) := Lib.hid (Bx.new w _ _)
  rw [Sy.pB]
  by_cases hx : Sy.tx ts i = [91]
  · rw [if_pos hx]
    have hi := Sy.tx_lt hx (by decide)
    have x1 : Hid ((⟨#[91]⟩ : ByteArray) = bs (Sy.tx ts i)) := Lib.hid (by rw [hx]; rfl)
    have x2 : Hid (Sy.tx ts i ≠ []) := Lib.hid (by rw [hx]; decide)
    have c1 : ∀ w, Par w P a cap ts len (i + 1) → Calls Tryz.prog 106 #[.pointer (some ⟨P, 0, none⟩)] w (PR P a cap ts len w (Sy.pE ts f 0 (i + 1))) := fun w h => A.e 0 (i + 1) w (by omega) h (by unfold Sy.need; omega)
    clear hx
    cases e1 : Sy.pE ts f 0 (i + 1) with
    | bad j =>
      rw [e1] at c1
      have C1 := Lib.hid c1
      clear c1 e1
      have q0 : Hid (Px P w w) := Lib.hid (Px.refl P w)
      go_enter Tryz.func107, Tryz.ntmps107
      go_wp2_with (first | (go_at_call 104; ((with_reducible refine (syExpectY (H.out.kept Qz) _ x1.out x2.out).mono ?_); rintro e w' ⟨rfl, hp, q⟩; have pw := (Par.lt hp).1; skip; replace H := Lib.hid hp; clear hp; replace q0 : Hid (Px P w w') := Lib.hid (Px.trans Pz q); clear q)) | (go_at_call 106; ((with_reducible refine (C1.out _ (H.out.kept Qz)).mono ?_); rintro e w' ⟨rfl, q⟩; replace q0 : Hid (Px P w w') := Lib.hid (Px.trans Pz q); clear q)))
      exact ⟨rfl, rfl, q0.out⟩
    | ok x j =>
      rw [e1] at c1
      have C1 := Lib.hid c1
      clear c1 e1
      unfold Sy.shut
      simp only
      by_cases hx : Sy.tx ts j = [93]
      · rw [if_pos hx]
        have y1 : Hid ((⟨#[93]⟩ : ByteArray) = bs (Sy.tx ts j)) := Lib.hid (by rw [hx]; rfl)
        have y2 : Hid (Sy.tx ts j ≠ []) := Lib.hid (by rw [hx]; decide)
        clear hx
        have q0 : Hid (Px P w w) := Lib.hid (Px.refl P w)
        go_enter Tryz.func107, Tryz.ntmps107
        go_wp2_with (first | (go_at_call 104; ((with_reducible refine (syExpectY (H.out.kept Qz) _ x1.out x2.out).mono ?_); rintro e w' ⟨rfl, hp, q⟩; have pw := (Par.lt hp).1; replace R : Hid (Bx w' w.heap.size exZ 31) := Lib.hid (Bx.px (by repeat (first | exact R.out | refine Bx.alloc ?_ _ | refine Bx.drew ?_)) q (by omega)); replace H := Lib.hid hp; clear hp; replace q0 : Hid (Px P w w') := Lib.hid (Px.trans Pz q); clear q)) | (go_at_call 106; ((with_reducible refine (C1.out _ (H.out.kept Qz)).mono ?_); rintro e w' ⟨ka, kc, rfl, k, hp, q⟩; have pw := (Par.lt hp).1; have K : Hid (KidsB w' (fun b => w.heap.size < b) ka kc (Sy.Ex.ks x)) := Lib.hid (KidsB.mono k (fun b hb => Nat.lt_of_lt_of_le (Bx.lt (by repeat (first | exact R.out | refine Bx.alloc ?_ _ | refine Bx.drew ?_))) hb)); clear k; replace R : Hid (Bx w' w.heap.size exZ 31) := Lib.hid (Bx.px (by repeat (first | exact R.out | refine Bx.alloc ?_ _ | refine Bx.drew ?_)) q (by omega)); have X : Hid (Bx (w'.alloc (.cells #[.int .i64 x.op, .int .i64 x.n, .slice ka x.ks.length kc] 31)) w'.heap.size _ _) := Lib.hid (Bx.new w' _ _); replace H := Lib.hid hp; clear hp; replace q0 : Hid (Px P w w') := Lib.hid (Px.trans Pz q); clear q)) | (go_at_call 104; ((with_reducible refine (syExpectY (H.out.kept Qz) _ y1.out y2.out).mono ?_); rintro e w' ⟨rfl, hp, q⟩; have pw := (Par.lt hp).1; replace R : Hid (Bx w' w.heap.size exZ 31) := Lib.hid (Bx.px (by repeat (first | exact R.out | refine Bx.alloc ?_ _ | refine Bx.drew ?_)) q (by omega)); have rl := R.out.lt; have r0 := R.out.cell' 0 _ rfl; have r1 := R.out.cell' 1 _ rfl; have r2 := R.out.cell' 2 _ rfl; have s0 := R.out.free 0; have s1 := R.out.free 1; have s2 := R.out.free 2; replace K : Hid (KidsB w' (fun b => w.heap.size < b) ka kc x.ks) := Lib.hid (KidsB.px (by repeat (first | exact K.out | refine KidsB.alloc ?_ _ | refine KidsB.drew ?_)) (fun b hb => by omega) q); have X2 := Bx.px X.out q (by omega); have z0 := X2.cell' 0 _ rfl; have z1 := X2.cell' 1 _ rfl; have z2 := X2.cell' 2 _ rfl; replace H := Lib.hid hp; clear hp; replace q0 : Hid (Px P w w') := Lib.hid (Px.trans Pz q); clear q)))
        exact exRet Tryz.results107 rfl rfl (exEnd hP hO rfl rfl rfl R.out K.out H.out q0.out)
      · rw [if_neg hx]
        have y1 : Hid ((⟨#[93]⟩ : ByteArray) ≠ bs (Sy.tx ts j)) := Lib.hid (fun h => hx (bs_inj.1 (show bs [93] = _ from h)).symm)
        clear hx
        have q0 : Hid (Px P w w) := Lib.hid (Px.refl P w)
        go_enter Tryz.func107, Tryz.ntmps107
        go_wp2_with (first | (go_at_call 104; ((with_reducible refine (syExpectY (H.out.kept Qz) _ x1.out x2.out).mono ?_); rintro e w' ⟨rfl, hp, q⟩; have pw := (Par.lt hp).1; replace R : Hid (Bx w' w.heap.size exZ 31) := Lib.hid (Bx.px (by repeat (first | exact R.out | refine Bx.alloc ?_ _ | refine Bx.drew ?_)) q (by omega)); replace H := Lib.hid hp; clear hp; replace q0 : Hid (Px P w w') := Lib.hid (Px.trans Pz q); clear q)) | (go_at_call 106; ((with_reducible refine (C1.out _ (H.out.kept Qz)).mono ?_); rintro e w' ⟨ka, kc, rfl, k, hp, q⟩; have pw := (Par.lt hp).1; have K : Hid (KidsB w' (fun b => w.heap.size < b) ka kc (Sy.Ex.ks x)) := Lib.hid (KidsB.mono k (fun b hb => Nat.lt_of_lt_of_le (Bx.lt (by repeat (first | exact R.out | refine Bx.alloc ?_ _ | refine Bx.drew ?_))) hb)); clear k; replace R : Hid (Bx w' w.heap.size exZ 31) := Lib.hid (Bx.px (by repeat (first | exact R.out | refine Bx.alloc ?_ _ | refine Bx.drew ?_)) q (by omega)); replace H := Lib.hid hp; clear hp; replace q0 : Hid (Px P w w') := Lib.hid (Px.trans Pz q); clear q)) | (go_at_call 104; ((with_reducible refine (syExpectN (H.out.kept Qz) _ y1.out).mono ?_); rintro e w' ⟨rfl, q⟩; replace q0 : Hid (Px P w w') := Lib.hid (Px.trans Pz (Px.of q)); clear q)))
        exact ⟨rfl, rfl, q0.out⟩
  · rw [if_neg hx]
    have x1 : Hid ((⟨#[91]⟩ : ByteArray) ≠ bs (Sy.tx ts i)) := Lib.hid (fun h => hx (bs_inj.1 (show bs [91] = _ from h)).symm)
    clear hx
    have q0 : Hid (Px P w w) := Lib.hid (Px.refl P w)
    go_enter Tryz.func107, Tryz.ntmps107
    go_wp2_with (go_at_call 104; ((with_reducible refine (syExpectN (H.out.kept Qz) _ x1.out).mono ?_); rintro e w' ⟨rfl, q⟩; replace q0 : Hid (Px P w w') := Lib.hid (Px.trans Pz (Px.of q)); clear q))
    exact ⟨rfl, rfl, q0.out⟩
theorem Rz {w : World} {b : Nat} {cs : Array Value} {t : TypeId} (h : Bx w b cs t := by repeat (first | exact R.out | refine Bx.alloc ?_ _ | refine Bx.drew ?_)) : Bx w b cs t := h
end Go.Proofs.YtciglhecjkeogaaGreatDoor
set_option linter.unusedVariables false
set_option linter.unusedSimpArgs false
namespace Go.Proofs.YtciglhecjkeogaaGreatDoor
open Go.RowKit
theorem run_append_near {P : Program} (w : World) (base : Nat) (t ty e : TypeId) (i : TypeInfo) (z : Value) (size bytes : Nat) (ht : P.underlying t = some (.slice e)) (hi : P.info? e = some i) (hz : i.zero = some z)
    (hsize : i.size = size) (hby : i.bytes = bytes) (hzs : z.cells.size = size) (hsz : 0 < size) (v : Value) (n : Nat) (xs : List Value) (hown : w.ownsRow base e size v n xs)
    (a : Addr) (m c : Nat) (news : List Value) (hl : news.length = m * size) (hnews : ∀ j u, news[j]? = some u → w.cell? (a.add j) = some u) (h1 : ∀ u ∈ news, u.oneCell' = true)
    (h63 : n + m ≤ maxLen) (hbytes : (n + m) * bytes ≤ 140737488355328) (hbase : base ≤ w.heap.size) :
    ∃ v' w', (Builtin.append_ #[t, t] ty #[v, .slice (some a) m c]).run P w = .ok v' w' ∧ w'.ownsRow base e size v' (n + m) (xs ++ news) ∧ w.grownBy w' v.ownBlock ∧
      (∀ g, v'.ownBlock = some g → v.ownBlock = some g ∨ w.heap.size ≤ g) := by
  rcases hown.2 with ⟨hv, hn⟩ | ⟨g, cap, cur, hv, hb, hg, hn, hm, hc, htk⟩
  · have hown' : w.ownsRow w.heap.size e size v n xs := ⟨hown.1, .inl ⟨hv, hn⟩⟩
    obtain ⟨v', w', h2, h3, h4, h5⟩ := run_append_own (P := P) w w.heap.size t ty e i z size bytes ht hi hz hsize hby hzs hsz v n xs hown' a m c news hl hnews h1 h63 hbytes (Nat.le_refl _)
    refine ⟨v', w', h2, ⟨h3.1, ?_⟩, h4, fun g hg => ?_⟩
    · rcases h3.2 with h | ⟨g, cap, cur, k1, k2, k3⟩
      · exact .inl h
      · exact .inr ⟨g, cap, cur, k1, Nat.le_trans hbase k2, k3⟩
    · rcases h3.2 with ⟨h, _⟩ | ⟨g', cap, cur, k1, k2, k3⟩
      · rw [h] at hg; cases hg
      · rw [k1] at hg
        have : g' = g := by simpa [Value.ownBlock] using hg
        exact .inr (this ▸ k2)
  · subst hv
    by_cases hroom : n + m ≤ cap
    · obtain ⟨w', h2, h3, h4⟩ := run_append_fits (P := P) w base t ty e i size ht hi hsize g n cap xs hown a m c news hl hnews h1 hroom
      exact ⟨_, w', h2, h3, h4, fun g' hg' => .inl hg'⟩
    · obtain ⟨v', w', h2, h3, h4, h5⟩ := run_append_own (P := P) w base t ty e i z size bytes ht hi hz hsize hby hzs hsz _ n xs hown a m c news hl hnews h1 h63 hbytes hbase
      refine ⟨v', w', h2, h3, h4, fun g' hg' => .inr ?_⟩
      subst hsize hby
      have hr := run_append_grow (P := P) w t ty e i z ht hi hz ⟨g, 0, none⟩ n cap xs hown.1 (hown.cells (g := g) rfl) a m c news hl hnews (by omega) (by unfold maxLen at h63; omega) (growslice_fits (by omega) hbytes)
      rw [h2] at hr
      injection hr with e1 e2
      rw [e1] at hg'
      have : w.heap.size = g' := by simpa [Value.ownBlock] using hg'
      omega
structure Wd where
  c : Int
  x : Sy.Ex
  a : Option Addr
  n : Nat
def wcell (d : Wd) : List Value := [.int .i64 d.c, .int .i64 d.x.op, .int .i64 d.x.n, .slice d.a d.x.ks.length d.n]
def wcells (ds : List Wd) : List Value := ds.flatMap wcell
def wds (ds : List Wd) : List (Int × Sy.Ex) := ds.map fun d => (d.c, d.x)
def OwnW (B : Nat) (w : World) (v : Value) (ds : List Wd) : Prop := w.ownsRow B 108 4 v ds.length (wcells ds)
theorem info_word : (Tryz.prog.info? 108).map (fun i => (i.zero, i.size, i.bytes)) = some (some (.agg #[.int .i64 0, .int .i64 0, .int .i64 0, .slice none 0 0]), 4, 48) := by kernel_rfl
def WordsB (w : World) (S : Nat → Prop) (a : Option Addr) (cap : Nat) (ws : List (Int × Sy.Ex)) : Prop :=
  ws.length ≤ cap ∧ cap ≤ 9223372036854775807 ∧ (ws = [] ∨ ∃ (b off : Nat) (ad : Nat → Option Addr) (cc : Nat → Nat), a = some ⟨b, off, none⟩ ∧ S b ∧ ∀ i (h : i < ws.length),
    w.cell? ⟨b, off + i * 4, none⟩ = some (.int .i64 ws[i].1) ∧ w.cell? ⟨b, off + i * 4 + 1, none⟩ = some (.int .i64 ws[i].2.op) ∧ w.cell? ⟨b, off + i * 4 + 2, none⟩ = some (.int .i64 ws[i].2.n) ∧ w.cell? ⟨b, off + i * 4 + 3, none⟩ = some (.slice (ad i) ws[i].2.ks.length (cc i)) ∧
    KidsB w S (ad i) (cc i) ws[i].2.ks)
theorem WordsB.nil (w : World) (S : Nat → Prop) : WordsB w S none 0 [] := ⟨Nat.le_refl _, by decide, .inl rfl⟩
theorem WordsB.go {w w' : World} {S T : Nat → Prop} (hb : ∀ b, S b → b < w.heap.size → w'.heap[b]? = w.heap[b]? ∧ T b) {a : Option Addr} {cap : Nat} {ws : List (Int × Sy.Ex)} (h : WordsB w S a cap ws) : WordsB w' T a cap ws := by
  obtain ⟨h1, h2, h3⟩ := h
  refine ⟨h1, h2, ?_⟩
  rcases h3 with h3 | ⟨b, off, ad, cc, e, hS, hc⟩
  · exact .inl h3
  · by_cases h0 : ws = []
    · exact .inl h0
    have hlt := cell_lt (hc 0 (by cases ws with | nil => exact absurd rfl h0 | cons _ _ => simp)).1
    refine .inr ⟨b, off, ad, cc, e, (hb b hS hlt).2, fun i hi => ?_⟩
    have k : ∀ o, w'.cell? ⟨b, o, none⟩ = w.cell? ⟨b, o, none⟩ := fun o => World.cell?_of_block (w := w) (hb b hS hlt).1
    rw [k, k, k, k]
    obtain ⟨c0, c1, c2, c3, c4⟩ := hc i hi
    exact ⟨c0, c1, c2, c3, c4.go hb⟩
def BlkB (w : World) (S : Nat → Prop) (b : Sy.Bl) (cs : Array Value) : Prop :=
  ∃ (wa : Option Addr) (wc : Nat) (la : Option Addr) (lc : Nat) (xa : Option Addr) (xc : Nat),
    cs = #[.int .i64 b.kind, .int .i64 b.label, .bool b.skip, .slice wa b.words.length wc, .int .i64 b.left.op, .int .i64 b.left.n, .slice la b.left.ks.length lc, .int .i64 b.x.op, .int .i64 b.x.n, .slice xa b.x.ks.length xc, .int .i64 b.n] ∧
    WordsB w S wa wc b.words ∧ KidsB w S la lc b.left.ks ∧ KidsB w S xa xc b.x.ks
theorem BlkB.go {w w' : World} {S T : Nat → Prop} (hb : ∀ b, S b → b < w.heap.size → w'.heap[b]? = w.heap[b]? ∧ T b) {b : Sy.Bl} {cs : Array Value} (h : BlkB w S b cs) : BlkB w' T b cs := by
  obtain ⟨wa, wc, la, lc, xa, xc, e, h1, h2, h3⟩ := h
  exact ⟨wa, wc, la, lc, xa, xc, e, h1.go hb, h2.go hb, h3.go hb⟩
theorem wcells_get (ds : List Wd) (i : Nat) (h : i < ds.length) (j : Nat) (hj : j < 4) : (wcells ds)[i * 4 + j]? = (wcell ds[i])[j]? := by
  induction ds generalizing i with
  | nil => simp at h
  | cons t ts ih =>
    have e : wcells (t :: ts) = wcell t ++ wcells ts := rfl
    have l : (wcell t).length = 4 := rfl
    rw [e]
    cases i with
    | zero => rw [List.getElem?_append_left (by omega)]; simp
    | succ i =>
      rw [List.getElem?_append_right (by omega), l, show (i + 1) * 4 + j - 4 = i * 4 + j by omega]
      rw [ih i (by simpa using h)]; rfl
theorem OwnW.words {B : Nat} {w : World} {v : Value} {ds : List Wd} {S : Nat → Prop} (h : OwnW B w v ds) (hS : ∀ g, v.ownBlock = some g → S g) (hk : ∀ d ∈ ds, KidsB w S d.a d.n d.x.ks) : ∃ a cap, v = .slice a ds.length cap ∧ WordsB w S a cap (wds ds) := by
  have hlen : (wds ds).length = ds.length := List.length_map _
  rcases h.2 with ⟨rfl, h0⟩ | ⟨g, cap, cur, rfl, hb, hg, h1, h2, h3, h4⟩
  · have : ds = [] := List.eq_nil_of_length_eq_zero h0
    subst this
    exact ⟨none, 0, rfl, WordsB.nil _ _⟩
  · refine ⟨_, cap, rfl, by rw [hlen]; exact h1, by unfold maxLen at h2; omega, .inr ⟨g, 0, fun i => (ds.map Wd.a).getD i none, fun i => (ds.map Wd.n).getD i 0, rfl, hS g rfl, fun i hi => ?_⟩⟩
    rw [hlen] at hi
    have e1 : (wds ds)[i]'(by rw [hlen]; exact hi) = (ds[i].c, ds[i].x) := by unfold wds; rw [List.getElem_map]
    have e2 : (ds.map Wd.a).getD i none = ds[i].a := by rw [List.getD_eq_getElem?_getD, List.getElem?_map, List.getElem?_eq_getElem hi]; rfl
    have e3 : (ds.map Wd.n).getD i 0 = ds[i].n := by rw [List.getD_eq_getElem?_getD, List.getElem?_map, List.getElem?_eq_getElem hi]; rfl
    dsimp only
    rw [e1, e2, e3]
    have k : ∀ j (hj : j < 4), w.cell? ⟨g, 0 + i * 4 + j, none⟩ = (wcell ds[i])[j]? := fun j hj => by
      have t := wcells_get ds i hi j hj
      have u : ∃ u, (wcell ds[i])[j]? = some u := ⟨_, List.getElem?_eq_getElem (show j < (wcell ds[i]).length from hj)⟩
      obtain ⟨u, hu⟩ := u
      rw [hu] at t ⊢
      have c := World.ownsRow.cells h (g := g) rfl (i * 4 + j) u t
      rw [Addr.add_mid, Nat.zero_add] at c
      rw [Nat.zero_add]
      exact c
    exact ⟨k 0 (by decide), k 1 (by decide), k 2 (by decide), k 3 (by decide), hk _ (List.getElem_mem hi)⟩
end Go.Proofs.YtciglhecjkeogaaGreatDoor
set_option linter.unusedVariables false
namespace Go.Proofs.YtciglhecjkeogaaGreatDoor
open Go Go.RowKit Go.Sort
section
variable {P : Program} {ops : Array Oper} {C : World → Prop}
inductive Reach (ops : Array Oper) : Nat → Nat → Prop
  | one {j i : Nat} {o : Oper} {e : Edge} : ops[j]? = some o → e ∈ o.after → Region.binds .any e = true → e.on = i → Reach ops j i
  | more {j i : Nat} {o : Oper} {e : Edge} : ops[j]? = some o → e ∈ o.after → Region.binds .any e = true → Reach ops e.on i → Reach ops j i
theorem Reach.done {n j i : Nat} {d : Array Bool} (inv : HeadInv .any ops n d) (r : Reach ops j i) : d.getD j false = true → d.getD i false = true := by
  induction r with
  | one ho he hb hi => intro h; have := inv.closed _ _ ho h _ he hb; rwa [hi] at this
  | more ho he hb _ ih => intro h; exact ih (inv.closed _ _ ho h _ he hb)
theorem ready_not {n j i : Nat} {d : Array Bool} (inv : HeadInv .any ops n d) (hj : j ∈ Region.ready .any ops d) (hi : d.getD i true = false) : ¬ Reach ops j i := by
  intro r
  obtain ⟨_, oj, hoj, hall⟩ := mem_ready.1 hj
  have key : d.getD i false = true := by
    cases r with
    | one ho he hb hi2 =>
      have := Option.some.inj (hoj.symm.trans ho); subst this
      have := hall _ he hb; rwa [hi2] at this
    | more ho he hb r2 =>
      have := Option.some.inj (hoj.symm.trans ho); subst this
      exact r2.done inv (hall _ he hb)
  rw [getD_both hi] at key; cases key
theorem anyQ_take {Q : Act → Prop} {i : Nat} {oi : Oper} {v : Value} (hi : ops[i]? = some oi) (hsel : ∀ (j : Nat) (o : Oper) cs b, ops[j]? = some o → o.op ≠ .select cs b) :
    ∀ (f : Nat) (d : Array Bool) (a : Act), HeadInv .any ops ops.size d →
      (∀ j oj, ops[j]? = some oj → j ≠ i → d.getD j true = false → ¬ Reach ops j i → oi.apart ops oj = true) →
      i ∈ Region.ready .any ops d → YieldsIn P ops C oi v a → wpAnyQ P .any ops C Q f (d.setIfInBounds i true) (a.put oi.dst v) → wpAnyQ P .any ops C Q (f + 1) d a
  | 0, d, a, inv, hfree, hr, hy, H => by
    refine ⟨fun e => absurd hr (by rw [e]; exact List.not_mem_nil), fun j hj => ?_⟩
    rcases Nat.decEq j i with e | e
    · have m := ready_mono hj e
      rw [H.1] at m; exact absurd m List.not_mem_nil
    · rw [e]; exact hy.qOp hi H
  | f + 1, d, a, inv, hfree, hr, hy, H => by
    refine ⟨fun e => absurd hr (by rw [e]; exact List.not_mem_nil), fun j hj => ?_⟩
    rcases Nat.decEq j i with e | e
    · have un := (mem_ready.1 hr).1
      obtain ⟨ju, oj, hoj, _⟩ := mem_ready.1 hj
      have ap := hfree j oj hoj e ju (ready_not inv hj un)
      have later := qOp_put hoj ap (fun cs b => hsel i oi cs b hi) (fun cs b => hsel j oj cs b hoj) hy (H.2 j (ready_mono hj e))
      have hjs : j < ops.size := (Array.getElem?_eq_some_iff.1 hoj).1
      refine qOp_mono (fun a' h3 => anyQ_take hi hsel f (d.setIfInBounds j true) a' (inv.set hj hjs) (fun k ok hk hki hu hno => hfree k ok hk hki ?_ hno) (ready_mono hr (Ne.symm e)) h3.1 ?_) later
      · rcases Nat.decEq j k with x | x
        · rw [getD_set_ne true x] at hu; exact hu
        · rw [← x]; exact ju
      · rw [Array.setIfInBounds_comm _ _ e]; exact h3.2
    · rw [e]; exact hy.qOp hi H
def reachB (ops : Array Oper) : Nat → Nat → Nat → Bool
  | 0, _, _ => false
  | f + 1, j, i => match ops[j]? with
    | none => false
    | some o => o.after.any fun e => Region.binds .any e && (Nat.beq e.on i || reachB ops f e.on i)
theorem reachB_of : ∀ (f j i : Nat), reachB ops f j i = true → Reach ops j i
  | 0, _, _, h => by cases h
  | f + 1, j, i, h => by
    unfold reachB at h
    cases ho : ops[j]? with
    | none => rw [ho] at h; cases h
    | some o =>
      rw [ho] at h
      obtain ⟨e, he, hb⟩ := Array.any_eq_true'.1 h
      simp only [Bool.and_eq_true, Bool.or_eq_true] at hb
      rcases hb.2 with k | k
      · exact .one ho he hb.1 (Nat.eq_of_beq_eq_true k)
      · exact .more ho he hb.1 (reachB_of f _ _ k)
def pairsB (ops : Array Oper) (o : Oper) (k : Nat) : Nat → List Oper → Bool
  | _, [] => true
  | j, y :: r => (reachB ops 3 j k || o.apart ops y) && pairsB ops o k (j + 1) r
theorem pairsB_at {o : Oper} {k : Nat} : ∀ (l : List Oper) (j : Nat), pairsB ops o k j l = true → ∀ n y, l[n]? = some y → reachB ops 3 (j + n) k = true ∨ o.apart ops y = true
  | [], _, _, n, y, h => by simp at h
  | x :: l, j, hp, n, y, h => by
    unfold pairsB at hp
    obtain ⟨h1, h2⟩ := Bool.and_eq_true_iff.1 hp
    cases n with
    | zero => simp at h; subst h; exact Bool.or_eq_true_iff.1 h1
    | succ n =>
      have := pairsB_at l (j + 1) h2 n y (by simpa using h)
      rwa [show j + 1 + n = j + (n + 1) by omega] at this
def deepFrom (ops : Array Oper) : Nat → List Oper → Bool
  | _, [] => true
  | k, o :: rest => (o.after.all fun e => !Region.binds .any e || Nat.blt e.on k) && (pairsB ops o k (k + 1) rest && deepFrom ops (k + 1) rest)
theorem anyQ_deep {Q : Act → Prop} (hs : Region.noSelect ops = true) : ∀ (l : List Oper) (k : Nat) (d : Array Bool) (a : Act), HeadInv .any ops ops.size d → (∀ j, l[j]? = ops[k + j]?) → k + l.length = ops.size →
    (∀ j, j < k → d.getD j false = true) → (∀ j, k ≤ j → j < ops.size → d.getD j true = false) → deepFrom ops k l = true → wpQuiet P ops C Q l a → wpAnyQ P .any ops C Q l.length d a
  | [], k, d, a, _, _, hk, h1, _, _, h => by
    refine ⟨List.eq_nil_iff_forall_not_mem.2 fun j hj => ?_, h⟩
    obtain ⟨h2, o, ho, _⟩ := mem_ready.1 hj
    have hjl := (Array.getElem?_eq_some_iff.1 ho).1
    have := h1 j (by simp at hk; omega)
    rw [getD_both h2] at this; cases this
  | o :: l, k, d, a, inv, hl, hk, h1, h2, hf, h => by
    have h0 : ops[k]? = some o := by simpa using (hl 0).symm
    unfold deepFrom at hf
    simp only [Bool.and_eq_true] at hf
    obtain ⟨ha, hp, hf⟩ := hf
    simp only [List.length_cons] at hk
    have rd : k ∈ Region.ready .any ops d := mem_ready.2 ⟨h2 k (Nat.le_refl _) (by omega), o, h0, fun e he hb => by
      have := Array.all_eq_true'.1 ha e he
      rw [hb] at this
      exact h1 _ (by simp [Nat.blt] at this; omega)⟩
    have hst : qOp P ops C k (wpQuiet P ops C Q l) a := by unfold qOp; simp only [h0]; exact h
    obtain ⟨v, hy, hK⟩ := yieldsIn_of_qOp h0 hst
    refine anyQ_take h0 (Region.noSelect_spec hs) l.length d a inv (fun j oj hj hne hu hno => ?_) rd hy ?_
    · have hkj : k < j := by
        rcases Nat.lt_or_ge j k with c | c
        · have := h1 j c; rw [getD_both hu] at this; cases this
        · omega
      have hm : l[j - k - 1]? = some oj := by
        have := hl (j - k)
        rwa [show k + (j - k) = j by omega, hj, show j - k = (j - k - 1) + 1 by omega, List.getElem?_cons_succ] at this
      rcases pairsB_at l (k + 1) hp _ _ hm with q | q
      · rw [show k + 1 + (j - k - 1) = j by omega] at q
        exact absurd (reachB_of 3 j k q) hno
      · exact q
    · refine anyQ_deep hs l (k + 1) _ _ (inv.set rd (by omega)) (fun j => by have := hl (j + 1); simpa [Nat.add_assoc, Nat.add_comm 1 j] using this) (by omega) (fun j hj => ?_) (fun j hj hj' => ?_) hf hK
      · rcases Nat.decEq k j with e | e
        · rw [getD_set_ne false e]; exact h1 j (by omega)
        · subst e; simp [inv.size]; omega
      · rw [getD_set_ne true (by omega)]; exact h2 j (by omega) hj'
theorem region_quiet_deep {id : Nat} {Q : Exit → Act → World → Prop} {a : Act} {w : World} {l : List Oper} (hm : P.follows .mixedOrders = true) (hB : (Region.noSelect l.toArray && deepFrom l.toArray 0 l) = true) (hC : C w.drew)
    (h : wpQuiet P l.toArray C (fun a' => ∀ w', C w' → Q .normal a' w') l a) : (Code.region id l.toArray true).wp P Q a w := by
  simp only [Bool.and_eq_true] at hB
  refine wp_region_any hm (wpAny_of_quiet (Q := fun a' => ∀ w', C w' → Q .normal a' w') (fun _ w' hw' h => h w' hw') _ _ _ _ hC ?_)
  have inv0 : HeadInv .any l.toArray l.toArray.size (Array.replicate l.toArray.size false) :=
    ⟨by simp, fun j oj _ hl => (by rw [getD_replicate_false] at hl; cases hl), fun t ht h => by omega⟩
  have := anyQ_deep (P := P) (C := C) hB.1 l 0 (Array.replicate l.toArray.size false) a inv0 (by simp) (by simp) (fun j hj => absurd hj (by omega)) (fun j _ hj => getD_in (by simpa using hj) (getD_replicate_false _ _)) hB.2 h
  simpa using this
theorem region_deep {id : Nat} {Q : Exit → Act → World → Prop} {a : Act} {w : World} {l : List Oper} (hm : P.follows .mixedOrders = true) (hB : (Region.noSelect l.toArray && deepFrom l.toArray 0 l) = true)
    (h : wpQuiet P l.toArray (fun w' => ∃ n, w' = w.drewN n) (fun a' => ∀ w', (∃ n, w' = w.drewN n) → Q .normal a' w') l a) : (Code.region id l.toArray true).wp P Q a w :=
  region_quiet_deep hm hB ⟨1, rfl⟩ h
end
end Go.Proofs.YtciglhecjkeogaaGreatDoor

