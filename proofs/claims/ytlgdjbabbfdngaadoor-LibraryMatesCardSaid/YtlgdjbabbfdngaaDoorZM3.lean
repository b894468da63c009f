import Derived.Test.YtlgdjbabbfdngaaDoorZM2
set_option linter.unusedVariables false
set_option linter.unusedSimpArgs false
namespace Go.Proofs.YtlgdjbabbfdngaaDoor
open Go.RowKit
theorem made_flat (z : Array Value) (n : Nat) (hz : 0 < z.size) : (madeCells z (n * z.size)).toList = (List.replicate n z.toList).flatten := by
  have hr : ∀ x ∈ List.replicate n z.toList, x.length = z.size := fun x hx => by rw [(List.mem_replicate.1 hx).2]; simp
  apply List.ext_getElem?
  intro j
  by_cases hj : j < n * z.size
  · have h1 : j / z.size < n := (Nat.div_lt_iff_lt_mul hz).2 hj
    have h2 : j % z.size < z.size := Nat.mod_lt _ hz
    have e : j / z.size * z.size + j % z.size = j := by rw [Nat.mul_comm]; exact Nat.div_add_mod j z.size
    have := flat_get hr (j / z.size) (by simpa using h1) (j % z.size) h2
    rw [e] at this
    rw [this]
    simp [madeCells, hj, h2]
  · rw [List.getElem?_eq_none (by simp [madeCells]; omega), List.getElem?_eq_none (by rw [flat_len hr]; simp; omega)]
theorem g_make (w : World) (B : Nat) (T sl : TypeId) (z bytes : Nat) (zv : Value) (n : Nat)
    (info : (Tryd.prog.info? T).map (fun i => (i.zero, i.size, i.bytes)) = some (some zv, z, bytes)) (hu : Tryd.prog.underlying sl = some (.slice T)) (hzs : zv.cells.size = z) (hz : 0 < z) (hby : bytes ≤ 1000) (hn : n ≤ 100000) (hB : B ≤ w.heap.size) :
    ∃ w', (Instr.makeSlice sl (.int .i64 (n : Nat)) (.int .i64 (n : Nat))).run Tryd.prog w = .ok (.slice (some ⟨w.heap.size, 0, none⟩) n n) w' ∧ OwnG B w' T z (.slice (some ⟨w.heap.size, 0, none⟩) n n) (List.replicate n zv.cells.toList) ∧ w.grownBy w' none := by
  obtain ⟨i0, hi, hz0, hz1, hz2⟩ := info_parts info
  have hmb : bytes * n ≤ 1000 * 100000 := Nat.mul_le_mul hby hn
  obtain ⟨w', h1, h2, h3⟩ := run_make_full (P := Tryd.prog) w B sl T i0 zv z hu hi hz0 hz1 .i64 .i64 n (by rw [hz2]; omega) (by unfold maxLen; omega) hB
  refine ⟨w', h1, ⟨fun x hx => by rw [(List.mem_replicate.1 hx).2]; simpa using hzs, ?_⟩, h3⟩
  rw [List.length_replicate, ← made_flat zv.cells n (by omega), hzs]
  exact h2
def setCs (w : World) (g : Nat) : Nat → List Value → World
  | _, [] => w
  | o, v :: vs => setCs (w.setCell ⟨g, o, none⟩ v) g (o + 1) vs
theorem setCs_other {g b : Nat} (hb : b ≠ g) : ∀ (vs : List Value) (w : World) (o : Nat), (setCs w g o vs).heap[b]? = w.heap[b]?
  | [], _, _ => rfl
  | v :: vs, w, o => (setCs_other hb vs _ (o + 1)).trans (Below.heap_setCell w ⟨g, o, none⟩ v b hb)
theorem setCs_qw {g : Nat} {w0 : World} (hg : w0.heap.size ≤ g) : ∀ (vs : List Value) (w : World) (o : Nat), Qw w0 w → Qw w0 (setCs w g o vs)
  | [], _, _, q => q
  | v :: vs, w, o, q => setCs_qw hg vs _ (o + 1) (Qw.sc q hg v)
theorem row_step {B : Nat} {T : TypeId} {z : Nat} {v : Value} {xs : List (List Value)} {g i : Nat} (hg : v.ownBlock = some g) (hi : i < xs.length) : ∀ (vs ws old : List Value) (w : World), ws.length + vs.length = z → old.length = vs.length → OwnG B w T z v (xs.set i (ws ++ old)) → OwnG B (setCs w g (i * z + ws.length) vs) T z v (xs.set i (ws ++ vs))
  | [], ws, old, w, h1, h2, h => by
    have : old = [] := List.eq_nil_of_length_eq_zero h2
    subst this; exact h
  | u :: vs, ws, [], w, h1, h2, h => by simp at h2
  | u :: vs, ws, o :: old, w, h1, h2, h => by
    have hz : ws.length < z := by simp only [List.length_cons] at h1; omega
    have k := h.set hg (i := i) (by simpa using hi) (j := ws.length) hz u
    have e : (xs.set i (ws ++ o :: old)).set i (((xs.set i (ws ++ o :: old))[i]'(by simpa using hi)).set ws.length u) = xs.set i ((ws ++ [u]) ++ old) := by
      rw [List.set_set, List.getElem_set_self, List.set_append_right _ _ (Nat.le_refl _), Nat.sub_self]
      simp
    rw [e] at k
    have r := row_step hg hi vs (ws ++ [u]) old _ (by simp only [List.length_append, List.length_cons, List.length_nil] at h1 ⊢; omega) (by simpa using h2) k
    rw [show (ws ++ [u]).length = ws.length + 1 by simp, show ws ++ [u] ++ vs = ws ++ u :: vs by simp] at r
    exact r
theorem OwnG.row {B : Nat} {w : World} {T : TypeId} {z : Nat} {v : Value} {xs : List (List Value)} (h : OwnG B w T z v xs) {g i : Nat} (hg : v.ownBlock = some g) (hi : i < xs.length) (vs : List Value) (hv : vs.length = z) : OwnG B (setCs w g (i * z) vs) T z v (xs.set i vs) := by
  have e : xs.set i ([] ++ xs[i]) = xs := by simp
  have := row_step (B := B) (w := w) (T := T) (z := z) hg hi vs [] xs[i] (by simpa using hv) (by rw [hv]; exact h.1 _ (List.getElem_mem hi)) (by rw [e]; exact h)
  simpa using this
theorem set_next {α : Type} {A R : List α} {x y : α} {i : Nat} (hi : A.length = i) : (A ++ x :: R).set i y = A ++ [y] ++ R := by
  subst hi
  rw [List.set_append_right _ _ (Nat.le_refl _), Nat.sub_self]
  simp
end Go.Proofs.YtlgdjbabbfdngaaDoor
set_option linter.unusedVariables false
set_option linter.unusedSimpArgs false
namespace Go.Proofs.YtlgdjbabbfdngaaDoor
open Go.RowKit
structure Ed where
  x : Sy.Ex
  a : Option Addr
  n : Nat
instance : Inhabited Ed := ⟨⟨Sy.zx, none, 0⟩⟩
def ecell (d : Ed) : List Value := [.int .i64 d.x.op, .int .i64 d.x.n, .slice d.a d.x.ks.length d.n]
theorem info_exprT : (Tryd.prog.info? 35).map (fun i => (i.zero, i.size, i.bytes)) = some (some (.agg #[.int .i64 0, .int .i64 0, .slice none 0 0]), 3, 40) := by kernel_rfl
theorem kids_of {B g : Nat} {w : World} {S : Nat → Prop} {n : Nat} {ds : List Ed} (h : OwnG B w 35 3 (.slice (some ⟨g, 0, none⟩) n n) (ds.map ecell)) (hn : ds.length = n) (hl : n ≤ 100000) (hS : S g) (hk : ∀ d ∈ ds, KidsB w S d.a d.n d.x.ks) : KidsB w S (some ⟨g, 0, none⟩) n (ds.map Ed.x) := by
  have gd : ∀ i (hi : i < ds.length), ds.getD i default = ds[i] := fun i hi => by rw [List.getD_eq_getElem?_getD, List.getElem?_eq_getElem hi]; rfl
  refine KidsB.mk g 0 n (ds.map Ed.x) (fun i => (ds.getD i default).a) (fun i => (ds.getD i default).n) hS (by rw [List.length_map]; omega) (by omega) (fun i hi => ?_) (fun i hi => ?_)
  · have hi' : i < ds.length := by simpa using hi
    have c := fun j u hj => h.at (g := g) rfl (i := i) (by simpa using hi') (j := j) (u := u) hj
    have c0 := c 0 (.int .i64 ds[i].x.op) (by rw [List.getElem_map]; rfl)
    have c1 := c 1 (.int .i64 ds[i].x.n) (by rw [List.getElem_map]; rfl)
    have c2 := c 2 (.slice ds[i].a ds[i].x.ks.length ds[i].n) (by rw [List.getElem_map]; rfl)
    rw [gd i hi', List.getElem_map, Nat.zero_add]
    exact ⟨c0, c1, c2⟩
  · have hi' : i < ds.length := by simpa using hi
    rw [gd i hi', List.getElem_map]
    exact hk _ (List.getElem_mem hi')
inductive Smx : Sy.Ex → Prop where
  | mk (op n : Int) (ks : List Sy.Ex) (hl : ks.length ≤ 100) (hk : ∀ k ∈ ks, Smx k) : Smx (.mk op n ks)
theorem Smx.len {x : Sy.Ex} (h : Smx x) : x.ks.length ≤ 100 := by cases h with | mk op n ks hl hk => exact hl
theorem Smx.kid {x : Sy.Ex} (h : Smx x) : ∀ k ∈ x.ks, Smx k := by cases h with | mk op n ks hl hk => exact hk
def CpX (x : Sy.Ex) (a : Option Addr) (cap : Nat) (w : World) : Prop := Calls Tryd.prog 59 #[.agg #[.int .i64 x.op, .int .i64 x.n, .slice a x.ks.length cap]] w fun e w' => ∃ a' c', e = .returned (.agg #[.int .i64 x.op, .int .i64 x.n, .slice a' x.ks.length c']) ∧ KidsB w' (fun b => w.heap.size ≤ b) a' c' x.ks ∧ Qw w w'
set_option maxRecDepth 100000 in
set_option maxHeartbeats 4000000 in
theorem cp_kids (ks : List Sy.Ex) (hl : ks.length ≤ 100) (IH : ∀ k ∈ ks, ∀ (a : Option Addr) (cap : Nat) (S : Nat → Prop) (w : World), KidsB w S a cap k.ks → CpX k a cap w) (a : Option Addr) (cap : Nat) (S : Nat → Prop) (w : World) (h : KidsB w S a cap ks) :
    Calls Tryd.prog 66 #[.slice a ks.length cap, .func (.func 59) #[] #[]] w fun e w' => ∃ a' c', e = .returned (.slice a' ks.length c') ∧ KidsB w' (fun b => w.heap.size ≤ b) a' c' ks ∧ Qw w w' := by
  obtain ⟨w1, hr, hO, hg⟩ := g_make w w.heap.size 35 33 3 40 _ ks.length info_exprT Tryd.underlying33 rfl (by decide) (by decide) (by omega) (Nat.le_refl _)
  have q1 : Qw w w1 := (Below.refl _ _).grown hg (Nat.le_refl _) (by intro k e; cases e)
  have hG := (hO.lt (g := w.heap.size) rfl).2
  obtain ⟨l1, l2⟩ := h.cap
  have HK := Lib.hid h
  have HI := Lib.hid IH
  clear h IH
  go_enter Tryd.func66, Tryd.ntmps66
  go_wp2
  go_loopw [13] (fun iv wr => ∃ (i : Nat) (ds : List Ed), i ≤ ks.length ∧ iv = .int .i64 (i : Int) ∧ ds.length = i ∧ Hid (ds.map Ed.x = ks.take i) ∧ Hid (OwnG w.heap.size wr 35 3 (.slice (some ⟨w.heap.size, 0, none⟩) ks.length ks.length) (ds.map ecell ++ List.replicate (ks.length - i) [.int .i64 0, .int .i64 0, .slice none 0 0])) ∧ Hid (∀ d ∈ ds, KidsB wr (fun b => w.heap.size < b) d.a d.n d.x.ks) ∧ Hid (Qw w wr)) (fun iv _ => ks.length - (intOf iv).toNat)
  case atStart => exact ⟨0, [], by omega, rfl, rfl, Lib.hid rfl, Lib.hid hO, Lib.hid (by simp), Lib.hid q1⟩
  case round =>
    clear hO hg hr q1
    obtain ⟨i, ds, hi, rfl, hds, HX, HO, HD, HQ⟩ := hrel
    have h63 : (i : Int) ≤ 9223372036854775806 := by omega
    have hGr : w.heap.size < wr.heap.size := by have := HO.out.lt (g := w.heap.size) rfl; exact this.2
    have hGn : w.heap.size ≠ wr.heap.size := by omega
    by_cases hlt : i < ks.length
    · have hKr := HK.out.kept HQ.out
      have IHr := HI.out ks[i] (List.getElem_mem hlt)
      cases hKr with
      | nl => simp at hlt
      | mk b off cap ks ad cc hS h1 h2 hc hkk =>
        obtain ⟨z0, z1, z2⟩ := hc i hlt
        have KK := Lib.hid (hkk i hlt)
        have hi2 : (i : Int) < (ks.length : Int) := by omega
        have bl := cell_lt z0
        have hne : b ≠ wr.heap.size := by omega
        have hu : ∀ w', Qw wr w' → w'.cell? ⟨w.heap.size, i * 3, none⟩ = some (.int .i64 0) ∧ w'.frozen? ⟨w.heap.size, i * 3, none⟩ = false ∧ w'.cell? ⟨w.heap.size, i * 3 + 1, none⟩ = some (.int .i64 0) ∧ w'.frozen? ⟨w.heap.size, i * 3 + 1, none⟩ = false ∧ w'.cell? ⟨w.heap.size, i * 3 + 2, none⟩ = some (.slice none 0 0) ∧ w'.frozen? ⟨w.heap.size, i * 3 + 2, none⟩ = false := fun w' q => by
          have o := HO.out.go (w' := w') fun g hg hl => q.block g hl
          have hlen : (ds.map ecell ++ List.replicate (ks.length - i) ([.int .i64 0, .int .i64 0, .slice none 0 0] : List Value)).length = ks.length := by simp; omega
          have c := fun j u (hj : ([.int .i64 0, .int .i64 0, .slice none 0 0] : List Value)[j]? = some u) => o.at (g := w.heap.size) rfl (i := i) (by rw [hlen]; exact hlt) (j := j) (u := u) (by rw [List.getElem_append_right (by simp; omega), List.getElem_replicate]; exact hj)
          exact ⟨c 0 _ rfl, o.free (g := w.heap.size) rfl _, c 1 _ rfl, o.free (g := w.heap.size) rfl _, c 2 _ rfl, o.free (g := w.heap.size) rfl _⟩
        have HU := Lib.hid hu
        have CR := Lib.hid (fun w1 h => IHr (ad i) (cc i) S w1 h)
        have q0 : Hid (Qw wr wr) := Lib.hid (Qw.refl wr)
        clear hu hc hkk IHr
        have HX2 : Hid (ks[i] = ks[i]) := Lib.hid rfl
        obtain ⟨x, hx⟩ : ∃ x, x = ks[i] := ⟨_, rfl⟩
        rw [← hx] at z0 z1 z2 KK CR
        have HX3 := Lib.hid hx
        clear HX2 hx
        unfold CpX at CR
        go_wp2_with (go_at_call 59; ((with_reducible refine (CR.out _ (KidsB.kept KK.out Qz)).mono ?_); rintro e w' ⟨a', c', rfl, kb, q⟩; replace q0 : Hid (Qw wr w') := Lib.hid (Qw.trans Qz q); obtain ⟨u0, g0, u1, g1, u2, g2⟩ := HU.out w' q0.out))
        have hw' : w.heap.size < w'.heap.size := Nat.lt_of_lt_of_le hGr q0.out.size
        have o := (HO.out.go (w' := w') fun g hg hl => q0.out.block g hl).row (g := w.heap.size) rfl (i := i) (by simp; omega) (ecell ⟨x, a', c'⟩) rfl
        rw [show ks.length - i = (ks.length - (i + 1)) + 1 by omega, List.replicate_succ, set_next (by simpa using hds)] at o
        have eS : ∀ b, b ≠ w.heap.size → (setCs w' w.heap.size (i * 3) (ecell ⟨x, a', c'⟩)).heap[b]? = w'.heap[b]? := fun b hb => setCs_other hb _ _ _
        have qS : Qw w (setCs w' w.heap.size (i * 3) (ecell ⟨x, a', c'⟩)) := setCs_qw (Nat.le_refl _) _ _ _ (Qw.trans HQ.out q0.out)
        have hD : ∀ d ∈ ds ++ [(⟨x, a', c'⟩ : Ed)], KidsB (setCs w' w.heap.size (i * 3) (ecell ⟨x, a', c'⟩)) (fun b => w.heap.size < b) d.a d.n d.x.ks := fun d hd => by
          rcases List.mem_append.1 hd with hd | hd
          · exact (HD.out d hd).go fun b hb hl => ⟨(eS b (by omega)).trans (q0.out.block b hl), hb⟩
          · obtain rfl := List.mem_singleton.1 hd
            exact kb.go fun b hb hl => ⟨eS b (by have := q0.out.size; simp at hb; omega), by have := hb; simp at this; omega⟩
        have hx2 : (ds ++ [(⟨x, a', c'⟩ : Ed)]).map Ed.x = ks.take (i + 1) := by
          rw [List.map_append, HX.out, List.take_succ_eq_append_getElem hlt, ← HX3.out]; rfl
        go_roundw
        case measure => simp [intOf]; omega
        case rel => exact ⟨i + 1, ds ++ [⟨x, a', c'⟩], by omega, by go_num, by simp [hds], Lib.hid hx2, Lib.hid (by rw [List.map_append]; exact o), Lib.hid hD, Lib.hid qS⟩
    · obtain rfl : i = ks.length := by omega
      have hb : ¬ (ks.length : Int) < (ks.length : Int) := by omega
      have e1 : ds.map Ed.x = ks := by have := HX.out; rwa [List.take_length] at this
      have kf : KidsB wr (fun b => w.heap.size ≤ b) (some ⟨w.heap.size, 0, none⟩) ks.length ks := by
        have o := HO.out
        rw [Nat.sub_self, List.replicate_zero, List.append_nil] at o
        have := kids_of o hds (by omega) (S := fun b => w.heap.size ≤ b) (Nat.le_refl _) (fun d hd => (HD.out d hd).mono fun b hb => by omega)
        rwa [e1] at this
      go_wp2
      go_ret
      exact ⟨some ⟨w.heap.size, 0, none⟩, ks.length, rfl, kf, HQ.out⟩
end Go.Proofs.YtlgdjbabbfdngaaDoor
set_option linter.unusedVariables false
set_option linter.unusedSimpArgs false
namespace Go.Proofs.YtlgdjbabbfdngaaDoor
open Go.RowKit
set_option maxRecDepth 100000 in
set_option maxHeartbeats 4000000 in
theorem cp_expr : ∀ x : Sy.Ex, Smx x → ∀ (a : Option Addr) (cap : Nat) (S : Nat → Prop) (w : World), KidsB w S a cap x.ks → CpX x a cap w := by
  refine Sy.Ex.ind fun op n ks ih => ?_
  intro hs a cap S w h
  have hc := fun w1 (h : KidsB w1 S a cap ks) => cp_kids ks hs.len (fun k hk a cap S w h => ih k hk (hs.kid k hk) a cap S w h) a cap S w1 h
  have HC := Lib.hid hc
  have HK : Hid (KidsB w S a cap ks) := Lib.hid h
  clear h hc ih hs
  show Calls Tryd.prog 59 #[.agg #[.int .i64 op, .int .i64 n, .slice a ks.length cap]] w fun e w' => ∃ a' c', e = .returned (.agg #[.int .i64 op, .int .i64 n, .slice a' ks.length c']) ∧ KidsB w' (fun b => w.heap.size ≤ b) a' c' ks ∧ Qw w w'
  have X0 : Hid (Bx ((w.alloc (.cells #[.int .i64 op, .int .i64 n, .slice a ks.length cap] 35)).alloc (.cells #[.int .i64 0, .int .i64 0, .slice none 0 0] 35)) w.heap.size #[.int .i64 op, .int .i64 n, .slice a ks.length cap] 35) := Lib.hid ((Bx.new w _ _).alloc _)
  have Y0 : Hid (Bx ((w.alloc (.cells #[.int .i64 op, .int .i64 n, .slice a ks.length cap] 35)).alloc (.cells #[.int .i64 0, .int .i64 0, .slice none 0 0] 35)) (w.heap.size + 1) #[.int .i64 0, .int .i64 0, .slice none 0 0] 35) := Lib.hid (by have := Bx.new (w.alloc (.cells #[.int .i64 op, .int .i64 n, .slice a ks.length cap] 35)) #[.int .i64 0, .int .i64 0, .slice none 0 0] 35; rwa [show (w.alloc (.cells #[.int .i64 op, .int .i64 n, .slice a ks.length cap] 35)).heap.size = w.heap.size + 1 by simp] at this)
  have q0 : Hid (Qw w w) := Lib.hid (Qw.refl w)
  go_enter Tryd.func59, Tryd.ntmps59
  go_wp2_with (go_at_call 66; ((with_reducible refine (HC.out _ (KidsB.kept HK.out Qz)).mono ?_); rintro e w' ⟨a', c', rfl, kb, q⟩; have X := X0.out.kept q; have Y := Y0.out.kept q; have x0 := X.cell' 0 _ rfl; have x1 := X.cell' 1 _ rfl; have x2 := X.cell' 2 _ rfl; have g2 := X.free 2; have y0 := Y.cell' 0 _ rfl; have y1 := Y.cell' 1 _ rfl; have y2 := Y.cell' 2 _ rfl; have h0 := Y.free 0; have h1 := Y.free 1; have h2 := Y.free 2; replace q0 : Hid (Qw w w') := Lib.hid (Qw.trans Qz q); clear q))
  have Z := ((((Y.other (a := ⟨w.heap.size, 2, none⟩) (by show w.heap.size + 1 ≠ w.heap.size; omega) (.slice a' ks.length c')).set 0 (.int .i64 op)).set 1 (.int .i64 n)).set 2 (.slice a' ks.length c'))
  have z0 := Z.cell' 0 (.int .i64 op) rfl
  have z1 := Z.cell' 1 (.int .i64 n) rfl
  have z2 := Z.cell' 2 (.slice a' ks.length c') rfl
  have QQ : Qw w ((((w'.setCell ⟨w.heap.size, 2, none⟩ (.slice a' ks.length c')).setCell ⟨w.heap.size + 1, 0, none⟩ (.int .i64 op)).setCell ⟨w.heap.size + 1, 1, none⟩ (.int .i64 n)).setCell ⟨w.heap.size + 1, 2, none⟩ (.slice a' ks.length c')) := Qw.sc (Qw.sc (Qw.sc (Qw.sc q0.out (Nat.le_refl _) _) (Nat.le_succ _) _) (Nat.le_succ _) _) (Nat.le_succ _) _
  have kf : KidsB ((((w'.setCell ⟨w.heap.size, 2, none⟩ (.slice a' ks.length c')).setCell ⟨w.heap.size + 1, 0, none⟩ (.int .i64 op)).setCell ⟨w.heap.size + 1, 1, none⟩ (.int .i64 n)).setCell ⟨w.heap.size + 1, 2, none⟩ (.slice a' ks.length c')) (fun b => w.heap.size ≤ b) a' c' ks := by
    refine kb.go fun b hb hl => ⟨?_, by have := hb; simp at this; omega⟩
    have hb' : w.heap.size + 2 ≤ b := by have := hb; simp at this; omega
    have n1 : b ≠ w.heap.size + 1 := by omega
    have n0 : b ≠ w.heap.size := by omega
    exact (Below.heap_setCell _ _ _ b n1).trans ((Below.heap_setCell _ _ _ b n1).trans ((Below.heap_setCell _ _ _ b n1).trans (Below.heap_setCell _ _ _ b n0)))
  generalize (((w'.setCell ⟨w.heap.size, 2, none⟩ (.slice a' ks.length c')).setCell ⟨w.heap.size + 1, 0, none⟩ (.int .i64 op)).setCell ⟨w.heap.size + 1, 1, none⟩ (.int .i64 n)).setCell ⟨w.heap.size + 1, 2, none⟩ (.slice a' ks.length c') = wf at *
  exact bodyPost_ret (v := .agg #[.int .i64 op, .int .i64 n, .slice a' ks.length c']) (by simp [results, Tryd.results59, go_sem, z0, z1, z2]) rfl ⟨a', c', rfl, kf, QQ⟩
def CpW (c : Int) (x : Sy.Ex) (a : Option Addr) (cap : Nat) (w : World) : Prop := Calls Tryd.prog 58 #[.agg #[.int .i64 c, .int .i64 x.op, .int .i64 x.n, .slice a x.ks.length cap]] w fun e w' => ∃ a' c', e = .returned (.agg #[.int .i64 c, .int .i64 x.op, .int .i64 x.n, .slice a' x.ks.length c']) ∧ KidsB w' (fun b => w.heap.size ≤ b) a' c' x.ks ∧ Qw w w'
set_option maxRecDepth 100000 in
set_option maxHeartbeats 4000000 in
theorem cp_word (c : Int) (x : Sy.Ex) (hs : Smx x) (a : Option Addr) (cap : Nat) (S : Nat → Prop) (w : World) (h : KidsB w S a cap x.ks) : CpW c x a cap w := by
  have hc := fun w1 (h : KidsB w1 S a cap x.ks) => cp_expr x hs a cap S w1 h
  unfold CpX at hc
  unfold CpW
  have HC := Lib.hid hc
  have HK := Lib.hid h
  clear h hc hs
  have X0 : Hid (Bx ((w.alloc (.cells #[.int .i64 c, .int .i64 x.op, .int .i64 x.n, .slice a x.ks.length cap] 56)).alloc (.cells #[.int .i64 0, .int .i64 0, .int .i64 0, .slice none 0 0] 56)) w.heap.size #[.int .i64 c, .int .i64 x.op, .int .i64 x.n, .slice a x.ks.length cap] 56) := Lib.hid ((Bx.new w _ _).alloc _)
  have Y0 : Hid (Bx ((w.alloc (.cells #[.int .i64 c, .int .i64 x.op, .int .i64 x.n, .slice a x.ks.length cap] 56)).alloc (.cells #[.int .i64 0, .int .i64 0, .int .i64 0, .slice none 0 0] 56)) (w.heap.size + 1) #[.int .i64 0, .int .i64 0, .int .i64 0, .slice none 0 0] 56) := Lib.hid (by have := Bx.new (w.alloc (.cells #[.int .i64 c, .int .i64 x.op, .int .i64 x.n, .slice a x.ks.length cap] 56)) #[.int .i64 0, .int .i64 0, .int .i64 0, .slice none 0 0] 56; rwa [show (w.alloc (.cells #[.int .i64 c, .int .i64 x.op, .int .i64 x.n, .slice a x.ks.length cap] 56)).heap.size = w.heap.size + 1 by simp] at this)
  have q0 : Hid (Qw w w) := Lib.hid (Qw.refl w)
  go_enter Tryd.func58, Tryd.ntmps58
  go_wp2_with (go_at_call 59; ((with_reducible refine (HC.out _ (KidsB.kept HK.out Qz)).mono ?_); rintro e w' ⟨a', c', rfl, kb, q⟩; have X := X0.out.kept q; have Y := Y0.out.kept q; have x0 := X.cell' 0 _ rfl; have x1 := X.cell' 1 _ rfl; have x2 := X.cell' 2 _ rfl; have x3 := X.cell' 3 _ rfl; have g1 := X.free 1; have g2 := X.free 2; have g3 := X.free 3; have y0 := Y.cell' 0 _ rfl; have y1 := Y.cell' 1 _ rfl; have y2 := Y.cell' 2 _ rfl; have y3 := Y.cell' 3 _ rfl; have h0 := Y.free 0; have h1 := Y.free 1; have h2 := Y.free 2; have h3 := Y.free 3; replace q0 : Hid (Qw w w') := Lib.hid (Qw.trans Qz q); clear q))
  have hn : w.heap.size + 1 ≠ w.heap.size := by omega
  have Z := (((((((Y.other (a := ⟨w.heap.size, 1, none⟩) hn (.int .i64 x.op)).other (a := ⟨w.heap.size, 2, none⟩) hn (.int .i64 x.n)).other (a := ⟨w.heap.size, 3, none⟩) hn (.slice a' x.ks.length c')).set 0 (.int .i64 c)).set 1 (.int .i64 x.op)).set 2 (.int .i64 x.n)).set 3 (.slice a' x.ks.length c'))
  have z0 := Z.cell' 0 (.int .i64 c) rfl
  have z1 := Z.cell' 1 (.int .i64 x.op) rfl
  have z2 := Z.cell' 2 (.int .i64 x.n) rfl
  have z3 := Z.cell' 3 (.slice a' x.ks.length c') rfl
  have ge0 : w.heap.size ≤ w.heap.size := Nat.le_refl _
  have ge1 : w.heap.size ≤ w.heap.size + 1 := Nat.le_succ _
  have QQ : Qw w (((((((w'.setCell ⟨w.heap.size, 1, none⟩ (.int .i64 x.op)).setCell ⟨w.heap.size, 2, none⟩ (.int .i64 x.n)).setCell ⟨w.heap.size, 3, none⟩ (.slice a' x.ks.length c')).setCell ⟨w.heap.size + 1, 0, none⟩ (.int .i64 c)).setCell ⟨w.heap.size + 1, 1, none⟩ (.int .i64 x.op)).setCell ⟨w.heap.size + 1, 2, none⟩ (.int .i64 x.n)).setCell ⟨w.heap.size + 1, 3, none⟩ (.slice a' x.ks.length c')) := Qw.sc (Qw.sc (Qw.sc (Qw.sc (Qw.sc (Qw.sc (Qw.sc q0.out ge0 _) ge0 _) ge0 _) ge1 _) ge1 _) ge1 _) ge1 _
  have kf : KidsB (((((((w'.setCell ⟨w.heap.size, 1, none⟩ (.int .i64 x.op)).setCell ⟨w.heap.size, 2, none⟩ (.int .i64 x.n)).setCell ⟨w.heap.size, 3, none⟩ (.slice a' x.ks.length c')).setCell ⟨w.heap.size + 1, 0, none⟩ (.int .i64 c)).setCell ⟨w.heap.size + 1, 1, none⟩ (.int .i64 x.op)).setCell ⟨w.heap.size + 1, 2, none⟩ (.int .i64 x.n)).setCell ⟨w.heap.size + 1, 3, none⟩ (.slice a' x.ks.length c')) (fun b => w.heap.size ≤ b) a' c' x.ks := by
    refine kb.go fun b hb hl => ⟨?_, by have := hb; simp at this; omega⟩
    have hb' : w.heap.size + 2 ≤ b := by have := hb; simp at this; omega
    have n1 : b ≠ w.heap.size + 1 := by omega
    have n0 : b ≠ w.heap.size := by omega
    exact (Below.heap_setCell _ _ _ b n1).trans ((Below.heap_setCell _ _ _ b n1).trans ((Below.heap_setCell _ _ _ b n1).trans ((Below.heap_setCell _ _ _ b n1).trans ((Below.heap_setCell _ _ _ b n0).trans ((Below.heap_setCell _ _ _ b n0).trans (Below.heap_setCell _ _ _ b n0))))))
  generalize ((((((w'.setCell ⟨w.heap.size, 1, none⟩ (.int .i64 x.op)).setCell ⟨w.heap.size, 2, none⟩ (.int .i64 x.n)).setCell ⟨w.heap.size, 3, none⟩ (.slice a' x.ks.length c')).setCell ⟨w.heap.size + 1, 0, none⟩ (.int .i64 c)).setCell ⟨w.heap.size + 1, 1, none⟩ (.int .i64 x.op)).setCell ⟨w.heap.size + 1, 2, none⟩ (.int .i64 x.n)).setCell ⟨w.heap.size + 1, 3, none⟩ (.slice a' x.ks.length c') = wf at *
  exact bodyPost_ret (v := .agg #[.int .i64 c, .int .i64 x.op, .int .i64 x.n, .slice a' x.ks.length c']) (by simp [results, Tryd.results58, go_sem, z0, z1, z2, z3]) rfl ⟨a', c', rfl, kf, QQ⟩
end Go.Proofs.YtlgdjbabbfdngaaDoor
set_option linter.unusedVariables false
set_option linter.unusedSimpArgs false
namespace Go.Proofs.YtlgdjbabbfdngaaDoor
open Go.RowKit
instance : Inhabited Wd := ⟨⟨0, Sy.zx, none, 0⟩⟩
theorem words_of {B g : Nat} {w : World} {S : Nat → Prop} {n : Nat} {ds : List Wd} (h : OwnG B w 56 4 (.slice (some ⟨g, 0, none⟩) n n) (ds.map wcell)) (hn : ds.length = n) (hl : n ≤ 100000) (hS : S g) (hk : ∀ d ∈ ds, KidsB w S d.a d.n d.x.ks) : WordsB w S (some ⟨g, 0, none⟩) n (wds ds) := by
  have gd : ∀ i (hi : i < ds.length), ds.getD i default = ds[i] := fun i hi => by rw [List.getD_eq_getElem?_getD, List.getElem?_eq_getElem hi]; rfl
  have hlen : (wds ds).length = ds.length := List.length_map _
  refine ⟨by omega, by omega, .inr ⟨g, 0, (fun i => (ds.getD i default).a), (fun i => (ds.getD i default).n), rfl, hS, fun i hi => ?_⟩⟩
  have hi' : i < ds.length := by omega
  have c := fun j u hj => h.at (g := g) rfl (i := i) (by simpa using hi') (j := j) (u := u) hj
  have c0 := c 0 (.int .i64 ds[i].c) (by rw [List.getElem_map]; rfl)
  have c1 := c 1 (.int .i64 ds[i].x.op) (by rw [List.getElem_map]; rfl)
  have c2 := c 2 (.int .i64 ds[i].x.n) (by rw [List.getElem_map]; rfl)
  have c3 := c 3 (.slice ds[i].a ds[i].x.ks.length ds[i].n) (by rw [List.getElem_map]; rfl)
  have e : (wds ds)[i] = (ds[i].c, ds[i].x) := by simp [wds]
  dsimp only
  rw [gd i hi', e, Nat.zero_add]
  exact ⟨c0, c1, c2, c3, hk _ (List.getElem_mem hi')⟩
set_option maxRecDepth 100000 in
set_option maxHeartbeats 4000000 in
theorem cp_words (ks : List (Int × Sy.Ex)) (hl : ks.length ≤ 100) (IH : ∀ k ∈ ks, Smx k.2) (a : Option Addr) (cap : Nat) (S : Nat → Prop) (w : World) (h : WordsB w S a cap ks) :
    Calls Tryd.prog 57 #[.slice a ks.length cap, .func (.func 58) #[] #[]] w fun e w' => ∃ a' c', e = .returned (.slice a' ks.length c') ∧ WordsB w' (fun b => w.heap.size ≤ b) a' c' ks ∧ Qw w w' := by
  obtain ⟨w1, hr, hO, hg⟩ := g_make w w.heap.size 56 32 4 48 _ ks.length info_word Tryd.underlying32 rfl (by decide) (by decide) (by omega) (Nat.le_refl _)
  have q1 : Qw w w1 := (Below.refl _ _).grown hg (Nat.le_refl _) (by intro k e; cases e)
  have hG := (hO.lt (g := w.heap.size) rfl).2
  have l1 : ks.length ≤ cap := h.1
  have l2 : cap ≤ 9223372036854775807 := h.2.1
  have HK := Lib.hid h
  have HI := Lib.hid IH
  clear h IH
  go_enter Tryd.func57, Tryd.ntmps57
  go_wp2
  go_loopw [13] (fun iv wr => ∃ (i : Nat) (ds : List Wd), i ≤ ks.length ∧ iv = .int .i64 (i : Int) ∧ ds.length = i ∧ Hid (wds ds = ks.take i) ∧ Hid (OwnG w.heap.size wr 56 4 (.slice (some ⟨w.heap.size, 0, none⟩) ks.length ks.length) (ds.map wcell ++ List.replicate (ks.length - i) [.int .i64 0, .int .i64 0, .int .i64 0, .slice none 0 0])) ∧ Hid (∀ d ∈ ds, KidsB wr (fun b => w.heap.size < b) d.a d.n d.x.ks) ∧ Hid (Qw w wr)) (fun iv _ => ks.length - (intOf iv).toNat)
  case atStart => exact ⟨0, [], by omega, rfl, rfl, Lib.hid rfl, Lib.hid hO, Lib.hid (by simp), Lib.hid q1⟩
  case round =>
    clear hO hg hr q1
    obtain ⟨i, ds, hi, rfl, hds, HX, HO, HD, HQ⟩ := hrel
    have h63 : (i : Int) ≤ 9223372036854775806 := by omega
    have hGr : w.heap.size < wr.heap.size := by have := HO.out.lt (g := w.heap.size) rfl; exact this.2
    have hGn : w.heap.size ≠ wr.heap.size := by omega
    by_cases hlt : i < ks.length
    · have hKr : WordsB wr S a cap ks := HK.out.go fun b hS hb => ⟨HQ.out.block b hb, hS⟩
      have sm := HI.out ks[i] (List.getElem_mem hlt)
      have IHr := fun (a : Option Addr) (cap : Nat) (S : Nat → Prop) (w : World) (hh : KidsB w S a cap ks[i].2.ks) => cp_word ks[i].1 ks[i].2 sm a cap S w hh
      rcases hKr.2.2 with h0 | ⟨b, off, ad, cc, rfl, hS, hc⟩
      · rw [h0] at hlt; simp at hlt
      · obtain ⟨z0, z1, z2, z3, kk⟩ := hc i hlt
        have KK := Lib.hid kk
        have hi2 : (i : Int) < (ks.length : Int) := by omega
        have bl := cell_lt z0
        have hne : b ≠ wr.heap.size := by omega
        have hu : ∀ w', Qw wr w' → w'.cell? ⟨w.heap.size, i * 4, none⟩ = some (.int .i64 0) ∧ w'.frozen? ⟨w.heap.size, i * 4, none⟩ = false ∧ w'.cell? ⟨w.heap.size, i * 4 + 1, none⟩ = some (.int .i64 0) ∧ w'.frozen? ⟨w.heap.size, i * 4 + 1, none⟩ = false ∧ w'.cell? ⟨w.heap.size, i * 4 + 2, none⟩ = some (.int .i64 0) ∧ w'.frozen? ⟨w.heap.size, i * 4 + 2, none⟩ = false ∧ w'.cell? ⟨w.heap.size, i * 4 + 3, none⟩ = some (.slice none 0 0) ∧ w'.frozen? ⟨w.heap.size, i * 4 + 3, none⟩ = false := fun w' q => by
          have o := HO.out.go (w' := w') fun g hg hl => q.block g hl
          have hlen : (ds.map wcell ++ List.replicate (ks.length - i) ([.int .i64 0, .int .i64 0, .int .i64 0, .slice none 0 0] : List Value)).length = ks.length := by simp; omega
          have c := fun j u (hj : ([.int .i64 0, .int .i64 0, .int .i64 0, .slice none 0 0] : List Value)[j]? = some u) => o.at (g := w.heap.size) rfl (i := i) (by rw [hlen]; exact hlt) (j := j) (u := u) (by rw [List.getElem_append_right (by simp; omega), List.getElem_replicate]; exact hj)
          exact ⟨c 0 _ rfl, o.free (g := w.heap.size) rfl _, c 1 _ rfl, o.free (g := w.heap.size) rfl _, c 2 _ rfl, o.free (g := w.heap.size) rfl _, c 3 _ rfl, o.free (g := w.heap.size) rfl _⟩
        have HU := Lib.hid hu
        have CR := Lib.hid (fun w1 h => IHr (ad i) (cc i) S w1 h)
        have q0 : Hid (Qw wr wr) := Lib.hid (Qw.refl wr)
        clear hu hc kk IHr sm hKr
        have HX2 : Hid (ks[i] = ks[i]) := Lib.hid rfl
        obtain ⟨x, hx⟩ : ∃ x, x = ks[i] := ⟨_, rfl⟩
        rw [← hx] at z0 z1 z2 z3 KK CR
        have HX3 := Lib.hid hx
        clear HX2 hx
        obtain ⟨lt, x⟩ := x
        unfold CpW at CR
        dsimp only at z0 z1 z2 z3 KK CR
        go_wp2_with (go_at_call 58; ((with_reducible refine (CR.out _ (KidsB.kept KK.out Qz)).mono ?_); rintro e w' ⟨a', c', rfl, kb, q⟩; replace q0 : Hid (Qw wr w') := Lib.hid (Qw.trans Qz q); obtain ⟨u0, g0, u1, g1, u2, g2, u3, g3⟩ := HU.out w' q0.out))
        have hw' : w.heap.size < w'.heap.size := Nat.lt_of_lt_of_le hGr q0.out.size
        have o := (HO.out.go (w' := w') fun g hg hl => q0.out.block g hl).row (g := w.heap.size) rfl (i := i) (by simp; omega) (wcell ⟨lt, x, a', c'⟩) rfl
        rw [show ks.length - i = (ks.length - (i + 1)) + 1 by omega, List.replicate_succ, set_next (by simpa using hds)] at o
        have eS : ∀ b, b ≠ w.heap.size → (setCs w' w.heap.size (i * 4) (wcell ⟨lt, x, a', c'⟩)).heap[b]? = w'.heap[b]? := fun b hb => setCs_other hb _ _ _
        have qS : Qw w (setCs w' w.heap.size (i * 4) (wcell ⟨lt, x, a', c'⟩)) := setCs_qw (Nat.le_refl _) _ _ _ (Qw.trans HQ.out q0.out)
        have hD : ∀ d ∈ ds ++ [(⟨lt, x, a', c'⟩ : Wd)], KidsB (setCs w' w.heap.size (i * 4) (wcell ⟨lt, x, a', c'⟩)) (fun b => w.heap.size < b) d.a d.n d.x.ks := fun d hd => by
          rcases List.mem_append.1 hd with hd | hd
          · exact (HD.out d hd).go fun b hb hl => ⟨(eS b (by omega)).trans (q0.out.block b hl), hb⟩
          · obtain rfl := List.mem_singleton.1 hd
            exact kb.go fun b hb hl => ⟨eS b (by have := q0.out.size; simp at hb; omega), by have := hb; simp at this; omega⟩
        have hx2 : wds (ds ++ [(⟨lt, x, a', c'⟩ : Wd)]) = ks.take (i + 1) := by
          have := HX.out; unfold wds at this ⊢; rw [List.map_append, this, List.take_succ_eq_append_getElem hlt, ← HX3.out]; rfl
        go_roundw
        case measure => simp [intOf]; omega
        case rel => exact ⟨i + 1, ds ++ [⟨lt, x, a', c'⟩], by omega, by go_num, by simp [hds], Lib.hid hx2, Lib.hid (by rw [List.map_append]; exact o), Lib.hid hD, Lib.hid qS⟩
    · obtain rfl : i = ks.length := by omega
      have hb : ¬ (ks.length : Int) < (ks.length : Int) := by omega
      have e1 : wds ds = ks := by have := HX.out; rwa [List.take_length] at this
      have kf : WordsB wr (fun b => w.heap.size ≤ b) (some ⟨w.heap.size, 0, none⟩) ks.length ks := by
        have o := HO.out
        rw [Nat.sub_self, List.replicate_zero, List.append_nil] at o
        have := words_of o hds (by omega) (S := fun b => w.heap.size ≤ b) (Nat.le_refl _) (fun d hd => (HD.out d hd).mono fun b hb => by omega)
        rwa [e1] at this
      go_wp2
      go_ret
      exact ⟨some ⟨w.heap.size, 0, none⟩, ks.length, rfl, kf, HQ.out⟩
end Go.Proofs.YtlgdjbabbfdngaaDoor

