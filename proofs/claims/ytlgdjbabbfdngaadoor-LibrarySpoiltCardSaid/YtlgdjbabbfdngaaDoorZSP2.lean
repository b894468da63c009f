import Derived.Test.YtlgdjbabbfdngaaDoorZSP1
import Derived.OrdersHeld
import Derived.StillTail
import Derived.Deep.MidRow
set_option linter.unusedVariables false
set_option linter.unusedSimpArgs false
namespace Go.Proofs.YtlgdjbabbfdngaaDoor
open Go.RowKit
theorem made_flat (z : Array Value) (n : Nat) (hz : 0 < z.size) : (madeCells z (n * z.size)).toList = (List.replicate n z.toList).flatten := by
  have hr : ∀ x ∈ List.replicate n z.toList, x.length = z.size := fun x hx => by rw [(List.mem_replicate.1 hx).2]; simp
  apply List.ext_getElem?
  intro j
  by_cases hj : j < n * z.size
  · have h1 : j / z.size < n := (Nat.div_lt_iff_lt_mul hz).2 hj
    have h2 : j % z.size < z.size := Nat.mod_lt _ hz
    have e : j / z.size * z.size + j % z.size = j := by rw [Nat.mul_comm]; exact Nat.div_add_mod j z.size
    have := flat_get hr (j / z.size) (by simpa using h1) (j % z.size) h2
    rw [e] at this
    rw [this]
    simp [madeCells, hj, h2]
  · rw [List.getElem?_eq_none (by simp [madeCells]; omega), List.getElem?_eq_none (by rw [flat_len hr]; simp; omega)]
theorem g_make (w : World) (B : Nat) (T sl : TypeId) (z bytes : Nat) (zv : Value) (n : Nat)
    (info : (Tryd.prog.info? T).map (fun i => (i.zero, i.size, i.bytes)) = some (some zv, z, bytes)) (hu : Tryd.prog.underlying sl = some (.slice T)) (hzs : zv.cells.size = z) (hz : 0 < z) (hby : bytes ≤ 1000) (hn : n ≤ 100000) (hB : B ≤ w.heap.size) :
    ∃ w', (Instr.makeSlice sl (.int .i64 (n : Nat)) (.int .i64 (n : Nat))).run Tryd.prog w = .ok (.slice (some ⟨w.heap.size, 0, none⟩) n n) w' ∧ OwnG B w' T z (.slice (some ⟨w.heap.size, 0, none⟩) n n) (List.replicate n zv.cells.toList) ∧ w.grownBy w' none := by
  obtain ⟨i0, hi, hz0, hz1, hz2⟩ := info_parts info
  have hmb : bytes * n ≤ 1000 * 100000 := Nat.mul_le_mul hby hn
  obtain ⟨w', h1, h2, h3⟩ := run_make_full (P := Tryd.prog) w B sl T i0 zv z hu hi hz0 hz1 .i64 .i64 n (by rw [hz2]; omega) (by unfold maxLen; omega) hB
  refine ⟨w', h1, ⟨fun x hx => by rw [(List.mem_replicate.1 hx).2]; simpa using hzs, ?_⟩, h3⟩
  rw [List.length_replicate, ← made_flat zv.cells n (by omega), hzs]
  exact h2
def setCs (w : World) (g : Nat) : Nat → List Value → World
  | _, [] => w
  | o, v :: vs => setCs (w.setCell ⟨g, o, none⟩ v) g (o + 1) vs
theorem setCs_other {g b : Nat} (hb : b ≠ g) : ∀ (vs : List Value) (w : World) (o : Nat), (setCs w g o vs).heap[b]? = w.heap[b]?
  | [], _, _ => rfl
  | v :: vs, w, o => (setCs_other hb vs _ (o + 1)).trans (Below.heap_setCell w ⟨g, o, none⟩ v b hb)
theorem setCs_qw {g : Nat} {w0 : World} (hg : w0.heap.size ≤ g) : ∀ (vs : List Value) (w : World) (o : Nat), Qw w0 w → Qw w0 (setCs w g o vs)
  | [], _, _, q => q
  | v :: vs, w, o, q => setCs_qw hg vs _ (o + 1) (Qw.sc q hg v)
theorem row_step {B : Nat} {T : TypeId} {z : Nat} {v : Value} {xs : List (List Value)} {g i : Nat} (hg : v.ownBlock = some g) (hi : i < xs.length) : ∀ (vs ws old : List Value) (w : World), ws.length + vs.length = z → old.length = vs.length → OwnG B w T z v (xs.set i (ws ++ old)) → OwnG B (setCs w g (i * z + ws.length) vs) T z v (xs.set i (ws ++ vs))
  | [], ws, old, w, h1, h2, h => by
    have : old = [] := List.eq_nil_of_length_eq_zero h2
    subst this; exact h
  | u :: vs, ws, [], w, h1, h2, h => by simp at h2
  | u :: vs, ws, o :: old, w, h1, h2, h => by
    have hz : ws.length < z := by simp only [List.length_cons] at h1; omega
    have k := h.set hg (i := i) (by simpa using hi) (j := ws.length) hz u
    have e : (xs.set i (ws ++ o :: old)).set i (((xs.set i (ws ++ o :: old))[i]'(by simpa using hi)).set ws.length u) = xs.set i ((ws ++ [u]) ++ old) := by
      rw [List.set_set, List.getElem_set_self, List.set_append_right _ _ (Nat.le_refl _), Nat.sub_self]
      simp
    rw [e] at k
    have r := row_step hg hi vs (ws ++ [u]) old _ (by simp only [List.length_append, List.length_cons, List.length_nil] at h1 ⊢; omega) (by simpa using h2) k
    rw [show (ws ++ [u]).length = ws.length + 1 by simp, show ws ++ [u] ++ vs = ws ++ u :: vs by simp] at r
    exact r
theorem OwnG.row {B : Nat} {w : World} {T : TypeId} {z : Nat} {v : Value} {xs : List (List Value)} (h : OwnG B w T z v xs) {g i : Nat} (hg : v.ownBlock = some g) (hi : i < xs.length) (vs : List Value) (hv : vs.length = z) : OwnG B (setCs w g (i * z) vs) T z v (xs.set i vs) := by
  have e : xs.set i ([] ++ xs[i]) = xs := by simp
  have := row_step (B := B) (w := w) (T := T) (z := z) hg hi vs [] xs[i] (by simpa using hv) (by rw [hv]; exact h.1 _ (List.getElem_mem hi)) (by rw [e]; exact h)
  simpa using this
theorem set_next {α : Type} {A R : List α} {x y : α} {i : Nat} (hi : A.length = i) : (A ++ x :: R).set i y = A ++ [y] ++ R := by
  subst hi
  rw [List.set_append_right _ _ (Nat.le_refl _), Nat.sub_self]
  simp
end Go.Proofs.YtlgdjbabbfdngaaDoor
set_option linter.unusedVariables false
set_option linter.unusedSimpArgs false
namespace Go.Proofs.YtlgdjbabbfdngaaDoor
open Go.RowKit
structure Ed where
  x : Sy.Ex
  a : Option Addr
  n : Nat
instance : Inhabited Ed := ⟨⟨Sy.zx, none, 0⟩⟩
def ecell (d : Ed) : List Value := [.int .i64 d.x.op, .int .i64 d.x.n, .slice d.a d.x.ks.length d.n]
theorem info_exprT : (Tryd.prog.info? 35).map (fun i => (i.zero, i.size, i.bytes)) = some (some (.agg #[.int .i64 0, .int .i64 0, .slice none 0 0]), 3, 40) := by kernel_rfl
theorem kids_of {B g : Nat} {w : World} {S : Nat → Prop} {n : Nat} {ds : List Ed} (h : OwnG B w 35 3 (.slice (some ⟨g, 0, none⟩) n n) (ds.map ecell)) (hn : ds.length = n) (hl : n ≤ 100000) (hS : S g) (hk : ∀ d ∈ ds, KidsB w S d.a d.n d.x.ks) : KidsB w S (some ⟨g, 0, none⟩) n (ds.map Ed.x) := by
  have gd : ∀ i (hi : i < ds.length), ds.getD i default = ds[i] := fun i hi => by rw [List.getD_eq_getElem?_getD, List.getElem?_eq_getElem hi]; rfl
  refine KidsB.mk g 0 n (ds.map Ed.x) (fun i => (ds.getD i default).a) (fun i => (ds.getD i default).n) hS (by rw [List.length_map]; omega) (by omega) (fun i hi => ?_) (fun i hi => ?_)
  · have hi' : i < ds.length := by simpa using hi
    have c := fun j u hj => h.at (g := g) rfl (i := i) (by simpa using hi') (j := j) (u := u) hj
    have c0 := c 0 (.int .i64 ds[i].x.op) (by rw [List.getElem_map]; rfl)
    have c1 := c 1 (.int .i64 ds[i].x.n) (by rw [List.getElem_map]; rfl)
    have c2 := c 2 (.slice ds[i].a ds[i].x.ks.length ds[i].n) (by rw [List.getElem_map]; rfl)
    rw [gd i hi', List.getElem_map, Nat.zero_add]
    exact ⟨c0, c1, c2⟩
  · have hi' : i < ds.length := by simpa using hi
    rw [gd i hi', List.getElem_map]
    exact hk _ (List.getElem_mem hi')
inductive Smx : Sy.Ex → Prop where
  | mk (op n : Int) (ks : List Sy.Ex) (hl : ks.length ≤ 100) (hk : ∀ k ∈ ks, Smx k) : Smx (.mk op n ks)
theorem Smx.len {x : Sy.Ex} (h : Smx x) : x.ks.length ≤ 100 := by cases h with | mk op n ks hl hk => exact hl
theorem Smx.kid {x : Sy.Ex} (h : Smx x) : ∀ k ∈ x.ks, Smx k := by cases h with | mk op n ks hl hk => exact hk
def CpX (x : Sy.Ex) (a : Option Addr) (cap : Nat) (w : World) : Prop := Calls Tryd.prog 59 #[.agg #[.int .i64 x.op, .int .i64 x.n, .slice a x.ks.length cap]] w fun e w' => ∃ a' c', e = .returned (.agg #[.int .i64 x.op, .int .i64 x.n, .slice a' x.ks.length c']) ∧ KidsB w' (fun b => w.heap.size ≤ b) a' c' x.ks ∧ Qw w w'
set_option maxRecDepth 100000 in
set_option maxHeartbeats 4000000 in
theorem cp_kids (ks : List Sy.Ex) (hl : ks.length ≤ 100) (IH : ∀ k ∈ ks, ∀ (a : Option Addr) (cap : Nat) (S : Nat → Prop) (w : World), KidsB w S a cap k.ks → CpX k a cap w) (a : Option Addr) (cap : Nat) (S : Nat → Prop) (w : World) (h : KidsB w S a cap ks) :
    Calls Tryd.prog 66 #[.slice a ks.length cap, .func (.func 59) #[] #[]] w fun e w' => ∃ a' c', e = .returned (.slice a' ks.length c') ∧ KidsB w' (fun b => w.heap.size ≤ b) a' c' ks ∧ Qw w w' := by
  obtain ⟨w1, hr, hO, hg⟩ := g_make w w.heap.size 35 33 3 40 _ ks.length info_exprT Tryd.underlying33 rfl (by decide) (by decide) (by omega) (Nat.le_refl _)
  have q1 : Qw w w1 := (Below.refl _ _).grown hg (Nat.le_refl _) (by intro k e; cases e)
  have hG := (hO.lt (g := w.heap.size) rfl).2
  obtain ⟨l1, l2⟩ := h.cap
  have HK := Lib.hid h
  have HI := Lib.hid IH
  clear h IH
  go_enter Tryd.func66, Tryd.ntmps66
  go_wp2
  go_loopw [13] (fun iv wr => ∃ (i : Nat) (ds : List Ed), i ≤ ks.length ∧ iv = .int .i64 (i : Int) ∧ ds.length = i ∧ Hid (ds.map Ed.x = ks.take i) ∧ Hid (OwnG w.heap.size wr 35 3 (.slice (some ⟨w.heap.size, 0, none⟩) ks.length ks.length) (ds.map ecell ++ List.replicate (ks.length - i) [.int .i64 0, .int .i64 0, .slice none 0 0])) ∧ Hid (∀ d ∈ ds, KidsB wr (fun b => w.heap.size < b) d.a d.n d.x.ks) ∧ Hid (Qw w wr)) (fun iv _ => ks.length - (intOf iv).toNat)
  case atStart => exact ⟨0, [], by omega, rfl, rfl, Lib.hid rfl, Lib.hid hO, Lib.hid (by simp), Lib.hid q1⟩
  case round =>
    clear hO hg hr q1
    obtain ⟨i, ds, hi, rfl, hds, HX, HO, HD, HQ⟩ := hrel
    have h63 : (i : Int) ≤ 9223372036854775806 := by omega
    have hGr : w.heap.size < wr.heap.size := by have := HO.out.lt (g := w.heap.size) rfl; exact this.2
    have hGn : w.heap.size ≠ wr.heap.size := by omega
    by_cases hlt : i < ks.length
    · have hKr := HK.out.kept HQ.out
      have IHr := HI.out ks[i] (List.getElem_mem hlt)
      cases hKr with
      | nl => simp at hlt
      | mk b off cap ks ad cc hS h1 h2 hc hkk =>
        obtain ⟨z0, z1, z2⟩ := hc i hlt
        have KK := Lib.hid (hkk i hlt)
        have hi2 : (i : Int) < (ks.length : Int) := by omega
        have bl := cell_lt z0
        have hne : b ≠ wr.heap.size := by omega
        have hu : ∀ w', Qw wr w' → w'.cell? ⟨w.heap.size, i * 3, none⟩ = some (.int .i64 0) ∧ w'.frozen? ⟨w.heap.size, i * 3, none⟩ = false ∧ w'.cell? ⟨w.heap.size, i * 3 + 1, none⟩ = some (.int .i64 0) ∧ w'.frozen? ⟨w.heap.size, i * 3 + 1, none⟩ = false ∧ w'.cell? ⟨w.heap.size, i * 3 + 2, none⟩ = some (.slice none 0 0) ∧ w'.frozen? ⟨w.heap.size, i * 3 + 2, none⟩ = false := fun w' q => by
          have o := HO.out.go (w' := w') fun g hg hl => q.block g hl
          have hlen : (ds.map ecell ++ List.replicate (ks.length - i) ([.int .i64 0, .int .i64 0, .slice none 0 0] : List Value)).length = ks.length := by simp; omega
          have c := fun j u (hj : ([.int .i64 0, .int .i64 0, .slice none 0 0] : List Value)[j]? = some u) => o.at (g := w.heap.size) rfl (i := i) (by rw [hlen]; exact hlt) (j := j) (u := u) (by rw [List.getElem_append_right (by simp; omega), List.getElem_replicate]; exact hj)
          exact ⟨c 0 _ rfl, o.free (g := w.heap.size) rfl _, c 1 _ rfl, o.free (g := w.heap.size) rfl _, c 2 _ rfl, o.free (g := w.heap.size) rfl _⟩
        have HU := Lib.hid hu
        have CR := Lib.hid (fun w1 h => IHr (ad i) (cc i) S w1 h)
        have q0 : Hid (Qw wr wr) := Lib.hid (Qw.refl wr)
        clear hu hc hkk IHr
        have HX2 : Hid (ks[i] = ks[i]) := Lib.hid rfl
        obtain ⟨x, hx⟩ : ∃ x, x = ks[i] := ⟨_, rfl⟩
        rw [← hx] at z0 z1 z2 KK CR
        have HX3 := Lib.hid hx
        clear HX2 hx
        unfold CpX at CR
        go_wp2_with (go_at_call 59; ((with_reducible refine (CR.out _ (KidsB.kept KK.out Qz)).mono ?_); rintro e w' ⟨a', c', rfl, kb, q⟩; replace q0 : Hid (Qw wr w') := Lib.hid (Qw.trans Qz q); obtain ⟨u0, g0, u1, g1, u2, g2⟩ := HU.out w' q0.out))
        have hw' : w.heap.size < w'.heap.size := Nat.lt_of_lt_of_le hGr q0.out.size
        have o := (HO.out.go (w' := w') fun g hg hl => q0.out.block g hl).row (g := w.heap.size) rfl (i := i) (by simp; omega) (ecell ⟨x, a', c'⟩) rfl
        rw [show ks.length - i = (ks.length - (i + 1)) + 1 by omega, List.replicate_succ, set_next (by simpa using hds)] at o
        have eS : ∀ b, b ≠ w.heap.size → (setCs w' w.heap.size (i * 3) (ecell ⟨x, a', c'⟩)).heap[b]? = w'.heap[b]? := fun b hb => setCs_other hb _ _ _
        have qS : Qw w (setCs w' w.heap.size (i * 3) (ecell ⟨x, a', c'⟩)) := setCs_qw (Nat.le_refl _) _ _ _ (Qw.trans HQ.out q0.out)
        have hD : ∀ d ∈ ds ++ [(⟨x, a', c'⟩ : Ed)], KidsB (setCs w' w.heap.size (i * 3) (ecell ⟨x, a', c'⟩)) (fun b => w.heap.size < b) d.a d.n d.x.ks := fun d hd => by
          rcases List.mem_append.1 hd with hd | hd
          · exact (HD.out d hd).go fun b hb hl => ⟨(eS b (by omega)).trans (q0.out.block b hl), hb⟩
          · obtain rfl := List.mem_singleton.1 hd
            exact kb.go fun b hb hl => ⟨eS b (by have := q0.out.size; simp at hb; omega), by have := hb; simp at this; omega⟩
        have hx2 : (ds ++ [(⟨x, a', c'⟩ : Ed)]).map Ed.x = ks.take (i + 1) := by
          rw [List.map_append, HX.out, List.take_succ_eq_append_getElem hlt, ← HX3.out]; rfl
        go_roundw
        case measure => simp [intOf]; omega
        case rel => exact ⟨i + 1, ds ++ [⟨x, a', c'⟩], by omega, by go_num, by simp [hds], Lib.hid hx2, Lib.hid (by rw [List.map_append]; exact o), Lib.hid hD, Lib.hid qS⟩
    · obtain rfl : i = ks.length := by omega
      have hb : ¬ (ks.length : Int) < (ks.length : Int) := by omega
      have e1 : ds.map Ed.x = ks := by have := HX.out; rwa [List.take_length] at this
      have kf : KidsB wr (fun b => w.heap.size ≤ b) (some ⟨w.heap.size, 0, none⟩) ks.length ks := by
        have o := HO.out
        rw [Nat.sub_self, List.replicate_zero, List.append_nil] at o
        have := kids_of o hds (by omega) (S := fun b => w.heap.size ≤ b) (Nat.le_refl _) (fun d hd => (HD.out d hd).mono fun b hb => by omega)
        rwa [e1] at this
      go_wp2
      go_ret
      exact ⟨some ⟨w.heap.size, 0, none⟩, ks.length, rfl, kf, HQ.out⟩
end Go.Proofs.YtlgdjbabbfdngaaDoor
set_option linter.unusedVariables false
namespace Go.Proofs.YtlgdjbabbfdngaaDoor
open Go
section
variable {P : Program} {ops : Array Oper} {Q : Exit → Act → World → Prop} {md : Region.Mode} {S : World → Prop} {m : Nat}
def wpAnyM (P : Program) (md : Region.Mode) (ops : Array Oper) (Q : Exit → Act → World → Prop) (S : World → Prop) (m : Nat) : Nat → Array Bool → Act → World → Prop
  | 0, listed, a, w => Region.ready md ops listed = [] ∧ Q .normal a w
  | fuel + 1, listed, a, w =>
    (Region.ready md ops listed = [] → Q .normal a w) ∧
    ∀ i ∈ Region.ready md ops listed, wpOp P ops Q i (fun a' w' => (i < m → S w') ∧ wpAnyM P md ops Q S m fuel (listed.setIfInBounds i true) a' w') a w
theorem wpAny_of_M : ∀ (fuel : Nat) (listed : Array Bool) (a : Act) (w : World), wpAnyM P md ops Q S m fuel listed a w → wpAny P md ops Q fuel listed a w
  | 0, _, _, _, h => h
  | fuel + 1, _, _, _, h => ⟨h.1, fun i hi => wpOp_mono (fun a' w' h' => wpAny_of_M fuel _ a' w' h'.2) (h.2 i hi)⟩
theorem wpAnyM_first {i : Nat} {oi : Oper} {v : Value} (hi : ops[i]? = some oi) (hsel : ∀ (j : Nat) (o : Oper) cs b, ops[j]? = some o → o.op ≠ .select cs b)
    (hs : Region.sinkB md ops m = true) (hc : Region.chainB md ops m = true) (hml : m < ops.size) (him : i < m)
    (hQ : ∀ c a w, Q (.panic c) (a.put oi.dst v) w → Q (.panic c) a w) :
    ∀ (fuel : Nat) (listed : Array Bool) (a : Act) (w : World), HeadInv md ops m listed →
      (∀ j oj, ops[j]? = some oj → j ≠ i → listed.getD j true = false → (∀ e ∈ oj.after, Region.binds md e = true → e.on ≠ i) → oi.apart ops oj = true) →
      i ∈ Region.ready md ops listed → YieldsIf P ops S oi v a → S w →
      wpAnyM P md ops Q S m fuel (listed.setIfInBounds i true) (a.put oi.dst v) w → wpAnyM P md ops Q S m (fuel + 1) listed a w := by
  intro fuel
  induction fuel with
  | zero =>
    intro listed a w inv _ hr hy hS H
    refine ⟨fun h => (by rw [h] at hr; cases hr), fun j hj => ?_⟩
    by_cases hji : j = i
    · subst hji; exact hy.wpOp hi hS ⟨fun _ => hS, H⟩
    · have := ready_mono hj hji
      rw [H.1] at this
      cases this
  | succ fuel ih =>
    intro listed a w inv hfree hr hy hS H
    refine ⟨fun h => (by rw [h] at hr; cases hr), fun j hj => ?_⟩
    by_cases hji : j = i
    · subst hji; exact hy.wpOp hi hS ⟨fun _ => hS, H⟩
    · have h1 := H.2 j (ready_mono hj hji)
      have hjm : j < m := by
        rcases Nat.lt_or_ge j m with h | h
        · exact h
        · exact absurd hj (tail_waits hs hc hml inv _ i rfl him (mem_ready.1 hr).1 j h)
      obtain ⟨hjun, oj, hoj, hall⟩ := mem_ready.1 hj
      have hnot : ∀ e ∈ oj.after, Region.binds md e = true → e.on ≠ i := fun e he hb heq => by
        have h1 := hall e he hb
        have h0 := (mem_ready.1 hr).1
        rw [heq] at h1
        rcases Nat.lt_or_ge i listed.size with h' | h'
        · simp [h'] at h0 h1; rw [h0] at h1; cases h1
        · simp [Array.getElem?_eq_none h'] at h1
      have h2 := wpOp_putIf hoj (hfree j oj hoj hji hjun hnot) (fun cs b => hsel i oi cs b hi) (fun cs b => hsel j oj cs b hoj) hQ hy h1
      have hfree' : ∀ k ok, ops[k]? = some ok → k ≠ i → (listed.setIfInBounds j true).getD k true = false →
          (∀ e ∈ ok.after, Region.binds md e = true → e.on ≠ i) → oi.apart ops ok = true := fun k ok hk hki hun hno => by
        refine hfree k ok hk hki ?_ hno
        by_cases hjk : j = k
        · subst hjk; exact hjun
        · rw [getD_set_ne true hjk] at hun; exact hun
      refine wpOp_mono (fun a' w' h3 => ⟨h3.2.1, ih (listed.setIfInBounds j true) a' w' (inv.set hj hjm) hfree' (ready_mono hr (Ne.symm hji)) h3.1 (h3.2.1 hjm) ?_⟩) h2
      rw [Array.setIfInBounds_comm _ _ hji]
      exact h3.2.2
def okL (md : Region.Mode) (ops : Array Oper) (m : Nat) (listed : Array Bool) : Bool :=
  (listed.size == ops.size) && ((List.range ops.size).all fun j => !listed.getD j false || (match ops[j]? with | some o => o.after.all fun e => !Region.binds md e || listed.getD e.on false | none => true)) &&
    ((List.range ops.size).all fun t => decide (t < m) || !listed.getD t true)
theorem okL_inv {listed : Array Bool} (h : okL md ops m listed = true) : HeadInv md ops m listed := by
  unfold okL at h
  simp only [Bool.and_eq_true, List.all_eq_true, List.mem_range, Bool.or_eq_true, beq_iff_eq, decide_eq_true_eq, Bool.not_eq_true'] at h
  obtain ⟨⟨h1, h2⟩, h3⟩ := h
  refine ⟨h1, fun j oj hj hl e he hb => ?_, fun t ht ht' => ?_⟩
  · have hjs : j < ops.size := (Array.getElem?_eq_some_iff.1 hj).1
    rcases h2 j hjs with k | k
    · rw [hl] at k; cases k
    · rw [hj] at k
      simp only [Array.all_eq_true_iff_forall_mem, Bool.or_eq_true, Bool.not_eq_true'] at k
      rcases k e he with k | k
      · rw [hb] at k; cases k
      · exact k
  · rcases h3 t ht' with k | k
    · omega
    · exact k
def takeB (md : Region.Mode) (ops : Array Oper) (m i : Nat) (listed : Array Bool) : Bool :=
  Region.noSelect ops && Region.free md ops listed i && (Region.ready md ops listed).contains i && okL md ops m listed && Region.sinkB md ops m && Region.chainB md ops m && decide (m < ops.size) && decide (i < m)
theorem wpAnyM_take {i : Nat} {oi : Oper} {v : Value} {fuel : Nat} {listed : Array Bool} {a : Act} {w : World} (hi : ops[i]? = some oi)
    (hb : takeB md ops m i listed = true)
    (hQ : ∀ c a w, Q (.panic c) (a.put oi.dst v) w → Q (.panic c) a w) (hy : YieldsIf P ops S oi v a) (hS : S w)
    (h : wpAnyM P md ops Q S m fuel (listed.setIfInBounds i true) (a.put oi.dst v) w) : wpAnyM P md ops Q S m (fuel + 1) listed a w := by
  unfold takeB at hb
  simp only [Bool.and_eq_true, decide_eq_true_eq] at hb
  obtain ⟨⟨⟨⟨⟨⟨⟨h1, h2⟩, h3⟩, h4⟩, h5⟩, h6⟩, h7⟩, h8⟩ := hb
  exact wpAnyM_first hi (Region.noSelect_spec h1) h5 h6 h7 h8 hQ fuel listed a w (okL_inv h4) (Region.free_spec hi h2) (by simpa using h3) hy hS h
theorem wpAnyM_one {i : Nat} {oi : Oper} {fuel : Nat} {listed : Array Bool} {a : Act} {w : World} (hi : ops[i]? = some oi) (hr : Region.ready md ops listed = [i]) (hg : oi.guard = none)
    (h : ∀ K : Act → World → Prop, (∀ a' w', (i < m → S w') → wpAnyM P md ops Q S m fuel (listed.setIfInBounds i true) a' w' → K a' w') → oi.wp P a w K Q) : wpAnyM P md ops Q S m (fuel + 1) listed a w := by
  refine ⟨fun h0 => (by rw [h0] at hr; cases hr), fun j hj => ?_⟩
  rw [hr] at hj
  obtain rfl : j = i := by simpa using hj
  unfold wpOp
  rw [hi]
  simp only
  rw [if_pos (by simp [Region.wanted, hg])]
  exact .inl (h _ fun a' w' hS H => ⟨hS, H⟩)
theorem wpAnyM_done {listed : Array Bool} {a : Act} {w : World} (hr : Region.ready md ops listed = []) (h : Q .normal a w) :
    ∀ fuel, wpAnyM P md ops Q S m fuel listed a w
  | 0 => ⟨hr, h⟩
  | _ + 1 => ⟨fun _ => h, by rw [hr]; simp⟩
theorem wp_region_M {id : Nat} {a : Act} {w : World} (S : World → Prop) (m : Nat) (hm : P.follows .mixedOrders = true)
    (h : wpAnyM P .any ops Q S m ops.size (Array.replicate ops.size false) a w.drew) : (Code.region id ops true).wp P Q a w :=
  wp_region_any hm (wpAny_of_M _ _ _ _ h)
end
end Go.Proofs.YtlgdjbabbfdngaaDoor
set_option linter.unusedVariables false
set_option linter.unusedSimpArgs false
namespace Go.Proofs.YtlgdjbabbfdngaaDoor
open Go.RowKit
theorem kids_own {B : Nat} {w : World} {S : Nat → Prop} {v : Value} {ds : List Ed} (h : OwnG B w 35 3 v (ds.map ecell)) (hS : ∀ g, v.ownBlock = some g → S g) (hk : ∀ d ∈ ds, KidsB w S d.a d.n d.x.ks) : ∃ a c, v = .slice a ds.length c ∧ KidsB w S a c (ds.map Ed.x) := by
  obtain ⟨a, c, e, h1, h2, h3⟩ := h.form
  rw [List.length_map] at e h1
  refine ⟨a, c, e, ?_⟩
  by_cases h0 : ds = []
  · subst h0; exact KidsB.nl a c h2
  · obtain ⟨g, rfl, _, _⟩ := h3 (by simpa using h0)
    have hg : v.ownBlock = some g := by rw [e]; rfl
    have gd : ∀ i (hi : i < ds.length), ds.getD i default = ds[i] := fun i hi => by rw [List.getD_eq_getElem?_getD, List.getElem?_eq_getElem hi]; rfl
    refine KidsB.mk g 0 c (ds.map Ed.x) (fun i => (ds.getD i default).a) (fun i => (ds.getD i default).n) (hS g hg) (by rw [List.length_map]; omega) h2 (fun i hi => ?_) (fun i hi => ?_)
    · have hi' : i < ds.length := by simpa using hi
      have k := fun j u hj => h.at (g := g) hg (i := i) (by simpa using hi') (j := j) (u := u) hj
      have c0 := k 0 (.int .i64 ds[i].x.op) (by rw [List.getElem_map]; rfl)
      have c1 := k 1 (.int .i64 ds[i].x.n) (by rw [List.getElem_map]; rfl)
      have c2 := k 2 (.slice ds[i].a ds[i].x.ks.length ds[i].n) (by rw [List.getElem_map]; rfl)
      rw [gd i hi', List.getElem_map, Nat.zero_add]
      exact ⟨c0, c1, c2⟩
    · have hi' : i < ds.length := by simpa using hi
      rw [gd i hi', List.getElem_map]
      exact hk _ (List.getElem_mem hi')
def CqX (x : Sy.Ex) (a : Option Addr) (cap : Nat) (w : World) : Prop := Calls Tryd.prog 62 #[.agg #[.int .i64 x.op, .int .i64 x.n, .slice a x.ks.length cap]] w fun e w' => ∃ a' c', e = .returned (.agg #[.int .i64 x.op, .int .i64 x.n, .slice a' x.ks.length c']) ∧ KidsB w' (fun b => w.heap.size ≤ b) a' c' x.ks ∧ Qw w w'
structure Cq (op n : Int) (ks : List Sy.Ex) (a : Option Addr) (cap : Nat) (w : World) (i : Nat) (ds : List Ed) (yv : Value) (wr : World) : Prop where
  X : Bx wr w.heap.size #[.int .i64 op, .int .i64 n, .slice a ks.length cap] 35
  R : Bx wr (w.heap.size + 1) #[.int .i64 0, .int .i64 0, .slice none 0 0] 35
  Y : Bx wr (w.heap.size + 2) #[.int .i64 op, .int .i64 n, yv] 35
  O : OwnG (w.heap.size + 3) wr 35 3 yv (ds.map ecell)
  D : ∀ d ∈ ds, KidsB wr (fun b => w.heap.size + 3 ≤ b ∧ yv.ownBlock ≠ some b) d.a d.n d.x.ks
  Q : Qw w wr
  x : ds.map Ed.x = ks.take i
theorem Cq.app {op n : Int} {ks : List Sy.Ex} {a : Option Addr} {cap : Nat} {w wr w1 w2 : World} {i : Nat} {ds : List Ed} {yv v' : Value} (h : Cq op n ks a cap w i ds yv wr) (hi : i < ks.length) {d : Ed} (hd : d.x = ks[i]) (q : Qw wr w1) (hk : KidsB w1 (fun b => wr.heap.size ≤ b) d.a d.n d.x.ks)
    (ho : OwnG (w.heap.size + 3) w2 35 3 v' (ds.map ecell ++ [ecell d])) (hg : w1.grownBy w2 yv.ownBlock) (hn : ∀ g, v'.ownBlock = some g → yv.ownBlock = some g ∨ w1.heap.size ≤ g) : Cq op n ks a cap w (i + 1) (ds ++ [d]) v' (w2.setCell ⟨w.heap.size + 2, 2, none⟩ v') := by
  have yl := h.Y.lt
  have yo : ∀ g, yv.ownBlock = some g → w.heap.size + 3 ≤ g ∧ g < wr.heap.size := fun g hg => h.O.lt hg
  have s1 := q.size
  have keep : ∀ b, b < w1.heap.size → yv.ownBlock ≠ some b → b ≠ w.heap.size + 2 → (w2.setCell ⟨w.heap.size + 2, 2, none⟩ v').heap[b]? = w1.heap[b]? := fun b hb hne hY => (Below.heap_setCell w2 ⟨w.heap.size + 2, 2, none⟩ v' b hY).trans (hg.block b hb (fun e => hne e.symm))
  have nw : ∀ b, b < w1.heap.size → yv.ownBlock ≠ some b → v'.ownBlock ≠ some b := fun b hb hne e => by
    rcases hn b e with k | k
    · exact hne k
    · omega
  have ny : ∀ b, b < w.heap.size + 3 → yv.ownBlock ≠ some b := fun b hb e => by have := yo b e; omega
  refine ⟨?_, ?_, ?_, ?_, fun d' hd' => ?_, ?_, ?_⟩
  · exact ((keep _ (by omega) (ny _ (by omega)) (by omega)).trans (q.block _ (by omega))).trans h.X
  · exact ((keep _ (by omega) (ny _ (by omega)) (by omega)).trans (q.block _ (by omega))).trans h.R
  · have : Bx w2 (w.heap.size + 2) #[.int .i64 op, .int .i64 n, yv] 35 := ((hg.block _ (by omega) (fun e => ny _ (by omega) e.symm)).trans (q.block _ yl)).trans h.Y
    exact this.set 2 v'
  · rw [List.map_append]
    exact ho.go fun g hg' _ => Below.heap_setCell w2 ⟨w.heap.size + 2, 2, none⟩ v' g (by
      show g ≠ w.heap.size + 2
      rcases hn g hg' with k | k
      · have := yo g k; omega
      · omega)
  · rcases List.mem_append.1 hd' with hd' | hd'
    · exact (h.D d' hd').go fun b hb hl => ⟨(keep b (by omega) hb.2 (by omega)).trans (q.block b hl), hb.1, nw b (by omega) hb.2⟩
    · obtain rfl := List.mem_singleton.1 hd'
      exact hk.go fun b hb hl => by
        have hb' : wr.heap.size ≤ b := hb
        have hne : yv.ownBlock ≠ some b := fun e => by have := yo b e; omega
        exact ⟨keep b hl hne (by omega), by omega, nw b hl hne⟩
  · exact Qw.sc ⟨hg.os.trans (q.os.trans h.Q.os), hg.tape.trans (q.tape.trans h.Q.tape), hg.output.trans (q.output.trans h.Q.output), Nat.le_trans (Nat.le_trans h.Q.size q.size) hg.size, fun b hb => (hg.block b (by have := h.Q.size; omega) (fun e => ny b (by omega) e.symm)).trans ((q.block b (by have := h.Q.size; omega)).trans (h.Q.block b hb))⟩ (by show w.heap.size ≤ w.heap.size + 2; omega) v'
  · rw [List.map_append, h.x, List.take_succ_eq_append_getElem hi, ← hd]; rfl
theorem Cq.start (op n : Int) (ks : List Sy.Ex) (a : Option Addr) (cap : Nat) (w : World) : Cq op n ks a cap w 0 [] (.slice none 0 0) (((w.alloc (.cells #[.int .i64 op, .int .i64 n, .slice a ks.length cap] 35)).alloc (.cells #[.int .i64 0, .int .i64 0, .slice none 0 0] 35)).alloc (.cells #[.int .i64 op, .int .i64 n, .slice none 0 0] 35)) := by
  have s1 : ∀ o : Obj, (w.alloc o).heap.size = w.heap.size + 1 := fun o => by simp
  have s2 : ∀ o o' : Obj, ((w.alloc o).alloc o').heap.size = w.heap.size + 2 := fun o o' => by simp
  refine ⟨((Bx.new w _ _).alloc _).alloc _, ?_, ?_, OwnG.nil .., by simp, Qw.al (Qw.al (Qw.al (Qw.refl w) _) _) _, rfl⟩
  · have := (Bx.new (w.alloc (.cells #[.int .i64 op, .int .i64 n, .slice a ks.length cap] 35)) #[.int .i64 0, .int .i64 0, .slice none 0 0] 35).alloc (.cells #[.int .i64 op, .int .i64 n, .slice none 0 0] 35)
    rwa [s1] at this
  · have := Bx.new ((w.alloc (.cells #[.int .i64 op, .int .i64 n, .slice a ks.length cap] 35)).alloc (.cells #[.int .i64 0, .int .i64 0, .slice none 0 0] 35)) #[.int .i64 op, .int .i64 n, .slice none 0 0] 35
    rwa [s2] at this
set_option maxRecDepth 100000 in
set_option maxHeartbeats 4000000 in
theorem cq_expr : ∀ x : Sy.Ex, Smx x → ∀ (a : Option Addr) (cap : Nat) (S : Nat → Prop) (w : World), KidsB w S a cap x.ks → CqX x a cap w := by
  refine Sy.Ex.ind fun op n ks ih => ?_
  intro hs a cap S w h
  have hl : ks.length ≤ 100 := hs.len
  have IH := Lib.hid (fun (i : Nat) (hi : i < ks.length) (a : Option Addr) (cap : Nat) (w1 : World) (h : KidsB w1 S a cap ks[i].ks) => ih _ (List.getElem_mem hi) (hs.kid _ (List.getElem_mem hi)) a cap S w1 h)
  have HK : Hid (KidsB w S a cap ks) := Lib.hid h
  obtain ⟨l1, l2⟩ : ks.length ≤ cap ∧ cap ≤ 9223372036854775807 := h.cap
  clear h ih hs
  show Calls Tryd.prog 62 #[.agg #[.int .i64 op, .int .i64 n, .slice a ks.length cap]] w fun e w' => ∃ a' c', e = .returned (.agg #[.int .i64 op, .int .i64 n, .slice a' ks.length c']) ∧ KidsB w' (fun b => w.heap.size ≤ b) a' c' ks ∧ Qw w w'
  have C0 := Lib.hid (Cq.start op n ks a cap w)
  go_enter Tryd.func62, Tryd.ntmps62
  go_wp2
  go_loopw [4] (fun iv wr => ∃ (i : Nat) (ds : List Ed) (yv : Value), i ≤ ks.length ∧ iv = .int .i64 (i : Int) ∧ ds.length = i ∧ Hid (Cq op n ks a cap w i ds yv wr)) (fun iv _ => ks.length - (intOf iv).toNat)
  case atStart => exact ⟨0, [], _, by omega, rfl, rfl, C0⟩
  case round =>
    clear C0
    obtain ⟨i, ds, yv, hi, rfl, hds, C⟩ := hrel
    have hyv : ∃ ya yn yc, yv = .slice ya yn yc := by obtain ⟨ya, yc, e, _⟩ := C.out.O.form; exact ⟨ya, _, yc, e⟩
    obtain ⟨ya, yn, yc, rfl⟩ := hyv
    have x2 := C.out.X.cell' 2 (.slice a ks.length cap) rfl
    have y2 := C.out.Y.cell' 2 (.slice ya yn yc) rfl
    have xl := C.out.X.lt
    have yl := C.out.Y.lt
    by_cases hlt : i < ks.length
    · have h63 : (i : Int) ≤ 9223372036854775806 := by omega
      have hi2 : (i : Int) < (ks.length : Int) := by omega
      have hKr := HK.out
      cases hKr with
      | nl => simp at hlt
      | mk b off cap ks ad cc hS h1 h2 hc hkk =>
        obtain ⟨z0, z1, z2⟩ := hc i hlt
        have KK := Lib.hid ((hkk i hlt).kept C.out.Q)
        have bl0 := cell_lt z0
        rw [← C.out.Q.cell (p := ⟨b, off + i * 3, none⟩) bl0] at z0
        rw [← C.out.Q.cell (p := ⟨b, off + i * 3 + 1, none⟩) bl0] at z1
        rw [← C.out.Q.cell (p := ⟨b, off + i * 3 + 2, none⟩) bl0] at z2
        have bl : b < wr.heap.size := Nat.lt_of_lt_of_le bl0 C.out.Q.size
        have CR := Lib.hid (fun w1 (hh : KidsB w1 S (ad i) (cc i) ks[i].ks) => IH.out i hlt (ad i) (cc i) w1 hh)
        unfold CqX at CR
        obtain ⟨S2, hS2⟩ : ∃ S2 : World → Prop, ∀ w', S2 w' ↔ (w'.cell? ⟨w.heap.size, 2, none⟩ = some (.slice (some ⟨b, off, none⟩) ks.length cap) ∧ w'.cell? ⟨w.heap.size + 2, 2, none⟩ = some (.slice ya yn yc) ∧ w'.cell? ⟨b, off + i * 3, none⟩ = some (.int .i64 ks[i].op) ∧ w'.cell? ⟨b, off + i * 3 + 1, none⟩ = some (.int .i64 ks[i].n) ∧ w'.cell? ⟨b, off + i * 3 + 2, none⟩ = some (.slice (ad i) ks[i].ks.length (cc i))) := ⟨_, fun _ => Iff.rfl⟩
        have HS := Lib.hid hS2
        have KS := Lib.hid (fun w' (q : Qw wr w') => (hS2 w').2 ⟨(q.cell (p := ⟨w.heap.size, 2, none⟩) xl).trans x2, (q.cell (p := ⟨w.heap.size + 2, 2, none⟩) yl).trans y2, (q.cell (p := ⟨b, off + i * 3, none⟩) bl).trans z0, (q.cell (p := ⟨b, off + i * 3 + 1, none⟩) bl).trans z1, (q.cell (p := ⟨b, off + i * 3 + 2, none⟩) bl).trans z2⟩)
        clear hS2 hc hkk
        go_wp2
        clear z0 z1 z2 y2 x2
        refine wp_region_M S2 11 (by kernel_rfl) ?_
        have hSS : S2 (World.drew wr) := KS.out _ (Qw.dr (Qw.refl wr))
        refine wpAnyM_take (i := 0) (v := ?_) rfl (by kernel_rfl) (fun _ _ _ h => h) (Or.inl ⟨by rfl, ?_⟩) hSS ?_
        rotate_left 1
        · intro wS hwS
          go_simp
          try with_reducible rfl
        simp only [List.getElem_toArray, List.getElem_cons_succ, List.getElem_cons_zero, Act.put, List.setIfInBounds_toArray, List.set_cons_zero, List.set_cons_succ]
        refine wpAnyM_take (i := 1) (v := ?_) rfl (by kernel_rfl) (fun _ _ _ h => h) (Or.inl ⟨by rfl, ?_⟩) hSS ?_
        rotate_left 1
        · intro wS hwS
          obtain ⟨e0, e1, e2, e3, e4⟩ := (HS.out wS).1 hwS; go_simp
          try with_reducible rfl
        simp only [List.getElem_toArray, List.getElem_cons_succ, List.getElem_cons_zero, Act.put, List.setIfInBounds_toArray, List.set_cons_zero, List.set_cons_succ]
        refine wpAnyM_take (i := 2) (v := ?_) rfl (by kernel_rfl) (fun _ _ _ h => h) (Or.inl ⟨by rfl, ?_⟩) hSS ?_
        rotate_left 1
        · intro wS hwS
          go_simp
          try with_reducible rfl
        simp only [List.getElem_toArray, List.getElem_cons_succ, List.getElem_cons_zero, Act.put, List.setIfInBounds_toArray, List.set_cons_zero, List.set_cons_succ]
        refine wpAnyM_take (i := 3) (v := ?_) rfl (by kernel_rfl) (fun _ _ _ h => h) (Or.inl ⟨by rfl, ?_⟩) hSS ?_
        rotate_left 1
        · intro wS hwS
          obtain ⟨e0, e1, e2, e3, e4⟩ := (HS.out wS).1 hwS; go_simp
          try with_reducible rfl
        simp only [List.getElem_toArray, List.getElem_cons_succ, List.getElem_cons_zero, Act.put, List.setIfInBounds_toArray, List.set_cons_zero, List.set_cons_succ]
        refine wpAnyM_take (i := 4) (v := ?_) rfl (by kernel_rfl) (fun _ _ _ h => h) (Or.inl ⟨by rfl, ?_⟩) hSS ?_
        rotate_left 1
        · intro wS hwS
          go_simp
          try with_reducible rfl
        simp only [List.getElem_toArray, List.getElem_cons_succ, List.getElem_cons_zero, Act.put, List.setIfInBounds_toArray, List.set_cons_zero, List.set_cons_succ]
        refine wpAnyM_take (i := 5) (v := ?_) rfl (by kernel_rfl) (fun _ _ _ h => h) (Or.inl ⟨by rfl, ?_⟩) hSS ?_
        rotate_left 1
        · intro wS hwS
          go_simp
          try with_reducible rfl
        simp only [List.getElem_toArray, List.getElem_cons_succ, List.getElem_cons_zero, Act.put, List.setIfInBounds_toArray, List.set_cons_zero, List.set_cons_succ]
        refine wpAnyM_take (i := 6) (v := ?_) rfl (by kernel_rfl) (fun _ _ _ h => h) (Or.inl ⟨by rfl, ?_⟩) hSS ?_
        rotate_left 1
        · intro wS hwS
          obtain ⟨e0, e1, e2, e3, e4⟩ := (HS.out wS).1 hwS; go_simp
          try with_reducible rfl
        simp only [List.getElem_toArray, List.getElem_cons_succ, List.getElem_cons_zero, Act.put, List.setIfInBounds_toArray, List.set_cons_zero, List.set_cons_succ]
        refine wpAnyM_one (i := 7) rfl (by kernel_rfl) rfl (fun K hK => ?_)
        go_simp
        refine (CR.out _ (KK.out.kept (Qw.dr (Qw.refl wr)))).mono ?_
        rintro e w1 ⟨a', c', rfl, kb, q1⟩
        have Q1 : Qw wr w1 := Qw.trans (Qw.dr (Qw.refl wr)) q1
        refine hK _ _ (fun _ => KS.out _ Q1) ?_
        clear hK K hSS
        have hSS : S2 w1 := KS.out _ Q1
        refine wpAnyM_one (i := 8) rfl (by kernel_rfl) rfl (fun K hK => ?_)
        go_simp
        have Q2 : Qw wr (w1.alloc (.cells #[.int .i64 ks[i].op, .int .i64 ks[i].n, .slice a' ks[i].ks.length c'] 35)) := Qw.al Q1 _
        refine hK _ _ (fun _ => KS.out _ Q2) ?_
        clear hK K hSS
        have kb2 : KidsB (w1.alloc (.cells #[.int .i64 ks[i].op, .int .i64 ks[i].n, .slice a' ks[i].ks.length c'] 35)) (fun b => wr.heap.size ≤ b) a' c' ks[i].ks := (kb.alloc _).mono fun b hb => hb
        have O2 := C.out.O.go (w' := w1.alloc (.cells #[.int .i64 ks[i].op, .int .i64 ks[i].n, .slice a' ks[i].ks.length c'] 35)) fun g _ hl => Q2.block g hl
        obtain ⟨v', w2, hr, ho, hg, hn⟩ := g_append (ty := 33) 35 33 3 40 _ (ecell ⟨ks[i], a', c'⟩) w1.heap.size info_exprT Tryd.underlying33 rfl (by decide) (by decide) (Bx.new w1 _ _) rfl (by intro u hu; simp [ecell] at hu; rcases hu with rfl | rfl | rfl <;> rfl) O2 (by rw [List.length_map]; omega) (Nat.le_trans (by omega) Q2.size)
        have hv' : ∃ va vn vc, v' = .slice va vn vc := by obtain ⟨va, vc, e, _⟩ := ho.form; exact ⟨va, _, vc, e⟩
        obtain ⟨va, vn, vc, rfl⟩ := hv'
        have CN := Lib.hid (C.out.app hlt (d := ⟨ks[i], a', c'⟩) rfl Q2 kb2 ho hg hn)
        have own : ∀ k, k < w.heap.size + 3 → (Value.slice ya yn yc).ownBlock ≠ some k := fun k hk e => by have := C.out.O.lt e; omega
        have H2 := KS.out _ Q2
        have s2 := Q2.size
        obtain ⟨e0, e1, e2, e3, e4⟩ := (HS.out _).1 H2
        have gc : ∀ (k o : Nat), k < w.heap.size + 3 → w2.cell? ⟨k, o, none⟩ = (w1.alloc (.cells #[.int .i64 ks[i].op, .int .i64 ks[i].n, .slice a' ks[i].ks.length c'] 35)).cell? ⟨k, o, none⟩ := fun k o hk => World.cell?_of_block (w := w1.alloc (.cells #[.int .i64 ks[i].op, .int .i64 ks[i].n, .slice a' ks[i].ks.length c'] 35)) (hg.block k (Nat.lt_of_lt_of_le (show k < wr.heap.size by omega) Q2.size) (fun e => own k hk e.symm))
        have hS2 : S2 w2 := (HS.out _).2 ⟨(gc _ _ (by omega)).trans e0, (gc _ _ (by omega)).trans e1, (gc _ _ (by omega)).trans e2, (gc _ _ (by omega)).trans e3, (gc _ _ (by omega)).trans e4⟩
        have fY : w2.frozen? ⟨w.heap.size + 2, 2, none⟩ = false := by
          have : Bx w2 (w.heap.size + 2) #[.int .i64 op, .int .i64 n, .slice ya yn yc] 35 := (hg.block _ (Nat.lt_of_lt_of_le yl Q2.size) (fun e => own _ (by omega) e.symm)).trans (C.out.Y.kept Q2)
          exact this.free 2
        have cY := ((HS.out _).1 hS2).2.1
        refine wpAnyM_one (i := 9) rfl (by kernel_rfl) rfl (fun K hK => ?_)
        refine Lib.wp_append_run _ (.tmp 18) (.tmp 25) 33 33 rfl _ _ (by rfl) (by rfl) _ w2 hr ?_
        refine hK _ _ (fun _ => hS2) ?_
        clear hK K
        have hSS := hS2
        refine wpAnyM_take (i := 10) (v := ?_) rfl (by kernel_rfl) (fun _ _ _ h => h) (Or.inl ⟨by rfl, ?_⟩) hSS ?_
        rotate_left 1
        · intro wS hwS
          go_simp
          try with_reducible rfl
        simp only [List.getElem_toArray, List.getElem_cons_succ, List.getElem_cons_zero, Act.put, List.setIfInBounds_toArray, List.set_cons_zero, List.set_cons_succ]
        refine wpAnyM_one (i := 11) rfl (by kernel_rfl) rfl (fun K hK => ?_)
        go_simp
        refine hK _ (w2.setCell ⟨w.heap.size + 2, 2, none⟩ (.slice va vn vc)) (fun h => absurd h (by decide)) ?_
        clear hK K hSS hS2 fY cY gc own e0 e1 e2 e3 e4 H2 hr ho hg hn O2 kb kb2 Q1 Q2 q1
        refine wpAnyM_done (by kernel_rfl) ?_ _
        go_wp2
        go_roundw
        case measure => simp [intOf]; omega
        case rel => exact ⟨i + 1, _, _, by omega, by go_num, by simp [hds], CN⟩
    · obtain rfl : i = ks.length := by omega
      have hb : ¬ (ks.length : Int) < (ks.length : Int) := by omega
      have e1 : ds.map Ed.x = ks := by have := C.out.x; rwa [List.take_length] at this
      obtain ⟨ka, kc, hke, kd⟩ := kids_own C.out.O (S := fun b => w.heap.size + 3 ≤ b) (fun g hg => (C.out.O.lt hg).1) (fun d hd => (C.out.D d hd).mono fun b hb => hb.1)
      rw [e1] at kd
      obtain ⟨rfl, rfl, rfl⟩ : ya = ka ∧ yn = ds.length ∧ yc = kc := by simpa using hke
      have y0 := C.out.Y.cell' 0 (.int .i64 op) rfl
      have y1 := C.out.Y.cell' 1 (.int .i64 n) rfl
      have r0 := C.out.R.cell' 0 (.int .i64 0) rfl
      have r1 := C.out.R.cell' 1 (.int .i64 0) rfl
      have r2 := C.out.R.cell' 2 (.slice none 0 0) rfl
      have g0 := C.out.R.free 0
      have g1 := C.out.R.free 1
      have g2 := C.out.R.free 2
      have Z := ((C.out.R.set 0 (.int .i64 op)).set 1 (.int .i64 n)).set 2 (.slice ya ks.length yc)
      have z0 := Z.cell' 0 (.int .i64 op) rfl
      have z1 := Z.cell' 1 (.int .i64 n) rfl
      have z2 := Z.cell' 2 (.slice ya ks.length yc) rfl
      have ge1 : w.heap.size ≤ w.heap.size + 1 := Nat.le_succ _
      have QQ : Qw w (((wr.setCell ⟨w.heap.size + 1, 0, none⟩ (.int .i64 op)).setCell ⟨w.heap.size + 1, 1, none⟩ (.int .i64 n)).setCell ⟨w.heap.size + 1, 2, none⟩ (.slice ya ks.length yc)) := Qw.sc (Qw.sc (Qw.sc C.out.Q ge1 _) ge1 _) ge1 _
      have kf : KidsB (((wr.setCell ⟨w.heap.size + 1, 0, none⟩ (.int .i64 op)).setCell ⟨w.heap.size + 1, 1, none⟩ (.int .i64 n)).setCell ⟨w.heap.size + 1, 2, none⟩ (.slice ya ks.length yc)) (fun b => w.heap.size ≤ b) ya yc ks := kd.go fun b hb _ => by
        have n1 : b ≠ w.heap.size + 1 := by omega
        exact ⟨(Below.heap_setCell _ _ _ b n1).trans ((Below.heap_setCell _ _ _ b n1).trans (Below.heap_setCell _ _ _ b n1)), by omega⟩
      rw [hds] at C
      have cY := C.out.Y.cell' 2 (.slice ya ks.length yc) rfl
      clear C HK IH kd hke
      go_wp2
      generalize ((wr.setCell ⟨w.heap.size + 1, 0, none⟩ (.int .i64 op)).setCell ⟨w.heap.size + 1, 1, none⟩ (.int .i64 n)).setCell ⟨w.heap.size + 1, 2, none⟩ (.slice ya ks.length yc) = wf at *
      exact bodyPost_ret (v := .agg #[.int .i64 op, .int .i64 n, .slice ya ks.length yc]) (by simp [results, Tryd.results62, go_sem, z0, z1, z2]) rfl ⟨ya, yc, rfl, kf, QQ⟩
end Go.Proofs.YtlgdjbabbfdngaaDoor

