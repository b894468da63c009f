import Derived.Test.YtlgdjbabbfdngaaDoorZM1
import Derived.Test.YtlgdjbabbfdngaaDoorZM2
import Derived.Test.YtlgdjbabbfdngaaDoorZM4
set_option linter.unusedVariables false
set_option linter.unusedSimpArgs false
namespace Go.Proofs.YtlgdjbabbfdngaaDoor
open Go.RowKit
namespace Lb
open Sy
theorem kds_le (o : Nat) : kds o ≤ 2 := by
  unfold kds
  rw [List.getD_eq_getElem?_getD]
  by_cases h : o < kdsl.length
  · rw [List.getElem?_eq_getElem h]
    have : ∀ k ∈ kdsl, k ≤ 2 := by decide
    exact this _ (List.getElem_mem h)
  · rw [List.getElem?_eq_none (by omega)]; decide
theorem smx_of : ∀ x : Ex, okx x = true → Smx x := by
  refine Ex.ind fun op n ks ih h => ?_
  rw [okx_mk, Bool.and_eq_true] at h
  obtain ⟨h1, h2⟩ := h
  unfold nodeB at h1
  simp only [Bool.and_eq_true] at h1
  have h3 : ks.length = kds op.toNat := of_decide_eq_true h1.1.2
  refine .mk op n ks (by have := kds_le op.toNat; omega) fun k hk => ih k hk (List.all_eq_true.1 h2 k hk)
theorem smx_none {x : Ex} (h : noneB x = true) : Smx x := by rw [noneB_eq h]; exact .mk 0 0 [] (by simp) (by simp)
theorem vld_all {b : Bl} (h : vldb b = true) : Smb b ∧ 0 ≤ b.label ∧ b.label ≤ 99999 ∧ -100000 ≤ b.n ∧ b.n ≤ 100000 := by
  obtain ⟨h1, h2⟩ := by unfold vldb at h; simpa only [Bool.and_eq_true] using h
  have hl : b.words.length ≤ 24 := by unfold limb at h2; simp only [Bool.and_eq_true] at h2; exact of_decide_eq_true h2.1.1.1
  unfold okb at h1
  simp only [Bool.and_eq_true, Bool.or_eq_true] at h1
  obtain ⟨h3, h4⟩ := h1
  have lab : 0 ≤ b.label ∧ b.label ≤ 99999 := by
    rcases h3 with h3 | h3
    · have := of_decide_eq_true h3; omega
    · unfold cnt at h3; simp only [Bool.and_eq_true, decide_eq_true_eq] at h3; omega
  split at h4
  · simp only [Bool.and_eq_true, decide_eq_true_eq] at h4
    obtain ⟨⟨⟨w1, w2⟩, w3⟩, w4⟩ := h4
    exact ⟨⟨by omega, fun k hk => smx_of _ (by have := List.all_eq_true.1 w1 k hk; simp only [Bool.and_eq_true] at this; exact this.2), smx_none w2, smx_none w3⟩, lab.1, lab.2, by omega, by omega⟩
  · simp only [Bool.and_eq_true, decide_eq_true_eq] at h4
    obtain ⟨e, h5⟩ := h4
    have ws : ∀ k ∈ b.words, Smx k.2 := by rw [e]; simp
    have fin : Smx b.left → Smx b.x → (-100000 ≤ b.n ∧ b.n ≤ 100000) → Smb b ∧ 0 ≤ b.label ∧ b.label ≤ 99999 ∧ -100000 ≤ b.n ∧ b.n ≤ 100000 := fun a c d => ⟨⟨by omega, ws, a, c⟩, lab.1, lab.2, d.1, d.2⟩
    have cn : ∀ m : Nat, m ≤ 100000 → cnt b.n m = true → -100000 ≤ b.n ∧ b.n ≤ 100000 := fun m hm hc => by unfold cnt at hc; simp only [Bool.and_eq_true, decide_eq_true_eq] at hc; omega
    split at h5
    · simp only [Bool.and_eq_true, decide_eq_true_eq] at h5
      exact fin (smx_of _ h5.1.1) (smx_of _ h5.1.2) (by omega)
    · split at h5
      · simp only [Bool.and_eq_true, decide_eq_true_eq] at h5
        exact fin (smx_none h5.1.1) (smx_of _ h5.1.2) (by omega)
      · split at h5
        · simp only [Bool.and_eq_true] at h5
          exact fin (smx_none h5.1.1) (smx_of _ h5.1.2) (cn 3 (by decide) h5.2)
        · split at h5
          · simp only [Bool.and_eq_true] at h5
            exact fin (smx_none h5.1.1) (smx_none h5.1.2) (cn 3 (by decide) h5.2)
          · split at h5
            · simp only [Bool.and_eq_true] at h5
              exact fin (smx_none h5.1.1) (smx_none h5.1.2) (cn 99999 (by decide) h5.2)
            · cases h5
theorem inv_some : ∀ (l : List Bl) (i k : Nat) (hk : k < l.length), (∀ j (h : j < k), vldb (l[j]'(by omega)) = true) → vldb l[k] = false → inv l i = some (i + k)
  | [], _, k, hk, _, _ => by simp at hk
  | b :: l, i, 0, _, _, h => by unfold inv; rw [if_neg (by simpa using h)]; rfl
  | b :: l, i, k + 1, hk, h1, h2 => by
    unfold inv
    rw [if_pos (show vldb b = true from h1 0 (by omega)), inv_some l (i + 1) k (by simpa using hk) (fun j h => h1 (j + 1) (by omega)) h2]
    congr 1; omega
theorem stepS_i {b : Bl} {s s' : St} (h : stepS b s = .ok s') : s'.i = s.i + 1 := by
  unfold stepS at h
  cases h1 : pgS b s with
  | bad j e => rw [h1] at h; cases h
  | ok s1 =>
    rw [h1] at h
    simp only at h
    have e1 : s1.i = s.i := by
      unfold pgS at h1
      split at h1
      · split at h1
        · cases h1
        · split at h1
          · cases h1
          · injection h1 with h1; rw [← h1]
      · injection h1 with h1; rw [← h1]
    cases h2 : labS b s1 with
    | bad j e => rw [h2] at h; cases h
    | ok s2 =>
      rw [h2] at h
      simp only at h
      have e2 : s2.i = s1.i := by
        unfold labS at h2
        split at h2
        · split at h2
          · cases h2
          · injection h2 with h2; rw [← h2]
        · injection h2 with h2; rw [← h2]
      unfold loopS at h
      split at h
      · split at h
        · cases h
        · injection h with h; rw [← h]; show s2.i + 1 = _; omega
      · split at h
        · split at h
          · cases h
          · split at h
            · injection h with h; rw [← h]; show s2.i + 1 = _; omega
            · cases h
        · injection h with h; rw [← h]; show s2.i + 1 = _; omega
theorem stepS_err {b : Bl} {s : St} {j : Nat} {e : Int} (h : stepS b s = .bad j e) : e = 7 ∨ e = 11 := by
  unfold stepS at h
  cases h1 : pgS b s with
  | bad j' e' =>
    rw [h1] at h
    injection h with _ h
    subst h
    unfold pgS at h1
    split at h1
    · split at h1
      · injection h1 with _ h1; exact .inr h1.symm
      · split at h1
        · injection h1 with _ h1; exact .inl h1.symm
        · cases h1
    · cases h1
  | ok s1 =>
    rw [h1] at h
    simp only at h
    cases h2 : labS b s1 with
    | bad j' e' =>
      rw [h2] at h
      injection h with _ h
      subst h
      unfold labS at h2
      split at h2
      · split at h2
        · injection h2 with _ h2; exact .inl h2.symm
        · cases h2
      · cases h2
    | ok s2 =>
      rw [h2] at h
      simp only at h
      unfold loopS at h
      split at h
      · split at h
        · injection h with _ h; exact .inr h.symm
        · cases h
      · split at h
        · split at h
          · injection h with _ h; exact .inr h.symm
          · split at h
            · cases h
            · injection h with _ h; exact .inr h.symm
        · cases h
theorem run_take {l : List Bl} {i : Nat} (hi : i < l.length) {s : St} (h : run (l.take i) st0 = .ok s) : (∀ j e, stepS l[i] s = .bad j e → run l st0 = .bad j e) ∧ ∀ s', stepS l[i] s = .ok s' → run (l.take (i + 1)) st0 = .ok s' := by
  refine ⟨fun j e hb => ?_, fun s' hs => by rw [List.take_succ_eq_append_getElem hi]; exact run_one h hs⟩
  have e1 : l = l.take i ++ (l[i] :: l.drop (i + 1)) := by rw [← List.drop_eq_getElem_cons hi, List.take_append_drop]
  rw [e1, run_app, h]
  show (match stepS l[i] s with | .bad j e => Rs.bad j e | .ok s => run _ s) = _
  rw [hb]
end Lb
end Go.Proofs.YtlgdjbabbfdngaaDoor
set_option linter.unusedVariables false
set_option linter.unusedSimpArgs false
namespace Go.Proofs.YtlgdjbabbfdngaaDoor
open Go.RowKit
theorem blocks_of {B g : Nat} {w : World} {S : Nat → Prop} {n : Nat} {ds : List Bi} (h : OwnG B w 37 11 (.slice (some ⟨g, 0, none⟩) n n) (ds.map bicell)) (hn : ds.length = n) (hl : n ≤ 100000) (hS : S g) (hk : ∀ d ∈ ds, BiB w S d) : BlksB w S (some ⟨g, 0, none⟩) n (ds.map Bi.b) := by
  have gd : ∀ i (hi : i < ds.length), ds.getD i default = ds[i] := fun i hi => by rw [List.getD_eq_getElem?_getD, List.getElem?_eq_getElem hi]; rfl
  have hlen : (ds.map Bi.b).length = ds.length := List.length_map _
  refine ⟨by omega, by omega, .inr ⟨g, 0, (fun i => ds.getD i default), rfl, hS, fun i hi => ?_⟩⟩
  have hi' : i < ds.length := by omega
  dsimp only
  rw [gd i hi', Nat.zero_add]
  exact ⟨by simp, hk _ (List.getElem_mem hi'), fun j u hj => h.at (g := g) rfl (i := i) (by simpa using hi') (by rw [List.getElem_map]; exact hj)⟩
theorem BiB.kept {w w' : World} {S : Nat → Prop} {d : Bi} (h : BiB w S d) (q : Qw w w') : BiB w' S d := h.go fun b hS hb => ⟨q.block b hb, hS⟩
set_option maxRecDepth 100000 in
set_option maxHeartbeats 4000000 in
theorem cp_blocks (bs : List Sy.Bl) (hl : bs.length ≤ 5000) (IH : ∀ b ∈ bs, Smb b) (a : Option Addr) (cap : Nat) (S : Nat → Prop) (w : World) (h : BlksB w S a cap bs) :
    Calls Tryd.prog 39 #[.slice a bs.length cap, .func (.func 40) #[] #[]] w fun e w' => ∃ a' c', e = .returned (.slice a' bs.length c') ∧ BlksB w' (fun b => w.heap.size ≤ b) a' c' bs ∧ Qw w w' := by
  obtain ⟨w1, hr, hO, hg⟩ := g_make w w.heap.size 37 22 11 136 _ bs.length info_block Tryd.underlying22 rfl (by decide) (by decide) (by omega) (Nat.le_refl _)
  have q1 : Qw w w1 := (Below.refl _ _).grown hg (Nat.le_refl _) (by intro k e; cases e)
  have l1 : bs.length ≤ cap := h.1
  have l2 : cap ≤ 9223372036854775807 := h.2.1
  have HK := Lib.hid h
  have HI := Lib.hid IH
  clear h IH
  go_enter Tryd.func39, Tryd.ntmps39
  go_wp2
  go_loopw [13] (fun iv wr => ∃ (i : Nat) (ds : List Bi), i ≤ bs.length ∧ iv = .int .i64 (i : Int) ∧ ds.length = i ∧ Hid (ds.map Bi.b = bs.take i) ∧ Hid (OwnG w.heap.size wr 37 11 (.slice (some ⟨w.heap.size, 0, none⟩) bs.length bs.length) (ds.map bicell ++ List.replicate (bs.length - i) [.int .i64 0, .int .i64 0, .bool false, .slice none 0 0, .int .i64 0, .int .i64 0, .slice none 0 0, .int .i64 0, .int .i64 0, .slice none 0 0, .int .i64 0])) ∧ Hid (∀ d ∈ ds, BiB wr (fun b => w.heap.size < b) d) ∧ Hid (Qw w wr)) (fun iv _ => bs.length - (intOf iv).toNat)
  case atStart => exact ⟨0, [], by omega, rfl, rfl, Lib.hid rfl, Lib.hid hO, Lib.hid (by simp), Lib.hid q1⟩
  case round =>
    clear hO hg hr q1
    obtain ⟨i, ds, hi, rfl, hds, HX, HO, HD, HQ⟩ := hrel
    have h63 : (i : Int) ≤ 9223372036854775806 := by omega
    have hGr : w.heap.size < wr.heap.size := by have := HO.out.lt (g := w.heap.size) rfl; exact this.2
    have hGn : w.heap.size ≠ wr.heap.size := by omega
    by_cases hlt : i < bs.length
    · have hKr : BlksB wr S a cap bs := HK.out.kept HQ.out
      have sm := HI.out bs[i] (List.getElem_mem hlt)
      rcases hKr.2.2 with h0 | ⟨b, off, f, rfl, hS, hc⟩
      · rw [h0] at hlt; simp at hlt
      · obtain ⟨hb, kk, hz⟩ := hc i hlt
        obtain ⟨d, hd⟩ : ∃ d, d = f i := ⟨_, rfl⟩
        rw [← hd] at hb kk hz
        rw [← hb] at sm
        have HB := Lib.hid hb
        have z0 : wr.cell? ⟨b, off + i * 11, none⟩ = some (.int .i64 d.b.kind) := hz 0 (.int .i64 d.b.kind) rfl
        have z1 := hz 1 (.int .i64 d.b.label) rfl
        have z2 := hz 2 (.bool d.b.skip) rfl
        have z3 := hz 3 (.slice d.wa d.b.words.length d.wc) rfl
        have z4 := hz 4 (.int .i64 d.b.left.op) rfl
        have z5 := hz 5 (.int .i64 d.b.left.n) rfl
        have z6 := hz 6 (.slice d.la d.b.left.ks.length d.lc) rfl
        have z7 := hz 7 (.int .i64 d.b.x.op) rfl
        have z8 := hz 8 (.int .i64 d.b.x.n) rfl
        have z9 := hz 9 (.slice d.xa d.b.x.ks.length d.xc) rfl
        have z10 := hz 10 (.int .i64 d.b.n) rfl
        have KK := Lib.hid kk
        have hi2 : (i : Int) < (bs.length : Int) := by omega
        have bl := cell_lt z0
        have hne : b ≠ wr.heap.size := by omega
        have hu : ∀ w', Qw wr w' → w'.cell? ⟨w.heap.size, i * 11, none⟩ = some (.int .i64 0) ∧ w'.frozen? ⟨w.heap.size, i * 11, none⟩ = false ∧ w'.cell? ⟨w.heap.size, i * 11 + 1, none⟩ = some (.int .i64 0) ∧ w'.frozen? ⟨w.heap.size, i * 11 + 1, none⟩ = false ∧ w'.cell? ⟨w.heap.size, i * 11 + 2, none⟩ = some (.bool false) ∧ w'.frozen? ⟨w.heap.size, i * 11 + 2, none⟩ = false ∧ w'.cell? ⟨w.heap.size, i * 11 + 3, none⟩ = some (.slice none 0 0) ∧ w'.frozen? ⟨w.heap.size, i * 11 + 3, none⟩ = false ∧ w'.cell? ⟨w.heap.size, i * 11 + 4, none⟩ = some (.int .i64 0) ∧ w'.frozen? ⟨w.heap.size, i * 11 + 4, none⟩ = false ∧ w'.cell? ⟨w.heap.size, i * 11 + 5, none⟩ = some (.int .i64 0) ∧ w'.frozen? ⟨w.heap.size, i * 11 + 5, none⟩ = false ∧ w'.cell? ⟨w.heap.size, i * 11 + 6, none⟩ = some (.slice none 0 0) ∧ w'.frozen? ⟨w.heap.size, i * 11 + 6, none⟩ = false ∧ w'.cell? ⟨w.heap.size, i * 11 + 7, none⟩ = some (.int .i64 0) ∧ w'.frozen? ⟨w.heap.size, i * 11 + 7, none⟩ = false ∧ w'.cell? ⟨w.heap.size, i * 11 + 8, none⟩ = some (.int .i64 0) ∧ w'.frozen? ⟨w.heap.size, i * 11 + 8, none⟩ = false ∧ w'.cell? ⟨w.heap.size, i * 11 + 9, none⟩ = some (.slice none 0 0) ∧ w'.frozen? ⟨w.heap.size, i * 11 + 9, none⟩ = false ∧ w'.cell? ⟨w.heap.size, i * 11 + 10, none⟩ = some (.int .i64 0) ∧ w'.frozen? ⟨w.heap.size, i * 11 + 10, none⟩ = false := fun w' q => by
          have o := HO.out.go (w' := w') fun g hg hl => q.block g hl
          have hlen : (ds.map bicell ++ List.replicate (bs.length - i) ([.int .i64 0, .int .i64 0, .bool false, .slice none 0 0, .int .i64 0, .int .i64 0, .slice none 0 0, .int .i64 0, .int .i64 0, .slice none 0 0, .int .i64 0] : List Value)).length = bs.length := by simp; omega
          have c := fun j u (hj : ([.int .i64 0, .int .i64 0, .bool false, .slice none 0 0, .int .i64 0, .int .i64 0, .slice none 0 0, .int .i64 0, .int .i64 0, .slice none 0 0, .int .i64 0] : List Value)[j]? = some u) => o.at (g := w.heap.size) rfl (i := i) (by rw [hlen]; exact hlt) (j := j) (u := u) (by rw [List.getElem_append_right (by simp; omega), List.getElem_replicate]; exact hj)
          exact ⟨c 0 _ rfl, o.free (g := w.heap.size) rfl _, c 1 _ rfl, o.free (g := w.heap.size) rfl _, c 2 _ rfl, o.free (g := w.heap.size) rfl _, c 3 _ rfl, o.free (g := w.heap.size) rfl _, c 4 _ rfl, o.free (g := w.heap.size) rfl _, c 5 _ rfl, o.free (g := w.heap.size) rfl _, c 6 _ rfl, o.free (g := w.heap.size) rfl _, c 7 _ rfl, o.free (g := w.heap.size) rfl _, c 8 _ rfl, o.free (g := w.heap.size) rfl _, c 9 _ rfl, o.free (g := w.heap.size) rfl _, c 10 _ rfl, o.free (g := w.heap.size) rfl _⟩
        have HU := Lib.hid hu
        have CR := Lib.hid (fun w1 (hh : BiB w1 S d) => cp_block d sm S w1 hh)
        unfold CpK at CR
        clear hu hc kk hKr sm hz hb hd
        go_wp2_with (go_at_call 40; with_reducible refine (CR.out _ (BiB.kept KK.out (Qw.al (Qw.refl wr) _))).mono ?_)
        rintro e w' ⟨wa, wc, la, lc, xa, xc, rfl, kb, q⟩
        have q0 : Hid (Qw wr w') := Lib.hid (Qw.trans (Qw.al (Qw.refl wr) _) q)
        obtain ⟨u0, g0, u1, g1, u2, g2, u3, g3, u4, g4, u5, g5, u6, g6, u7, g7, u8, g8, u9, g9, u10, g10⟩ := HU.out w' q0.out
        have hw' : w.heap.size < w'.heap.size := Nat.lt_of_lt_of_le hGr q0.out.size
        have o := (HO.out.go (w' := w') fun g hg hl => q0.out.block g hl).row (g := w.heap.size) rfl (i := i) (by simp; omega) (bicell ⟨d.b, wa, wc, la, lc, xa, xc⟩) rfl
        rw [show bs.length - i = (bs.length - (i + 1)) + 1 by omega, List.replicate_succ, set_next (by simpa using hds)] at o
        have eS : ∀ b, b ≠ w.heap.size → (setCs w' w.heap.size (i * 11) (bicell ⟨d.b, wa, wc, la, lc, xa, xc⟩)).heap[b]? = w'.heap[b]? := fun b hb => setCs_other hb _ _ _
        have qS : Qw w (setCs w' w.heap.size (i * 11) (bicell ⟨d.b, wa, wc, la, lc, xa, xc⟩)) := setCs_qw (Nat.le_refl _) _ _ _ (Qw.trans HQ.out q0.out)
        have hD : ∀ d' ∈ ds ++ [(⟨d.b, wa, wc, la, lc, xa, xc⟩ : Bi)], BiB (setCs w' w.heap.size (i * 11) (bicell ⟨d.b, wa, wc, la, lc, xa, xc⟩)) (fun b => w.heap.size < b) d' := fun d' hd => by
          rcases List.mem_append.1 hd with hd | hd
          · exact (HD.out d' hd).go fun b hb hl => ⟨(eS b (by omega)).trans (q0.out.block b hl), hb⟩
          · obtain rfl := List.mem_singleton.1 hd
            exact kb.go fun b hb hl => ⟨eS b (by simp at hb; omega), by have := hb; simp at this; omega⟩
        have hx2 : (ds ++ [(⟨d.b, wa, wc, la, lc, xa, xc⟩ : Bi)]).map Bi.b = bs.take (i + 1) := by
          rw [List.map_append, HX.out, List.take_succ_eq_append_getElem hlt, ← HB.out]; rfl
        have R := Lib.hid (And.intro hx2 (And.intro o (And.intro hD qS)))
        clear hx2 o hD qS eS kb q HO HD HX HU CR KK
        go_wp2
        go_roundw
        case measure => simp [intOf]; omega
        case rel => exact ⟨i + 1, ds ++ [⟨d.b, wa, wc, la, lc, xa, xc⟩], by omega, by go_num, by simp [hds], Lib.hid R.out.1, Lib.hid (by rw [List.map_append]; exact R.out.2.1), Lib.hid R.out.2.2.1, Lib.hid R.out.2.2.2⟩
    · obtain rfl : i = bs.length := by omega
      have hb : ¬ (bs.length : Int) < (bs.length : Int) := by omega
      have e1 : ds.map Bi.b = bs := by have := HX.out; rwa [List.take_length] at this
      have kf : BlksB wr (fun b => w.heap.size ≤ b) (some ⟨w.heap.size, 0, none⟩) bs.length bs := by
        have o := HO.out
        rw [Nat.sub_self, List.replicate_zero, List.append_nil] at o
        have := blocks_of o hds (by omega) (S := fun b => w.heap.size ≤ b) (Nat.le_refl _) (fun d hd => (HD.out d hd).go fun b hb _ => ⟨rfl, by omega⟩)
        rwa [e1] at this
      go_wp2
      go_ret
      exact ⟨some ⟨w.heap.size, 0, none⟩, bs.length, rfl, kf, HQ.out⟩
end Go.Proofs.YtlgdjbabbfdngaaDoor
set_option linter.unusedVariables false
set_option linter.unusedSimpArgs false
namespace Go.Proofs.YtlgdjbabbfdngaaDoor
open Go.RowKit
def pcell (p : Lb.Pg) : List Value := [.int .i64 p.num, .int .i64 p.first, .int .i64 p.fin]
def lcell (q : Nat × Int) : List Value := [.int .i64 q.2, .int .i64 q.1]
def icell (n : Int) : List Value := [.int .i64 n]
def colN (w : World) (col : Nat → Nat) (c : Nat) (b : Nat) : Nat := if b < w.heap.size then col b else c
structure Bq (B P : Nat) (w : World) (pg : List Lb.Pg) (mt ns : List Int) (op : List (Nat × Int)) (pv mv lv ov : Value) (nb : Nat) (col : Nat → Nat) : Prop where
  X : Bx w P #[pv, mv, .map (some nb), lv, ov] 73
  G : OwnG B w 76 3 pv (pg.map pcell)
  M : OwnG B w 3 1 mv (mt.map icell)
  O : OwnG B w 88 2 ov (op.map lcell)
  N : SetM w nb ns
  hP : B ≤ P
  hn : B ≤ nb
  c0 : col P = 0
  c1 : ∀ g, pv.ownBlock = some g → col g = 1
  c2 : ∀ g, mv.ownBlock = some g → col g = 2
  c3 : col nb = 3
  c5 : ∀ g, ov.ownBlock = some g → col g = 5
def LbM (B : Nat) (w : World) (lv : Value) (ls : List Int) (col : Nat → Nat) : Prop := ∃ lb, lv = .map (some lb) ∧ SetM w lb ls ∧ B ≤ lb ∧ col lb = 4
section
variable {B P : Nat} {w w1 w2 : World} {pg : List Lb.Pg} {mt ns ls : List Int} {op : List (Nat × Int)} {pv mv lv ov : Value} {nb : Nat} {col : Nat → Nat}
theorem colN_old {b c : Nat} (h : b < w.heap.size) : colN w col c b = col b := by unfold colN; rw [if_pos h]
theorem colN_new {b c : Nat} (h : w.heap.size ≤ b) : colN w col c b = c := by unfold colN; rw [if_neg (by omega)]
theorem OwnG.keep {T : TypeId} {z : Nat} {v : Value} {xs : List (List Value)} (h : OwnG B w T z v xs) {k c p : Nat} (hc : ∀ g, v.ownBlock = some g → col g = k) (hp : col p = 0) (h0 : k ≠ 0) (hk : k ≠ c)
    (ht : ∀ b, b < w.heap.size → col b ≠ c → b ≠ p → w2.heap[b]? = w.heap[b]?) : OwnG B w2 T z v xs := h.go fun g hg hl => ht g hl (by rw [hc g hg]; exact hk) (fun e => by have := hc g hg; rw [e, hp] at this; exact h0 this.symm)
theorem SetM.keep {b : Nat} {L : List Int} (h : SetM w b L) {k c p : Nat} (hc : col b = k) (hp : col p = 0) (h0 : k ≠ 0) (hk : k ≠ c)
    (ht : ∀ b, b < w.heap.size → col b ≠ c → b ≠ p → w2.heap[b]? = w.heap[b]?) : SetM w2 b L := h.go (ht b h.lt (by rw [hc]; exact hk) (fun e => by rw [e, hp] at hc; exact h0 hc.symm))
theorem OwnG.colS {T : TypeId} {z : Nat} {v : Value} {xs : List (List Value)} (h : OwnG B w T z v xs) {k : Nat} (c : Nat) (hc : ∀ g, v.ownBlock = some g → col g = k) : ∀ g, v.ownBlock = some g → colN w col c g = k := fun g hg => by rw [colN_old (h.lt hg).2]; exact hc g hg
theorem near_col {v v' : Value} {c : Nat} (hlt : ∀ g, v.ownBlock = some g → g < w.heap.size) (hc : ∀ g, v.ownBlock = some g → col g = c) (hn : ∀ g, v'.ownBlock = some g → v.ownBlock = some g ∨ w.heap.size ≤ g) : ∀ g, v'.ownBlock = some g → colN w col c g = c := fun g hg => by
  rcases hn g hg with k | k
  · rw [colN_old (hlt g k)]; exact hc g k
  · exact colN_new k
theorem turn_set {c p : Nat} {v : Value} (hc : ∀ g, v.ownBlock = some g → col g = c) (hg : w.grownBy w1 v.ownBlock) (i : Nat) (u : Value) : ∀ b, b < w.heap.size → col b ≠ c → b ≠ p → (w1.setCell ⟨p, i, none⟩ u).heap[b]? = w.heap[b]? := fun b hb hne hp =>
  (Below.heap_setCell w1 ⟨p, i, none⟩ u b hp).trans (hg.block b hb (fun e => hne (hc b e.symm)))
theorem turn_own {c p : Nat} {g : Nat} (hc : col g = c) (i : Nat) (u : Value) : ∀ b, b < w.heap.size → col b ≠ c → b ≠ p → (w.setCell ⟨g, i, none⟩ u).heap[b]? = w.heap[b]? := fun b hb hne _ =>
  Below.heap_setCell w ⟨g, i, none⟩ u b (fun e => hne (by rw [e]; exact hc))
def Fc (w w' : World) (col col' : Nat → Nat) : Prop := w.heap.size ≤ w'.heap.size ∧ ∀ K, K < w.heap.size → col' K = col K ∧ (5 < col K → w'.heap[K]? = w.heap[K]?)
theorem Fc.trans {a b c : World} {k1 k2 k3 : Nat → Nat} (h : Fc a b k1 k2) (g : Fc b c k2 k3) : Fc a c k1 k3 := ⟨Nat.le_trans h.1 g.1, fun K hK => by
  obtain ⟨e1, e2⟩ := h.2 K hK
  obtain ⟨f1, f2⟩ := g.2 K (by have := h.1; omega)
  exact ⟨f1.trans e1, fun h5 => (f2 (by rw [e1]; exact h5)).trans (e2 h5)⟩⟩
theorem Fc.of {w w' : World} {col : Nat → Nat} (q : Qw w w') : Fc w w' col col := ⟨q.size, fun K hK => ⟨rfl, fun _ => q.block K hK⟩⟩
theorem Fc.turn {c p : Nat} (hs : w.heap.size ≤ w2.heap.size) (hc : c ≤ 5) (hp : col p = 0) (ht : ∀ b, b < w.heap.size → col b ≠ c → b ≠ p → w2.heap[b]? = w.heap[b]?) : Fc w w2 col (colN w col c) :=
  ⟨hs, fun K hK => ⟨colN_old hK, fun h5 => ht K hK (by omega) (fun e => by rw [e, hp] at h5; omega)⟩⟩
theorem Fc.grown {c : Nat} {v : Value} {p : Nat} (hp : col p = 0) (hc5 : c ≤ 5) (hc : ∀ g, v.ownBlock = some g → col g = c) (hg : w.grownBy w1 v.ownBlock) (i : Nat) (u : Value) : Fc w (w1.setCell ⟨p, i, none⟩ u) col (colN w col c) :=
  Fc.turn (by have := hg.size; simp; omega) hc5 hp (turn_set hc hg i u)
theorem Fc.one {c : Nat} {b : Nat} {p : Nat} (hp : col p = 0) (hc5 : c ≤ 5) (hc : col b = c) (hg : w.grownBy w1 (some b)) : Fc w w1 col (colN w col c) :=
  Fc.turn hg.size hc5 hp (fun k hk hne _ => hg.block k hk (fun e => hne (by obtain rfl := Option.some.inj e; exact hc)))
theorem Fc.own {c : Nat} {g : Nat} {p : Nat} (hp : col p = 0) (hc5 : c ≤ 5) (hc : col g = c) (i : Nat) (u : Value) : Fc w (w.setCell ⟨g, i, none⟩ u) col (colN w col c) :=
  Fc.turn (by simp) hc5 hp (turn_own hc i u)
theorem Fc.free {p : Nat} (hp : col p = 0) (u : Value) : Fc w ((w.alloc (.map #[] 0)).setCell ⟨p, 3, none⟩ u) col (colN w col 4) :=
  Fc.turn (by simp) (by decide) hp (fun b hb _ hp => (Below.heap_setCell _ ⟨p, 3, none⟩ _ b hp).trans (Below.heap_alloc w _ b hb))
theorem Bq.ltP (h : Bq B P w pg mt ns op pv mv lv ov nb col) : P < w.heap.size := h.X.lt
theorem Bq.px1 (h : Bq B P w pg mt ns op pv mv lv ov nb col) {v : Value} {c : Nat} (h0 : c ≠ 0) (hc : ∀ g, v.ownBlock = some g → col g = c) (hg : w.grownBy w1 v.ownBlock) : Bx w1 P #[pv, mv, .map (some nb), lv, ov] 73 :=
  (hg.block P h.ltP (fun e => h0 (by rw [← hc P e.symm, h.c0]))).trans h.X
theorem Bq.newG (h : Bq B P w pg mt ns op pv mv lv ov nb col) {pg' : List Lb.Pg} {pv' : Value} (ho : OwnG B w1 76 3 pv' (pg'.map pcell)) (hg : w.grownBy w1 pv.ownBlock) (hn : ∀ g, pv'.ownBlock = some g → pv.ownBlock = some g ∨ w.heap.size ≤ g) :
    Bq B P (w1.setCell ⟨P, 0, none⟩ pv') pg' mt ns op pv' mv lv ov nb (colN w col 1) := by
  have T := turn_set (p := P) h.c1 hg 0 pv'
  have cn := near_col (fun g hg => (h.G.lt hg).2) h.c1 hn
  have cP : colN w col 1 P = 0 := (colN_old h.ltP).trans h.c0
  exact ⟨(h.px1 (by decide) h.c1 hg).set 0 pv', ho.go fun g hg _ => Below.heap_setCell w1 ⟨P, 0, none⟩ pv' g (fun e => by have := cn g hg; rw [e, cP] at this; cases this), h.M.keep h.c2 h.c0 (by decide) (by decide) T, h.O.keep h.c5 h.c0 (by decide) (by decide) T, h.N.keep h.c3 h.c0 (by decide) (by decide) T, h.hP, h.hn, cP, cn, h.M.colS 1 h.c2, (colN_old h.N.lt).trans h.c3, h.O.colS 1 h.c5⟩
theorem Bq.newM (h : Bq B P w pg mt ns op pv mv lv ov nb col) {mt' : List Int} {mv' : Value} (ho : OwnG B w1 3 1 mv' (mt'.map icell)) (hg : w.grownBy w1 mv.ownBlock) (hn : ∀ g, mv'.ownBlock = some g → mv.ownBlock = some g ∨ w.heap.size ≤ g) :
    Bq B P (w1.setCell ⟨P, 1, none⟩ mv') pg mt' ns op pv mv' lv ov nb (colN w col 2) := by
  have T := turn_set (p := P) h.c2 hg 1 mv'
  have cn := near_col (fun g hg => (h.M.lt hg).2) h.c2 hn
  have cP : colN w col 2 P = 0 := (colN_old h.ltP).trans h.c0
  exact ⟨(h.px1 (by decide) h.c2 hg).set 1 mv', h.G.keep h.c1 h.c0 (by decide) (by decide) T, ho.go fun g hg _ => Below.heap_setCell w1 ⟨P, 1, none⟩ mv' g (fun e => by have := cn g hg; rw [e, cP] at this; cases this), h.O.keep h.c5 h.c0 (by decide) (by decide) T, h.N.keep h.c3 h.c0 (by decide) (by decide) T, h.hP, h.hn, cP, h.G.colS 2 h.c1, cn, (colN_old h.N.lt).trans h.c3, h.O.colS 2 h.c5⟩
theorem Bq.newO (h : Bq B P w pg mt ns op pv mv lv ov nb col) {op' : List (Nat × Int)} {ov' : Value} (ho : OwnG B w1 88 2 ov' (op'.map lcell)) (hg : w.grownBy w1 ov.ownBlock) (hn : ∀ g, ov'.ownBlock = some g → ov.ownBlock = some g ∨ w.heap.size ≤ g) :
    Bq B P (w1.setCell ⟨P, 4, none⟩ ov') pg mt ns op' pv mv lv ov' nb (colN w col 5) := by
  have T := turn_set (p := P) h.c5 hg 4 ov'
  have cn := near_col (fun g hg => (h.O.lt hg).2) h.c5 hn
  have cP : colN w col 5 P = 0 := (colN_old h.ltP).trans h.c0
  exact ⟨(h.px1 (by decide) h.c5 hg).set 4 ov', h.G.keep h.c1 h.c0 (by decide) (by decide) T, h.M.keep h.c2 h.c0 (by decide) (by decide) T, ho.go fun g hg _ => Below.heap_setCell w1 ⟨P, 4, none⟩ ov' g (fun e => by have := cn g hg; rw [e, cP] at this; cases this), h.N.keep h.c3 h.c0 (by decide) (by decide) T, h.hP, h.hn, cP, h.G.colS 5 h.c1, h.M.colS 5 h.c2, (colN_old h.N.lt).trans h.c3, cn⟩
theorem Bq.newN (h : Bq B P w pg mt ns op pv mv lv ov nb col) {ns' : List Int} (hN : SetM w1 nb ns') (hg : w.grownBy w1 (some nb)) : Bq B P w1 pg mt ns' op pv mv lv ov nb (colN w col 3) := by
  have T : ∀ b, b < w.heap.size → col b ≠ 3 → b ≠ P → w1.heap[b]? = w.heap[b]? := fun b hb hne _ => hg.block b hb (fun e => hne (by obtain rfl := Option.some.inj e; exact h.c3))
  have cP : colN w col 3 P = 0 := (colN_old h.ltP).trans h.c0
  exact ⟨(hg.block P h.ltP (fun e => by obtain rfl := Option.some.inj e; have := h.c0; rw [h.c3] at this; cases this)).trans h.X, h.G.keep h.c1 h.c0 (by decide) (by decide) T, h.M.keep h.c2 h.c0 (by decide) (by decide) T, h.O.keep h.c5 h.c0 (by decide) (by decide) T, hN, h.hP, h.hn, cP, h.G.colS 3 h.c1, h.M.colS 3 h.c2, (colN_old h.N.lt).trans h.c3, h.O.colS 3 h.c5⟩
theorem Bq.newL (h : Bq B P w pg mt ns op pv mv lv ov nb col) {lb : Nat} {ls' : List Int} (hl : lv = .map (some lb)) (hb : B ≤ lb) (hc : col lb = 4) (hlt : lb < w.heap.size) (hL : SetM w1 lb ls') (hg : w.grownBy w1 (some lb)) : Bq B P w1 pg mt ns op pv mv lv ov nb (colN w col 4) ∧ LbM B w1 lv ls' (colN w col 4) := by
  have T : ∀ b, b < w.heap.size → col b ≠ 4 → b ≠ P → w1.heap[b]? = w.heap[b]? := fun b hb hne _ => hg.block b hb (fun e => hne (by obtain rfl := Option.some.inj e; exact hc))
  have cP : colN w col 4 P = 0 := (colN_old h.ltP).trans h.c0
  exact ⟨⟨(hg.block P h.ltP (fun e => by obtain rfl := Option.some.inj e; have := h.c0; rw [hc] at this; cases this)).trans h.X, h.G.keep h.c1 h.c0 (by decide) (by decide) T, h.M.keep h.c2 h.c0 (by decide) (by decide) T, h.O.keep h.c5 h.c0 (by decide) (by decide) T, h.N.keep h.c3 h.c0 (by decide) (by decide) T, h.hP, h.hn, cP, h.G.colS 4 h.c1, h.M.colS 4 h.c2, (colN_old h.N.lt).trans h.c3, h.O.colS 4 h.c5⟩, lb, hl, hL, hb, (colN_old hlt).trans hc⟩
theorem Bq.freeL (h : Bq B P w pg mt ns op pv mv lv ov nb col) (hB : B ≤ w.heap.size) : Bq B P ((w.alloc (.map #[] 0)).setCell ⟨P, 3, none⟩ (.map (some w.heap.size))) pg mt ns op pv mv (.map (some w.heap.size)) ov nb (colN w col 4) ∧ LbM B ((w.alloc (.map #[] 0)).setCell ⟨P, 3, none⟩ (.map (some w.heap.size))) (.map (some w.heap.size)) [] (colN w col 4) := by
  have hP := h.ltP
  have T : ∀ b, b < w.heap.size → col b ≠ 4 → b ≠ P → ((w.alloc (.map #[] 0)).setCell ⟨P, 3, none⟩ (.map (some w.heap.size))).heap[b]? = w.heap[b]? := fun b hb _ hp => (Below.heap_setCell _ ⟨P, 3, none⟩ _ b hp).trans (Below.heap_alloc w _ b hb)
  have cP : colN w col 4 P = 0 := (colN_old h.ltP).trans h.c0
  exact ⟨⟨(h.X.alloc _).set 3 _, h.G.keep h.c1 h.c0 (by decide) (by decide) T, h.M.keep h.c2 h.c0 (by decide) (by decide) T, h.O.keep h.c5 h.c0 (by decide) (by decide) T, h.N.keep h.c3 h.c0 (by decide) (by decide) T, h.hP, h.hn, cP, h.G.colS 4 h.c1, h.M.colS 4 h.c2, (colN_old h.N.lt).trans h.c3, h.O.colS 4 h.c5⟩, _, rfl, (SetM.made w).go (Below.heap_setCell _ ⟨P, 3, none⟩ _ w.heap.size (by show w.heap.size ≠ P; omega)), hB, colN_new (Nat.le_refl _)⟩
theorem Bq.setM (h : Bq B P w pg mt ns op pv mv lv ov nb col) {g : Nat} (hg : mv.ownBlock = some g) {i : Nat} (hi : i < mt.length) (x : Int) : Bq B P (w.setCell ⟨g, i, none⟩ (.int .i64 x)) pg (mt.set i x) ns op pv mv lv ov nb (colN w col 2) := by
  have hc := h.c2 g hg
  have T := turn_own (w := w) (p := P) hc i (.int .i64 x)
  have cP : colN w col 2 P = 0 := (colN_old h.ltP).trans h.c0
  have hm := h.M.set hg (i := i) (by simpa using hi) (j := 0) (by decide) (.int .i64 x)
  have e : (mt.map icell).set i (((mt.map icell)[i]'(by simpa using hi)).set 0 (.int .i64 x)) = (mt.set i x).map icell := by rw [List.map_set]; congr 1; simp [icell]
  rw [e, Nat.mul_one, Nat.add_zero] at hm
  exact ⟨h.X.other (fun e => by have := h.c0; rw [e] at this; rw [show (⟨g, i, none⟩ : Addr).block = g from rfl, hc] at this; cases this) _, h.G.keep h.c1 h.c0 (by decide) (by decide) T, hm, h.O.keep h.c5 h.c0 (by decide) (by decide) T, h.N.keep h.c3 h.c0 (by decide) (by decide) T, h.hP, h.hn, cP, h.G.colS 2 h.c1, h.M.colS 2 h.c2, (colN_old h.N.lt).trans h.c3, h.O.colS 2 h.c5⟩
theorem Bq.setF {p : Lb.Pg} (h : Bq B P w (pg ++ [p]) mt ns op pv mv lv ov nb col) {g : Nat} (hg : pv.ownBlock = some g) (x : Nat) : Bq B P (w.setCell ⟨g, pg.length * 3 + 2, none⟩ (.int .i64 x)) (pg ++ [{ p with fin := x }]) mt ns op pv mv lv ov nb (colN w col 1) := by
  have hc := h.c1 g hg
  have T := turn_own (w := w) (p := P) hc (pg.length * 3 + 2) (.int .i64 x)
  have cP : colN w col 1 P = 0 := (colN_old h.ltP).trans h.c0
  have hm := h.G.set hg (i := pg.length) (by simp) (j := 2) (by decide) (.int .i64 x)
  have e : ((pg ++ [p]).map pcell).set pg.length ((((pg ++ [p]).map pcell)[pg.length]'(by simp)).set 2 (.int .i64 x)) = (pg ++ [{ p with fin := x }]).map pcell := by
    simp [pcell, List.set_append_right]
  rw [e] at hm
  exact ⟨h.X.other (fun e => by have := h.c0; rw [e] at this; rw [show (⟨g, pg.length * 3 + 2, none⟩ : Addr).block = g from rfl, hc] at this; cases this) _, hm, h.M.keep h.c2 h.c0 (by decide) (by decide) T, h.O.keep h.c5 h.c0 (by decide) (by decide) T, h.N.keep h.c3 h.c0 (by decide) (by decide) T, h.hP, h.hn, cP, h.G.colS 1 h.c1, h.M.colS 1 h.c2, (colN_old h.N.lt).trans h.c3, h.O.colS 1 h.c5⟩
theorem Bq.cutO {q : Nat × Int} (h : Bq B P w pg mt ns (op ++ [q]) pv mv lv ov nb col) : ∃ (g cap : Nat), ov = .slice (some ⟨g, 0, none⟩) (op.length + 1) cap ∧ op.length + 1 ≤ cap ∧ cap ≤ 9223372036854775807 ∧ g < w.heap.size ∧ g ≠ P ∧ B ≤ g ∧
    w.cell? ⟨g, op.length * 2, none⟩ = some (.int .i64 q.2) ∧ w.cell? ⟨g, op.length * 2 + 1, none⟩ = some (.int .i64 q.1) ∧
    Bq B P (w.setCell ⟨P, 4, none⟩ (.slice (some ⟨g, 0, none⟩) op.length cap)) pg mt ns op pv mv lv (.slice (some ⟨g, 0, none⟩) op.length cap) nb (colN w col 5) := by
  have ho := h.O
  rw [List.map_append] at ho
  obtain ⟨g, cap, rfl, k1, k2, k3, k4, k5⟩ := ho.cut
  rw [List.length_map] at *
  have hg : (Value.slice (some ⟨g, 0, none⟩) (op.length + 1) cap).ownBlock = some g := rfl
  have hgP : g ≠ P := fun e => by have := h.c5 g hg; rw [e, h.c0] at this; cases this
  refine ⟨g, cap, rfl, k1, k2, k4, hgP, k3, by have := h.O.at hg (i := op.length) (by simp) (j := 0) (u := .int .i64 q.2) (by simp [lcell]); simpa using this, h.O.at hg (i := op.length) (by simp) (by simp [lcell]), ?_⟩
  exact h.newO (w1 := w) (op' := op) k5 ⟨rfl, rfl, rfl, Nat.le_refl _, fun _ _ _ => rfl⟩ (fun g' hg' => .inl hg')
theorem Bq.kept (h : Bq B P w pg mt ns op pv mv lv ov nb col) (q : Qw w w1) : Bq B P w1 pg mt ns op pv mv lv ov nb col :=
  have k := fun {T : TypeId} {z : Nat} {v : Value} {xs : List (List Value)} (o : OwnG B w T z v xs) => o.go (w' := w1) fun g _ hl => q.block g hl
  ⟨h.X.kept q, k h.G, k h.M, k h.O, h.N.go (q.block _ h.N.lt), h.hP, h.hn, h.c0, h.c1, h.c2, h.c3, h.c5⟩
theorem LbM.kept (h : LbM B w lv ls col) (q : Qw w w1) : LbM B w1 lv ls col := by
  obtain ⟨lb, h1, h2, h3, h4⟩ := h
  exact ⟨lb, h1, h2.go (q.block _ h2.lt), h3, h4⟩
theorem LbM.keep (h : LbM B w lv ls col) {c p : Nat} (hp : col p = 0) (hk : c ≠ 4) (ht : ∀ b, b < w.heap.size → col b ≠ c → b ≠ p → w2.heap[b]? = w.heap[b]?) : LbM B w2 lv ls (colN w col c) := by
  obtain ⟨lb, h1, h2, h3, h4⟩ := h
  exact ⟨lb, h1, h2.keep h4 hp (by decide) (by omega) ht, h3, (colN_old h2.lt).trans h4⟩
end
end Go.Proofs.YtlgdjbabbfdngaaDoor

