import Derived.Test.YtciglhecjkeogaaGreatDoorZTX19
import Derived.Deep.RegionLaw
set_option linter.unusedVariables false
set_option linter.unusedSimpArgs false
namespace Go.Proofs.YtciglhecjkeogaaGreatDoor
open Go.RowKit
theorem step_word {ops : Array Oper} {o : Oper} {a : Act} {w : World} {K : Act → World → Prop} {Q : Exit → Act → World → Prop} {E : Prop} (hgd : o.guard = none) (s x : Tmp)
    (hop : o.op = .call { callee := .builtin .append, args := #[.tmp s, .tmp x], argTypes := #[35, 35] }) (d : Wd) (B : Nat) (v : Value) (ds : List Wd) (g : Nat) {t : TypeId}
    (hs : a.eval (.tmp s) = v) (hx : a.eval (.tmp x) = .slice (some ⟨g, 0, none⟩) 1 1) (hb : Bx w g #[.int .i64 d.c, .int .i64 d.x.op, .int .i64 d.x.n, .slice d.a d.x.ks.length d.n] t)
    (hown : OwnW B w v ds) (hl : ds.length ≤ 1000000) (hB : B ≤ w.heap.size)
    (h : ∀ v' w', OwnW B w' v' (ds ++ [d]) → w.grownBy w' v.ownBlock → (∀ g, v'.ownBlock = some g → v.ownBlock = some g ∨ w.heap.size ≤ g) → K (a.put o.dst v') w') :
    if Region.wanted o (yielded ops a.tmps) = true then Oper.wp Tryz.prog o a w K Q else E := by
  have hw : Region.wanted o (yielded ops a.tmps) = true := by simp [Region.wanted, hgd]
  rw [if_pos hw]
  obtain ⟨i0, hi, hz0, hz1, hz2⟩ := info_parts info_word
  obtain ⟨v', w', hr, h2, h3, h4⟩ := run_append_near (P := Tryz.prog) w B 35 o.type 108 i0 _ 4 48 Tryz.underlying35 hi hz0 hz1 hz2 rfl (by decide) v ds.length (wcells ds) hown ⟨g, 0, none⟩ 1 1 (wcell d) rfl (by
    intro j u hj
    match j, hj with
    | 0, hj => simp [wcell] at hj; subst hj; simpa [Addr.add] using hb.cell' 0 _ rfl
    | 1, hj => simp [wcell] at hj; subst hj; simpa [Addr.add] using hb.cell' 1 _ rfl
    | 2, hj => simp [wcell] at hj; subst hj; simpa [Addr.add] using hb.cell' 2 _ rfl
    | 3, hj => simp [wcell] at hj; subst hj; simpa [Addr.add] using hb.cell' 3 _ rfl
    | n + 4, hj => simp [wcell] at hj) (by
    intro u hu
    simp [wcell] at hu
    rcases hu with rfl | rfl | rfl | rfl <;> rfl) (by unfold maxLen; omega) (by omega) hB
  unfold Oper.wp
  simp only [execOp, hop, resolve, invoke, builtin, Sem.run_bind, Sem.run_pure, Result.andThen_ok, List.map_toArray, List.map_cons, List.map_nil, hs, hx, hr]
  refine h v' w' ?_ h3 h4
  unfold OwnW
  rw [List.length_append, show wcells (ds ++ [d]) = wcells ds ++ wcell d by simp [wcells]]
  exact h2
theorem OwnW.go {B : Nat} {w w' : World} {v : Value} {ds : List Wd} (h : OwnW B w v ds) (hb : ∀ g, v.ownBlock = some g → g < w.heap.size → w'.heap[g]? = w.heap[g]?) : OwnW B w' v ds := by
  refine ⟨h.1, ?_⟩
  rcases h.2 with k | ⟨g, cap, cur, rfl, k1, k2, k3⟩
  · exact .inl k
  · exact .inr ⟨g, cap, cur, rfl, k1, (hb g rfl (Array.getElem?_eq_some_iff.1 k2).1).trans k2, k3⟩
theorem OwnW.lt {B : Nat} {w : World} {v : Value} {ds : List Wd} (h : OwnW B w v ds) {g : Nat} (hg : v.ownBlock = some g) : B ≤ g ∧ g < w.heap.size ∧ ∃ cur, w.heap[g]? = some (.cells cur 108 (0, 0)) := by
  rcases h.2 with ⟨rfl, _⟩ | ⟨g', cap, cur, rfl, k1, k2, k3⟩
  · cases hg
  · have : g' = g := by simpa [Value.ownBlock] using hg
    subst this
    exact ⟨k1, (Array.getElem?_eq_some_iff.1 k2).1, cur, k2⟩
theorem OwnW.px {B P : Nat} {w w' : World} {v : Value} {ds : List Wd} (h : OwnW B w v ds) (hP : P < B) (q : Px P w w') : OwnW B w' v ds := h.go fun g hg hl => q.block g hl (by have := (h.lt hg).1; omega)
structure Mid (P : Nat) (a : Option Addr) (cap : Nat) (ts : List Lx.Tok) (len : Nat) (w : World) (v : Value) (ds : List Wd) (b4 : Nat) (j k : Nat) (wr : World) : Prop where
  R : Bx wr w.heap.size blZ 37
  X : Bx wr b4 #[.int .i64 (Sy.kd ts j), .int .i64 (Sy.tn ts j), .int .i64 (Sy.tp ts len j : Nat), .string (bs (Sy.tx ts j))] 82
  hb : w.heap.size < b4
  O : OwnW (w.heap.size + 1) wr v ds
  D : ∀ d ∈ ds, KidsB wr (fun b => w.heap.size < b ∧ v.ownBlock ≠ some b ∧ b ≠ b4) d.a d.n d.x.ks
  H : Par wr P a cap ts len k
  q : Px P w wr
  hP : P < w.heap.size
  hO : 0 < w.heap.size
section
variable {P : Nat} {a : Option Addr} {cap : Nat} {ts : List Lx.Tok} {len : Nat} {w : World} {v : Value} {ds : List Wd} {b4 j k : Nat} {wr w' : World}
theorem Mid.sz (h : Mid P a cap ts len w v ds b4 j k wr) : w.heap.size < wr.heap.size ∧ b4 < wr.heap.size ∧ P < b4 := ⟨h.R.lt, h.X.lt, by have := h.hb; have := h.hP; omega⟩
theorem Mid.next (h : Mid P a cap ts len w v ds b4 j k wr) {m : Nat} (H : Par w' P a cap ts len m) (q : Px P wr w') : Mid P a cap ts len w v ds b4 j m w' :=
  ⟨h.R.px q (by have := h.hP; omega), h.X.px q (by have := h.sz; omega), h.hb, h.O.px (by have := h.hP; omega) q, fun d hd => (h.D d hd).px (fun b hb => by have := h.hP; omega) q, H, h.q.trans q, h.hP, h.hO⟩
theorem Mid.at (h : Mid P a cap ts len w v ds b4 j j wr) (hj : j < ts.length) : Mid P a cap ts len w v ds b4 j (j + 1) (wr.setCell ⟨P, 1, none⟩ (.int .i64 ((j : Int) + 1))) := by
  have e : ((j + 1 : Nat) : Int) = (j : Int) + 1 := by omega
  have H := h.H.set (j + 1) hj
  rw [e] at H
  exact h.next H (Px.set P wr 1 _)
theorem Mid.drew (h : Mid P a cap ts len w v ds b4 j k wr) : Mid P a cap ts len w v ds b4 j k wr.drew := h.next h.H.drew (Px.drew (Px.refl P wr))
theorem Mid.alloc (h : Mid P a cap ts len w v ds b4 j k wr) (o : Obj) : Mid P a cap ts len w v ds b4 j k (wr.alloc o) := h.next (h.H.kept ((Below.refl _ _).alloc (Nat.le_refl _) _)) (Px.alloc (Px.refl P wr) _)
theorem Mid.diff (h : Mid P a cap ts len w v ds b4 j k wr) : v.ownBlock ≠ some b4 := fun e => by
  obtain ⟨_, _, cur, hc⟩ := h.O.lt e
  have := h.X
  unfold Bx at this
  rw [hc] at this
  injection this with this
  injection this with _ t _
  exact absurd t (by decide)
theorem Mid.app (h : Mid P a cap ts len w v ds b4 j k wr) {d : Wd} {v' : Value} (hd : KidsB wr (fun b => w.heap.size < b ∧ v.ownBlock ≠ some b ∧ b ≠ b4) d.a d.n d.x.ks) (ho : OwnW (w.heap.size + 1) w' v' (ds ++ [d])) (hg : wr.grownBy w' v.ownBlock)
    (hn : ∀ g, v'.ownBlock = some g → v.ownBlock = some g ∨ wr.heap.size ≤ g) : Mid P a cap ts len w v' (ds ++ [d]) b4 j k w' := by
  have hsz := h.sz
  have keep : ∀ b, b < wr.heap.size → v.ownBlock ≠ some b → w'.heap[b]? = wr.heap[b]? := fun b hb hne => hg.block b hb (fun e => hne e.symm)
  have nR : v.ownBlock ≠ some w.heap.size := fun e => by have := (h.O.lt e).1; omega
  have nP : v.ownBlock ≠ some P := fun e => by have := (h.O.lt e).1; have := h.hP; omega
  have low : ∀ b, b < w.heap.size → w'.heap[b]? = wr.heap[b]? := fun b hb => keep b (by omega) (fun e => by have := (h.O.lt e).1; omega)
  have kid : ∀ d : Wd, KidsB wr (fun b => w.heap.size < b ∧ v.ownBlock ≠ some b ∧ b ≠ b4) d.a d.n d.x.ks → KidsB w' (fun b => w.heap.size < b ∧ v'.ownBlock ≠ some b ∧ b ≠ b4) d.a d.n d.x.ks := fun d hd => hd.go fun b hS hb => ⟨keep b hb hS.2.1, hS.1, fun e => by
    rcases hn b e with k | k
    · exact hS.2.1 k
    · omega, hS.2.2⟩
  refine ⟨(keep _ hsz.1 nR).trans h.R, (keep _ hsz.2.1 h.diff).trans h.X, h.hb, ho, fun x hx => ?_, ?_, ?_, h.hP, h.hO⟩
  · rcases List.mem_append.1 hx with hx | hx
    · exact kid x (h.D x hx)
    · obtain rfl := List.mem_singleton.1 hx
      exact kid _ hd
  · have hH := h.H
    exact ⟨(keep P (by omega) nP).trans hH.bx, hH.tk.kept (C := P) ⟨hg.os, hg.tape, hg.output, hg.size, fun b hb => low b (by have := h.hP; omega)⟩ (Nat.le_refl _), hH.ow.cong hg.size (low _ h.hO), hH.og, hH.le, hH.hl⟩
  · exact ⟨hg.os.trans h.q.os, hg.tape.trans h.q.tape, hg.output.trans h.q.output, Nat.le_trans h.q.size hg.size, fun b hb hP => (low b hb).trans (h.q.block b hb hP)⟩
theorem Mid.fresh (h : Mid P a cap ts len w v ds b4 j k wr) : Mid P a cap ts len w v ds wr.heap.size j k (wr.alloc (.cells #[.int .i64 (Sy.kd ts j), .int .i64 (Sy.tn ts j), .int .i64 (Sy.tp ts len j : Nat), .string (bs (Sy.tx ts j))] 82)) := by
  have k := h.alloc (.cells #[.int .i64 (Sy.kd ts j), .int .i64 (Sy.tn ts j), .int .i64 (Sy.tp ts len j : Nat), .string (bs (Sy.tx ts j))] 82)
  exact ⟨k.R, Bx.new _ _ _, h.sz.1, k.O, fun d hd => (h.D d hd).go fun b hS hb => ⟨Below.heap_alloc _ _ _ hb, hS.1, hS.2.1, by omega⟩, k.H, k.q, k.hP, k.hO⟩
theorem Mid.put (h : Mid P a cap ts len w v ds b4 j k wr) : Mid P a cap ts len w v ds b4 k k ((((wr.setCell ⟨b4, 0, none⟩ (.int .i64 (Sy.kd ts k))).setCell ⟨b4, 1, none⟩ (.int .i64 (Sy.tn ts k))).setCell ⟨b4, 2, none⟩ (.int .i64 (Sy.tp ts len k : Nat))).setCell ⟨b4, 3, none⟩ (.string (bs (Sy.tx ts k)))) := by
  have hb := h.hb
  have hne : w.heap.size ≠ b4 := by omega
  have hs := h.sz
  have hO := h.hO
  have le : w.heap.size ≤ b4 := by omega
  have eq : ∀ b, b ≠ b4 → ((((wr.setCell ⟨b4, 0, none⟩ (.int .i64 (Sy.kd ts k))).setCell ⟨b4, 1, none⟩ (.int .i64 (Sy.tn ts k))).setCell ⟨b4, 2, none⟩ (.int .i64 (Sy.tp ts len k : Nat))).setCell ⟨b4, 3, none⟩ (.string (bs (Sy.tx ts k)))).heap[b]? = wr.heap[b]? := fun b hb => by
    rw [Below.heap_setCell _ _ _ _ hb, Below.heap_setCell _ _ _ _ hb, Below.heap_setCell _ _ _ _ hb, Below.heap_setCell _ _ _ _ hb]
  refine ⟨(eq _ hne).trans h.R, ((((h.X.set 0 _).set 1 _).set 2 _).set 3 _), hb, h.O.go fun g hg _ => eq g (fun e => h.diff (e ▸ hg)), fun d hd => (h.D d hd).go fun b hS _ => ⟨eq b hS.2.2, hS⟩, ?_, ?_, h.hP, h.hO⟩
  · exact (((h.H.other hs.2.2 (by omega) _ _).other hs.2.2 (by omega) _ _).other hs.2.2 (by omega) _ _).other hs.2.2 (by omega) _ _
  · exact (((h.q.setNew le _).setNew le _).setNew le _).setNew le _
end
def tokA (ts : List Lx.Tok) (len i : Nat) : Array Value := #[.int .i64 (Sy.kd ts i), .int .i64 (Sy.tn ts i), .int .i64 (Sy.tp ts len i : Nat), .string (bs (Sy.tx ts i))]
theorem pW_stop {ts : List Lx.Tok} {g : Nat} {ws : List (Int × Sy.Ex)} {j : Nat} (h : ¬ (Sy.kd ts j = 1 ∧ Sy.isw (Sy.tn ts j) = true)) : Sy.pW ts (g + 1) ws j = .ok ws j := by rw [Sy.pW, if_neg h]
theorem pW_bad {ts : List Lx.Tok} {g : Nat} {ws : List (Int × Sy.Ex)} {j m : Nat} (h : Sy.kd ts j = 1 ∧ Sy.isw (Sy.tn ts j) = true) (e : Sy.pV ts (j + 1) = .bad m) : Sy.pW ts (g + 1) ws j = .bad m := by rw [Sy.pW, if_pos h, e]
theorem pW_ok {ts : List Lx.Tok} {g : Nat} {ws : List (Int × Sy.Ex)} {j m : Nat} {x : Sy.Ex} (h : Sy.kd ts j = 1 ∧ Sy.isw (Sy.tn ts j) = true) (e : Sy.pV ts (j + 1) = .ok x m) : Sy.pW ts (g + 1) ws j = Sy.pW ts g (ws ++ [(Sy.tn ts j, x)]) m := by rw [Sy.pW, if_pos h, e]
set_option maxRecDepth 100000 in
set_option maxHeartbeats 4000000 in
theorem sy_words {P : Nat} {a : Option Addr} {cap : Nat} {ts : List Lx.Tok} {len : Nat} (i : Nat) (w : World) (h : Par w P a cap ts len i) :
    Calls Tryz.prog 72 #[.pointer (some ⟨P, 0, none⟩)] w (PBl P a cap ts len w (Sy.wrapC (fun ws => Sy.blk 0 ws Sy.zx Sy.zx 0) (Sy.pW ts (ts.length + 1) [] i))) := by
  obtain ⟨hP, hO⟩ := h.lt
  have hle := h.le
  have H := Lib.hid h
  clear h
  have R : Hid (Bx (w.alloc (.cells blZ 37)) w.heap.size blZ 37) := Lib.hid (Bx.new w _ _)
  have q0 : Hid (Qw w w) := Lib.hid (Qw.refl w)
  go_enter Tryz.func72, Tryz.ntmps72
  go_wp2_with (go_at_call 64; ((with_reducible refine (syNext (H.out.kept Qz)).mono ?_); rintro e w' ⟨rfl, q⟩; unfold tokV; replace R : Hid (Bx w' w.heap.size blZ 37) := Lib.hid (Bx.kept Rz q); replace H := Lib.hid (Par.kept H.out (Qw.trans Qz q)); replace q0 : Hid (Qw w w') := Lib.hid (Qw.trans Qz q); clear q))
  have M0 : Hid (Mid P a cap ts len w (.slice none 0 0) [] w'.heap.size i i (w'.alloc (.cells (tokA ts len i) 82))) := Lib.hid
    ⟨R.out.alloc _, Bx.new _ _ _, R.out.lt, World.ownsRow_nil _ _ _ _, (fun d hd => by simp at hd), H.out.kept ((Below.refl _ _).alloc (Nat.le_refl _) _), Px.of (Qw.trans q0.out ((Below.refl _ _).alloc (Nat.le_refl _) _)), hP, hO⟩
  clear R H q0
  go_loopg [3, 4] (ts.length + 1) (fun g sv tv wr => ∃ (j : Nat) (ds : List Wd) (b4 : Nat), tv = .pointer (some ⟨b4, 0, none⟩) ∧ j ≤ ts.length ∧ ts.length - j + 1 ≤ g ∧ ds.length ≤ j ∧ Hid (Sy.pW ts (ts.length + 1) [] i = Sy.pW ts g (wds ds) j) ∧ Hid (Mid P a cap ts len w sv ds b4 j j wr))
  case atStart => exact ⟨i, [], _, rfl, hle, by omega, Nat.zero_le _, Lib.hid rfl, M0⟩
  case round =>
    clear M0
    obtain ⟨j, ds, b4, rfl, hj, hf, hdl, HR, M⟩ := hrel
    obtain ⟨g, rfl⟩ : ∃ g, gk = g + 1 := ⟨gk - 1, by omega⟩
    have X := M.out.X
    have z0 := X.cell' 0 _ rfl
    have z1 := X.cell' 1 _ rfl
    have z2 := X.cell' 2 _ rfl
    have z3 := X.cell' 3 _ rfl
    clear X
    have fw := fun w => syIsWord (Sy.tn ts j) w
    by_cases hc : Sy.kd ts j = 1 ∧ Sy.isw (Sy.tn ts j) = true
    · have hjn : j < ts.length := Sy.kd_lt hc.1 (by decide)
      have cv : ∀ w, Par w P a cap ts len (j + 1) → Calls Tryz.prog 108 #[.pointer (some ⟨P, 0, none⟩)] w (PR P a cap ts len w (Sy.pV ts (j + 1))) := fun w h => sy_value (j + 1) w h
      have hfw := Sy.fwd_v ts (j + 1) hjn
      have p1 : wr.cell? ⟨P, 1, none⟩ = some (.int .i64 (j : Int)) := M.out.H.bx.cell' 1 _ rfl
      have p2 := M.out.H.bx.free 1
      have pl := M.out.H.bx.lt
      have hl := M.out.H.hl
      rw [hc.1] at z0
      rw [hc.2] at fw
      replace fw := Lib.hid fw
      have HC := Lib.hid hc
      clear hc
      cases e1 : Sy.pV ts (j + 1) with
      | bad m =>
        rw [e1] at cv
        have CV := Lib.hid cv
        have HE : Hid (Sy.pW ts (ts.length + 1) [] i = .bad m) := Lib.hid (by rw [HR.out, pW_bad HC.out e1])
        clear cv hfw e1
        go_wp2_with (go_at_call 73; ((with_reducible refine (fw.out _).mono ?_); rintro e w' ⟨rfl, rfl⟩))
        have M1 := Lib.hid (M.out.at hjn)
        have X := M1.out.X
        clear z0 z1 z2 z3 p1 p2
        have z1 := X.cell' 1 _ rfl
        clear X
        go_region_law ((go_simp; go_wp2_with (go_at_call 108; ((with_reducible refine (CV.out _ (M1.out.drew.H)).mono ?_); rintro e w' ⟨rfl, q⟩; refine dying (P := Tryz.prog) (w := w') ⟨rfl, (by show PBl P a cap ts len w (Sy.wrapC _ (Sy.pW ts (ts.length + 1) [] i)) _ _; rw [HE.out]; exact ⟨rfl, M1.out.q.trans ((Px.drew (Px.refl P _)).trans q)⟩)⟩ ?_))))
        all_goals exact trivial
      | ok x m =>
        rw [e1] at cv hfw
        have CV := Lib.hid cv
        have HE : Hid (Sy.pW ts (ts.length + 1) [] i = Sy.pW ts g (wds (ds ++ [⟨Sy.tn ts j, x, none, 0⟩])) m) := Lib.hid (by rw [HR.out, pW_ok HC.out e1]; unfold wds; rw [List.map_append]; rfl)
        have hm2 : m ≤ ts.length := hfw.2
        have hm1 : j + 1 < m := hfw.1
        clear cv hfw e1
        go_wp2_with (go_at_call 73; ((with_reducible refine (fw.out _).mono ?_); rintro e w' ⟨rfl, rfl⟩))
        refine code_of (fun w2 => Mid P a cap ts len w u3 ds b4 j (j + 1) w2) (M.out.at hjn) ?_
        intro w2 M1
        have X := M1.X
        clear z0 z1 z2 z3 p1 p2
        have z1 := X.cell' 1 _ rfl
        replace M1 := Lib.hid M1
        clear X M
        go_region_law (first
          | (refine step_word rfl 24 30 rfl ⟨Sy.tn ts j, x, ka, kc⟩ (w.heap.size + 1) u3 ds _ (by simp [Act.eval, Act.put]) (by simp [Act.eval, Act.put]) (Bx.new _ _ _) (M2.out.alloc _).O (by omega) (by have := (M2.out.alloc (.cells #[] 0)).sz; simp at this ⊢; omega) ?_; intro v' w3 ho hg hn; have M3 := Mid.app (M2.out.alloc _) (KD.out.alloc _) ho hg hn; clear ho hg hn; have X := M3.X; have z0 := X.cell' 0 _ rfl; have z1 := X.cell' 1 _ rfl; have z2 := X.cell' 2 _ rfl; have z3 := X.cell' 3 _ rfl; clear X; replace M3 := Lib.hid M3)
          | (go_simp; go_wp2_with (go_at_call 108; ((with_reducible refine (CV.out _ (M1.out.drew.H)).mono ?_); rintro e w' ⟨ka, kc, rfl, k, hp, q⟩; have M2 := M1.out.drew.next hp q; have KD : Hid (KidsB w' (fun b => w.heap.size < b ∧ u3.ownBlock ≠ some b ∧ b ≠ b4) ka kc x.ks) := Lib.hid (k.mono fun b hb => (by have h1 := M1.out.drew.sz; have hb' : w2.drew.heap.size ≤ b := hb; exact ⟨by omega, fun e => by have := (M1.out.drew.O.lt e).2.1; omega, by omega⟩)); clear k hp q; have X := M2.X; have z1 := X.cell' 1 _ rfl; clear X; replace M2 := Lib.hid M2))))
        all_goals go_wp2_with (go_at_call 64; ((with_reducible refine (syNext (M3.out.fresh.H)).mono ?_); rintro e w' ⟨rfl, q⟩; unfold tokV; have M4 := M3.out.fresh.next (M3.out.fresh.H.kept q) (Px.of q); have X := M4.X; have z0 := X.cell' 0 _ rfl; have z1 := X.cell' 1 _ rfl; have z2 := X.cell' 2 _ rfl; have z3 := X.cell' 3 _ rfl; have y0 := X.free 0; have y1 := X.free 1; have y2 := X.free 2; have y3 := X.free 3; clear X q; replace M4 := Lib.hid M4))
        all_goals go_roundg g
        all_goals (first | (case measure => exact Nat.lt_succ_self g) | skip)
        all_goals exact ⟨m, ds ++ [⟨Sy.tn ts j, x, ka, kc⟩], _, rfl, hm2, by omega, (by rw [List.length_append]; simp; omega), Lib.hid (by rw [HE.out]; unfold wds; rw [List.map_append, List.map_append]; rfl), Lib.hid M4.out.put⟩
    · have HE : Hid (Sy.pW ts (ts.length + 1) [] i = .ok (wds ds) j) := Lib.hid (by rw [HR.out, pW_stop hc])
      obtain ⟨va, vc, rfl, WB⟩ := M.out.O.words (S := fun b => w.heap.size < b) (fun g hg => (M.out.O.lt hg).1) (fun d hd => (M.out.D d hd).mono fun b hb => hb.1)
      have hlw : Hid ((wds ds).length = ds.length) := Lib.hid (List.length_map _)
      have WB' := Lib.hid WB
      have R := Lib.hid M.out.R
      have rl := R.out.lt; have r0 := R.out.cell' 0 _ rfl; have s0 := R.out.free 0; have r1 := R.out.cell' 1 _ rfl; have s1 := R.out.free 1; have r2 := R.out.cell' 2 _ rfl; have s2 := R.out.free 2; have r3 := R.out.cell' 3 _ rfl; have s3 := R.out.free 3; have r4 := R.out.cell' 4 _ rfl; have s4 := R.out.free 4; have r5 := R.out.cell' 5 _ rfl; have s5 := R.out.free 5; have r6 := R.out.cell' 6 _ rfl; have s6 := R.out.free 6; have r7 := R.out.cell' 7 _ rfl; have s7 := R.out.free 7; have r8 := R.out.cell' 8 _ rfl; have s8 := R.out.free 8; have r9 := R.out.cell' 9 _ rfl; have s9 := R.out.free 9; have r10 := R.out.cell' 10 _ rfl; have s10 := R.out.free 10
      clear WB
      by_cases hk : Sy.kd ts j = 1
      · have hw : Sy.isw (Sy.tn ts j) = false := by
          cases e : Sy.isw (Sy.tn ts j)
          · rfl
          · exact absurd ⟨hk, e⟩ hc
        rw [hk] at z0
        rw [hw] at fw
        replace fw := Lib.hid fw
        clear hc hk hw
        go_wp2_with (go_at_call 73; ((with_reducible refine (fw.out _).mono ?_); rintro e w' ⟨rfl, rfl⟩))
        replace hlw := hlw.out
        rw [HE.out]
        exact blRet (b := Sy.blk 0 (wds ds) Sy.zx Sy.zx 0) Tryz.results72 rfl rfl hP hO R.out (⟨va, vc, none, 0, none, 0, (by rw [← hlw]; rfl), WB'.out, KidsB.nl none 0 (by decide), KidsB.nl none 0 (by decide)⟩ : BlkB _ (fun b => w.heap.size < b) (Sy.blk 0 (wds ds) Sy.zx Sy.zx 0) #[.int .i64 0, .int .i64 0, .bool false, .slice va ds.length vc, .int .i64 0, .int .i64 0, .slice none 0 0, .int .i64 0, .int .i64 0, .slice none 0 0, .int .i64 0]) M.out.H M.out.q rfl
      · have hb : (Sy.kd ts j == 1) = false := by simpa using hk
        clear hc hk fw
        go_wp2_with fail
        replace hlw := hlw.out
        rw [HE.out]
        exact blRet (b := Sy.blk 0 (wds ds) Sy.zx Sy.zx 0) Tryz.results72 rfl rfl hP hO R.out (⟨va, vc, none, 0, none, 0, (by rw [← hlw]; rfl), WB'.out, KidsB.nl none 0 (by decide), KidsB.nl none 0 (by decide)⟩ : BlkB _ (fun b => w.heap.size < b) (Sy.blk 0 (wds ds) Sy.zx Sy.zx 0) #[.int .i64 0, .int .i64 0, .bool false, .slice va ds.length vc, .int .i64 0, .int .i64 0, .slice none 0 0, .int .i64 0, .int .i64 0, .slice none 0 0, .int .i64 0]) M.out.H M.out.q rfl
end Go.Proofs.YtciglhecjkeogaaGreatDoor
set_option linter.unusedVariables false
set_option linter.unusedSimpArgs false
namespace Go.Proofs.YtciglhecjkeogaaGreatDoor
open Go.RowKit
set_option maxRecDepth 100000 in
set_option maxHeartbeats 4000000 in
theorem cont_set {P : Nat} {a : Option Addr} {cap : Nat} {ts : List Lx.Tok} {len : Nat} (i : Nat) (w : World) (h : Par w P a cap ts len i)  (hx : Sy.tx ts i = [35]) (r : Sy.Rs Sy.Bl)
    (c1 : ∀ w, Par w P a cap ts len i → Calls Tryz.prog 66 #[.pointer (some ⟨P, 0, none⟩)] w (PBl P a cap ts len w r)) :
    Calls Tryz.prog 43 #[.pointer (some ⟨P, 0, none⟩)] w (PBl P a cap ts len w r) := by
  obtain ⟨hP, hO⟩ := h.lt
  have hle := h.le
  have H := Lib.hid h
  clear h
  have hf := run_field_x (Sy.kd ts i) (Sy.tn ts i) (Sy.tp ts len i : Nat) (bs (Sy.tx ts i))
  have hv : Hid (tokV ts len i = .agg #[.int .i64 (Sy.kd ts i), .int .i64 (Sy.tn ts i), .int .i64 (Sy.tp ts len i : Nat), .string (bs (Sy.tx ts i))]) := Lib.hid rfl
  have R : Hid (Bx (w.alloc (.cells blZ 37)) w.heap.size blZ 37) := Lib.hid (Bx.new w _ _)
  have ht : bs (Sy.tx ts i) = (⟨#[35]⟩ : ByteArray) := by rw [hx]; rfl
  have hv2 := hv.out
  rw [ht] at hf hv2
  replace hv := Lib.hid hv2
  clear hv2 ht
  clear hx
  have C1 := Lib.hid c1
  clear c1
  cases r with
  | bad j =>
    have q0 : Hid (Px P w w) := Lib.hid (Px.refl P w)
    go_enter Tryz.func43, Tryz.ntmps43
    go_wp2_with (first | (go_at_call 64; ((with_reducible refine (syNext (H.out.kept Qz)).mono ?_); rintro e w' ⟨rfl, q⟩; rw [hv.out]; replace R : Hid (Bx w' w.heap.size blZ 37) := Lib.hid (Bx.kept Rz q); replace H := Lib.hid (Par.kept H.out (Qw.trans Qz q)); replace q0 : Hid (Px P w w') := Lib.hid (Px.trans Pz (Px.of q)); clear q)) | (go_at_call 66; ((with_reducible refine (C1.out _ (H.out.kept Qz)).mono ?_); rintro e w' ⟨rfl, q⟩; replace q0 : Hid (Px P w w') := Lib.hid (Px.trans Pz q); clear q)))
    exact ⟨rfl, rfl, q0.out⟩
  | ok b j =>
    have q0 : Hid (Px P w w) := Lib.hid (Px.refl P w)
    go_enter Tryz.func43, Tryz.ntmps43
    go_wp2_with (first | (go_at_call 64; ((with_reducible refine (syNext (H.out.kept Qz)).mono ?_); rintro e w' ⟨rfl, q⟩; rw [hv.out]; replace R : Hid (Bx w' w.heap.size blZ 37) := Lib.hid (Bx.kept Rz q); replace H := Lib.hid (Par.kept H.out (Qw.trans Qz q)); replace q0 : Hid (Px P w w') := Lib.hid (Px.trans Pz (Px.of q)); clear q)) | (go_at_call 66; ((with_reducible refine (C1.out _ (H.out.kept Qz)).mono ?_); rintro e w' ⟨⟨cs, rfl, wa, wc, la, lc, xa, xc, rfl, hw, hl, hx⟩, hp, q⟩; have pw := (Par.lt hp).1; have B : Hid (BlkB w' (fun b => w.heap.size < b) b #[.int .i64 b.kind, .int .i64 b.label, .bool b.skip, .slice wa b.words.length wc, .int .i64 b.left.op, .int .i64 b.left.n, .slice la b.left.ks.length lc, .int .i64 b.x.op, .int .i64 b.x.n, .slice xa b.x.ks.length xc, .int .i64 b.n]) := Lib.hid (BlkB.go (fun b hb _ => ⟨rfl, Nat.lt_of_lt_of_le (Bx.lt Rz) hb⟩) ⟨wa, wc, la, lc, xa, xc, rfl, hw, hl, hx⟩); clear hw hl hx; replace R : Hid (Bx w' w.heap.size blZ 37) := Lib.hid (Bx.px Rz q (by omega)); have rl := R.out.lt; have r0 := R.out.cell' 0 _ rfl; have s0 := R.out.free 0; have r1 := R.out.cell' 1 _ rfl; have s1 := R.out.free 1; have r2 := R.out.cell' 2 _ rfl; have s2 := R.out.free 2; have r3 := R.out.cell' 3 _ rfl; have s3 := R.out.free 3; have r4 := R.out.cell' 4 _ rfl; have s4 := R.out.free 4; have r5 := R.out.cell' 5 _ rfl; have s5 := R.out.free 5; have r6 := R.out.cell' 6 _ rfl; have s6 := R.out.free 6; have r7 := R.out.cell' 7 _ rfl; have s7 := R.out.free 7; have r8 := R.out.cell' 8 _ rfl; have s8 := R.out.free 8; have r9 := R.out.cell' 9 _ rfl; have s9 := R.out.free 9; have r10 := R.out.cell' 10 _ rfl; have s10 := R.out.free 10; replace H := Lib.hid hp; clear hp; replace q0 : Hid (Px P w w') := Lib.hid (Px.trans Pz q); clear q)))
    exact blRet (b := b) Tryz.results43 rfl rfl hP hO R.out B.out H.out q0.out rfl
set_option maxRecDepth 100000 in
set_option maxHeartbeats 4000000 in
theorem cont_branch {P : Nat} {a : Option Addr} {cap : Nat} {ts : List Lx.Tok} {len : Nat} (i : Nat) (w : World) (h : Par w P a cap ts len i) (n0 : Sy.tx ts i ≠ [35]) (hx : Sy.tx ts i = [73, 70]) (r : Sy.Rs Sy.Bl)
    (c1 : ∀ w, Par w P a cap ts len i → Calls Tryz.prog 67 #[.pointer (some ⟨P, 0, none⟩)] w (PBl P a cap ts len w r)) :
    Calls Tryz.prog 43 #[.pointer (some ⟨P, 0, none⟩)] w (PBl P a cap ts len w r) := by
  obtain ⟨hP, hO⟩ := h.lt
  have hle := h.le
  have H := Lib.hid h
  clear h
  have hf := run_field_x (Sy.kd ts i) (Sy.tn ts i) (Sy.tp ts len i : Nat) (bs (Sy.tx ts i))
  have hv : Hid (tokV ts len i = .agg #[.int .i64 (Sy.kd ts i), .int .i64 (Sy.tn ts i), .int .i64 (Sy.tp ts len i : Nat), .string (bs (Sy.tx ts i))]) := Lib.hid rfl
  have R : Hid (Bx (w.alloc (.cells blZ 37)) w.heap.size blZ 37) := Lib.hid (Bx.new w _ _)
  have ht : bs (Sy.tx ts i) = (⟨#[73, 70]⟩ : ByteArray) := by rw [hx]; rfl
  have hv2 := hv.out
  rw [ht] at hf hv2
  replace hv := Lib.hid hv2
  clear hv2 ht
  clear n0
  clear hx
  have C1 := Lib.hid c1
  clear c1
  cases r with
  | bad j =>
    have q0 : Hid (Px P w w) := Lib.hid (Px.refl P w)
    go_enter Tryz.func43, Tryz.ntmps43
    go_wp2_with (first | (go_at_call 64; ((with_reducible refine (syNext (H.out.kept Qz)).mono ?_); rintro e w' ⟨rfl, q⟩; rw [hv.out]; replace R : Hid (Bx w' w.heap.size blZ 37) := Lib.hid (Bx.kept Rz q); replace H := Lib.hid (Par.kept H.out (Qw.trans Qz q)); replace q0 : Hid (Px P w w') := Lib.hid (Px.trans Pz (Px.of q)); clear q)) | (go_at_call 67; ((with_reducible refine (C1.out _ (H.out.kept Qz)).mono ?_); rintro e w' ⟨rfl, q⟩; replace q0 : Hid (Px P w w') := Lib.hid (Px.trans Pz q); clear q)))
    exact ⟨rfl, rfl, q0.out⟩
  | ok b j =>
    have q0 : Hid (Px P w w) := Lib.hid (Px.refl P w)
    go_enter Tryz.func43, Tryz.ntmps43
    go_wp2_with (first | (go_at_call 64; ((with_reducible refine (syNext (H.out.kept Qz)).mono ?_); rintro e w' ⟨rfl, q⟩; rw [hv.out]; replace R : Hid (Bx w' w.heap.size blZ 37) := Lib.hid (Bx.kept Rz q); replace H := Lib.hid (Par.kept H.out (Qw.trans Qz q)); replace q0 : Hid (Px P w w') := Lib.hid (Px.trans Pz (Px.of q)); clear q)) | (go_at_call 67; ((with_reducible refine (C1.out _ (H.out.kept Qz)).mono ?_); rintro e w' ⟨⟨cs, rfl, wa, wc, la, lc, xa, xc, rfl, hw, hl, hx⟩, hp, q⟩; have pw := (Par.lt hp).1; have B : Hid (BlkB w' (fun b => w.heap.size < b) b #[.int .i64 b.kind, .int .i64 b.label, .bool b.skip, .slice wa b.words.length wc, .int .i64 b.left.op, .int .i64 b.left.n, .slice la b.left.ks.length lc, .int .i64 b.x.op, .int .i64 b.x.n, .slice xa b.x.ks.length xc, .int .i64 b.n]) := Lib.hid (BlkB.go (fun b hb _ => ⟨rfl, Nat.lt_of_lt_of_le (Bx.lt Rz) hb⟩) ⟨wa, wc, la, lc, xa, xc, rfl, hw, hl, hx⟩); clear hw hl hx; replace R : Hid (Bx w' w.heap.size blZ 37) := Lib.hid (Bx.px Rz q (by omega)); have rl := R.out.lt; have r0 := R.out.cell' 0 _ rfl; have s0 := R.out.free 0; have r1 := R.out.cell' 1 _ rfl; have s1 := R.out.free 1; have r2 := R.out.cell' 2 _ rfl; have s2 := R.out.free 2; have r3 := R.out.cell' 3 _ rfl; have s3 := R.out.free 3; have r4 := R.out.cell' 4 _ rfl; have s4 := R.out.free 4; have r5 := R.out.cell' 5 _ rfl; have s5 := R.out.free 5; have r6 := R.out.cell' 6 _ rfl; have s6 := R.out.free 6; have r7 := R.out.cell' 7 _ rfl; have s7 := R.out.free 7; have r8 := R.out.cell' 8 _ rfl; have s8 := R.out.free 8; have r9 := R.out.cell' 9 _ rfl; have s9 := R.out.free 9; have r10 := R.out.cell' 10 _ rfl; have s10 := R.out.free 10; replace H := Lib.hid hp; clear hp; replace q0 : Hid (Px P w w') := Lib.hid (Px.trans Pz q); clear q)))
    exact blRet (b := b) Tryz.results43 rfl rfl hP hO R.out B.out H.out q0.out rfl
set_option maxRecDepth 100000 in
set_option maxHeartbeats 4000000 in
theorem cont_jump {P : Nat} {a : Option Addr} {cap : Nat} {ts : List Lx.Tok} {len : Nat} (i : Nat) (w : World) (h : Par w P a cap ts len i) (n0 : Sy.tx ts i ≠ [35]) (n1 : Sy.tx ts i ≠ [73, 70]) (hx : Sy.tx ts i = [71, 79, 84, 79]) (r : Sy.Rs Sy.Bl)
    (c1 : ∀ w, Par w P a cap ts len i → Calls Tryz.prog 68 #[.pointer (some ⟨P, 0, none⟩)] w (PBl P a cap ts len w r)) :
    Calls Tryz.prog 43 #[.pointer (some ⟨P, 0, none⟩)] w (PBl P a cap ts len w r) := by
  obtain ⟨hP, hO⟩ := h.lt
  have hle := h.le
  have H := Lib.hid h
  clear h
  have hf := run_field_x (Sy.kd ts i) (Sy.tn ts i) (Sy.tp ts len i : Nat) (bs (Sy.tx ts i))
  have hv : Hid (tokV ts len i = .agg #[.int .i64 (Sy.kd ts i), .int .i64 (Sy.tn ts i), .int .i64 (Sy.tp ts len i : Nat), .string (bs (Sy.tx ts i))]) := Lib.hid rfl
  have R : Hid (Bx (w.alloc (.cells blZ 37)) w.heap.size blZ 37) := Lib.hid (Bx.new w _ _)
  have ht : bs (Sy.tx ts i) = (⟨#[71, 79, 84, 79]⟩ : ByteArray) := by rw [hx]; rfl
  have hv2 := hv.out
  rw [ht] at hf hv2
  replace hv := Lib.hid hv2
  clear hv2 ht
  clear n0
  clear n1
  clear hx
  have C1 := Lib.hid c1
  clear c1
  cases r with
  | bad j =>
    have q0 : Hid (Px P w w) := Lib.hid (Px.refl P w)
    go_enter Tryz.func43, Tryz.ntmps43
    go_wp2_with (first | (go_at_call 64; ((with_reducible refine (syNext (H.out.kept Qz)).mono ?_); rintro e w' ⟨rfl, q⟩; rw [hv.out]; replace R : Hid (Bx w' w.heap.size blZ 37) := Lib.hid (Bx.kept Rz q); replace H := Lib.hid (Par.kept H.out (Qw.trans Qz q)); replace q0 : Hid (Px P w w') := Lib.hid (Px.trans Pz (Px.of q)); clear q)) | (go_at_call 68; ((with_reducible refine (C1.out _ (H.out.kept Qz)).mono ?_); rintro e w' ⟨rfl, q⟩; replace q0 : Hid (Px P w w') := Lib.hid (Px.trans Pz q); clear q)))
    exact ⟨rfl, rfl, q0.out⟩
  | ok b j =>
    have q0 : Hid (Px P w w) := Lib.hid (Px.refl P w)
    go_enter Tryz.func43, Tryz.ntmps43
    go_wp2_with (first | (go_at_call 64; ((with_reducible refine (syNext (H.out.kept Qz)).mono ?_); rintro e w' ⟨rfl, q⟩; rw [hv.out]; replace R : Hid (Bx w' w.heap.size blZ 37) := Lib.hid (Bx.kept Rz q); replace H := Lib.hid (Par.kept H.out (Qw.trans Qz q)); replace q0 : Hid (Px P w w') := Lib.hid (Px.trans Pz (Px.of q)); clear q)) | (go_at_call 68; ((with_reducible refine (C1.out _ (H.out.kept Qz)).mono ?_); rintro e w' ⟨⟨cs, rfl, wa, wc, la, lc, xa, xc, rfl, hw, hl, hx⟩, hp, q⟩; have pw := (Par.lt hp).1; have B : Hid (BlkB w' (fun b => w.heap.size < b) b #[.int .i64 b.kind, .int .i64 b.label, .bool b.skip, .slice wa b.words.length wc, .int .i64 b.left.op, .int .i64 b.left.n, .slice la b.left.ks.length lc, .int .i64 b.x.op, .int .i64 b.x.n, .slice xa b.x.ks.length xc, .int .i64 b.n]) := Lib.hid (BlkB.go (fun b hb _ => ⟨rfl, Nat.lt_of_lt_of_le (Bx.lt Rz) hb⟩) ⟨wa, wc, la, lc, xa, xc, rfl, hw, hl, hx⟩); clear hw hl hx; replace R : Hid (Bx w' w.heap.size blZ 37) := Lib.hid (Bx.px Rz q (by omega)); have rl := R.out.lt; have r0 := R.out.cell' 0 _ rfl; have s0 := R.out.free 0; have r1 := R.out.cell' 1 _ rfl; have s1 := R.out.free 1; have r2 := R.out.cell' 2 _ rfl; have s2 := R.out.free 2; have r3 := R.out.cell' 3 _ rfl; have s3 := R.out.free 3; have r4 := R.out.cell' 4 _ rfl; have s4 := R.out.free 4; have r5 := R.out.cell' 5 _ rfl; have s5 := R.out.free 5; have r6 := R.out.cell' 6 _ rfl; have s6 := R.out.free 6; have r7 := R.out.cell' 7 _ rfl; have s7 := R.out.free 7; have r8 := R.out.cell' 8 _ rfl; have s8 := R.out.free 8; have r9 := R.out.cell' 9 _ rfl; have s9 := R.out.free 9; have r10 := R.out.cell' 10 _ rfl; have s10 := R.out.free 10; replace H := Lib.hid hp; clear hp; replace q0 : Hid (Px P w w') := Lib.hid (Px.trans Pz q); clear q)))
    exact blRet (b := b) Tryz.results43 rfl rfl hP hO R.out B.out H.out q0.out rfl
set_option maxRecDepth 100000 in
set_option maxHeartbeats 4000000 in
theorem cont_while {P : Nat} {a : Option Addr} {cap : Nat} {ts : List Lx.Tok} {len : Nat} (i : Nat) (w : World) (h : Par w P a cap ts len i) (n0 : Sy.tx ts i ≠ [35]) (n1 : Sy.tx ts i ≠ [73, 70]) (n2 : Sy.tx ts i ≠ [71, 79, 84, 79]) (hx : Sy.tx ts i = [87, 72, 73, 76, 69]) (r : Sy.Rs Sy.Bl)
    (c1 : ∀ w, Par w P a cap ts len i → Calls Tryz.prog 69 #[.pointer (some ⟨P, 0, none⟩)] w (PBl P a cap ts len w r)) :
    Calls Tryz.prog 43 #[.pointer (some ⟨P, 0, none⟩)] w (PBl P a cap ts len w r) := by
  obtain ⟨hP, hO⟩ := h.lt
  have hle := h.le
  have H := Lib.hid h
  clear h
  have hf := run_field_x (Sy.kd ts i) (Sy.tn ts i) (Sy.tp ts len i : Nat) (bs (Sy.tx ts i))
  have hv : Hid (tokV ts len i = .agg #[.int .i64 (Sy.kd ts i), .int .i64 (Sy.tn ts i), .int .i64 (Sy.tp ts len i : Nat), .string (bs (Sy.tx ts i))]) := Lib.hid rfl
  have R : Hid (Bx (w.alloc (.cells blZ 37)) w.heap.size blZ 37) := Lib.hid (Bx.new w _ _)
  have ht : bs (Sy.tx ts i) = (⟨#[87, 72, 73, 76, 69]⟩ : ByteArray) := by rw [hx]; rfl
  have hv2 := hv.out
  rw [ht] at hf hv2
  replace hv := Lib.hid hv2
  clear hv2 ht
  clear n0
  clear n1
  clear n2
  clear hx
  have C1 := Lib.hid c1
  clear c1
  cases r with
  | bad j =>
    have q0 : Hid (Px P w w) := Lib.hid (Px.refl P w)
    go_enter Tryz.func43, Tryz.ntmps43
    go_wp2_with (first | (go_at_call 64; ((with_reducible refine (syNext (H.out.kept Qz)).mono ?_); rintro e w' ⟨rfl, q⟩; rw [hv.out]; replace R : Hid (Bx w' w.heap.size blZ 37) := Lib.hid (Bx.kept Rz q); replace H := Lib.hid (Par.kept H.out (Qw.trans Qz q)); replace q0 : Hid (Px P w w') := Lib.hid (Px.trans Pz (Px.of q)); clear q)) | (go_at_call 69; ((with_reducible refine (C1.out _ (H.out.kept Qz)).mono ?_); rintro e w' ⟨rfl, q⟩; replace q0 : Hid (Px P w w') := Lib.hid (Px.trans Pz q); clear q)))
    exact ⟨rfl, rfl, q0.out⟩
  | ok b j =>
    have q0 : Hid (Px P w w) := Lib.hid (Px.refl P w)
    go_enter Tryz.func43, Tryz.ntmps43
    go_wp2_with (first | (go_at_call 64; ((with_reducible refine (syNext (H.out.kept Qz)).mono ?_); rintro e w' ⟨rfl, q⟩; rw [hv.out]; replace R : Hid (Bx w' w.heap.size blZ 37) := Lib.hid (Bx.kept Rz q); replace H := Lib.hid (Par.kept H.out (Qw.trans Qz q)); replace q0 : Hid (Px P w w') := Lib.hid (Px.trans Pz (Px.of q)); clear q)) | (go_at_call 69; ((with_reducible refine (C1.out _ (H.out.kept Qz)).mono ?_); rintro e w' ⟨⟨cs, rfl, wa, wc, la, lc, xa, xc, rfl, hw, hl, hx⟩, hp, q⟩; have pw := (Par.lt hp).1; have B : Hid (BlkB w' (fun b => w.heap.size < b) b #[.int .i64 b.kind, .int .i64 b.label, .bool b.skip, .slice wa b.words.length wc, .int .i64 b.left.op, .int .i64 b.left.n, .slice la b.left.ks.length lc, .int .i64 b.x.op, .int .i64 b.x.n, .slice xa b.x.ks.length xc, .int .i64 b.n]) := Lib.hid (BlkB.go (fun b hb _ => ⟨rfl, Nat.lt_of_lt_of_le (Bx.lt Rz) hb⟩) ⟨wa, wc, la, lc, xa, xc, rfl, hw, hl, hx⟩); clear hw hl hx; replace R : Hid (Bx w' w.heap.size blZ 37) := Lib.hid (Bx.px Rz q (by omega)); have rl := R.out.lt; have r0 := R.out.cell' 0 _ rfl; have s0 := R.out.free 0; have r1 := R.out.cell' 1 _ rfl; have s1 := R.out.free 1; have r2 := R.out.cell' 2 _ rfl; have s2 := R.out.free 2; have r3 := R.out.cell' 3 _ rfl; have s3 := R.out.free 3; have r4 := R.out.cell' 4 _ rfl; have s4 := R.out.free 4; have r5 := R.out.cell' 5 _ rfl; have s5 := R.out.free 5; have r6 := R.out.cell' 6 _ rfl; have s6 := R.out.free 6; have r7 := R.out.cell' 7 _ rfl; have s7 := R.out.free 7; have r8 := R.out.cell' 8 _ rfl; have s8 := R.out.free 8; have r9 := R.out.cell' 9 _ rfl; have s9 := R.out.free 9; have r10 := R.out.cell' 10 _ rfl; have s10 := R.out.free 10; replace H := Lib.hid hp; clear hp; replace q0 : Hid (Px P w w') := Lib.hid (Px.trans Pz q); clear q)))
    exact blRet (b := b) Tryz.results43 rfl rfl hP hO R.out B.out H.out q0.out rfl
set_option maxRecDepth 100000 in
set_option maxHeartbeats 4000000 in
theorem cont_end {P : Nat} {a : Option Addr} {cap : Nat} {ts : List Lx.Tok} {len : Nat} (i : Nat) (w : World) (h : Par w P a cap ts len i) (n0 : Sy.tx ts i ≠ [35]) (n1 : Sy.tx ts i ≠ [73, 70]) (n2 : Sy.tx ts i ≠ [71, 79, 84, 79]) (n3 : Sy.tx ts i ≠ [87, 72, 73, 76, 69]) (hx : Sy.tx ts i = [69, 78, 68]) (r : Sy.Rs Sy.Bl)
    (c1 : ∀ w, Par w P a cap ts len i → Calls Tryz.prog 70 #[.pointer (some ⟨P, 0, none⟩)] w (PBl P a cap ts len w r)) :
    Calls Tryz.prog 43 #[.pointer (some ⟨P, 0, none⟩)] w (PBl P a cap ts len w r) := by
  obtain ⟨hP, hO⟩ := h.lt
  have hle := h.le
  have H := Lib.hid h
  clear h
  have hf := run_field_x (Sy.kd ts i) (Sy.tn ts i) (Sy.tp ts len i : Nat) (bs (Sy.tx ts i))
  have hv : Hid (tokV ts len i = .agg #[.int .i64 (Sy.kd ts i), .int .i64 (Sy.tn ts i), .int .i64 (Sy.tp ts len i : Nat), .string (bs (Sy.tx ts i))]) := Lib.hid rfl
  have R : Hid (Bx (w.alloc (.cells blZ 37)) w.heap.size blZ 37) := Lib.hid (Bx.new w _ _)
  have ht : bs (Sy.tx ts i) = (⟨#[69, 78, 68]⟩ : ByteArray) := by rw [hx]; rfl
  have hv2 := hv.out
  rw [ht] at hf hv2
  replace hv := Lib.hid hv2
  clear hv2 ht
  clear n0
  clear n1
  clear n2
  clear n3
  clear hx
  have C1 := Lib.hid c1
  clear c1
  cases r with
  | bad j =>
    have q0 : Hid (Px P w w) := Lib.hid (Px.refl P w)
    go_enter Tryz.func43, Tryz.ntmps43
    go_wp2_with (first | (go_at_call 64; ((with_reducible refine (syNext (H.out.kept Qz)).mono ?_); rintro e w' ⟨rfl, q⟩; rw [hv.out]; replace R : Hid (Bx w' w.heap.size blZ 37) := Lib.hid (Bx.kept Rz q); replace H := Lib.hid (Par.kept H.out (Qw.trans Qz q)); replace q0 : Hid (Px P w w') := Lib.hid (Px.trans Pz (Px.of q)); clear q)) | (go_at_call 70; ((with_reducible refine (C1.out _ (H.out.kept Qz)).mono ?_); rintro e w' ⟨rfl, q⟩; replace q0 : Hid (Px P w w') := Lib.hid (Px.trans Pz q); clear q)))
    exact ⟨rfl, rfl, q0.out⟩
  | ok b j =>
    have q0 : Hid (Px P w w) := Lib.hid (Px.refl P w)
    go_enter Tryz.func43, Tryz.ntmps43
    go_wp2_with (first | (go_at_call 64; ((with_reducible refine (syNext (H.out.kept Qz)).mono ?_); rintro e w' ⟨rfl, q⟩; rw [hv.out]; replace R : Hid (Bx w' w.heap.size blZ 37) := Lib.hid (Bx.kept Rz q); replace H := Lib.hid (Par.kept H.out (Qw.trans Qz q)); replace q0 : Hid (Px P w w') := Lib.hid (Px.trans Pz (Px.of q)); clear q)) | (go_at_call 70; ((with_reducible refine (C1.out _ (H.out.kept Qz)).mono ?_); rintro e w' ⟨⟨cs, rfl, wa, wc, la, lc, xa, xc, rfl, hw, hl, hx⟩, hp, q⟩; have pw := (Par.lt hp).1; have B : Hid (BlkB w' (fun b => w.heap.size < b) b #[.int .i64 b.kind, .int .i64 b.label, .bool b.skip, .slice wa b.words.length wc, .int .i64 b.left.op, .int .i64 b.left.n, .slice la b.left.ks.length lc, .int .i64 b.x.op, .int .i64 b.x.n, .slice xa b.x.ks.length xc, .int .i64 b.n]) := Lib.hid (BlkB.go (fun b hb _ => ⟨rfl, Nat.lt_of_lt_of_le (Bx.lt Rz) hb⟩) ⟨wa, wc, la, lc, xa, xc, rfl, hw, hl, hx⟩); clear hw hl hx; replace R : Hid (Bx w' w.heap.size blZ 37) := Lib.hid (Bx.px Rz q (by omega)); have rl := R.out.lt; have r0 := R.out.cell' 0 _ rfl; have s0 := R.out.free 0; have r1 := R.out.cell' 1 _ rfl; have s1 := R.out.free 1; have r2 := R.out.cell' 2 _ rfl; have s2 := R.out.free 2; have r3 := R.out.cell' 3 _ rfl; have s3 := R.out.free 3; have r4 := R.out.cell' 4 _ rfl; have s4 := R.out.free 4; have r5 := R.out.cell' 5 _ rfl; have s5 := R.out.free 5; have r6 := R.out.cell' 6 _ rfl; have s6 := R.out.free 6; have r7 := R.out.cell' 7 _ rfl; have s7 := R.out.free 7; have r8 := R.out.cell' 8 _ rfl; have s8 := R.out.free 8; have r9 := R.out.cell' 9 _ rfl; have s9 := R.out.free 9; have r10 := R.out.cell' 10 _ rfl; have s10 := R.out.free 10; replace H := Lib.hid hp; clear hp; replace q0 : Hid (Px P w w') := Lib.hid (Px.trans Pz q); clear q)))
    exact blRet (b := b) Tryz.results43 rfl rfl hP hO R.out B.out H.out q0.out rfl
set_option maxRecDepth 100000 in
set_option maxHeartbeats 4000000 in
theorem cont_program {P : Nat} {a : Option Addr} {cap : Nat} {ts : List Lx.Tok} {len : Nat} (i : Nat) (w : World) (h : Par w P a cap ts len i) (n0 : Sy.tx ts i ≠ [35]) (n1 : Sy.tx ts i ≠ [73, 70]) (n2 : Sy.tx ts i ≠ [71, 79, 84, 79]) (n3 : Sy.tx ts i ≠ [87, 72, 73, 76, 69]) (n4 : Sy.tx ts i ≠ [69, 78, 68]) (hk : Sy.kd ts i = 1) (hn : Sy.tn ts i = 79) (r : Sy.Rs Sy.Bl)
    (c1 : ∀ w, Par w P a cap ts len (i + 1) → Calls Tryz.prog 71 #[.pointer (some ⟨P, 0, none⟩)] w (PBl P a cap ts len w r)) :
    Calls Tryz.prog 43 #[.pointer (some ⟨P, 0, none⟩)] w (PBl P a cap ts len w r) := by
  obtain ⟨hP, hO⟩ := h.lt
  have hle := h.le
  have H := Lib.hid h
  clear h
  have hf := run_field_x (Sy.kd ts i) (Sy.tn ts i) (Sy.tp ts len i : Nat) (bs (Sy.tx ts i))
  have hv : Hid (tokV ts len i = .agg #[.int .i64 (Sy.kd ts i), .int .i64 (Sy.tn ts i), .int .i64 (Sy.tp ts len i : Nat), .string (bs (Sy.tx ts i))]) := Lib.hid rfl
  have R : Hid (Bx (w.alloc (.cells blZ 37)) w.heap.size blZ 37) := Lib.hid (Bx.new w _ _)
  have b0 : ((bs (Sy.tx ts i)).toList == (⟨#[35]⟩ : ByteArray).toList) = false := by rw [beq_txt]; exact decide_eq_false (fun h => n0 (bs_inj.1 (show _ = bs [35] from h)))
  have d0 : ((bs (Sy.tx ts i)).toList == [35]) = false := by have h := b0; rw [ByteArray.toList_eq, ByteArray.toList_eq] at h; rw [ByteArray.toList_eq]; exact h
  have b1 : ((bs (Sy.tx ts i)).toList == (⟨#[73, 70]⟩ : ByteArray).toList) = false := by rw [beq_txt]; exact decide_eq_false (fun h => n1 (bs_inj.1 (show _ = bs [73, 70] from h)))
  have d1 : ((bs (Sy.tx ts i)).toList == [73, 70]) = false := by have h := b1; rw [ByteArray.toList_eq, ByteArray.toList_eq] at h; rw [ByteArray.toList_eq]; exact h
  have b2 : ((bs (Sy.tx ts i)).toList == (⟨#[71, 79, 84, 79]⟩ : ByteArray).toList) = false := by rw [beq_txt]; exact decide_eq_false (fun h => n2 (bs_inj.1 (show _ = bs [71, 79, 84, 79] from h)))
  have d2 : ((bs (Sy.tx ts i)).toList == [71, 79, 84, 79]) = false := by have h := b2; rw [ByteArray.toList_eq, ByteArray.toList_eq] at h; rw [ByteArray.toList_eq]; exact h
  have b3 : ((bs (Sy.tx ts i)).toList == (⟨#[87, 72, 73, 76, 69]⟩ : ByteArray).toList) = false := by rw [beq_txt]; exact decide_eq_false (fun h => n3 (bs_inj.1 (show _ = bs [87, 72, 73, 76, 69] from h)))
  have d3 : ((bs (Sy.tx ts i)).toList == [87, 72, 73, 76, 69]) = false := by have h := b3; rw [ByteArray.toList_eq, ByteArray.toList_eq] at h; rw [ByteArray.toList_eq]; exact h
  have b4 : ((bs (Sy.tx ts i)).toList == (⟨#[69, 78, 68]⟩ : ByteArray).toList) = false := by rw [beq_txt]; exact decide_eq_false (fun h => n4 (bs_inj.1 (show _ = bs [69, 78, 68] from h)))
  have d4 : ((bs (Sy.tx ts i)).toList == [69, 78, 68]) = false := by have h := b4; rw [ByteArray.toList_eq, ByteArray.toList_eq] at h; rw [ByteArray.toList_eq]; exact h
  clear n0
  clear n1
  clear n2
  clear n3
  clear n4
  have HK := Lib.hid hk
  have HN := Lib.hid hn
  clear hk hn
  have C1 := Lib.hid c1
  clear c1
  cases r with
  | bad j =>
    have q0 : Hid (Px P w w) := Lib.hid (Px.refl P w)
    go_enter Tryz.func43, Tryz.ntmps43
    go_wp2_with (first | (go_at_call 64; ((with_reducible refine (syNext (H.out.kept Qz)).mono ?_); rintro e w' ⟨rfl, q⟩; rw [hv.out]; replace R : Hid (Bx w' w.heap.size blZ 37) := Lib.hid (Bx.kept Rz q); replace H := Lib.hid (Par.kept H.out (Qw.trans Qz q)); replace q0 : Hid (Px P w w') := Lib.hid (Px.trans Pz (Px.of q)); clear q)) | (go_at_call 41; ((with_reducible refine (syLetterY (H.out.kept Qz) 79 HK.out HN.out).mono ?_); rintro e w' ⟨rfl, hp, q⟩; have pw := (Par.lt hp).1; skip; replace H := Lib.hid hp; clear hp; replace q0 : Hid (Px P w w') := Lib.hid (Px.trans Pz q); clear q)) | (go_at_call 71; ((with_reducible refine (C1.out _ (H.out.kept Qz)).mono ?_); rintro e w' ⟨rfl, q⟩; replace q0 : Hid (Px P w w') := Lib.hid (Px.trans Pz q); clear q)))
    exact ⟨rfl, rfl, q0.out⟩
  | ok b j =>
    have q0 : Hid (Px P w w) := Lib.hid (Px.refl P w)
    go_enter Tryz.func43, Tryz.ntmps43
    go_wp2_with (first | (go_at_call 64; ((with_reducible refine (syNext (H.out.kept Qz)).mono ?_); rintro e w' ⟨rfl, q⟩; rw [hv.out]; replace R : Hid (Bx w' w.heap.size blZ 37) := Lib.hid (Bx.kept Rz q); replace H := Lib.hid (Par.kept H.out (Qw.trans Qz q)); replace q0 : Hid (Px P w w') := Lib.hid (Px.trans Pz (Px.of q)); clear q)) | (go_at_call 41; ((with_reducible refine (syLetterY (H.out.kept Qz) 79 HK.out HN.out).mono ?_); rintro e w' ⟨rfl, hp, q⟩; have pw := (Par.lt hp).1; replace R : Hid (Bx w' w.heap.size blZ 37) := Lib.hid (Bx.px Rz q (by omega)); replace H := Lib.hid hp; clear hp; replace q0 : Hid (Px P w w') := Lib.hid (Px.trans Pz q); clear q)) | (go_at_call 71; ((with_reducible refine (C1.out _ (H.out.kept Qz)).mono ?_); rintro e w' ⟨⟨cs, rfl, wa, wc, la, lc, xa, xc, rfl, hw, hl, hx⟩, hp, q⟩; have pw := (Par.lt hp).1; have B : Hid (BlkB w' (fun b => w.heap.size < b) b #[.int .i64 b.kind, .int .i64 b.label, .bool b.skip, .slice wa b.words.length wc, .int .i64 b.left.op, .int .i64 b.left.n, .slice la b.left.ks.length lc, .int .i64 b.x.op, .int .i64 b.x.n, .slice xa b.x.ks.length xc, .int .i64 b.n]) := Lib.hid (BlkB.go (fun b hb _ => ⟨rfl, Nat.lt_of_lt_of_le (Bx.lt Rz) hb⟩) ⟨wa, wc, la, lc, xa, xc, rfl, hw, hl, hx⟩); clear hw hl hx; replace R : Hid (Bx w' w.heap.size blZ 37) := Lib.hid (Bx.px Rz q (by omega)); have rl := R.out.lt; have r0 := R.out.cell' 0 _ rfl; have s0 := R.out.free 0; have r1 := R.out.cell' 1 _ rfl; have s1 := R.out.free 1; have r2 := R.out.cell' 2 _ rfl; have s2 := R.out.free 2; have r3 := R.out.cell' 3 _ rfl; have s3 := R.out.free 3; have r4 := R.out.cell' 4 _ rfl; have s4 := R.out.free 4; have r5 := R.out.cell' 5 _ rfl; have s5 := R.out.free 5; have r6 := R.out.cell' 6 _ rfl; have s6 := R.out.free 6; have r7 := R.out.cell' 7 _ rfl; have s7 := R.out.free 7; have r8 := R.out.cell' 8 _ rfl; have s8 := R.out.free 8; have r9 := R.out.cell' 9 _ rfl; have s9 := R.out.free 9; have r10 := R.out.cell' 10 _ rfl; have s10 := R.out.free 10; replace H := Lib.hid hp; clear hp; replace q0 : Hid (Px P w w') := Lib.hid (Px.trans Pz q); clear q)))
    exact blRet (b := b) Tryz.results43 rfl rfl hP hO R.out B.out H.out q0.out rfl
set_option maxRecDepth 100000 in
set_option maxHeartbeats 4000000 in
theorem cont_words {P : Nat} {a : Option Addr} {cap : Nat} {ts : List Lx.Tok} {len : Nat} (i : Nat) (w : World) (h : Par w P a cap ts len i) (n0 : Sy.tx ts i ≠ [35]) (n1 : Sy.tx ts i ≠ [73, 70]) (n2 : Sy.tx ts i ≠ [71, 79, 84, 79]) (n3 : Sy.tx ts i ≠ [87, 72, 73, 76, 69]) (n4 : Sy.tx ts i ≠ [69, 78, 68]) (hk : Sy.kd ts i ≠ 1 ∨ Sy.tn ts i ≠ 79) (r : Sy.Rs Sy.Bl)
    (c1 : ∀ w, Par w P a cap ts len i → Calls Tryz.prog 72 #[.pointer (some ⟨P, 0, none⟩)] w (PBl P a cap ts len w r)) :
    Calls Tryz.prog 43 #[.pointer (some ⟨P, 0, none⟩)] w (PBl P a cap ts len w r) := by
  obtain ⟨hP, hO⟩ := h.lt
  have hle := h.le
  have H := Lib.hid h
  clear h
  have hf := run_field_x (Sy.kd ts i) (Sy.tn ts i) (Sy.tp ts len i : Nat) (bs (Sy.tx ts i))
  have hv : Hid (tokV ts len i = .agg #[.int .i64 (Sy.kd ts i), .int .i64 (Sy.tn ts i), .int .i64 (Sy.tp ts len i : Nat), .string (bs (Sy.tx ts i))]) := Lib.hid rfl
  have R : Hid (Bx (w.alloc (.cells blZ 37)) w.heap.size blZ 37) := Lib.hid (Bx.new w _ _)
  have b0 : ((bs (Sy.tx ts i)).toList == (⟨#[35]⟩ : ByteArray).toList) = false := by rw [beq_txt]; exact decide_eq_false (fun h => n0 (bs_inj.1 (show _ = bs [35] from h)))
  have d0 : ((bs (Sy.tx ts i)).toList == [35]) = false := by have h := b0; rw [ByteArray.toList_eq, ByteArray.toList_eq] at h; rw [ByteArray.toList_eq]; exact h
  have b1 : ((bs (Sy.tx ts i)).toList == (⟨#[73, 70]⟩ : ByteArray).toList) = false := by rw [beq_txt]; exact decide_eq_false (fun h => n1 (bs_inj.1 (show _ = bs [73, 70] from h)))
  have d1 : ((bs (Sy.tx ts i)).toList == [73, 70]) = false := by have h := b1; rw [ByteArray.toList_eq, ByteArray.toList_eq] at h; rw [ByteArray.toList_eq]; exact h
  have b2 : ((bs (Sy.tx ts i)).toList == (⟨#[71, 79, 84, 79]⟩ : ByteArray).toList) = false := by rw [beq_txt]; exact decide_eq_false (fun h => n2 (bs_inj.1 (show _ = bs [71, 79, 84, 79] from h)))
  have d2 : ((bs (Sy.tx ts i)).toList == [71, 79, 84, 79]) = false := by have h := b2; rw [ByteArray.toList_eq, ByteArray.toList_eq] at h; rw [ByteArray.toList_eq]; exact h
  have b3 : ((bs (Sy.tx ts i)).toList == (⟨#[87, 72, 73, 76, 69]⟩ : ByteArray).toList) = false := by rw [beq_txt]; exact decide_eq_false (fun h => n3 (bs_inj.1 (show _ = bs [87, 72, 73, 76, 69] from h)))
  have d3 : ((bs (Sy.tx ts i)).toList == [87, 72, 73, 76, 69]) = false := by have h := b3; rw [ByteArray.toList_eq, ByteArray.toList_eq] at h; rw [ByteArray.toList_eq]; exact h
  have b4 : ((bs (Sy.tx ts i)).toList == (⟨#[69, 78, 68]⟩ : ByteArray).toList) = false := by rw [beq_txt]; exact decide_eq_false (fun h => n4 (bs_inj.1 (show _ = bs [69, 78, 68] from h)))
  have d4 : ((bs (Sy.tx ts i)).toList == [69, 78, 68]) = false := by have h := b4; rw [ByteArray.toList_eq, ByteArray.toList_eq] at h; rw [ByteArray.toList_eq]; exact h
  clear n0
  clear n1
  clear n2
  clear n3
  clear n4
  have HK := Lib.hid hk
  clear hk
  have C1 := Lib.hid c1
  clear c1
  cases r with
  | bad j =>
    have q0 : Hid (Px P w w) := Lib.hid (Px.refl P w)
    go_enter Tryz.func43, Tryz.ntmps43
    go_wp2_with (first | (go_at_call 64; ((with_reducible refine (syNext (H.out.kept Qz)).mono ?_); rintro e w' ⟨rfl, q⟩; rw [hv.out]; replace R : Hid (Bx w' w.heap.size blZ 37) := Lib.hid (Bx.kept Rz q); replace H := Lib.hid (Par.kept H.out (Qw.trans Qz q)); replace q0 : Hid (Px P w w') := Lib.hid (Px.trans Pz (Px.of q)); clear q)) | (go_at_call 41; ((with_reducible refine (syLetterN (H.out.kept Qz) 79 HK.out).mono ?_); rintro e w' ⟨rfl, q⟩; skip; replace H := Lib.hid (Par.kept H.out (Qw.trans Qz q)); replace q0 : Hid (Px P w w') := Lib.hid (Px.trans Pz (Px.of q)); clear q)) | (go_at_call 72; ((with_reducible refine (C1.out _ (H.out.kept Qz)).mono ?_); rintro e w' ⟨rfl, q⟩; replace q0 : Hid (Px P w w') := Lib.hid (Px.trans Pz q); clear q)))
    exact ⟨rfl, rfl, q0.out⟩
  | ok b j =>
    have q0 : Hid (Px P w w) := Lib.hid (Px.refl P w)
    go_enter Tryz.func43, Tryz.ntmps43
    go_wp2_with (first | (go_at_call 64; ((with_reducible refine (syNext (H.out.kept Qz)).mono ?_); rintro e w' ⟨rfl, q⟩; rw [hv.out]; replace R : Hid (Bx w' w.heap.size blZ 37) := Lib.hid (Bx.kept Rz q); replace H := Lib.hid (Par.kept H.out (Qw.trans Qz q)); replace q0 : Hid (Px P w w') := Lib.hid (Px.trans Pz (Px.of q)); clear q)) | (go_at_call 41; ((with_reducible refine (syLetterN (H.out.kept Qz) 79 HK.out).mono ?_); rintro e w' ⟨rfl, q⟩; replace R : Hid (Bx w' w.heap.size blZ 37) := Lib.hid (Bx.kept Rz q); replace H := Lib.hid (Par.kept H.out (Qw.trans Qz q)); replace q0 : Hid (Px P w w') := Lib.hid (Px.trans Pz (Px.of q)); clear q)) | (go_at_call 72; ((with_reducible refine (C1.out _ (H.out.kept Qz)).mono ?_); rintro e w' ⟨⟨cs, rfl, wa, wc, la, lc, xa, xc, rfl, hw, hl, hx⟩, hp, q⟩; have pw := (Par.lt hp).1; have B : Hid (BlkB w' (fun b => w.heap.size < b) b #[.int .i64 b.kind, .int .i64 b.label, .bool b.skip, .slice wa b.words.length wc, .int .i64 b.left.op, .int .i64 b.left.n, .slice la b.left.ks.length lc, .int .i64 b.x.op, .int .i64 b.x.n, .slice xa b.x.ks.length xc, .int .i64 b.n]) := Lib.hid (BlkB.go (fun b hb _ => ⟨rfl, Nat.lt_of_lt_of_le (Bx.lt Rz) hb⟩) ⟨wa, wc, la, lc, xa, xc, rfl, hw, hl, hx⟩); clear hw hl hx; replace R : Hid (Bx w' w.heap.size blZ 37) := Lib.hid (Bx.px Rz q (by omega)); have rl := R.out.lt; have r0 := R.out.cell' 0 _ rfl; have s0 := R.out.free 0; have r1 := R.out.cell' 1 _ rfl; have s1 := R.out.free 1; have r2 := R.out.cell' 2 _ rfl; have s2 := R.out.free 2; have r3 := R.out.cell' 3 _ rfl; have s3 := R.out.free 3; have r4 := R.out.cell' 4 _ rfl; have s4 := R.out.free 4; have r5 := R.out.cell' 5 _ rfl; have s5 := R.out.free 5; have r6 := R.out.cell' 6 _ rfl; have s6 := R.out.free 6; have r7 := R.out.cell' 7 _ rfl; have s7 := R.out.free 7; have r8 := R.out.cell' 8 _ rfl; have s8 := R.out.free 8; have r9 := R.out.cell' 9 _ rfl; have s9 := R.out.free 9; have r10 := R.out.cell' 10 _ rfl; have s10 := R.out.free 10; replace H := Lib.hid hp; clear hp; replace q0 : Hid (Px P w w') := Lib.hid (Px.trans Pz q); clear q)))
    exact blRet (b := b) Tryz.results43 rfl rfl hP hO R.out B.out H.out q0.out rfl
theorem sy_content {P : Nat} {a : Option Addr} {cap : Nat} {ts : List Lx.Tok} {len : Nat} (hgd : Sy.Good ts) (i : Nat) (w : World) (h : Par w P a cap ts len i) :
    Calls Tryz.prog 43 #[.pointer (some ⟨P, 0, none⟩)] w (PBl P a cap ts len w (Sy.pCt ts i)) := by
  unfold Sy.pCt
  by_cases h0 : Sy.tx ts i = [35]
  · rw [if_pos h0]; exact cont_set i w h h0 _ (fun w h => sy_set hgd i w h h0)
  rw [if_neg h0]
  by_cases h1 : Sy.tx ts i = [73, 70]
  · rw [if_pos h1]; exact cont_branch i w h h0 h1 _ (fun w h => sy_branch hgd i w h h1)
  rw [if_neg h1]
  by_cases h2 : Sy.tx ts i = [71, 79, 84, 79]
  · rw [if_pos h2]; exact cont_jump i w h h0 h1 h2 _ (fun w h => sy_jump hgd i w h h2)
  rw [if_neg h2]
  by_cases h3 : Sy.tx ts i = [87, 72, 73, 76, 69]
  · rw [if_pos h3]; exact cont_while i w h h0 h1 h2 h3 _ (fun w h => sy_while hgd i w h h3)
  rw [if_neg h3]
  by_cases h4 : Sy.tx ts i = [69, 78, 68]
  · rw [if_pos h4]; exact cont_end i w h h0 h1 h2 h3 h4 _ (fun w h => sy_end hgd i w h h4)
  rw [if_neg h4]
  by_cases h5 : Sy.kd ts i = 1 ∧ Sy.tn ts i = 79
  · rw [if_pos h5]; exact cont_program i w h h0 h1 h2 h3 h4 h5.1 h5.2 _ (fun w h => sy_program hgd (i + 1) w h)
  rw [if_neg h5]
  exact cont_words i w h h0 h1 h2 h3 h4 (by by_cases h6 : Sy.kd ts i = 1; exact .inr (fun h7 => h5 ⟨h6, h7⟩); exact .inl h6) _ (fun w h => sy_words i w h)
end Go.Proofs.YtciglhecjkeogaaGreatDoor

