import Derived.Test.YtlgdjbabbfdngaaDoorZSP1
import Derived.Test.YtlgdjbabbfdngaaDoorZSP2
import Derived.Lib.AppendZeros
import Derived.Laws.OwnMore
set_option linter.unusedVariables false
set_option linter.unusedSimpArgs false
namespace Go.Proofs.YtlgdjbabbfdngaaDoor
open Go.RowKit
set_option maxRecDepth 100000 in
set_option maxHeartbeats 4000000 in
theorem cp_expr : ∀ x : Sy.Ex, Smx x → ∀ (a : Option Addr) (cap : Nat) (S : Nat → Prop) (w : World), KidsB w S a cap x.ks → CpX x a cap w := by
  refine Sy.Ex.ind fun op n ks ih => ?_
  intro hs a cap S w h
  have hc := fun w1 (h : KidsB w1 S a cap ks) => cp_kids ks hs.len (fun k hk a cap S w h => ih k hk (hs.kid k hk) a cap S w h) a cap S w1 h
  have HC := Lib.hid hc
  have HK : Hid (KidsB w S a cap ks) := Lib.hid h
  clear h hc ih hs
  show Calls Tryd.prog 59 #[.agg #[.int .i64 op, .int .i64 n, .slice a ks.length cap]] w fun e w' => ∃ a' c', e = .returned (.agg #[.int .i64 op, .int .i64 n, .slice a' ks.length c']) ∧ KidsB w' (fun b => w.heap.size ≤ b) a' c' ks ∧ Qw w w'
  have X0 : Hid (Bx ((w.alloc (.cells #[.int .i64 op, .int .i64 n, .slice a ks.length cap] 35)).alloc (.cells #[.int .i64 0, .int .i64 0, .slice none 0 0] 35)) w.heap.size #[.int .i64 op, .int .i64 n, .slice a ks.length cap] 35) := Lib.hid ((Bx.new w _ _).alloc _)
  have Y0 : Hid (Bx ((w.alloc (.cells #[.int .i64 op, .int .i64 n, .slice a ks.length cap] 35)).alloc (.cells #[.int .i64 0, .int .i64 0, .slice none 0 0] 35)) (w.heap.size + 1) #[.int .i64 0, .int .i64 0, .slice none 0 0] 35) := Lib.hid (by have := Bx.new (w.alloc (.cells #[.int .i64 op, .int .i64 n, .slice a ks.length cap] 35)) #[.int .i64 0, .int .i64 0, .slice none 0 0] 35; rwa [show (w.alloc (.cells #[.int .i64 op, .int .i64 n, .slice a ks.length cap] 35)).heap.size = w.heap.size + 1 by simp] at this)
  have q0 : Hid (Qw w w) := Lib.hid (Qw.refl w)
  go_enter Tryd.func59, Tryd.ntmps59
  go_wp2_with (go_at_call 66; ((with_reducible refine (HC.out _ (KidsB.kept HK.out Qz)).mono ?_); rintro e w' ⟨a', c', rfl, kb, q⟩; have X := X0.out.kept q; have Y := Y0.out.kept q; have x0 := X.cell' 0 _ rfl; have x1 := X.cell' 1 _ rfl; have x2 := X.cell' 2 _ rfl; have g2 := X.free 2; have y0 := Y.cell' 0 _ rfl; have y1 := Y.cell' 1 _ rfl; have y2 := Y.cell' 2 _ rfl; have h0 := Y.free 0; have h1 := Y.free 1; have h2 := Y.free 2; replace q0 : Hid (Qw w w') := Lib.hid (Qw.trans Qz q); clear q))
  have Z := ((((Y.other (a := ⟨w.heap.size, 2, none⟩) (by show w.heap.size + 1 ≠ w.heap.size; omega) (.slice a' ks.length c')).set 0 (.int .i64 op)).set 1 (.int .i64 n)).set 2 (.slice a' ks.length c'))
  have z0 := Z.cell' 0 (.int .i64 op) rfl
  have z1 := Z.cell' 1 (.int .i64 n) rfl
  have z2 := Z.cell' 2 (.slice a' ks.length c') rfl
  have QQ : Qw w ((((w'.setCell ⟨w.heap.size, 2, none⟩ (.slice a' ks.length c')).setCell ⟨w.heap.size + 1, 0, none⟩ (.int .i64 op)).setCell ⟨w.heap.size + 1, 1, none⟩ (.int .i64 n)).setCell ⟨w.heap.size + 1, 2, none⟩ (.slice a' ks.length c')) := Qw.sc (Qw.sc (Qw.sc (Qw.sc q0.out (Nat.le_refl _) _) (Nat.le_succ _) _) (Nat.le_succ _) _) (Nat.le_succ _) _
  have kf : KidsB ((((w'.setCell ⟨w.heap.size, 2, none⟩ (.slice a' ks.length c')).setCell ⟨w.heap.size + 1, 0, none⟩ (.int .i64 op)).setCell ⟨w.heap.size + 1, 1, none⟩ (.int .i64 n)).setCell ⟨w.heap.size + 1, 2, none⟩ (.slice a' ks.length c')) (fun b => w.heap.size ≤ b) a' c' ks := by
    refine kb.go fun b hb hl => ⟨?_, by have := hb; simp at this; omega⟩
    have hb' : w.heap.size + 2 ≤ b := by have := hb; simp at this; omega
    have n1 : b ≠ w.heap.size + 1 := by omega
    have n0 : b ≠ w.heap.size := by omega
    exact (Below.heap_setCell _ _ _ b n1).trans ((Below.heap_setCell _ _ _ b n1).trans ((Below.heap_setCell _ _ _ b n1).trans (Below.heap_setCell _ _ _ b n0)))
  generalize (((w'.setCell ⟨w.heap.size, 2, none⟩ (.slice a' ks.length c')).setCell ⟨w.heap.size + 1, 0, none⟩ (.int .i64 op)).setCell ⟨w.heap.size + 1, 1, none⟩ (.int .i64 n)).setCell ⟨w.heap.size + 1, 2, none⟩ (.slice a' ks.length c') = wf at *
  exact bodyPost_ret (v := .agg #[.int .i64 op, .int .i64 n, .slice a' ks.length c']) (by simp [results, Tryd.results59, go_sem, z0, z1, z2]) rfl ⟨a', c', rfl, kf, QQ⟩
def CpW (c : Int) (x : Sy.Ex) (a : Option Addr) (cap : Nat) (w : World) : Prop := Calls Tryd.prog 58 #[.agg #[.int .i64 c, .int .i64 x.op, .int .i64 x.n, .slice a x.ks.length cap]] w fun e w' => ∃ a' c', e = .returned (.agg #[.int .i64 c, .int .i64 x.op, .int .i64 x.n, .slice a' x.ks.length c']) ∧ KidsB w' (fun b => w.heap.size ≤ b) a' c' x.ks ∧ Qw w w'
set_option maxRecDepth 100000 in
set_option maxHeartbeats 4000000 in
theorem cp_word (c : Int) (x : Sy.Ex) (hs : Smx x) (a : Option Addr) (cap : Nat) (S : Nat → Prop) (w : World) (h : KidsB w S a cap x.ks) : CpW c x a cap w := by
  have hc := fun w1 (h : KidsB w1 S a cap x.ks) => cp_expr x hs a cap S w1 h
  unfold CpX at hc
  unfold CpW
  have HC := Lib.hid hc
  have HK := Lib.hid h
  clear h hc hs
  have X0 : Hid (Bx ((w.alloc (.cells #[.int .i64 c, .int .i64 x.op, .int .i64 x.n, .slice a x.ks.length cap] 56)).alloc (.cells #[.int .i64 0, .int .i64 0, .int .i64 0, .slice none 0 0] 56)) w.heap.size #[.int .i64 c, .int .i64 x.op, .int .i64 x.n, .slice a x.ks.length cap] 56) := Lib.hid ((Bx.new w _ _).alloc _)
  have Y0 : Hid (Bx ((w.alloc (.cells #[.int .i64 c, .int .i64 x.op, .int .i64 x.n, .slice a x.ks.length cap] 56)).alloc (.cells #[.int .i64 0, .int .i64 0, .int .i64 0, .slice none 0 0] 56)) (w.heap.size + 1) #[.int .i64 0, .int .i64 0, .int .i64 0, .slice none 0 0] 56) := Lib.hid (by have := Bx.new (w.alloc (.cells #[.int .i64 c, .int .i64 x.op, .int .i64 x.n, .slice a x.ks.length cap] 56)) #[.int .i64 0, .int .i64 0, .int .i64 0, .slice none 0 0] 56; rwa [show (w.alloc (.cells #[.int .i64 c, .int .i64 x.op, .int .i64 x.n, .slice a x.ks.length cap] 56)).heap.size = w.heap.size + 1 by simp] at this)
  have q0 : Hid (Qw w w) := Lib.hid (Qw.refl w)
  go_enter Tryd.func58, Tryd.ntmps58
  go_wp2_with (go_at_call 59; ((with_reducible refine (HC.out _ (KidsB.kept HK.out Qz)).mono ?_); rintro e w' ⟨a', c', rfl, kb, q⟩; have X := X0.out.kept q; have Y := Y0.out.kept q; have x0 := X.cell' 0 _ rfl; have x1 := X.cell' 1 _ rfl; have x2 := X.cell' 2 _ rfl; have x3 := X.cell' 3 _ rfl; have g1 := X.free 1; have g2 := X.free 2; have g3 := X.free 3; have y0 := Y.cell' 0 _ rfl; have y1 := Y.cell' 1 _ rfl; have y2 := Y.cell' 2 _ rfl; have y3 := Y.cell' 3 _ rfl; have h0 := Y.free 0; have h1 := Y.free 1; have h2 := Y.free 2; have h3 := Y.free 3; replace q0 : Hid (Qw w w') := Lib.hid (Qw.trans Qz q); clear q))
  have hn : w.heap.size + 1 ≠ w.heap.size := by omega
  have Z := (((((((Y.other (a := ⟨w.heap.size, 1, none⟩) hn (.int .i64 x.op)).other (a := ⟨w.heap.size, 2, none⟩) hn (.int .i64 x.n)).other (a := ⟨w.heap.size, 3, none⟩) hn (.slice a' x.ks.length c')).set 0 (.int .i64 c)).set 1 (.int .i64 x.op)).set 2 (.int .i64 x.n)).set 3 (.slice a' x.ks.length c'))
  have z0 := Z.cell' 0 (.int .i64 c) rfl
  have z1 := Z.cell' 1 (.int .i64 x.op) rfl
  have z2 := Z.cell' 2 (.int .i64 x.n) rfl
  have z3 := Z.cell' 3 (.slice a' x.ks.length c') rfl
  have ge0 : w.heap.size ≤ w.heap.size := Nat.le_refl _
  have ge1 : w.heap.size ≤ w.heap.size + 1 := Nat.le_succ _
  have QQ : Qw w (((((((w'.setCell ⟨w.heap.size, 1, none⟩ (.int .i64 x.op)).setCell ⟨w.heap.size, 2, none⟩ (.int .i64 x.n)).setCell ⟨w.heap.size, 3, none⟩ (.slice a' x.ks.length c')).setCell ⟨w.heap.size + 1, 0, none⟩ (.int .i64 c)).setCell ⟨w.heap.size + 1, 1, none⟩ (.int .i64 x.op)).setCell ⟨w.heap.size + 1, 2, none⟩ (.int .i64 x.n)).setCell ⟨w.heap.size + 1, 3, none⟩ (.slice a' x.ks.length c')) := Qw.sc (Qw.sc (Qw.sc (Qw.sc (Qw.sc (Qw.sc (Qw.sc q0.out ge0 _) ge0 _) ge0 _) ge1 _) ge1 _) ge1 _) ge1 _
  have kf : KidsB (((((((w'.setCell ⟨w.heap.size, 1, none⟩ (.int .i64 x.op)).setCell ⟨w.heap.size, 2, none⟩ (.int .i64 x.n)).setCell ⟨w.heap.size, 3, none⟩ (.slice a' x.ks.length c')).setCell ⟨w.heap.size + 1, 0, none⟩ (.int .i64 c)).setCell ⟨w.heap.size + 1, 1, none⟩ (.int .i64 x.op)).setCell ⟨w.heap.size + 1, 2, none⟩ (.int .i64 x.n)).setCell ⟨w.heap.size + 1, 3, none⟩ (.slice a' x.ks.length c')) (fun b => w.heap.size ≤ b) a' c' x.ks := by
    refine kb.go fun b hb hl => ⟨?_, by have := hb; simp at this; omega⟩
    have hb' : w.heap.size + 2 ≤ b := by have := hb; simp at this; omega
    have n1 : b ≠ w.heap.size + 1 := by omega
    have n0 : b ≠ w.heap.size := by omega
    exact (Below.heap_setCell _ _ _ b n1).trans ((Below.heap_setCell _ _ _ b n1).trans ((Below.heap_setCell _ _ _ b n1).trans ((Below.heap_setCell _ _ _ b n1).trans ((Below.heap_setCell _ _ _ b n0).trans ((Below.heap_setCell _ _ _ b n0).trans (Below.heap_setCell _ _ _ b n0))))))
  generalize ((((((w'.setCell ⟨w.heap.size, 1, none⟩ (.int .i64 x.op)).setCell ⟨w.heap.size, 2, none⟩ (.int .i64 x.n)).setCell ⟨w.heap.size, 3, none⟩ (.slice a' x.ks.length c')).setCell ⟨w.heap.size + 1, 0, none⟩ (.int .i64 c)).setCell ⟨w.heap.size + 1, 1, none⟩ (.int .i64 x.op)).setCell ⟨w.heap.size + 1, 2, none⟩ (.int .i64 x.n)).setCell ⟨w.heap.size + 1, 3, none⟩ (.slice a' x.ks.length c') = wf at *
  exact bodyPost_ret (v := .agg #[.int .i64 c, .int .i64 x.op, .int .i64 x.n, .slice a' x.ks.length c']) (by simp [results, Tryd.results58, go_sem, z0, z1, z2, z3]) rfl ⟨a', c', rfl, kf, QQ⟩
end Go.Proofs.YtlgdjbabbfdngaaDoor
set_option linter.unusedVariables false
set_option linter.unusedSimpArgs false
namespace Go.Proofs.YtlgdjbabbfdngaaDoor
open Go.RowKit
instance : Inhabited Wd := ⟨⟨0, Sy.zx, none, 0⟩⟩
theorem words_of {B g : Nat} {w : World} {S : Nat → Prop} {n : Nat} {ds : List Wd} (h : OwnG B w 56 4 (.slice (some ⟨g, 0, none⟩) n n) (ds.map wcell)) (hn : ds.length = n) (hl : n ≤ 100000) (hS : S g) (hk : ∀ d ∈ ds, KidsB w S d.a d.n d.x.ks) : WordsB w S (some ⟨g, 0, none⟩) n (wds ds) := by
  have gd : ∀ i (hi : i < ds.length), ds.getD i default = ds[i] := fun i hi => by rw [List.getD_eq_getElem?_getD, List.getElem?_eq_getElem hi]; rfl
  have hlen : (wds ds).length = ds.length := List.length_map _
  refine ⟨by omega, by omega, .inr ⟨g, 0, (fun i => (ds.getD i default).a), (fun i => (ds.getD i default).n), rfl, hS, fun i hi => ?_⟩⟩
  have hi' : i < ds.length := by omega
  have c := fun j u hj => h.at (g := g) rfl (i := i) (by simpa using hi') (j := j) (u := u) hj
  have c0 := c 0 (.int .i64 ds[i].c) (by rw [List.getElem_map]; rfl)
  have c1 := c 1 (.int .i64 ds[i].x.op) (by rw [List.getElem_map]; rfl)
  have c2 := c 2 (.int .i64 ds[i].x.n) (by rw [List.getElem_map]; rfl)
  have c3 := c 3 (.slice ds[i].a ds[i].x.ks.length ds[i].n) (by rw [List.getElem_map]; rfl)
  have e : (wds ds)[i] = (ds[i].c, ds[i].x) := by simp [wds]
  dsimp only
  rw [gd i hi', e, Nat.zero_add]
  exact ⟨c0, c1, c2, c3, hk _ (List.getElem_mem hi')⟩
set_option maxRecDepth 100000 in
set_option maxHeartbeats 4000000 in
theorem cp_words (ks : List (Int × Sy.Ex)) (hl : ks.length ≤ 100) (IH : ∀ k ∈ ks, Smx k.2) (a : Option Addr) (cap : Nat) (S : Nat → Prop) (w : World) (h : WordsB w S a cap ks) :
    Calls Tryd.prog 57 #[.slice a ks.length cap, .func (.func 58) #[] #[]] w fun e w' => ∃ a' c', e = .returned (.slice a' ks.length c') ∧ WordsB w' (fun b => w.heap.size ≤ b) a' c' ks ∧ Qw w w' := by
  obtain ⟨w1, hr, hO, hg⟩ := g_make w w.heap.size 56 32 4 48 _ ks.length info_word Tryd.underlying32 rfl (by decide) (by decide) (by omega) (Nat.le_refl _)
  have q1 : Qw w w1 := (Below.refl _ _).grown hg (Nat.le_refl _) (by intro k e; cases e)
  have hG := (hO.lt (g := w.heap.size) rfl).2
  have l1 : ks.length ≤ cap := h.1
  have l2 : cap ≤ 9223372036854775807 := h.2.1
  have HK := Lib.hid h
  have HI := Lib.hid IH
  clear h IH
  go_enter Tryd.func57, Tryd.ntmps57
  go_wp2
  go_loopw [13] (fun iv wr => ∃ (i : Nat) (ds : List Wd), i ≤ ks.length ∧ iv = .int .i64 (i : Int) ∧ ds.length = i ∧ Hid (wds ds = ks.take i) ∧ Hid (OwnG w.heap.size wr 56 4 (.slice (some ⟨w.heap.size, 0, none⟩) ks.length ks.length) (ds.map wcell ++ List.replicate (ks.length - i) [.int .i64 0, .int .i64 0, .int .i64 0, .slice none 0 0])) ∧ Hid (∀ d ∈ ds, KidsB wr (fun b => w.heap.size < b) d.a d.n d.x.ks) ∧ Hid (Qw w wr)) (fun iv _ => ks.length - (intOf iv).toNat)
  case atStart => exact ⟨0, [], by omega, rfl, rfl, Lib.hid rfl, Lib.hid hO, Lib.hid (by simp), Lib.hid q1⟩
  case round =>
    clear hO hg hr q1
    obtain ⟨i, ds, hi, rfl, hds, HX, HO, HD, HQ⟩ := hrel
    have h63 : (i : Int) ≤ 9223372036854775806 := by omega
    have hGr : w.heap.size < wr.heap.size := by have := HO.out.lt (g := w.heap.size) rfl; exact this.2
    have hGn : w.heap.size ≠ wr.heap.size := by omega
    by_cases hlt : i < ks.length
    · have hKr : WordsB wr S a cap ks := HK.out.go fun b hS hb => ⟨HQ.out.block b hb, hS⟩
      have sm := HI.out ks[i] (List.getElem_mem hlt)
      have IHr := fun (a : Option Addr) (cap : Nat) (S : Nat → Prop) (w : World) (hh : KidsB w S a cap ks[i].2.ks) => cp_word ks[i].1 ks[i].2 sm a cap S w hh
      rcases hKr.2.2 with h0 | ⟨b, off, ad, cc, rfl, hS, hc⟩
      · rw [h0] at hlt; simp at hlt
      · obtain ⟨z0, z1, z2, z3, kk⟩ := hc i hlt
        have KK := Lib.hid kk
        have hi2 : (i : Int) < (ks.length : Int) := by omega
        have bl := cell_lt z0
        have hne : b ≠ wr.heap.size := by omega
        have hu : ∀ w', Qw wr w' → w'.cell? ⟨w.heap.size, i * 4, none⟩ = some (.int .i64 0) ∧ w'.frozen? ⟨w.heap.size, i * 4, none⟩ = false ∧ w'.cell? ⟨w.heap.size, i * 4 + 1, none⟩ = some (.int .i64 0) ∧ w'.frozen? ⟨w.heap.size, i * 4 + 1, none⟩ = false ∧ w'.cell? ⟨w.heap.size, i * 4 + 2, none⟩ = some (.int .i64 0) ∧ w'.frozen? ⟨w.heap.size, i * 4 + 2, none⟩ = false ∧ w'.cell? ⟨w.heap.size, i * 4 + 3, none⟩ = some (.slice none 0 0) ∧ w'.frozen? ⟨w.heap.size, i * 4 + 3, none⟩ = false := fun w' q => by
          have o := HO.out.go (w' := w') fun g hg hl => q.block g hl
          have hlen : (ds.map wcell ++ List.replicate (ks.length - i) ([.int .i64 0, .int .i64 0, .int .i64 0, .slice none 0 0] : List Value)).length = ks.length := by simp; omega
          have c := fun j u (hj : ([.int .i64 0, .int .i64 0, .int .i64 0, .slice none 0 0] : List Value)[j]? = some u) => o.at (g := w.heap.size) rfl (i := i) (by rw [hlen]; exact hlt) (j := j) (u := u) (by rw [List.getElem_append_right (by simp; omega), List.getElem_replicate]; exact hj)
          exact ⟨c 0 _ rfl, o.free (g := w.heap.size) rfl _, c 1 _ rfl, o.free (g := w.heap.size) rfl _, c 2 _ rfl, o.free (g := w.heap.size) rfl _, c 3 _ rfl, o.free (g := w.heap.size) rfl _⟩
        have HU := Lib.hid hu
        have CR := Lib.hid (fun w1 h => IHr (ad i) (cc i) S w1 h)
        have q0 : Hid (Qw wr wr) := Lib.hid (Qw.refl wr)
        clear hu hc kk IHr sm hKr
        have HX2 : Hid (ks[i] = ks[i]) := Lib.hid rfl
        obtain ⟨x, hx⟩ : ∃ x, x = ks[i] := ⟨_, rfl⟩
        rw [← hx] at z0 z1 z2 z3 KK CR
        have HX3 := Lib.hid hx
        clear HX2 hx
        obtain ⟨lt, x⟩ := x
        unfold CpW at CR
        dsimp only at z0 z1 z2 z3 KK CR
        go_wp2_with (go_at_call 58; ((with_reducible refine (CR.out _ (KidsB.kept KK.out Qz)).mono ?_); rintro e w' ⟨a', c', rfl, kb, q⟩; replace q0 : Hid (Qw wr w') := Lib.hid (Qw.trans Qz q); obtain ⟨u0, g0, u1, g1, u2, g2, u3, g3⟩ := HU.out w' q0.out))
        have hw' : w.heap.size < w'.heap.size := Nat.lt_of_lt_of_le hGr q0.out.size
        have o := (HO.out.go (w' := w') fun g hg hl => q0.out.block g hl).row (g := w.heap.size) rfl (i := i) (by simp; omega) (wcell ⟨lt, x, a', c'⟩) rfl
        rw [show ks.length - i = (ks.length - (i + 1)) + 1 by omega, List.replicate_succ, set_next (by simpa using hds)] at o
        have eS : ∀ b, b ≠ w.heap.size → (setCs w' w.heap.size (i * 4) (wcell ⟨lt, x, a', c'⟩)).heap[b]? = w'.heap[b]? := fun b hb => setCs_other hb _ _ _
        have qS : Qw w (setCs w' w.heap.size (i * 4) (wcell ⟨lt, x, a', c'⟩)) := setCs_qw (Nat.le_refl _) _ _ _ (Qw.trans HQ.out q0.out)
        have hD : ∀ d ∈ ds ++ [(⟨lt, x, a', c'⟩ : Wd)], KidsB (setCs w' w.heap.size (i * 4) (wcell ⟨lt, x, a', c'⟩)) (fun b => w.heap.size < b) d.a d.n d.x.ks := fun d hd => by
          rcases List.mem_append.1 hd with hd | hd
          · exact (HD.out d hd).go fun b hb hl => ⟨(eS b (by omega)).trans (q0.out.block b hl), hb⟩
          · obtain rfl := List.mem_singleton.1 hd
            exact kb.go fun b hb hl => ⟨eS b (by have := q0.out.size; simp at hb; omega), by have := hb; simp at this; omega⟩
        have hx2 : wds (ds ++ [(⟨lt, x, a', c'⟩ : Wd)]) = ks.take (i + 1) := by
          have := HX.out; unfold wds at this ⊢; rw [List.map_append, this, List.take_succ_eq_append_getElem hlt, ← HX3.out]; rfl
        go_roundw
        case measure => simp [intOf]; omega
        case rel => exact ⟨i + 1, ds ++ [⟨lt, x, a', c'⟩], by omega, by go_num, by simp [hds], Lib.hid hx2, Lib.hid (by rw [List.map_append]; exact o), Lib.hid hD, Lib.hid qS⟩
    · obtain rfl : i = ks.length := by omega
      have hb : ¬ (ks.length : Int) < (ks.length : Int) := by omega
      have e1 : wds ds = ks := by have := HX.out; rwa [List.take_length] at this
      have kf : WordsB wr (fun b => w.heap.size ≤ b) (some ⟨w.heap.size, 0, none⟩) ks.length ks := by
        have o := HO.out
        rw [Nat.sub_self, List.replicate_zero, List.append_nil] at o
        have := words_of o hds (by omega) (S := fun b => w.heap.size ≤ b) (Nat.le_refl _) (fun d hd => (HD.out d hd).mono fun b hb => by omega)
        rwa [e1] at this
      go_wp2
      go_ret
      exact ⟨some ⟨w.heap.size, 0, none⟩, ks.length, rfl, kf, HQ.out⟩
end Go.Proofs.YtlgdjbabbfdngaaDoor
set_option linter.unusedVariables false
set_option linter.unusedSimpArgs false
namespace Go.Proofs.YtlgdjbabbfdngaaDoor
open Go.RowKit
structure Bi where
  b : Sy.Bl
  wa : Option Addr
  wc : Nat
  la : Option Addr
  lc : Nat
  xa : Option Addr
  xc : Nat
def bicell (d : Bi) : List Value := [.int .i64 d.b.kind, .int .i64 d.b.label, .bool d.b.skip, .slice d.wa d.b.words.length d.wc, .int .i64 d.b.left.op, .int .i64 d.b.left.n, .slice d.la d.b.left.ks.length d.lc, .int .i64 d.b.x.op, .int .i64 d.b.x.n, .slice d.xa d.b.x.ks.length d.xc, .int .i64 d.b.n]
def bicells (ds : List Bi) : List Value := ds.flatMap bicell
def bis (ds : List Bi) : List Sy.Bl := ds.map Bi.b
def OwnK (B : Nat) (w : World) (v : Value) (ds : List Bi) : Prop := w.ownsRow B 37 11 v ds.length (bicells ds)
def BiB (w : World) (S : Nat → Prop) (d : Bi) : Prop := WordsB w S d.wa d.wc d.b.words ∧ KidsB w S d.la d.lc d.b.left.ks ∧ KidsB w S d.xa d.xc d.b.x.ks
theorem BiB.go {w w' : World} {S T : Nat → Prop} {d : Bi} (hb : ∀ b, S b → b < w.heap.size → w'.heap[b]? = w.heap[b]? ∧ T b) (h : BiB w S d) : BiB w' T d := ⟨h.1.go hb, h.2.1.go hb, h.2.2.go hb⟩
theorem info_block : (Tryd.prog.info? 37).map (fun i => (i.zero, i.size, i.bytes)) = some (some (.agg #[.int .i64 0, .int .i64 0, .bool false, .slice none 0 0, .int .i64 0, .int .i64 0, .slice none 0 0, .int .i64 0, .int .i64 0, .slice none 0 0, .int .i64 0]), 11, 136) := by kernel_rfl
theorem OwnK.go {B : Nat} {w w' : World} {v : Value} {ds : List Bi} (h : OwnK B w v ds) (hb : ∀ g, v.ownBlock = some g → g < w.heap.size → w'.heap[g]? = w.heap[g]?) : OwnK B w' v ds := by
  refine ⟨h.1, ?_⟩
  rcases h.2 with k | ⟨g, cap, cur, rfl, k1, k2, k3⟩
  · exact .inl k
  · exact .inr ⟨g, cap, cur, rfl, k1, (hb g rfl (Array.getElem?_eq_some_iff.1 k2).1).trans k2, k3⟩
theorem OwnK.lt {B : Nat} {w : World} {v : Value} {ds : List Bi} (h : OwnK B w v ds) {g : Nat} (hg : v.ownBlock = some g) : B ≤ g ∧ g < w.heap.size ∧ ∃ cur, w.heap[g]? = some (.cells cur 37 (0, 0)) := by
  rcases h.2 with ⟨rfl, _⟩ | ⟨g', cap, cur, rfl, k1, k2, k3⟩
  · cases hg
  · have : g' = g := by simpa [Value.ownBlock] using hg
    subst this
    exact ⟨k1, (Array.getElem?_eq_some_iff.1 k2).1, cur, k2⟩
theorem OwnK.shape {B : Nat} {w : World} {v : Value} {ds : List Bi} (h : OwnK B w v ds) : ∃ (a : Option Addr) (n cap : Nat), v = .slice a n cap := by
  rcases h.2 with ⟨rfl, _⟩ | ⟨g, cap, cur, rfl, _⟩
  · exact ⟨_, _, _, rfl⟩
  · exact ⟨_, _, _, rfl⟩
theorem OwnK.nil (B : Nat) (w : World) : OwnK B w (.slice none 0 0) [] := ⟨rfl, .inl ⟨rfl, rfl⟩⟩
section
variable {ops : Array Oper} {rest : List Oper} {dst : Option Tmp} {ty : TypeId} {pos : String} {after : Array Edge} {a : Act} {w : World} {Q : Exit → Act → World → Prop}
theorem block_append (s x : Tmp) (d : Bi) (B : Nat) (v : Value) (ds : List Bi) (g : Nat) {t : TypeId}
    (hs : a.eval (.tmp s) = v) (hx : a.eval (.tmp x) = .slice (some ⟨g, 0, none⟩) 1 1) (hb : Bx w g (bicell d).toArray t)
    (hown : OwnK B w v ds) (hl : ds.length ≤ 100000) (hB : B ≤ w.heap.size)
    (h : ∀ v' w', OwnK B w' v' (ds ++ [d]) → w.grownBy w' v.ownBlock → (∀ g, v'.ownBlock = some g → v.ownBlock = some g ∨ w.heap.size ≤ g) → wpList Tryd.prog ops Q rest (a.put dst v') w') :
    wpList Tryd.prog ops Q (⟨dst, .call { callee := .builtin .append, args := #[.tmp s, .tmp x], argTypes := #[22, 22] }, ty, pos, after, none⟩ :: rest) a w := by
  obtain ⟨i0, hi, hz0, hz1, hz2⟩ := info_parts info_block
  obtain ⟨v', w', hr, h2, h3, h4⟩ := run_append_near (P := Tryd.prog) w B 22 ty 37 i0 _ 11 136 Tryd.underlying22 hi hz0 hz1 hz2 rfl (by decide) v ds.length (bicells ds) hown ⟨g, 0, none⟩ 1 1 (bicell d) rfl (by
    intro j u hj
    have := hb.cell' j u (by simpa using hj)
    rcases j with _ | j <;> simpa [Addr.add] using this) (by
    intro u hu
    simp [bicell] at hu
    rcases hu with rfl | rfl | rfl | rfl | rfl | rfl | rfl | rfl | rfl | rfl | rfl <;> rfl) (by unfold maxLen; omega) (by omega) hB
  refine Lib.wpList_append_run w rfl (.tmp s) (.tmp x) 22 22 rfl v _ hs hx v' w' hr (h v' w' ?_ h3 h4)
  unfold OwnK
  rw [List.length_append, show bicells (ds ++ [d]) = bicells ds ++ bicell d by simp [bicells]]
  exact h2
end
def BlksB (w : World) (S : Nat → Prop) (a : Option Addr) (cap : Nat) (bs : List Sy.Bl) : Prop :=
  bs.length ≤ cap ∧ cap ≤ 9223372036854775807 ∧ (bs = [] ∨ ∃ (g off : Nat) (f : Nat → Bi), a = some ⟨g, off, none⟩ ∧ S g ∧ ∀ i (h : i < bs.length), (f i).b = bs[i] ∧ BiB w S (f i) ∧ ∀ j u, (bicell (f i))[j]? = some u → w.cell? ⟨g, off + i * 11 + j, none⟩ = some u)
theorem BlksB.nil (w : World) (S : Nat → Prop) : BlksB w S none 0 [] := ⟨by simp, by decide, .inl rfl⟩
theorem BlksB.go {w w' : World} {S T : Nat → Prop} {a : Option Addr} {cap : Nat} {bs : List Sy.Bl} (hb : ∀ b, S b → b < w.heap.size → w'.heap[b]? = w.heap[b]? ∧ T b) (h : BlksB w S a cap bs) : BlksB w' T a cap bs := by
  obtain ⟨h1, h2, h3⟩ := h
  refine ⟨h1, h2, ?_⟩
  rcases h3 with h3 | ⟨g, off, f, rfl, hS, hc⟩
  · exact .inl h3
  · by_cases h0 : bs = []
    · exact .inl h0
    have lt : g < w.heap.size := by
      obtain ⟨_, _, k⟩ := hc 0 (by cases bs with | nil => exact absurd rfl h0 | cons _ _ => simp)
      exact cell_lt (k 0 _ rfl)
    refine .inr ⟨g, off, f, rfl, (hb g hS lt).2, fun i hi => ?_⟩
    obtain ⟨k1, k2, k3⟩ := hc i hi
    refine ⟨k1, k2.go hb, fun j u hj => ?_⟩
    rw [World.cell?_of_block (w := w) (hb g hS lt).1]
    exact k3 j u hj
theorem BlksB.kept {w w' : World} {S : Nat → Prop} {a : Option Addr} {cap : Nat} {bs : List Sy.Bl} (h : BlksB w S a cap bs) (q : Qw w w') : BlksB w' S a cap bs := h.go fun b hS hb => ⟨q.block b hb, hS⟩
theorem bicells_get (ds : List Bi) (i : Nat) (h : i < ds.length) (j : Nat) (hj : j < 11) : (bicells ds)[i * 11 + j]? = (bicell ds[i])[j]? := by
  induction ds generalizing i with
  | nil => simp at h
  | cons t ts ih =>
    have e : bicells (t :: ts) = bicell t ++ bicells ts := rfl
    have l : (bicell t).length = 11 := rfl
    rw [e]
    cases i with
    | zero => rw [List.getElem?_append_left (by omega)]; simp
    | succ i =>
      rw [List.getElem?_append_right (by omega), l, show (i + 1) * 11 + j - 11 = i * 11 + j by omega]
      rw [ih i (by simpa using h)]; rfl
theorem bicell_lt {d : Bi} {j : Nat} {u : Value} (h : (bicell d)[j]? = some u) : j < 11 := by
  rcases Nat.lt_or_ge j 11 with g | g
  · exact g
  · rw [List.getElem?_eq_none (show (bicell d).length ≤ j from g)] at h; cases h
instance : Inhabited Bi := ⟨⟨⟨0, 0, false, [], Sy.zx, Sy.zx, 0⟩, none, 0, none, 0, none, 0⟩⟩
theorem OwnK.blocks {B : Nat} {w : World} {v : Value} {ds : List Bi} {S : Nat → Prop} (h : OwnK B w v ds) (hS : ∀ g, v.ownBlock = some g → S g) (hk : ∀ d ∈ ds, BiB w S d) : ∃ a cap, v = .slice a ds.length cap ∧ BlksB w S a cap (bis ds) := by
  have hlen : (bis ds).length = ds.length := List.length_map _
  rcases h.2 with ⟨rfl, h0⟩ | ⟨g, cap, cur, rfl, hb, hg, h1, h2, h3, h4⟩
  · have : ds = [] := List.eq_nil_of_length_eq_zero h0
    subst this
    exact ⟨none, 0, rfl, BlksB.nil _ _⟩
  · refine ⟨_, cap, rfl, by rw [hlen]; exact h1, by unfold maxLen at h2; omega, .inr ⟨g, 0, fun i => ds.getD i default, rfl, hS g rfl, fun i hi => ?_⟩⟩
    rw [hlen] at hi
    have e1 : ds.getD i default = ds[i] := by rw [List.getD_eq_getElem?_getD, List.getElem?_eq_getElem hi]; rfl
    dsimp only
    rw [e1]
    refine ⟨by show ds[i].b = (ds.map Bi.b)[i]'(by rw [List.length_map]; exact hi); simp, hk _ (List.getElem_mem hi), fun j u hj => ?_⟩
    have t := bicells_get ds i hi j (bicell_lt hj)
    rw [hj] at t
    have c := World.ownsRow.cells h (g := g) rfl (i * 11 + j) u t
    rw [Addr.add_mid, Nat.zero_add] at c
    rw [Nat.zero_add]
    exact c
end Go.Proofs.YtlgdjbabbfdngaaDoor
set_option linter.unusedVariables false
set_option linter.unusedSimpArgs false
namespace Go.Proofs.YtlgdjbabbfdngaaDoor
open Go.RowKit
def blZ : Array Value := #[.int .i64 0, .int .i64 0, .bool false, .slice none 0 0, .int .i64 0, .int .i64 0, .slice none 0 0, .int .i64 0, .int .i64 0, .slice none 0 0, .int .i64 0]
def putB (w : World) (b : Nat) (v0 v1 v2 v3 v4 v5 v6 v7 v8 v9 v10 : Value) : World :=
  ((((((((((w.setCell ⟨b, 0, none⟩ v0).setCell ⟨b, 1, none⟩ v1).setCell ⟨b, 2, none⟩ v2).setCell ⟨b, 3, none⟩ v3).setCell ⟨b, 4, none⟩ v4).setCell ⟨b, 5, none⟩ v5).setCell ⟨b, 6, none⟩ v6).setCell ⟨b, 7, none⟩ v7).setCell ⟨b, 8, none⟩ v8).setCell ⟨b, 9, none⟩ v9).setCell ⟨b, 10, none⟩ v10
theorem putB_heap (w : World) (b k : Nat) (v0 v1 v2 v3 v4 v5 v6 v7 v8 v9 v10 : Value) (h : k ≠ b) : (putB w b v0 v1 v2 v3 v4 v5 v6 v7 v8 v9 v10).heap[k]? = w.heap[k]? := by
  unfold putB
  iterate 11 rw [Below.heap_setCell _ _ _ _ h]
theorem putB_bx {w : World} {b : Nat} {t : TypeId} {u0 u1 u2 u3 u4 u5 u6 u7 u8 u9 u10 : Value} (v0 v1 v2 v3 v4 v5 v6 v7 v8 v9 v10 : Value) (R : Bx w b #[u0, u1, u2, u3, u4, u5, u6, u7, u8, u9, u10] t) : Bx (putB w b v0 v1 v2 v3 v4 v5 v6 v7 v8 v9 v10) b #[v0, v1, v2, v3, v4, v5, v6, v7, v8, v9, v10] t := by
  have h0 : Bx (w.setCell ⟨b, 0, none⟩ v0) b #[v0, u1, u2, u3, u4, u5, u6, u7, u8, u9, u10] t := R.set 0 v0
  have h1 : Bx ((w.setCell ⟨b, 0, none⟩ v0).setCell ⟨b, 1, none⟩ v1) b #[v0, v1, u2, u3, u4, u5, u6, u7, u8, u9, u10] t := h0.set 1 v1
  have h2 : Bx (((w.setCell ⟨b, 0, none⟩ v0).setCell ⟨b, 1, none⟩ v1).setCell ⟨b, 2, none⟩ v2) b #[v0, v1, v2, u3, u4, u5, u6, u7, u8, u9, u10] t := h1.set 2 v2
  have h3 : Bx ((((w.setCell ⟨b, 0, none⟩ v0).setCell ⟨b, 1, none⟩ v1).setCell ⟨b, 2, none⟩ v2).setCell ⟨b, 3, none⟩ v3) b #[v0, v1, v2, v3, u4, u5, u6, u7, u8, u9, u10] t := h2.set 3 v3
  have h4 : Bx (((((w.setCell ⟨b, 0, none⟩ v0).setCell ⟨b, 1, none⟩ v1).setCell ⟨b, 2, none⟩ v2).setCell ⟨b, 3, none⟩ v3).setCell ⟨b, 4, none⟩ v4) b #[v0, v1, v2, v3, v4, u5, u6, u7, u8, u9, u10] t := h3.set 4 v4
  have h5 : Bx ((((((w.setCell ⟨b, 0, none⟩ v0).setCell ⟨b, 1, none⟩ v1).setCell ⟨b, 2, none⟩ v2).setCell ⟨b, 3, none⟩ v3).setCell ⟨b, 4, none⟩ v4).setCell ⟨b, 5, none⟩ v5) b #[v0, v1, v2, v3, v4, v5, u6, u7, u8, u9, u10] t := h4.set 5 v5
  have h6 : Bx (((((((w.setCell ⟨b, 0, none⟩ v0).setCell ⟨b, 1, none⟩ v1).setCell ⟨b, 2, none⟩ v2).setCell ⟨b, 3, none⟩ v3).setCell ⟨b, 4, none⟩ v4).setCell ⟨b, 5, none⟩ v5).setCell ⟨b, 6, none⟩ v6) b #[v0, v1, v2, v3, v4, v5, v6, u7, u8, u9, u10] t := h5.set 6 v6
  have h7 : Bx ((((((((w.setCell ⟨b, 0, none⟩ v0).setCell ⟨b, 1, none⟩ v1).setCell ⟨b, 2, none⟩ v2).setCell ⟨b, 3, none⟩ v3).setCell ⟨b, 4, none⟩ v4).setCell ⟨b, 5, none⟩ v5).setCell ⟨b, 6, none⟩ v6).setCell ⟨b, 7, none⟩ v7) b #[v0, v1, v2, v3, v4, v5, v6, v7, u8, u9, u10] t := h6.set 7 v7
  have h8 : Bx (((((((((w.setCell ⟨b, 0, none⟩ v0).setCell ⟨b, 1, none⟩ v1).setCell ⟨b, 2, none⟩ v2).setCell ⟨b, 3, none⟩ v3).setCell ⟨b, 4, none⟩ v4).setCell ⟨b, 5, none⟩ v5).setCell ⟨b, 6, none⟩ v6).setCell ⟨b, 7, none⟩ v7).setCell ⟨b, 8, none⟩ v8) b #[v0, v1, v2, v3, v4, v5, v6, v7, v8, u9, u10] t := h7.set 8 v8
  have h9 : Bx ((((((((((w.setCell ⟨b, 0, none⟩ v0).setCell ⟨b, 1, none⟩ v1).setCell ⟨b, 2, none⟩ v2).setCell ⟨b, 3, none⟩ v3).setCell ⟨b, 4, none⟩ v4).setCell ⟨b, 5, none⟩ v5).setCell ⟨b, 6, none⟩ v6).setCell ⟨b, 7, none⟩ v7).setCell ⟨b, 8, none⟩ v8).setCell ⟨b, 9, none⟩ v9) b #[v0, v1, v2, v3, v4, v5, v6, v7, v8, v9, u10] t := h8.set 9 v9
  have h10 : Bx (((((((((((w.setCell ⟨b, 0, none⟩ v0).setCell ⟨b, 1, none⟩ v1).setCell ⟨b, 2, none⟩ v2).setCell ⟨b, 3, none⟩ v3).setCell ⟨b, 4, none⟩ v4).setCell ⟨b, 5, none⟩ v5).setCell ⟨b, 6, none⟩ v6).setCell ⟨b, 7, none⟩ v7).setCell ⟨b, 8, none⟩ v8).setCell ⟨b, 9, none⟩ v9).setCell ⟨b, 10, none⟩ v10) b #[v0, v1, v2, v3, v4, v5, v6, v7, v8, v9, v10] t := h9.set 10 v10
  exact h10
theorem putB_px {P b : Nat} {w w' : World} (q : Px P w w') (h : w.heap.size ≤ b) (v0 v1 v2 v3 v4 v5 v6 v7 v8 v9 v10 : Value) : Px P w (putB w' b v0 v1 v2 v3 v4 v5 v6 v7 v8 v9 v10) := by
  unfold putB
  exact ((((((((((q.setNew h _).setNew h _).setNew h _).setNew h _).setNew h _).setNew h _).setNew h _).setNew h _).setNew h _).setNew h _).setNew h _
end Go.Proofs.YtlgdjbabbfdngaaDoor

