import Derived.Test.YtfijmdaeaahodaaDoorZN0
import Derived.Test.YtfijmdaeaahodaaDoorZN2
set_option linter.unusedVariables false
set_option linter.unusedSimpArgs false
namespace Go.Proofs.YtfijmdaeaahodaaDoor
open Go.RowKit
theorem info_blockS : (Tryd.prog.info? 37).map (·.size) = some 11 := by kernel_rfl
theorem wordsB_kept {w w' : World} {S : Nat → Prop} {a : Option Addr} {cap : Nat} {ws : List (Int × Sy.Ex)} (h : WordsB w S a cap ws) (q : Qw w w') : WordsB w' S a cap ws := h.go fun b hS hb => ⟨q.block b hb, hS⟩
structure Smb (b : Sy.Bl) : Prop where
  w : b.words.length ≤ 100
  ws : ∀ k ∈ b.words, Smx k.2
  l : Smx b.left
  x : Smx b.x
def CpK (d : Bi) (w : World) : Prop := Calls Tryd.prog 43 #[.agg #[.int .i64 d.b.kind, .int .i64 d.b.label, .bool d.b.skip, .slice d.wa d.b.words.length d.wc, .int .i64 d.b.left.op, .int .i64 d.b.left.n, .slice d.la d.b.left.ks.length d.lc, .int .i64 d.b.x.op, .int .i64 d.b.x.n, .slice d.xa d.b.x.ks.length d.xc, .int .i64 d.b.n]] w fun e w' => ∃ wa wc la lc xa xc, e = .returned (.agg #[.int .i64 d.b.kind, .int .i64 d.b.label, .bool d.b.skip, .slice wa d.b.words.length wc, .int .i64 d.b.left.op, .int .i64 d.b.left.n, .slice la d.b.left.ks.length lc, .int .i64 d.b.x.op, .int .i64 d.b.x.n, .slice xa d.b.x.ks.length xc, .int .i64 d.b.n]) ∧ BiB w' (fun b => w.heap.size ≤ b) ⟨d.b, wa, wc, la, lc, xa, xc⟩ ∧ Qw w w'
set_option maxRecDepth 100000 in
set_option maxHeartbeats 4000000 in
theorem cp_block (d : Bi) (hs : Smb d.b) (S : Nat → Prop) (w : World) (h : BiB w S d) : CpK d w := by
  have c1 := fun w1 (h : WordsB w1 S d.wa d.wc d.b.words) => cp_words d.b.words hs.w hs.ws d.wa d.wc S w1 h
  have c2 := fun w1 (h : KidsB w1 S d.la d.lc d.b.left.ks) => cp_expr d.b.left hs.l d.la d.lc S w1 h
  have c3 := fun w1 (h : KidsB w1 S d.xa d.xc d.b.x.ks) => cp_expr d.b.x hs.x d.xa d.xc S w1 h
  unfold CpX at c2 c3
  unfold CpK
  obtain ⟨hW, hL, hX⟩ := h
  have C1 := Lib.hid c1
  have C2 := Lib.hid c2
  have C3 := Lib.hid c3
  have HW := Lib.hid hW
  have HL := Lib.hid hL
  have HX := Lib.hid hX
  clear c1 c2 c3 hW hL hX hs
  have q0 : Hid (Qw w w) := Lib.hid (Qw.refl w)
  go_enter Tryd.func43, Tryd.ntmps43
  go_wp2_with (go_at_call 60; with_reducible refine (C1.out _ (wordsB_kept HW.out (Qw.al (Qw.al (Qw.refl w) _) _))).mono ?_)
  rintro e w1 ⟨a', c', rfl, kb, q⟩
  have q1 : Qw w w1 := Qw.trans (Qw.al (Qw.al (Qw.refl w) _) _) q
  have X := ((Bx.new w #[.int .i64 d.b.kind, .int .i64 d.b.label, .bool d.b.skip, .slice d.wa d.b.words.length d.wc, .int .i64 d.b.left.op, .int .i64 d.b.left.n, .slice d.la d.b.left.ks.length d.lc, .int .i64 d.b.x.op, .int .i64 d.b.x.n, .slice d.xa d.b.x.ks.length d.xc, .int .i64 d.b.n] 37).alloc (.cells #[.int .i64 0, .int .i64 0, .bool false, .slice none 0 0, .int .i64 0, .int .i64 0, .slice none 0 0, .int .i64 0, .int .i64 0, .slice none 0 0, .int .i64 0] 37)).kept q
  have Y := (Bx.new (w.alloc (.cells #[.int .i64 d.b.kind, .int .i64 d.b.label, .bool d.b.skip, .slice d.wa d.b.words.length d.wc, .int .i64 d.b.left.op, .int .i64 d.b.left.n, .slice d.la d.b.left.ks.length d.lc, .int .i64 d.b.x.op, .int .i64 d.b.x.n, .slice d.xa d.b.x.ks.length d.xc, .int .i64 d.b.n] 37)) #[.int .i64 0, .int .i64 0, .bool false, .slice none 0 0, .int .i64 0, .int .i64 0, .slice none 0 0, .int .i64 0, .int .i64 0, .slice none 0 0, .int .i64 0] 37).kept q
  have sz1 : ∀ (o : Obj), (w.alloc o).heap.size = w.heap.size + 1 := fun o => by simp
  rw [sz1] at Y
  have kb1 : WordsB w1 (fun b => w.heap.size + 2 ≤ b) a' c' d.b.words := kb.go fun b hb hl => ⟨rfl, by have := hb; simp at this; omega⟩
  have x3 := X.cell' 3 _ rfl
  have f3 := X.free 3
  have XS := X.set 3 (.slice a' d.b.words.length c')
  have hnK : w.heap.size + 1 ≠ w.heap.size := by omega
  have YS := Y.other (a := ⟨w.heap.size, 3, none⟩) hnK (.slice a' d.b.words.length c')
  have qs : Qw w (w1.setCell ⟨w.heap.size, 3, none⟩ (.slice a' d.b.words.length c')) := Qw.sc q1 (Nat.le_refl _) _
  have ks : WordsB (w1.setCell ⟨w.heap.size, 3, none⟩ (.slice a' d.b.words.length c')) (fun b => w.heap.size + 2 ≤ b) a' c' d.b.words := kb1.go fun b hb hl => ⟨Below.heap_setCell _ ⟨w.heap.size, 3, none⟩ _ b (by show b ≠ w.heap.size; omega), hb⟩
  clear kb kb1 q sz1
  go_wp2
  clear x3 f3 X Y
  refine code_of (fun w2 => Bx w2 w.heap.size #[.int .i64 d.b.kind, .int .i64 d.b.label, .bool d.b.skip, .slice a' d.b.words.length c', .int .i64 d.b.left.op, .int .i64 d.b.left.n, .slice d.la d.b.left.ks.length d.lc, .int .i64 d.b.x.op, .int .i64 d.b.x.n, .slice d.xa d.b.x.ks.length d.xc, .int .i64 d.b.n] 37 ∧ Bx w2 (w.heap.size + 1) #[.int .i64 0, .int .i64 0, .bool false, .slice none 0 0, .int .i64 0, .int .i64 0, .slice none 0 0, .int .i64 0, .int .i64 0, .slice none 0 0, .int .i64 0] 37 ∧ Qw w w2 ∧ WordsB w2 (fun b => w.heap.size + 2 ≤ b) a' c' d.b.words) ⟨XS, YS, qs, ks⟩ ?_
  clear XS YS qs ks q1 hnK
  rintro w2 ⟨XB, YB, Q2, WB⟩
  have x4 := XB.cell' 4 _ rfl
  have x5 := XB.cell' 5 _ rfl
  have x6 := XB.cell' 6 _ rfl
  have x7 := XB.cell' 7 _ rfl
  have x8 := XB.cell' 8 _ rfl
  have x9 := XB.cell' 9 _ rfl
  have hlt := XB.lt
  obtain ⟨S2, hS⟩ : ∃ S2 : World → Prop, ∀ w', S2 w' ↔ Qw w2 w' := ⟨_, fun _ => Iff.rfl⟩
  have HS := Lib.hid hS
  have CS := Lib.hid (fun w' (h : S2 w') o => ((hS w').1 h).cell (p := ⟨w.heap.size, o, none⟩) hlt)
  clear hS
  refine wp_region_M S2 7 (by kernel_rfl) ?_
  have hSS : S2 (World.drew w2) := (HS.out _).2 (Qw.dr (Qw.refl w2))
  refine wpAnyM_take (i := 0) (v := ?_) rfl (by kernel_rfl) (fun _ _ _ h => h) (Or.inl ⟨by rfl, ?_⟩) hSS ?_
  rotate_left 1
  · intro wS hwS
    go_simp
    try with_reducible rfl
  simp only [List.getElem_toArray, List.getElem_cons_succ, List.getElem_cons_zero, Act.put, List.setIfInBounds_toArray, List.set_cons_zero, List.set_cons_succ]
  refine wpAnyM_take (i := 1) (v := ?_) rfl (by kernel_rfl) (fun _ _ _ h => h) (Or.inl ⟨by rfl, ?_⟩) hSS ?_
  rotate_left 1
  · intro wS hwS
    have c4 := (CS.out wS hwS 4).trans x4; have c5 := (CS.out wS hwS 5).trans x5; have c6 := (CS.out wS hwS 6).trans x6; go_simp
    try with_reducible rfl
  simp only [List.getElem_toArray, List.getElem_cons_succ, List.getElem_cons_zero, Act.put, List.setIfInBounds_toArray, List.set_cons_zero, List.set_cons_succ]
  refine wpAnyM_take (i := 3) (v := ?_) rfl (by kernel_rfl) (fun _ _ _ h => h) (Or.inl ⟨by rfl, ?_⟩) hSS ?_
  rotate_left 1
  · intro wS hwS
    go_simp
    try with_reducible rfl
  simp only [List.getElem_toArray, List.getElem_cons_succ, List.getElem_cons_zero, Act.put, List.setIfInBounds_toArray, List.set_cons_zero, List.set_cons_succ]
  refine wpAnyM_take (i := 4) (v := ?_) rfl (by kernel_rfl) (fun _ _ _ h => h) (Or.inl ⟨by rfl, ?_⟩) hSS ?_
  rotate_left 1
  · intro wS hwS
    have c7 := (CS.out wS hwS 7).trans x7; have c8 := (CS.out wS hwS 8).trans x8; have c9 := (CS.out wS hwS 9).trans x9; go_simp
    try with_reducible rfl
  simp only [List.getElem_toArray, List.getElem_cons_succ, List.getElem_cons_zero, Act.put, List.setIfInBounds_toArray, List.set_cons_zero, List.set_cons_succ]
  clear x4 x5 x6 x7 x8 x9
  refine wpAnyM_one (i := 2) rfl (by kernel_rfl) rfl (fun K hK => ?_)
  go_simp
  refine (C2.out _ (HL.out.kept (Qw.dr Q2))).mono ?_
  rintro e w3 ⟨la', lc', rfl, kl, q3⟩
  have Q3 : Qw w2 w3 := Qw.trans (Qw.dr (Qw.refl w2)) q3
  have hSS : S2 w3 := (HS.out _).2 Q3
  refine hK _ _ (fun _ => hSS) ?_
  clear hK K q3
  refine wpAnyM_take (i := 6) (v := ?_) rfl (by kernel_rfl) (fun _ _ _ h => h) (Or.inl ⟨by rfl, ?_⟩) hSS ?_
  rotate_left 1
  · intro wS hwS
    go_simp
    try with_reducible rfl
  simp only [List.getElem_toArray, List.getElem_cons_succ, List.getElem_cons_zero, Act.put, List.setIfInBounds_toArray, List.set_cons_zero, List.set_cons_succ]
  refine wpAnyM_one (i := 5) rfl (by kernel_rfl) rfl (fun K hK => ?_)
  go_simp
  refine (C3.out _ (HX.out.kept (Qw.trans Q2 Q3))).mono ?_
  rintro e w4 ⟨xa', xc', rfl, kx, q4⟩
  have Q4 : Qw w2 w4 := Qw.trans Q3 q4
  have hSS : S2 w4 := (HS.out _).2 Q4
  refine hK _ _ (fun _ => hSS) ?_
  clear hK K
  have XB4 := XB.kept Q4
  have YB4 := YB.kept Q4
  have hnK : w.heap.size + 1 ≠ w.heap.size := by omega
  have W4 : WordsB w4 (fun b => w.heap.size + 2 ≤ b) a' c' d.b.words := wordsB_kept WB Q4
  have ylt := YB.lt
  have L4 : KidsB w4 (fun b => w.heap.size + 2 ≤ b) la' lc' d.b.left.ks := (kl.kept q4).mono fun b hb => by have := hb; simp at this; omega
  have X4 : KidsB w4 (fun b => w.heap.size + 2 ≤ b) xa' xc' d.b.x.ks := kx.mono fun b hb => by have hb' : w3.heap.size ≤ b := hb; have := Q3.size; omega
  have QQ4 : Qw w w4 := Qw.trans Q2 Q4
  clear XB YB WB kl kx q4 Q3 Q4 Q2
  have x4 := XB4.cell' 4 _ rfl
  have x5 := XB4.cell' 5 _ rfl
  have x6 := XB4.cell' 6 _ rfl
  have f4 := XB4.free 4
  have f5 := XB4.free 5
  have f6 := XB4.free 6
  refine wpAnyM_one (i := 7) rfl (by kernel_rfl) rfl (fun K hK => ?_)
  go_simp
  refine hK _ (((w4.setCell ⟨w.heap.size, 4, none⟩ (.int .i64 d.b.left.op)).setCell ⟨w.heap.size, 5, none⟩ (.int .i64 d.b.left.n)).setCell ⟨w.heap.size, 6, none⟩ (.slice la' d.b.left.ks.length lc')) (fun h => absurd h (by decide)) ?_
  clear hK K hSS x4 x5 x6 f4 f5 f6
  have XB5 := ((XB4.set 4 (.int .i64 d.b.left.op)).set 5 (.int .i64 d.b.left.n)).set 6 (.slice la' d.b.left.ks.length lc')
  have YB5 := ((YB4.other (a := ⟨w.heap.size, 4, none⟩) hnK (.int .i64 d.b.left.op)).other (a := ⟨w.heap.size, 5, none⟩) hnK (.int .i64 d.b.left.n)).other (a := ⟨w.heap.size, 6, none⟩) hnK (.slice la' d.b.left.ks.length lc')
  have e5 : ∀ b, b ≠ w.heap.size → (((w4.setCell ⟨w.heap.size, 4, none⟩ (.int .i64 d.b.left.op)).setCell ⟨w.heap.size, 5, none⟩ (.int .i64 d.b.left.n)).setCell ⟨w.heap.size, 6, none⟩ (.slice la' d.b.left.ks.length lc')).heap[b]? = w4.heap[b]? := fun b hb => (Below.heap_setCell _ _ _ b hb).trans ((Below.heap_setCell _ _ _ b hb).trans (Below.heap_setCell _ _ _ b hb))
  have QQ5 := Qw.sc (p := ⟨w.heap.size, 6, none⟩) (Qw.sc (p := ⟨w.heap.size, 5, none⟩) (Qw.sc (p := ⟨w.heap.size, 4, none⟩) QQ4 (Nat.le_refl _) (.int .i64 d.b.left.op)) (Nat.le_refl _) (.int .i64 d.b.left.n)) (Nat.le_refl _) (.slice la' d.b.left.ks.length lc')
  generalize ((w4.setCell ⟨w.heap.size, 4, none⟩ (.int .i64 d.b.left.op)).setCell ⟨w.heap.size, 5, none⟩ (.int .i64 d.b.left.n)).setCell ⟨w.heap.size, 6, none⟩ (.slice la' d.b.left.ks.length lc') = w5 at *
  have W5 : WordsB w5 (fun b => w.heap.size + 2 ≤ b) a' c' d.b.words := W4.go fun b hb _ => ⟨e5 b (by omega), hb⟩
  have L5 : KidsB w5 (fun b => w.heap.size + 2 ≤ b) la' lc' d.b.left.ks := L4.go fun b hb _ => ⟨e5 b (by omega), hb⟩
  have X5 : KidsB w5 (fun b => w.heap.size + 2 ≤ b) xa' xc' d.b.x.ks := X4.go fun b hb _ => ⟨e5 b (by omega), hb⟩
  clear W4 L4 X4 e5 XB4 YB4
  refine wpAnyM_one (i := 8) rfl (by kernel_rfl) rfl (fun K hK => ?_)
  go_simp
  refine hK _ w5 (fun h => absurd h (by decide)) ?_
  clear hK K
  have x7 := XB5.cell' 7 _ rfl
  have x8 := XB5.cell' 8 _ rfl
  have x9 := XB5.cell' 9 _ rfl
  have f7 := XB5.free 7
  have f8 := XB5.free 8
  have f9 := XB5.free 9
  refine wpAnyM_one (i := 9) rfl (by kernel_rfl) rfl (fun K hK => ?_)
  go_simp
  refine hK _ (((w5.setCell ⟨w.heap.size, 7, none⟩ (.int .i64 d.b.x.op)).setCell ⟨w.heap.size, 8, none⟩ (.int .i64 d.b.x.n)).setCell ⟨w.heap.size, 9, none⟩ (.slice xa' d.b.x.ks.length xc')) (fun h => absurd h (by decide)) ?_
  clear hK K x7 x8 x9 f7 f8 f9
  refine wpAnyM_done (by kernel_rfl) ?_ _
  have XB6 := ((XB5.set 7 (.int .i64 d.b.x.op)).set 8 (.int .i64 d.b.x.n)).set 9 (.slice xa' d.b.x.ks.length xc')
  have YB6 := ((YB5.other (a := ⟨w.heap.size, 7, none⟩) hnK (.int .i64 d.b.x.op)).other (a := ⟨w.heap.size, 8, none⟩) hnK (.int .i64 d.b.x.n)).other (a := ⟨w.heap.size, 9, none⟩) hnK (.slice xa' d.b.x.ks.length xc')
  have e6 : ∀ b, b ≠ w.heap.size → (((w5.setCell ⟨w.heap.size, 7, none⟩ (.int .i64 d.b.x.op)).setCell ⟨w.heap.size, 8, none⟩ (.int .i64 d.b.x.n)).setCell ⟨w.heap.size, 9, none⟩ (.slice xa' d.b.x.ks.length xc')).heap[b]? = w5.heap[b]? := fun b hb => (Below.heap_setCell _ _ _ b hb).trans ((Below.heap_setCell _ _ _ b hb).trans (Below.heap_setCell _ _ _ b hb))
  have QQ6 := Qw.sc (p := ⟨w.heap.size, 9, none⟩) (Qw.sc (p := ⟨w.heap.size, 8, none⟩) (Qw.sc (p := ⟨w.heap.size, 7, none⟩) QQ5 (Nat.le_refl _) (.int .i64 d.b.x.op)) (Nat.le_refl _) (.int .i64 d.b.x.n)) (Nat.le_refl _) (.slice xa' d.b.x.ks.length xc')
  generalize ((w5.setCell ⟨w.heap.size, 7, none⟩ (.int .i64 d.b.x.op)).setCell ⟨w.heap.size, 8, none⟩ (.int .i64 d.b.x.n)).setCell ⟨w.heap.size, 9, none⟩ (.slice xa' d.b.x.ks.length xc') = w6 at *
  have W6 : WordsB w6 (fun b => w.heap.size + 2 ≤ b) a' c' d.b.words := W5.go fun b hb _ => ⟨e6 b (by omega), hb⟩
  have L6 : KidsB w6 (fun b => w.heap.size + 2 ≤ b) la' lc' d.b.left.ks := L5.go fun b hb _ => ⟨e6 b (by omega), hb⟩
  have X6 : KidsB w6 (fun b => w.heap.size + 2 ≤ b) xa' xc' d.b.x.ks := X5.go fun b hb _ => ⟨e6 b (by omega), hb⟩
  clear W5 L5 X5 e6 XB5 YB5
  replace XB6 : Bx w6 w.heap.size #[.int .i64 d.b.kind, .int .i64 d.b.label, .bool d.b.skip, .slice a' d.b.words.length c', .int .i64 d.b.left.op, .int .i64 d.b.left.n, .slice la' d.b.left.ks.length lc', .int .i64 d.b.x.op, .int .i64 d.b.x.n, .slice xa' d.b.x.ks.length xc', .int .i64 d.b.n] 37 := XB6
  have z0 := XB6.cell' 0 (.int .i64 d.b.kind) rfl
  have z1 := XB6.cell' 1 (.int .i64 d.b.label) rfl
  have z2 := XB6.cell' 2 (.bool d.b.skip) rfl
  have z3 := XB6.cell' 3 (.slice a' d.b.words.length c') rfl
  have z4 := XB6.cell' 4 (.int .i64 d.b.left.op) rfl
  have z5 := XB6.cell' 5 (.int .i64 d.b.left.n) rfl
  have z6 := XB6.cell' 6 (.slice la' d.b.left.ks.length lc') rfl
  have z7 := XB6.cell' 7 (.int .i64 d.b.x.op) rfl
  have z8 := XB6.cell' 8 (.int .i64 d.b.x.n) rfl
  have z9 := XB6.cell' 9 (.slice xa' d.b.x.ks.length xc') rfl
  have z10 := XB6.cell' 10 (.int .i64 d.b.n) rfl
  have y0 := YB6.cell' 0 (.int .i64 0) rfl
  have y1 := YB6.cell' 1 (.int .i64 0) rfl
  have y2 := YB6.cell' 2 (.bool false) rfl
  have y3 := YB6.cell' 3 (.slice none 0 0) rfl
  have y4 := YB6.cell' 4 (.int .i64 0) rfl
  have y5 := YB6.cell' 5 (.int .i64 0) rfl
  have y6 := YB6.cell' 6 (.slice none 0 0) rfl
  have y7 := YB6.cell' 7 (.int .i64 0) rfl
  have y8 := YB6.cell' 8 (.int .i64 0) rfl
  have y9 := YB6.cell' 9 (.slice none 0 0) rfl
  have y10 := YB6.cell' 10 (.int .i64 0) rfl
  have g0 := YB6.free 0
  have g1 := YB6.free 1
  have g2 := YB6.free 2
  have g3 := YB6.free 3
  have g4 := YB6.free 4
  have g5 := YB6.free 5
  have g6 := YB6.free 6
  have g7 := YB6.free 7
  have g8 := YB6.free 8
  have g9 := YB6.free 9
  have g10 := YB6.free 10
  have YF := Lib.hid (putB_bx (.int .i64 d.b.kind) (.int .i64 d.b.label) (.bool d.b.skip) (.slice a' d.b.words.length c') (.int .i64 d.b.left.op) (.int .i64 d.b.left.n) (.slice la' d.b.left.ks.length lc') (.int .i64 d.b.x.op) (.int .i64 d.b.x.n) (.slice xa' d.b.x.ks.length xc') (.int .i64 d.b.n) YB6)
  have EF := Lib.hid (fun k h => putB_heap w6 (w.heap.size + 1) k (.int .i64 d.b.kind) (.int .i64 d.b.label) (.bool d.b.skip) (.slice a' d.b.words.length c') (.int .i64 d.b.left.op) (.int .i64 d.b.left.n) (.slice la' d.b.left.ks.length lc') (.int .i64 d.b.x.op) (.int .i64 d.b.x.n) (.slice xa' d.b.x.ks.length xc') (.int .i64 d.b.n) h)
  have QF : Hid (Qw w (putB w6 (w.heap.size + 1) (.int .i64 d.b.kind) (.int .i64 d.b.label) (.bool d.b.skip) (.slice a' d.b.words.length c') (.int .i64 d.b.left.op) (.int .i64 d.b.left.n) (.slice la' d.b.left.ks.length lc') (.int .i64 d.b.x.op) (.int .i64 d.b.x.n) (.slice xa' d.b.x.ks.length xc') (.int .i64 d.b.n))) := Lib.hid (by
    have ge1 : w.heap.size ≤ w.heap.size + 1 := Nat.le_succ _
    unfold putB
    exact Qw.sc (Qw.sc (Qw.sc (Qw.sc (Qw.sc (Qw.sc (Qw.sc (Qw.sc (Qw.sc (Qw.sc (Qw.sc QQ6 ge1 _) ge1 _) ge1 _) ge1 _) ge1 _) ge1 _) ge1 _) ge1 _) ge1 _) ge1 _) ge1 _)
  have BF : Hid (BiB (putB w6 (w.heap.size + 1) (.int .i64 d.b.kind) (.int .i64 d.b.label) (.bool d.b.skip) (.slice a' d.b.words.length c') (.int .i64 d.b.left.op) (.int .i64 d.b.left.n) (.slice la' d.b.left.ks.length lc') (.int .i64 d.b.x.op) (.int .i64 d.b.x.n) (.slice xa' d.b.x.ks.length xc') (.int .i64 d.b.n)) (fun b => w.heap.size ≤ b) ⟨d.b, a', c', la', lc', xa', xc'⟩) := Lib.hid ⟨W6.go fun b hb _ => ⟨EF.out b (by omega), by omega⟩, L6.go fun b hb _ => ⟨EF.out b (by omega), by omega⟩, X6.go fun b hb _ => ⟨EF.out b (by omega), by omega⟩⟩
  clear XB6 C1 C2 C3 HW HL HX CS HS hlt q0 ylt W6 L6 X6 EF QQ6 YB6
  go_wp2
  exact bodyPost_ret (v := .agg #[.int .i64 d.b.kind, .int .i64 d.b.label, .bool d.b.skip, .slice a' d.b.words.length c', .int .i64 d.b.left.op, .int .i64 d.b.left.n, .slice la' d.b.left.ks.length lc', .int .i64 d.b.x.op, .int .i64 d.b.x.n, .slice xa' d.b.x.ks.length xc', .int .i64 d.b.n]) (results_cell_row Tryd.results43 _ _ _ _ _ _ _ (by rfl) YF.out Tryd.underlying37 rfl info_blockS) rfl ⟨_, _, _, _, _, _, rfl, BF.out, QF.out⟩
end Go.Proofs.YtfijmdaeaahodaaDoor
set_option linter.unusedVariables false
set_option linter.unusedSimpArgs false
namespace Go.Proofs.YtfijmdaeaahodaaDoor
namespace Lb
open Sy
structure Pg where
  num : Int
  first : Nat
  fin : Nat
structure St where
  i : Nat
  op : List (Nat × Int)
  pg : List Pg
  lab : List Int
  mate : List Int
def st0 : St := ⟨0, [], [⟨0, 0, 0⟩], [], []⟩
inductive Rs where
  | bad (at_ : Nat) (err : Int)
  | ok (s : St)
def pgS (b : Bl) (s : St) : Rs :=
  if b.kind = 6 then
    match s.op with
    | (j, _) :: _ => .bad j 11
    | [] => if s.pg.any (fun p => p.num == b.n) = true then .bad s.i 7 else .ok { s with pg := s.pg ++ [⟨b.n, s.i, s.i⟩], lab := [] }
  else .ok s
def labS (b : Bl) (s : St) : Rs :=
  if 0 < b.label then (if s.lab.contains b.label = true then .bad s.i 7 else .ok { s with lab := b.label :: s.lab }) else .ok s
def more (i : Nat) : List Pg → List Pg
  | [] => []
  | [p] => [{ p with fin := i + 1 }]
  | p :: l => p :: more i l
def loopS (b : Bl) (s : St) : Rs :=
  if b.kind = 4 then (if s.op.any (fun p => p.2 == b.n) = true then .bad s.i 11 else .ok { s with i := s.i + 1, op := (s.i, b.n) :: s.op, mate := s.mate ++ [-1] })
  else if b.kind = 5 then
    match s.op with
    | [] => .bad s.i 11
    | (j, n) :: r => if n = b.n then .ok { s with i := s.i + 1, op := r, mate := (s.mate ++ [(j : Int)]).set j s.i } else .bad s.i 11
  else .ok { s with i := s.i + 1, mate := s.mate ++ [-1] }
def stepS (b : Bl) (s : St) : Rs := match pgS b s with
  | .bad j e => .bad j e
  | .ok s => match labS b s with
    | .bad j e => .bad j e
    | .ok s => loopS b { s with pg := more s.i s.pg }
def run : List Bl → St → Rs
  | [], s => .ok s
  | b :: l, s => match stepS b s with
    | .bad j e => .bad j e
    | .ok s => run l s
def fin : Rs → Rs
  | .bad j e => .bad j e
  | .ok s => match s.op with
    | (j, _) :: _ => .bad j 11
    | [] => .ok s
def inv : List Bl → Nat → Option Nat
  | [], _ => none
  | b :: l, i => if vldb b = true then inv l (i + 1) else some i
def build (l : List Bl) : Rs :=
  if 2000 < l.length then .bad 0 10 else match inv l 0 with
    | some i => .bad i 1
    | none => fin (run l st0)
theorem run_app (l r : List Bl) : ∀ s, run (l ++ r) s = match run l s with
    | .bad j e => .bad j e
    | .ok s => run r s := by
  induction l with
  | nil => intro s; rfl
  | cons b l ih =>
    intro s
    show (match stepS b s with | .bad j e => Rs.bad j e | .ok s => run (l ++ r) s) = match (match stepS b s with | .bad j e => Rs.bad j e | .ok s => run l s) with | .bad j e => .bad j e | .ok s => run r s
    cases stepS b s with
    | bad j e => rfl
    | ok s => exact ih s
theorem run_one {l : List Bl} {s0 s s' : St} {b : Bl} (h : run l s0 = .ok s) (k : stepS b s = .ok s') : run (l ++ [b]) s0 = .ok s' := by
  rw [run_app, h]
  show (match stepS b s with | .bad j e => Rs.bad j e | .ok s => run [] s) = _
  rw [k]; rfl
theorem inv_none {l : List Bl} (h : ∀ b ∈ l, vldb b = true) : ∀ i, inv l i = none := by
  induction l with
  | nil => intro i; rfl
  | cons b l ih =>
    intro i
    unfold inv
    rw [if_pos (h b (List.mem_cons_self ..))]
    exact ih (fun c hc => h c (List.mem_cons_of_mem _ hc)) _
theorem more_any (i : Nat) (n : Int) : ∀ l : List Pg, (more i l).any (fun p => p.num == n) = l.any (fun p => p.num == n)
  | [] => rfl
  | [p] => rfl
  | p :: q :: l => by
    show (p.num == n || (more i (q :: l)).any (fun p => p.num == n)) = _
    rw [more_any i n (q :: l)]; rfl
end Lb
end Go.Proofs.YtfijmdaeaahodaaDoor
set_option linter.unusedVariables false
set_option linter.unusedSimpArgs false
namespace Go.Proofs.YtfijmdaeaahodaaDoor
namespace Lb
open Sy
def mt (s : St) (k : Nat) : Int := s.mate.getD k (-1)
end Lb
end Go.Proofs.YtfijmdaeaahodaaDoor
set_option linter.unusedVariables false
set_option linter.unusedSimpArgs false
namespace Go.Proofs.YtfijmdaeaahodaaDoor
open Go.RowKit
namespace Lb
open Sy
theorem kds_le (o : Nat) : kds o ≤ 2 := by
  unfold kds
  rw [List.getD_eq_getElem?_getD]
  by_cases h : o < kdsl.length
  · rw [List.getElem?_eq_getElem h]
    have : ∀ k ∈ kdsl, k ≤ 2 := by decide
    exact this _ (List.getElem_mem h)
  · rw [List.getElem?_eq_none (by omega)]; decide
theorem smx_of : ∀ x : Ex, okx x = true → Smx x := by
  refine Ex.ind fun op n ks ih h => ?_
  rw [okx_mk, Bool.and_eq_true] at h
  obtain ⟨h1, h2⟩ := h
  unfold nodeB at h1
  simp only [Bool.and_eq_true] at h1
  have h3 : ks.length = kds op.toNat := of_decide_eq_true h1.1.2
  refine .mk op n ks (by have := kds_le op.toNat; omega) fun k hk => ih k hk (List.all_eq_true.1 h2 k hk)
theorem smx_none {x : Ex} (h : noneB x = true) : Smx x := by rw [noneB_eq h]; exact .mk 0 0 [] (by simp) (by simp)
theorem vld_all {b : Bl} (h : vldb b = true) : Smb b ∧ 0 ≤ b.label ∧ b.label ≤ 99999 ∧ -100000 ≤ b.n ∧ b.n ≤ 100000 := by
  obtain ⟨h1, h2⟩ := by unfold vldb at h; simpa only [Bool.and_eq_true] using h
  have hl : b.words.length ≤ 24 := by unfold limb at h2; simp only [Bool.and_eq_true] at h2; exact of_decide_eq_true h2.1.1.1
  unfold okb at h1
  simp only [Bool.and_eq_true, Bool.or_eq_true] at h1
  obtain ⟨h3, h4⟩ := h1
  have lab : 0 ≤ b.label ∧ b.label ≤ 99999 := by
    rcases h3 with h3 | h3
    · have := of_decide_eq_true h3; omega
    · unfold cnt at h3; simp only [Bool.and_eq_true, decide_eq_true_eq] at h3; omega
  split at h4
  · simp only [Bool.and_eq_true, decide_eq_true_eq] at h4
    obtain ⟨⟨⟨w1, w2⟩, w3⟩, w4⟩ := h4
    exact ⟨⟨by omega, fun k hk => smx_of _ (by have := List.all_eq_true.1 w1 k hk; simp only [Bool.and_eq_true] at this; exact this.2), smx_none w2, smx_none w3⟩, lab.1, lab.2, by omega, by omega⟩
  · simp only [Bool.and_eq_true, decide_eq_true_eq] at h4
    obtain ⟨e, h5⟩ := h4
    have ws : ∀ k ∈ b.words, Smx k.2 := by rw [e]; simp
    have fin : Smx b.left → Smx b.x → (-100000 ≤ b.n ∧ b.n ≤ 100000) → Smb b ∧ 0 ≤ b.label ∧ b.label ≤ 99999 ∧ -100000 ≤ b.n ∧ b.n ≤ 100000 := fun a c d => ⟨⟨by omega, ws, a, c⟩, lab.1, lab.2, d.1, d.2⟩
    have cn : ∀ m : Nat, m ≤ 100000 → cnt b.n m = true → -100000 ≤ b.n ∧ b.n ≤ 100000 := fun m hm hc => by unfold cnt at hc; simp only [Bool.and_eq_true, decide_eq_true_eq] at hc; omega
    split at h5
    · simp only [Bool.and_eq_true, decide_eq_true_eq] at h5
      exact fin (smx_of _ h5.1.1) (smx_of _ h5.1.2) (by omega)
    · split at h5
      · simp only [Bool.and_eq_true, decide_eq_true_eq] at h5
        exact fin (smx_none h5.1.1) (smx_of _ h5.1.2) (by omega)
      · split at h5
        · simp only [Bool.and_eq_true] at h5
          exact fin (smx_none h5.1.1) (smx_of _ h5.1.2) (cn 3 (by decide) h5.2)
        · split at h5
          · simp only [Bool.and_eq_true] at h5
            exact fin (smx_none h5.1.1) (smx_none h5.1.2) (cn 3 (by decide) h5.2)
          · split at h5
            · simp only [Bool.and_eq_true] at h5
              exact fin (smx_none h5.1.1) (smx_none h5.1.2) (cn 99999 (by decide) h5.2)
            · cases h5
theorem inv_some : ∀ (l : List Bl) (i k : Nat) (hk : k < l.length), (∀ j (h : j < k), vldb (l[j]'(by omega)) = true) → vldb l[k] = false → inv l i = some (i + k)
  | [], _, k, hk, _, _ => by simp at hk
  | b :: l, i, 0, _, _, h => by unfold inv; rw [if_neg (by simpa using h)]; rfl
  | b :: l, i, k + 1, hk, h1, h2 => by
    unfold inv
    rw [if_pos (show vldb b = true from h1 0 (by omega)), inv_some l (i + 1) k (by simpa using hk) (fun j h => h1 (j + 1) (by omega)) h2]
    congr 1; omega
theorem stepS_i {b : Bl} {s s' : St} (h : stepS b s = .ok s') : s'.i = s.i + 1 := by
  unfold stepS at h
  cases h1 : pgS b s with
  | bad j e => rw [h1] at h; cases h
  | ok s1 =>
    rw [h1] at h
    simp only at h
    have e1 : s1.i = s.i := by
      unfold pgS at h1
      split at h1
      · split at h1
        · cases h1
        · split at h1
          · cases h1
          · injection h1 with h1; rw [← h1]
      · injection h1 with h1; rw [← h1]
    cases h2 : labS b s1 with
    | bad j e => rw [h2] at h; cases h
    | ok s2 =>
      rw [h2] at h
      simp only at h
      have e2 : s2.i = s1.i := by
        unfold labS at h2
        split at h2
        · split at h2
          · cases h2
          · injection h2 with h2; rw [← h2]
        · injection h2 with h2; rw [← h2]
      unfold loopS at h
      split at h
      · split at h
        · cases h
        · injection h with h; rw [← h]; show s2.i + 1 = _; omega
      · split at h
        · split at h
          · cases h
          · split at h
            · injection h with h; rw [← h]; show s2.i + 1 = _; omega
            · cases h
        · injection h with h; rw [← h]; show s2.i + 1 = _; omega
theorem stepS_err {b : Bl} {s : St} {j : Nat} {e : Int} (h : stepS b s = .bad j e) : e = 7 ∨ e = 11 := by
  unfold stepS at h
  cases h1 : pgS b s with
  | bad j' e' =>
    rw [h1] at h
    injection h with _ h
    subst h
    unfold pgS at h1
    split at h1
    · split at h1
      · injection h1 with _ h1; exact .inr h1.symm
      · split at h1
        · injection h1 with _ h1; exact .inl h1.symm
        · cases h1
    · cases h1
  | ok s1 =>
    rw [h1] at h
    simp only at h
    cases h2 : labS b s1 with
    | bad j' e' =>
      rw [h2] at h
      injection h with _ h
      subst h
      unfold labS at h2
      split at h2
      · split at h2
        · injection h2 with _ h2; exact .inl h2.symm
        · cases h2
      · cases h2
    | ok s2 =>
      rw [h2] at h
      simp only at h
      unfold loopS at h
      split at h
      · split at h
        · injection h with _ h; exact .inr h.symm
        · cases h
      · split at h
        · split at h
          · injection h with _ h; exact .inr h.symm
          · split at h
            · cases h
            · injection h with _ h; exact .inr h.symm
        · cases h
theorem run_take {l : List Bl} {i : Nat} (hi : i < l.length) {s : St} (h : run (l.take i) st0 = .ok s) : (∀ j e, stepS l[i] s = .bad j e → run l st0 = .bad j e) ∧ ∀ s', stepS l[i] s = .ok s' → run (l.take (i + 1)) st0 = .ok s' := by
  refine ⟨fun j e hb => ?_, fun s' hs => by rw [List.take_succ_eq_append_getElem hi]; exact run_one h hs⟩
  have e1 : l = l.take i ++ (l[i] :: l.drop (i + 1)) := by rw [← List.drop_eq_getElem_cons hi, List.take_append_drop]
  rw [e1, run_app, h]
  show (match stepS l[i] s with | .bad j e => Rs.bad j e | .ok s => run _ s) = _
  rw [hb]
end Lb
end Go.Proofs.YtfijmdaeaahodaaDoor
set_option linter.unusedVariables false
set_option linter.unusedSimpArgs false
namespace Go.Proofs.YtfijmdaeaahodaaDoor
open Go.RowKit
theorem blocks_of {B g : Nat} {w : World} {S : Nat → Prop} {n : Nat} {ds : List Bi} (h : OwnG B w 37 11 (.slice (some ⟨g, 0, none⟩) n n) (ds.map bicell)) (hn : ds.length = n) (hl : n ≤ 100000) (hS : S g) (hk : ∀ d ∈ ds, BiB w S d) : BlksB w S (some ⟨g, 0, none⟩) n (ds.map Bi.b) := by
  have gd : ∀ i (hi : i < ds.length), ds.getD i default = ds[i] := fun i hi => by rw [List.getD_eq_getElem?_getD, List.getElem?_eq_getElem hi]; rfl
  have hlen : (ds.map Bi.b).length = ds.length := List.length_map _
  refine ⟨by omega, by omega, .inr ⟨g, 0, (fun i => ds.getD i default), rfl, hS, fun i hi => ?_⟩⟩
  have hi' : i < ds.length := by omega
  dsimp only
  rw [gd i hi', Nat.zero_add]
  exact ⟨by simp, hk _ (List.getElem_mem hi'), fun j u hj => h.at (g := g) rfl (i := i) (by simpa using hi') (by rw [List.getElem_map]; exact hj)⟩
theorem BiB.kept {w w' : World} {S : Nat → Prop} {d : Bi} (h : BiB w S d) (q : Qw w w') : BiB w' S d := h.go fun b hS hb => ⟨q.block b hb, hS⟩
set_option maxRecDepth 100000 in
set_option maxHeartbeats 4000000 in
theorem cp_blocks (bs : List Sy.Bl) (hl : bs.length ≤ 5000) (IH : ∀ b ∈ bs, Smb b) (a : Option Addr) (cap : Nat) (S : Nat → Prop) (w : World) (h : BlksB w S a cap bs) :
    Calls Tryd.prog 42 #[.slice a bs.length cap, .func (.func 43) #[] #[]] w fun e w' => ∃ a' c', e = .returned (.slice a' bs.length c') ∧ BlksB w' (fun b => w.heap.size ≤ b) a' c' bs ∧ Qw w w' := by
  obtain ⟨w1, hr, hO, hg⟩ := g_make w w.heap.size 37 22 11 136 _ bs.length info_block Tryd.underlying22 rfl (by decide) (by decide) (by omega) (Nat.le_refl _)
  have q1 : Qw w w1 := (Below.refl _ _).grown hg (Nat.le_refl _) (by intro k e; cases e)
  have l1 : bs.length ≤ cap := h.1
  have l2 : cap ≤ 9223372036854775807 := h.2.1
  have HK := Lib.hid h
  have HI := Lib.hid IH
  clear h IH
  go_enter Tryd.func42, Tryd.ntmps42
  go_wp2
  go_loopw [13] (fun iv wr => ∃ (i : Nat) (ds : List Bi), i ≤ bs.length ∧ iv = .int .i64 (i : Int) ∧ ds.length = i ∧ Hid (ds.map Bi.b = bs.take i) ∧ Hid (OwnG w.heap.size wr 37 11 (.slice (some ⟨w.heap.size, 0, none⟩) bs.length bs.length) (ds.map bicell ++ List.replicate (bs.length - i) [.int .i64 0, .int .i64 0, .bool false, .slice none 0 0, .int .i64 0, .int .i64 0, .slice none 0 0, .int .i64 0, .int .i64 0, .slice none 0 0, .int .i64 0])) ∧ Hid (∀ d ∈ ds, BiB wr (fun b => w.heap.size < b) d) ∧ Hid (Qw w wr)) (fun iv _ => bs.length - (intOf iv).toNat)
  case atStart => exact ⟨0, [], by omega, rfl, rfl, Lib.hid rfl, Lib.hid hO, Lib.hid (by simp), Lib.hid q1⟩
  case round =>
    clear hO hg hr q1
    obtain ⟨i, ds, hi, rfl, hds, HX, HO, HD, HQ⟩ := hrel
    have h63 : (i : Int) ≤ 9223372036854775806 := by omega
    have hGr : w.heap.size < wr.heap.size := by have := HO.out.lt (g := w.heap.size) rfl; exact this.2
    have hGn : w.heap.size ≠ wr.heap.size := by omega
    by_cases hlt : i < bs.length
    · have hKr : BlksB wr S a cap bs := HK.out.kept HQ.out
      have sm := HI.out bs[i] (List.getElem_mem hlt)
      rcases hKr.2.2 with h0 | ⟨b, off, f, rfl, hS, hc⟩
      · rw [h0] at hlt; simp at hlt
      · obtain ⟨hb, kk, hz⟩ := hc i hlt
        obtain ⟨d, hd⟩ : ∃ d, d = f i := ⟨_, rfl⟩
        rw [← hd] at hb kk hz
        rw [← hb] at sm
        have HB := Lib.hid hb
        have z0 : wr.cell? ⟨b, off + i * 11, none⟩ = some (.int .i64 d.b.kind) := hz 0 (.int .i64 d.b.kind) rfl
        have z1 := hz 1 (.int .i64 d.b.label) rfl
        have z2 := hz 2 (.bool d.b.skip) rfl
        have z3 := hz 3 (.slice d.wa d.b.words.length d.wc) rfl
        have z4 := hz 4 (.int .i64 d.b.left.op) rfl
        have z5 := hz 5 (.int .i64 d.b.left.n) rfl
        have z6 := hz 6 (.slice d.la d.b.left.ks.length d.lc) rfl
        have z7 := hz 7 (.int .i64 d.b.x.op) rfl
        have z8 := hz 8 (.int .i64 d.b.x.n) rfl
        have z9 := hz 9 (.slice d.xa d.b.x.ks.length d.xc) rfl
        have z10 := hz 10 (.int .i64 d.b.n) rfl
        have KK := Lib.hid kk
        have hi2 : (i : Int) < (bs.length : Int) := by omega
        have bl := cell_lt z0
        have hne : b ≠ wr.heap.size := by omega
        have hu : ∀ w', Qw wr w' → w'.cell? ⟨w.heap.size, i * 11, none⟩ = some (.int .i64 0) ∧ w'.frozen? ⟨w.heap.size, i * 11, none⟩ = false ∧ w'.cell? ⟨w.heap.size, i * 11 + 1, none⟩ = some (.int .i64 0) ∧ w'.frozen? ⟨w.heap.size, i * 11 + 1, none⟩ = false ∧ w'.cell? ⟨w.heap.size, i * 11 + 2, none⟩ = some (.bool false) ∧ w'.frozen? ⟨w.heap.size, i * 11 + 2, none⟩ = false ∧ w'.cell? ⟨w.heap.size, i * 11 + 3, none⟩ = some (.slice none 0 0) ∧ w'.frozen? ⟨w.heap.size, i * 11 + 3, none⟩ = false ∧ w'.cell? ⟨w.heap.size, i * 11 + 4, none⟩ = some (.int .i64 0) ∧ w'.frozen? ⟨w.heap.size, i * 11 + 4, none⟩ = false ∧ w'.cell? ⟨w.heap.size, i * 11 + 5, none⟩ = some (.int .i64 0) ∧ w'.frozen? ⟨w.heap.size, i * 11 + 5, none⟩ = false ∧ w'.cell? ⟨w.heap.size, i * 11 + 6, none⟩ = some (.slice none 0 0) ∧ w'.frozen? ⟨w.heap.size, i * 11 + 6, none⟩ = false ∧ w'.cell? ⟨w.heap.size, i * 11 + 7, none⟩ = some (.int .i64 0) ∧ w'.frozen? ⟨w.heap.size, i * 11 + 7, none⟩ = false ∧ w'.cell? ⟨w.heap.size, i * 11 + 8, none⟩ = some (.int .i64 0) ∧ w'.frozen? ⟨w.heap.size, i * 11 + 8, none⟩ = false ∧ w'.cell? ⟨w.heap.size, i * 11 + 9, none⟩ = some (.slice none 0 0) ∧ w'.frozen? ⟨w.heap.size, i * 11 + 9, none⟩ = false ∧ w'.cell? ⟨w.heap.size, i * 11 + 10, none⟩ = some (.int .i64 0) ∧ w'.frozen? ⟨w.heap.size, i * 11 + 10, none⟩ = false := fun w' q => by
          have o := HO.out.go (w' := w') fun g hg hl => q.block g hl
          have hlen : (ds.map bicell ++ List.replicate (bs.length - i) ([.int .i64 0, .int .i64 0, .bool false, .slice none 0 0, .int .i64 0, .int .i64 0, .slice none 0 0, .int .i64 0, .int .i64 0, .slice none 0 0, .int .i64 0] : List Value)).length = bs.length := by simp; omega
          have c := fun j u (hj : ([.int .i64 0, .int .i64 0, .bool false, .slice none 0 0, .int .i64 0, .int .i64 0, .slice none 0 0, .int .i64 0, .int .i64 0, .slice none 0 0, .int .i64 0] : List Value)[j]? = some u) => o.at (g := w.heap.size) rfl (i := i) (by rw [hlen]; exact hlt) (j := j) (u := u) (by rw [List.getElem_append_right (by simp; omega), List.getElem_replicate]; exact hj)
          exact ⟨c 0 _ rfl, o.free (g := w.heap.size) rfl _, c 1 _ rfl, o.free (g := w.heap.size) rfl _, c 2 _ rfl, o.free (g := w.heap.size) rfl _, c 3 _ rfl, o.free (g := w.heap.size) rfl _, c 4 _ rfl, o.free (g := w.heap.size) rfl _, c 5 _ rfl, o.free (g := w.heap.size) rfl _, c 6 _ rfl, o.free (g := w.heap.size) rfl _, c 7 _ rfl, o.free (g := w.heap.size) rfl _, c 8 _ rfl, o.free (g := w.heap.size) rfl _, c 9 _ rfl, o.free (g := w.heap.size) rfl _, c 10 _ rfl, o.free (g := w.heap.size) rfl _⟩
        have HU := Lib.hid hu
        have CR := Lib.hid (fun w1 (hh : BiB w1 S d) => cp_block d sm S w1 hh)
        unfold CpK at CR
        clear hu hc kk hKr sm hz hb hd
        go_wp2_with (go_at_call 43; with_reducible refine (CR.out _ (BiB.kept KK.out (Qw.al (Qw.refl wr) _))).mono ?_)
        rintro e w' ⟨wa, wc, la, lc, xa, xc, rfl, kb, q⟩
        have q0 : Hid (Qw wr w') := Lib.hid (Qw.trans (Qw.al (Qw.refl wr) _) q)
        obtain ⟨u0, g0, u1, g1, u2, g2, u3, g3, u4, g4, u5, g5, u6, g6, u7, g7, u8, g8, u9, g9, u10, g10⟩ := HU.out w' q0.out
        have hw' : w.heap.size < w'.heap.size := Nat.lt_of_lt_of_le hGr q0.out.size
        have o := (HO.out.go (w' := w') fun g hg hl => q0.out.block g hl).row (g := w.heap.size) rfl (i := i) (by simp; omega) (bicell ⟨d.b, wa, wc, la, lc, xa, xc⟩) rfl
        rw [show bs.length - i = (bs.length - (i + 1)) + 1 by omega, List.replicate_succ, set_next (by simpa using hds)] at o
        have eS : ∀ b, b ≠ w.heap.size → (setCs w' w.heap.size (i * 11) (bicell ⟨d.b, wa, wc, la, lc, xa, xc⟩)).heap[b]? = w'.heap[b]? := fun b hb => setCs_other hb _ _ _
        have qS : Qw w (setCs w' w.heap.size (i * 11) (bicell ⟨d.b, wa, wc, la, lc, xa, xc⟩)) := setCs_qw (Nat.le_refl _) _ _ _ (Qw.trans HQ.out q0.out)
        have hD : ∀ d' ∈ ds ++ [(⟨d.b, wa, wc, la, lc, xa, xc⟩ : Bi)], BiB (setCs w' w.heap.size (i * 11) (bicell ⟨d.b, wa, wc, la, lc, xa, xc⟩)) (fun b => w.heap.size < b) d' := fun d' hd => by
          rcases List.mem_append.1 hd with hd | hd
          · exact (HD.out d' hd).go fun b hb hl => ⟨(eS b (by omega)).trans (q0.out.block b hl), hb⟩
          · obtain rfl := List.mem_singleton.1 hd
            exact kb.go fun b hb hl => ⟨eS b (by simp at hb; omega), by have := hb; simp at this; omega⟩
        have hx2 : (ds ++ [(⟨d.b, wa, wc, la, lc, xa, xc⟩ : Bi)]).map Bi.b = bs.take (i + 1) := by
          rw [List.map_append, HX.out, List.take_succ_eq_append_getElem hlt, ← HB.out]; rfl
        have R := Lib.hid (And.intro hx2 (And.intro o (And.intro hD qS)))
        clear hx2 o hD qS eS kb q HO HD HX HU CR KK
        go_wp2
        go_roundw
        case measure => simp [intOf]; omega
        case rel => exact ⟨i + 1, ds ++ [⟨d.b, wa, wc, la, lc, xa, xc⟩], by omega, by go_num, by simp [hds], Lib.hid R.out.1, Lib.hid (by rw [List.map_append]; exact R.out.2.1), Lib.hid R.out.2.2.1, Lib.hid R.out.2.2.2⟩
    · obtain rfl : i = bs.length := by omega
      have hb : ¬ (bs.length : Int) < (bs.length : Int) := by omega
      have e1 : ds.map Bi.b = bs := by have := HX.out; rwa [List.take_length] at this
      have kf : BlksB wr (fun b => w.heap.size ≤ b) (some ⟨w.heap.size, 0, none⟩) bs.length bs := by
        have o := HO.out
        rw [Nat.sub_self, List.replicate_zero, List.append_nil] at o
        have := blocks_of o hds (by omega) (S := fun b => w.heap.size ≤ b) (Nat.le_refl _) (fun d hd => (HD.out d hd).go fun b hb _ => ⟨rfl, by omega⟩)
        rwa [e1] at this
      go_wp2
      go_ret
      exact ⟨some ⟨w.heap.size, 0, none⟩, bs.length, rfl, kf, HQ.out⟩
end Go.Proofs.YtfijmdaeaahodaaDoor

