import Derived.Test.YtlgdjbabbfdngaaDoorZSP2
import Derived.Test.YtlgdjbabbfdngaaDoorZSP3
set_option linter.unusedVariables false
set_option linter.unusedSimpArgs false
namespace Go.Proofs.YtlgdjbabbfdngaaDoor
open Go.RowKit
theorem info_blockS : (Tryd.prog.info? 37).map (·.size) = some 11 := by kernel_rfl
theorem wordsB_kept {w w' : World} {S : Nat → Prop} {a : Option Addr} {cap : Nat} {ws : List (Int × Sy.Ex)} (h : WordsB w S a cap ws) (q : Qw w w') : WordsB w' S a cap ws := h.go fun b hS hb => ⟨q.block b hb, hS⟩
structure Smb (b : Sy.Bl) : Prop where
  w : b.words.length ≤ 100
  ws : ∀ k ∈ b.words, Smx k.2
  l : Smx b.left
  x : Smx b.x
def CpK (d : Bi) (w : World) : Prop := Calls Tryd.prog 40 #[.agg #[.int .i64 d.b.kind, .int .i64 d.b.label, .bool d.b.skip, .slice d.wa d.b.words.length d.wc, .int .i64 d.b.left.op, .int .i64 d.b.left.n, .slice d.la d.b.left.ks.length d.lc, .int .i64 d.b.x.op, .int .i64 d.b.x.n, .slice d.xa d.b.x.ks.length d.xc, .int .i64 d.b.n]] w fun e w' => ∃ wa wc la lc xa xc, e = .returned (.agg #[.int .i64 d.b.kind, .int .i64 d.b.label, .bool d.b.skip, .slice wa d.b.words.length wc, .int .i64 d.b.left.op, .int .i64 d.b.left.n, .slice la d.b.left.ks.length lc, .int .i64 d.b.x.op, .int .i64 d.b.x.n, .slice xa d.b.x.ks.length xc, .int .i64 d.b.n]) ∧ BiB w' (fun b => w.heap.size ≤ b) ⟨d.b, wa, wc, la, lc, xa, xc⟩ ∧ Qw w w'
set_option maxRecDepth 100000 in
set_option maxHeartbeats 4000000 in
theorem cp_block (d : Bi) (hs : Smb d.b) (S : Nat → Prop) (w : World) (h : BiB w S d) : CpK d w := by
  have c1 := fun w1 (h : WordsB w1 S d.wa d.wc d.b.words) => cp_words d.b.words hs.w hs.ws d.wa d.wc S w1 h
  have c2 := fun w1 (h : KidsB w1 S d.la d.lc d.b.left.ks) => cp_expr d.b.left hs.l d.la d.lc S w1 h
  have c3 := fun w1 (h : KidsB w1 S d.xa d.xc d.b.x.ks) => cp_expr d.b.x hs.x d.xa d.xc S w1 h
  unfold CpX at c2 c3
  unfold CpK
  obtain ⟨hW, hL, hX⟩ := h
  have C1 := Lib.hid c1
  have C2 := Lib.hid c2
  have C3 := Lib.hid c3
  have HW := Lib.hid hW
  have HL := Lib.hid hL
  have HX := Lib.hid hX
  clear c1 c2 c3 hW hL hX hs
  have q0 : Hid (Qw w w) := Lib.hid (Qw.refl w)
  go_enter Tryd.func40, Tryd.ntmps40
  go_wp2_with (go_at_call 57; with_reducible refine (C1.out _ (wordsB_kept HW.out (Qw.al (Qw.al (Qw.refl w) _) _))).mono ?_)
  rintro e w1 ⟨a', c', rfl, kb, q⟩
  have q1 : Qw w w1 := Qw.trans (Qw.al (Qw.al (Qw.refl w) _) _) q
  have X := ((Bx.new w #[.int .i64 d.b.kind, .int .i64 d.b.label, .bool d.b.skip, .slice d.wa d.b.words.length d.wc, .int .i64 d.b.left.op, .int .i64 d.b.left.n, .slice d.la d.b.left.ks.length d.lc, .int .i64 d.b.x.op, .int .i64 d.b.x.n, .slice d.xa d.b.x.ks.length d.xc, .int .i64 d.b.n] 37).alloc (.cells #[.int .i64 0, .int .i64 0, .bool false, .slice none 0 0, .int .i64 0, .int .i64 0, .slice none 0 0, .int .i64 0, .int .i64 0, .slice none 0 0, .int .i64 0] 37)).kept q
  have Y := (Bx.new (w.alloc (.cells #[.int .i64 d.b.kind, .int .i64 d.b.label, .bool d.b.skip, .slice d.wa d.b.words.length d.wc, .int .i64 d.b.left.op, .int .i64 d.b.left.n, .slice d.la d.b.left.ks.length d.lc, .int .i64 d.b.x.op, .int .i64 d.b.x.n, .slice d.xa d.b.x.ks.length d.xc, .int .i64 d.b.n] 37)) #[.int .i64 0, .int .i64 0, .bool false, .slice none 0 0, .int .i64 0, .int .i64 0, .slice none 0 0, .int .i64 0, .int .i64 0, .slice none 0 0, .int .i64 0] 37).kept q
  have sz1 : ∀ (o : Obj), (w.alloc o).heap.size = w.heap.size + 1 := fun o => by simp
  rw [sz1] at Y
  have kb1 : WordsB w1 (fun b => w.heap.size + 2 ≤ b) a' c' d.b.words := kb.go fun b hb hl => ⟨rfl, by have := hb; simp at this; omega⟩
  have x3 := X.cell' 3 _ rfl
  have f3 := X.free 3
  have XS := X.set 3 (.slice a' d.b.words.length c')
  have hnK : w.heap.size + 1 ≠ w.heap.size := by omega
  have YS := Y.other (a := ⟨w.heap.size, 3, none⟩) hnK (.slice a' d.b.words.length c')
  have qs : Qw w (w1.setCell ⟨w.heap.size, 3, none⟩ (.slice a' d.b.words.length c')) := Qw.sc q1 (Nat.le_refl _) _
  have ks : WordsB (w1.setCell ⟨w.heap.size, 3, none⟩ (.slice a' d.b.words.length c')) (fun b => w.heap.size + 2 ≤ b) a' c' d.b.words := kb1.go fun b hb hl => ⟨Below.heap_setCell _ ⟨w.heap.size, 3, none⟩ _ b (by show b ≠ w.heap.size; omega), hb⟩
  clear kb kb1 q sz1
  go_wp2
  clear x3 f3 X Y
  refine code_of (fun w2 => Bx w2 w.heap.size #[.int .i64 d.b.kind, .int .i64 d.b.label, .bool d.b.skip, .slice a' d.b.words.length c', .int .i64 d.b.left.op, .int .i64 d.b.left.n, .slice d.la d.b.left.ks.length d.lc, .int .i64 d.b.x.op, .int .i64 d.b.x.n, .slice d.xa d.b.x.ks.length d.xc, .int .i64 d.b.n] 37 ∧ Bx w2 (w.heap.size + 1) #[.int .i64 0, .int .i64 0, .bool false, .slice none 0 0, .int .i64 0, .int .i64 0, .slice none 0 0, .int .i64 0, .int .i64 0, .slice none 0 0, .int .i64 0] 37 ∧ Qw w w2 ∧ WordsB w2 (fun b => w.heap.size + 2 ≤ b) a' c' d.b.words) ⟨XS, YS, qs, ks⟩ ?_
  clear XS YS qs ks q1 hnK
  rintro w2 ⟨XB, YB, Q2, WB⟩
  have x4 := XB.cell' 4 _ rfl
  have x5 := XB.cell' 5 _ rfl
  have x6 := XB.cell' 6 _ rfl
  have x7 := XB.cell' 7 _ rfl
  have x8 := XB.cell' 8 _ rfl
  have x9 := XB.cell' 9 _ rfl
  have hlt := XB.lt
  obtain ⟨S2, hS⟩ : ∃ S2 : World → Prop, ∀ w', S2 w' ↔ Qw w2 w' := ⟨_, fun _ => Iff.rfl⟩
  have HS := Lib.hid hS
  have CS := Lib.hid (fun w' (h : S2 w') o => ((hS w').1 h).cell (p := ⟨w.heap.size, o, none⟩) hlt)
  clear hS
  refine wp_region_M S2 7 (by kernel_rfl) ?_
  have hSS : S2 (World.drew w2) := (HS.out _).2 (Qw.dr (Qw.refl w2))
  refine wpAnyM_take (i := 0) (v := ?_) rfl (by kernel_rfl) (fun _ _ _ h => h) (Or.inl ⟨by rfl, ?_⟩) hSS ?_
  rotate_left 1
  · intro wS hwS
    go_simp
    try with_reducible rfl
  simp only [List.getElem_toArray, List.getElem_cons_succ, List.getElem_cons_zero, Act.put, List.setIfInBounds_toArray, List.set_cons_zero, List.set_cons_succ]
  refine wpAnyM_take (i := 1) (v := ?_) rfl (by kernel_rfl) (fun _ _ _ h => h) (Or.inl ⟨by rfl, ?_⟩) hSS ?_
  rotate_left 1
  · intro wS hwS
    have c4 := (CS.out wS hwS 4).trans x4; have c5 := (CS.out wS hwS 5).trans x5; have c6 := (CS.out wS hwS 6).trans x6; go_simp
    try with_reducible rfl
  simp only [List.getElem_toArray, List.getElem_cons_succ, List.getElem_cons_zero, Act.put, List.setIfInBounds_toArray, List.set_cons_zero, List.set_cons_succ]
  refine wpAnyM_take (i := 3) (v := ?_) rfl (by kernel_rfl) (fun _ _ _ h => h) (Or.inl ⟨by rfl, ?_⟩) hSS ?_
  rotate_left 1
  · intro wS hwS
    go_simp
    try with_reducible rfl
  simp only [List.getElem_toArray, List.getElem_cons_succ, List.getElem_cons_zero, Act.put, List.setIfInBounds_toArray, List.set_cons_zero, List.set_cons_succ]
  refine wpAnyM_take (i := 4) (v := ?_) rfl (by kernel_rfl) (fun _ _ _ h => h) (Or.inl ⟨by rfl, ?_⟩) hSS ?_
  rotate_left 1
  · intro wS hwS
    have c7 := (CS.out wS hwS 7).trans x7; have c8 := (CS.out wS hwS 8).trans x8; have c9 := (CS.out wS hwS 9).trans x9; go_simp
    try with_reducible rfl
  simp only [List.getElem_toArray, List.getElem_cons_succ, List.getElem_cons_zero, Act.put, List.setIfInBounds_toArray, List.set_cons_zero, List.set_cons_succ]
  clear x4 x5 x6 x7 x8 x9
  refine wpAnyM_one (i := 2) rfl (by kernel_rfl) rfl (fun K hK => ?_)
  go_simp
  refine (C2.out _ (HL.out.kept (Qw.dr Q2))).mono ?_
  rintro e w3 ⟨la', lc', rfl, kl, q3⟩
  have Q3 : Qw w2 w3 := Qw.trans (Qw.dr (Qw.refl w2)) q3
  have hSS : S2 w3 := (HS.out _).2 Q3
  refine hK _ _ (fun _ => hSS) ?_
  clear hK K q3
  refine wpAnyM_take (i := 6) (v := ?_) rfl (by kernel_rfl) (fun _ _ _ h => h) (Or.inl ⟨by rfl, ?_⟩) hSS ?_
  rotate_left 1
  · intro wS hwS
    go_simp
    try with_reducible rfl
  simp only [List.getElem_toArray, List.getElem_cons_succ, List.getElem_cons_zero, Act.put, List.setIfInBounds_toArray, List.set_cons_zero, List.set_cons_succ]
  refine wpAnyM_one (i := 5) rfl (by kernel_rfl) rfl (fun K hK => ?_)
  go_simp
  refine (C3.out _ (HX.out.kept (Qw.trans Q2 Q3))).mono ?_
  rintro e w4 ⟨xa', xc', rfl, kx, q4⟩
  have Q4 : Qw w2 w4 := Qw.trans Q3 q4
  have hSS : S2 w4 := (HS.out _).2 Q4
  refine hK _ _ (fun _ => hSS) ?_
  clear hK K
  have XB4 := XB.kept Q4
  have YB4 := YB.kept Q4
  have hnK : w.heap.size + 1 ≠ w.heap.size := by omega
  have W4 : WordsB w4 (fun b => w.heap.size + 2 ≤ b) a' c' d.b.words := wordsB_kept WB Q4
  have ylt := YB.lt
  have L4 : KidsB w4 (fun b => w.heap.size + 2 ≤ b) la' lc' d.b.left.ks := (kl.kept q4).mono fun b hb => by have := hb; simp at this; omega
  have X4 : KidsB w4 (fun b => w.heap.size + 2 ≤ b) xa' xc' d.b.x.ks := kx.mono fun b hb => by have hb' : w3.heap.size ≤ b := hb; have := Q3.size; omega
  have QQ4 : Qw w w4 := Qw.trans Q2 Q4
  clear XB YB WB kl kx q4 Q3 Q4 Q2
  have x4 := XB4.cell' 4 _ rfl
  have x5 := XB4.cell' 5 _ rfl
  have x6 := XB4.cell' 6 _ rfl
  have f4 := XB4.free 4
  have f5 := XB4.free 5
  have f6 := XB4.free 6
  refine wpAnyM_one (i := 7) rfl (by kernel_rfl) rfl (fun K hK => ?_)
  go_simp
  refine hK _ (((w4.setCell ⟨w.heap.size, 4, none⟩ (.int .i64 d.b.left.op)).setCell ⟨w.heap.size, 5, none⟩ (.int .i64 d.b.left.n)).setCell ⟨w.heap.size, 6, none⟩ (.slice la' d.b.left.ks.length lc')) (fun h => absurd h (by decide)) ?_
  clear hK K hSS x4 x5 x6 f4 f5 f6
  have XB5 := ((XB4.set 4 (.int .i64 d.b.left.op)).set 5 (.int .i64 d.b.left.n)).set 6 (.slice la' d.b.left.ks.length lc')
  have YB5 := ((YB4.other (a := ⟨w.heap.size, 4, none⟩) hnK (.int .i64 d.b.left.op)).other (a := ⟨w.heap.size, 5, none⟩) hnK (.int .i64 d.b.left.n)).other (a := ⟨w.heap.size, 6, none⟩) hnK (.slice la' d.b.left.ks.length lc')
  have e5 : ∀ b, b ≠ w.heap.size → (((w4.setCell ⟨w.heap.size, 4, none⟩ (.int .i64 d.b.left.op)).setCell ⟨w.heap.size, 5, none⟩ (.int .i64 d.b.left.n)).setCell ⟨w.heap.size, 6, none⟩ (.slice la' d.b.left.ks.length lc')).heap[b]? = w4.heap[b]? := fun b hb => (Below.heap_setCell _ _ _ b hb).trans ((Below.heap_setCell _ _ _ b hb).trans (Below.heap_setCell _ _ _ b hb))
  have QQ5 := Qw.sc (p := ⟨w.heap.size, 6, none⟩) (Qw.sc (p := ⟨w.heap.size, 5, none⟩) (Qw.sc (p := ⟨w.heap.size, 4, none⟩) QQ4 (Nat.le_refl _) (.int .i64 d.b.left.op)) (Nat.le_refl _) (.int .i64 d.b.left.n)) (Nat.le_refl _) (.slice la' d.b.left.ks.length lc')
  generalize ((w4.setCell ⟨w.heap.size, 4, none⟩ (.int .i64 d.b.left.op)).setCell ⟨w.heap.size, 5, none⟩ (.int .i64 d.b.left.n)).setCell ⟨w.heap.size, 6, none⟩ (.slice la' d.b.left.ks.length lc') = w5 at *
  have W5 : WordsB w5 (fun b => w.heap.size + 2 ≤ b) a' c' d.b.words := W4.go fun b hb _ => ⟨e5 b (by omega), hb⟩
  have L5 : KidsB w5 (fun b => w.heap.size + 2 ≤ b) la' lc' d.b.left.ks := L4.go fun b hb _ => ⟨e5 b (by omega), hb⟩
  have X5 : KidsB w5 (fun b => w.heap.size + 2 ≤ b) xa' xc' d.b.x.ks := X4.go fun b hb _ => ⟨e5 b (by omega), hb⟩
  clear W4 L4 X4 e5 XB4 YB4
  refine wpAnyM_one (i := 8) rfl (by kernel_rfl) rfl (fun K hK => ?_)
  go_simp
  refine hK _ w5 (fun h => absurd h (by decide)) ?_
  clear hK K
  have x7 := XB5.cell' 7 _ rfl
  have x8 := XB5.cell' 8 _ rfl
  have x9 := XB5.cell' 9 _ rfl
  have f7 := XB5.free 7
  have f8 := XB5.free 8
  have f9 := XB5.free 9
  refine wpAnyM_one (i := 9) rfl (by kernel_rfl) rfl (fun K hK => ?_)
  go_simp
  refine hK _ (((w5.setCell ⟨w.heap.size, 7, none⟩ (.int .i64 d.b.x.op)).setCell ⟨w.heap.size, 8, none⟩ (.int .i64 d.b.x.n)).setCell ⟨w.heap.size, 9, none⟩ (.slice xa' d.b.x.ks.length xc')) (fun h => absurd h (by decide)) ?_
  clear hK K x7 x8 x9 f7 f8 f9
  refine wpAnyM_done (by kernel_rfl) ?_ _
  have XB6 := ((XB5.set 7 (.int .i64 d.b.x.op)).set 8 (.int .i64 d.b.x.n)).set 9 (.slice xa' d.b.x.ks.length xc')
  have YB6 := ((YB5.other (a := ⟨w.heap.size, 7, none⟩) hnK (.int .i64 d.b.x.op)).other (a := ⟨w.heap.size, 8, none⟩) hnK (.int .i64 d.b.x.n)).other (a := ⟨w.heap.size, 9, none⟩) hnK (.slice xa' d.b.x.ks.length xc')
  have e6 : ∀ b, b ≠ w.heap.size → (((w5.setCell ⟨w.heap.size, 7, none⟩ (.int .i64 d.b.x.op)).setCell ⟨w.heap.size, 8, none⟩ (.int .i64 d.b.x.n)).setCell ⟨w.heap.size, 9, none⟩ (.slice xa' d.b.x.ks.length xc')).heap[b]? = w5.heap[b]? := fun b hb => (Below.heap_setCell _ _ _ b hb).trans ((Below.heap_setCell _ _ _ b hb).trans (Below.heap_setCell _ _ _ b hb))
  have QQ6 := Qw.sc (p := ⟨w.heap.size, 9, none⟩) (Qw.sc (p := ⟨w.heap.size, 8, none⟩) (Qw.sc (p := ⟨w.heap.size, 7, none⟩) QQ5 (Nat.le_refl _) (.int .i64 d.b.x.op)) (Nat.le_refl _) (.int .i64 d.b.x.n)) (Nat.le_refl _) (.slice xa' d.b.x.ks.length xc')
  generalize ((w5.setCell ⟨w.heap.size, 7, none⟩ (.int .i64 d.b.x.op)).setCell ⟨w.heap.size, 8, none⟩ (.int .i64 d.b.x.n)).setCell ⟨w.heap.size, 9, none⟩ (.slice xa' d.b.x.ks.length xc') = w6 at *
  have W6 : WordsB w6 (fun b => w.heap.size + 2 ≤ b) a' c' d.b.words := W5.go fun b hb _ => ⟨e6 b (by omega), hb⟩
  have L6 : KidsB w6 (fun b => w.heap.size + 2 ≤ b) la' lc' d.b.left.ks := L5.go fun b hb _ => ⟨e6 b (by omega), hb⟩
  have X6 : KidsB w6 (fun b => w.heap.size + 2 ≤ b) xa' xc' d.b.x.ks := X5.go fun b hb _ => ⟨e6 b (by omega), hb⟩
  clear W5 L5 X5 e6 XB5 YB5
  replace XB6 : Bx w6 w.heap.size #[.int .i64 d.b.kind, .int .i64 d.b.label, .bool d.b.skip, .slice a' d.b.words.length c', .int .i64 d.b.left.op, .int .i64 d.b.left.n, .slice la' d.b.left.ks.length lc', .int .i64 d.b.x.op, .int .i64 d.b.x.n, .slice xa' d.b.x.ks.length xc', .int .i64 d.b.n] 37 := XB6
  have z0 := XB6.cell' 0 (.int .i64 d.b.kind) rfl
  have z1 := XB6.cell' 1 (.int .i64 d.b.label) rfl
  have z2 := XB6.cell' 2 (.bool d.b.skip) rfl
  have z3 := XB6.cell' 3 (.slice a' d.b.words.length c') rfl
  have z4 := XB6.cell' 4 (.int .i64 d.b.left.op) rfl
  have z5 := XB6.cell' 5 (.int .i64 d.b.left.n) rfl
  have z6 := XB6.cell' 6 (.slice la' d.b.left.ks.length lc') rfl
  have z7 := XB6.cell' 7 (.int .i64 d.b.x.op) rfl
  have z8 := XB6.cell' 8 (.int .i64 d.b.x.n) rfl
  have z9 := XB6.cell' 9 (.slice xa' d.b.x.ks.length xc') rfl
  have z10 := XB6.cell' 10 (.int .i64 d.b.n) rfl
  have y0 := YB6.cell' 0 (.int .i64 0) rfl
  have y1 := YB6.cell' 1 (.int .i64 0) rfl
  have y2 := YB6.cell' 2 (.bool false) rfl
  have y3 := YB6.cell' 3 (.slice none 0 0) rfl
  have y4 := YB6.cell' 4 (.int .i64 0) rfl
  have y5 := YB6.cell' 5 (.int .i64 0) rfl
  have y6 := YB6.cell' 6 (.slice none 0 0) rfl
  have y7 := YB6.cell' 7 (.int .i64 0) rfl
  have y8 := YB6.cell' 8 (.int .i64 0) rfl
  have y9 := YB6.cell' 9 (.slice none 0 0) rfl
  have y10 := YB6.cell' 10 (.int .i64 0) rfl
  have g0 := YB6.free 0
  have g1 := YB6.free 1
  have g2 := YB6.free 2
  have g3 := YB6.free 3
  have g4 := YB6.free 4
  have g5 := YB6.free 5
  have g6 := YB6.free 6
  have g7 := YB6.free 7
  have g8 := YB6.free 8
  have g9 := YB6.free 9
  have g10 := YB6.free 10
  have YF := Lib.hid (putB_bx (.int .i64 d.b.kind) (.int .i64 d.b.label) (.bool d.b.skip) (.slice a' d.b.words.length c') (.int .i64 d.b.left.op) (.int .i64 d.b.left.n) (.slice la' d.b.left.ks.length lc') (.int .i64 d.b.x.op) (.int .i64 d.b.x.n) (.slice xa' d.b.x.ks.length xc') (.int .i64 d.b.n) YB6)
  have EF := Lib.hid (fun k h => putB_heap w6 (w.heap.size + 1) k (.int .i64 d.b.kind) (.int .i64 d.b.label) (.bool d.b.skip) (.slice a' d.b.words.length c') (.int .i64 d.b.left.op) (.int .i64 d.b.left.n) (.slice la' d.b.left.ks.length lc') (.int .i64 d.b.x.op) (.int .i64 d.b.x.n) (.slice xa' d.b.x.ks.length xc') (.int .i64 d.b.n) h)
  have QF : Hid (Qw w (putB w6 (w.heap.size + 1) (.int .i64 d.b.kind) (.int .i64 d.b.label) (.bool d.b.skip) (.slice a' d.b.words.length c') (.int .i64 d.b.left.op) (.int .i64 d.b.left.n) (.slice la' d.b.left.ks.length lc') (.int .i64 d.b.x.op) (.int .i64 d.b.x.n) (.slice xa' d.b.x.ks.length xc') (.int .i64 d.b.n))) := Lib.hid (by
    have ge1 : w.heap.size ≤ w.heap.size + 1 := Nat.le_succ _
    unfold putB
    exact Qw.sc (Qw.sc (Qw.sc (Qw.sc (Qw.sc (Qw.sc (Qw.sc (Qw.sc (Qw.sc (Qw.sc (Qw.sc QQ6 ge1 _) ge1 _) ge1 _) ge1 _) ge1 _) ge1 _) ge1 _) ge1 _) ge1 _) ge1 _) ge1 _)
  have BF : Hid (BiB (putB w6 (w.heap.size + 1) (.int .i64 d.b.kind) (.int .i64 d.b.label) (.bool d.b.skip) (.slice a' d.b.words.length c') (.int .i64 d.b.left.op) (.int .i64 d.b.left.n) (.slice la' d.b.left.ks.length lc') (.int .i64 d.b.x.op) (.int .i64 d.b.x.n) (.slice xa' d.b.x.ks.length xc') (.int .i64 d.b.n)) (fun b => w.heap.size ≤ b) ⟨d.b, a', c', la', lc', xa', xc'⟩) := Lib.hid ⟨W6.go fun b hb _ => ⟨EF.out b (by omega), by omega⟩, L6.go fun b hb _ => ⟨EF.out b (by omega), by omega⟩, X6.go fun b hb _ => ⟨EF.out b (by omega), by omega⟩⟩
  clear XB6 C1 C2 C3 HW HL HX CS HS hlt q0 ylt W6 L6 X6 EF QQ6 YB6
  go_wp2
  exact bodyPost_ret (v := .agg #[.int .i64 d.b.kind, .int .i64 d.b.label, .bool d.b.skip, .slice a' d.b.words.length c', .int .i64 d.b.left.op, .int .i64 d.b.left.n, .slice la' d.b.left.ks.length lc', .int .i64 d.b.x.op, .int .i64 d.b.x.n, .slice xa' d.b.x.ks.length xc', .int .i64 d.b.n]) (results_cell_row Tryd.results40 _ _ _ _ _ _ _ (by rfl) YF.out Tryd.underlying37 rfl info_blockS) rfl ⟨_, _, _, _, _, _, rfl, BF.out, QF.out⟩
end Go.Proofs.YtlgdjbabbfdngaaDoor
set_option linter.unusedVariables false
set_option linter.unusedSimpArgs false
namespace Go.Proofs.YtlgdjbabbfdngaaDoor
open Go.RowKit
theorem blocks_of {B g : Nat} {w : World} {S : Nat → Prop} {n : Nat} {ds : List Bi} (h : OwnG B w 37 11 (.slice (some ⟨g, 0, none⟩) n n) (ds.map bicell)) (hn : ds.length = n) (hl : n ≤ 100000) (hS : S g) (hk : ∀ d ∈ ds, BiB w S d) : BlksB w S (some ⟨g, 0, none⟩) n (ds.map Bi.b) := by
  have gd : ∀ i (hi : i < ds.length), ds.getD i default = ds[i] := fun i hi => by rw [List.getD_eq_getElem?_getD, List.getElem?_eq_getElem hi]; rfl
  have hlen : (ds.map Bi.b).length = ds.length := List.length_map _
  refine ⟨by omega, by omega, .inr ⟨g, 0, (fun i => ds.getD i default), rfl, hS, fun i hi => ?_⟩⟩
  have hi' : i < ds.length := by omega
  dsimp only
  rw [gd i hi', Nat.zero_add]
  exact ⟨by simp, hk _ (List.getElem_mem hi'), fun j u hj => h.at (g := g) rfl (i := i) (by simpa using hi') (by rw [List.getElem_map]; exact hj)⟩
theorem BiB.kept {w w' : World} {S : Nat → Prop} {d : Bi} (h : BiB w S d) (q : Qw w w') : BiB w' S d := h.go fun b hS hb => ⟨q.block b hb, hS⟩
set_option maxRecDepth 100000 in
set_option maxHeartbeats 4000000 in
theorem cp_blocks (bs : List Sy.Bl) (hl : bs.length ≤ 5000) (IH : ∀ b ∈ bs, Smb b) (a : Option Addr) (cap : Nat) (S : Nat → Prop) (w : World) (h : BlksB w S a cap bs) :
    Calls Tryd.prog 39 #[.slice a bs.length cap, .func (.func 40) #[] #[]] w fun e w' => ∃ a' c', e = .returned (.slice a' bs.length c') ∧ BlksB w' (fun b => w.heap.size ≤ b) a' c' bs ∧ Qw w w' := by
  obtain ⟨w1, hr, hO, hg⟩ := g_make w w.heap.size 37 22 11 136 _ bs.length info_block Tryd.underlying22 rfl (by decide) (by decide) (by omega) (Nat.le_refl _)
  have q1 : Qw w w1 := (Below.refl _ _).grown hg (Nat.le_refl _) (by intro k e; cases e)
  have l1 : bs.length ≤ cap := h.1
  have l2 : cap ≤ 9223372036854775807 := h.2.1
  have HK := Lib.hid h
  have HI := Lib.hid IH
  clear h IH
  go_enter Tryd.func39, Tryd.ntmps39
  go_wp2
  go_loopw [13] (fun iv wr => ∃ (i : Nat) (ds : List Bi), i ≤ bs.length ∧ iv = .int .i64 (i : Int) ∧ ds.length = i ∧ Hid (ds.map Bi.b = bs.take i) ∧ Hid (OwnG w.heap.size wr 37 11 (.slice (some ⟨w.heap.size, 0, none⟩) bs.length bs.length) (ds.map bicell ++ List.replicate (bs.length - i) [.int .i64 0, .int .i64 0, .bool false, .slice none 0 0, .int .i64 0, .int .i64 0, .slice none 0 0, .int .i64 0, .int .i64 0, .slice none 0 0, .int .i64 0])) ∧ Hid (∀ d ∈ ds, BiB wr (fun b => w.heap.size < b) d) ∧ Hid (Qw w wr)) (fun iv _ => bs.length - (intOf iv).toNat)
  case atStart => exact ⟨0, [], by omega, rfl, rfl, Lib.hid rfl, Lib.hid hO, Lib.hid (by simp), Lib.hid q1⟩
  case round =>
    clear hO hg hr q1
    obtain ⟨i, ds, hi, rfl, hds, HX, HO, HD, HQ⟩ := hrel
    have h63 : (i : Int) ≤ 9223372036854775806 := by omega
    have hGr : w.heap.size < wr.heap.size := by have := HO.out.lt (g := w.heap.size) rfl; exact this.2
    have hGn : w.heap.size ≠ wr.heap.size := by omega
    by_cases hlt : i < bs.length
    · have hKr : BlksB wr S a cap bs := HK.out.kept HQ.out
      have sm := HI.out bs[i] (List.getElem_mem hlt)
      rcases hKr.2.2 with h0 | ⟨b, off, f, rfl, hS, hc⟩
      · rw [h0] at hlt; simp at hlt
      · obtain ⟨hb, kk, hz⟩ := hc i hlt
        obtain ⟨d, hd⟩ : ∃ d, d = f i := ⟨_, rfl⟩
        rw [← hd] at hb kk hz
        rw [← hb] at sm
        have HB := Lib.hid hb
        have z0 : wr.cell? ⟨b, off + i * 11, none⟩ = some (.int .i64 d.b.kind) := hz 0 (.int .i64 d.b.kind) rfl
        have z1 := hz 1 (.int .i64 d.b.label) rfl
        have z2 := hz 2 (.bool d.b.skip) rfl
        have z3 := hz 3 (.slice d.wa d.b.words.length d.wc) rfl
        have z4 := hz 4 (.int .i64 d.b.left.op) rfl
        have z5 := hz 5 (.int .i64 d.b.left.n) rfl
        have z6 := hz 6 (.slice d.la d.b.left.ks.length d.lc) rfl
        have z7 := hz 7 (.int .i64 d.b.x.op) rfl
        have z8 := hz 8 (.int .i64 d.b.x.n) rfl
        have z9 := hz 9 (.slice d.xa d.b.x.ks.length d.xc) rfl
        have z10 := hz 10 (.int .i64 d.b.n) rfl
        have KK := Lib.hid kk
        have hi2 : (i : Int) < (bs.length : Int) := by omega
        have bl := cell_lt z0
        have hne : b ≠ wr.heap.size := by omega
        have hu : ∀ w', Qw wr w' → w'.cell? ⟨w.heap.size, i * 11, none⟩ = some (.int .i64 0) ∧ w'.frozen? ⟨w.heap.size, i * 11, none⟩ = false ∧ w'.cell? ⟨w.heap.size, i * 11 + 1, none⟩ = some (.int .i64 0) ∧ w'.frozen? ⟨w.heap.size, i * 11 + 1, none⟩ = false ∧ w'.cell? ⟨w.heap.size, i * 11 + 2, none⟩ = some (.bool false) ∧ w'.frozen? ⟨w.heap.size, i * 11 + 2, none⟩ = false ∧ w'.cell? ⟨w.heap.size, i * 11 + 3, none⟩ = some (.slice none 0 0) ∧ w'.frozen? ⟨w.heap.size, i * 11 + 3, none⟩ = false ∧ w'.cell? ⟨w.heap.size, i * 11 + 4, none⟩ = some (.int .i64 0) ∧ w'.frozen? ⟨w.heap.size, i * 11 + 4, none⟩ = false ∧ w'.cell? ⟨w.heap.size, i * 11 + 5, none⟩ = some (.int .i64 0) ∧ w'.frozen? ⟨w.heap.size, i * 11 + 5, none⟩ = false ∧ w'.cell? ⟨w.heap.size, i * 11 + 6, none⟩ = some (.slice none 0 0) ∧ w'.frozen? ⟨w.heap.size, i * 11 + 6, none⟩ = false ∧ w'.cell? ⟨w.heap.size, i * 11 + 7, none⟩ = some (.int .i64 0) ∧ w'.frozen? ⟨w.heap.size, i * 11 + 7, none⟩ = false ∧ w'.cell? ⟨w.heap.size, i * 11 + 8, none⟩ = some (.int .i64 0) ∧ w'.frozen? ⟨w.heap.size, i * 11 + 8, none⟩ = false ∧ w'.cell? ⟨w.heap.size, i * 11 + 9, none⟩ = some (.slice none 0 0) ∧ w'.frozen? ⟨w.heap.size, i * 11 + 9, none⟩ = false ∧ w'.cell? ⟨w.heap.size, i * 11 + 10, none⟩ = some (.int .i64 0) ∧ w'.frozen? ⟨w.heap.size, i * 11 + 10, none⟩ = false := fun w' q => by
          have o := HO.out.go (w' := w') fun g hg hl => q.block g hl
          have hlen : (ds.map bicell ++ List.replicate (bs.length - i) ([.int .i64 0, .int .i64 0, .bool false, .slice none 0 0, .int .i64 0, .int .i64 0, .slice none 0 0, .int .i64 0, .int .i64 0, .slice none 0 0, .int .i64 0] : List Value)).length = bs.length := by simp; omega
          have c := fun j u (hj : ([.int .i64 0, .int .i64 0, .bool false, .slice none 0 0, .int .i64 0, .int .i64 0, .slice none 0 0, .int .i64 0, .int .i64 0, .slice none 0 0, .int .i64 0] : List Value)[j]? = some u) => o.at (g := w.heap.size) rfl (i := i) (by rw [hlen]; exact hlt) (j := j) (u := u) (by rw [List.getElem_append_right (by simp; omega), List.getElem_replicate]; exact hj)
          exact ⟨c 0 _ rfl, o.free (g := w.heap.size) rfl _, c 1 _ rfl, o.free (g := w.heap.size) rfl _, c 2 _ rfl, o.free (g := w.heap.size) rfl _, c 3 _ rfl, o.free (g := w.heap.size) rfl _, c 4 _ rfl, o.free (g := w.heap.size) rfl _, c 5 _ rfl, o.free (g := w.heap.size) rfl _, c 6 _ rfl, o.free (g := w.heap.size) rfl _, c 7 _ rfl, o.free (g := w.heap.size) rfl _, c 8 _ rfl, o.free (g := w.heap.size) rfl _, c 9 _ rfl, o.free (g := w.heap.size) rfl _, c 10 _ rfl, o.free (g := w.heap.size) rfl _⟩
        have HU := Lib.hid hu
        have CR := Lib.hid (fun w1 (hh : BiB w1 S d) => cp_block d sm S w1 hh)
        unfold CpK at CR
        clear hu hc kk hKr sm hz hb hd
        go_wp2_with (go_at_call 40; with_reducible refine (CR.out _ (BiB.kept KK.out (Qw.al (Qw.refl wr) _))).mono ?_)
        rintro e w' ⟨wa, wc, la, lc, xa, xc, rfl, kb, q⟩
        have q0 : Hid (Qw wr w') := Lib.hid (Qw.trans (Qw.al (Qw.refl wr) _) q)
        obtain ⟨u0, g0, u1, g1, u2, g2, u3, g3, u4, g4, u5, g5, u6, g6, u7, g7, u8, g8, u9, g9, u10, g10⟩ := HU.out w' q0.out
        have hw' : w.heap.size < w'.heap.size := Nat.lt_of_lt_of_le hGr q0.out.size
        have o := (HO.out.go (w' := w') fun g hg hl => q0.out.block g hl).row (g := w.heap.size) rfl (i := i) (by simp; omega) (bicell ⟨d.b, wa, wc, la, lc, xa, xc⟩) rfl
        rw [show bs.length - i = (bs.length - (i + 1)) + 1 by omega, List.replicate_succ, set_next (by simpa using hds)] at o
        have eS : ∀ b, b ≠ w.heap.size → (setCs w' w.heap.size (i * 11) (bicell ⟨d.b, wa, wc, la, lc, xa, xc⟩)).heap[b]? = w'.heap[b]? := fun b hb => setCs_other hb _ _ _
        have qS : Qw w (setCs w' w.heap.size (i * 11) (bicell ⟨d.b, wa, wc, la, lc, xa, xc⟩)) := setCs_qw (Nat.le_refl _) _ _ _ (Qw.trans HQ.out q0.out)
        have hD : ∀ d' ∈ ds ++ [(⟨d.b, wa, wc, la, lc, xa, xc⟩ : Bi)], BiB (setCs w' w.heap.size (i * 11) (bicell ⟨d.b, wa, wc, la, lc, xa, xc⟩)) (fun b => w.heap.size < b) d' := fun d' hd => by
          rcases List.mem_append.1 hd with hd | hd
          · exact (HD.out d' hd).go fun b hb hl => ⟨(eS b (by omega)).trans (q0.out.block b hl), hb⟩
          · obtain rfl := List.mem_singleton.1 hd
            exact kb.go fun b hb hl => ⟨eS b (by simp at hb; omega), by have := hb; simp at this; omega⟩
        have hx2 : (ds ++ [(⟨d.b, wa, wc, la, lc, xa, xc⟩ : Bi)]).map Bi.b = bs.take (i + 1) := by
          rw [List.map_append, HX.out, List.take_succ_eq_append_getElem hlt, ← HB.out]; rfl
        have R := Lib.hid (And.intro hx2 (And.intro o (And.intro hD qS)))
        clear hx2 o hD qS eS kb q HO HD HX HU CR KK
        go_wp2
        go_roundw
        case measure => simp [intOf]; omega
        case rel => exact ⟨i + 1, ds ++ [⟨d.b, wa, wc, la, lc, xa, xc⟩], by omega, by go_num, by simp [hds], Lib.hid R.out.1, Lib.hid (by rw [List.map_append]; exact R.out.2.1), Lib.hid R.out.2.2.1, Lib.hid R.out.2.2.2⟩
    · obtain rfl : i = bs.length := by omega
      have hb : ¬ (bs.length : Int) < (bs.length : Int) := by omega
      have e1 : ds.map Bi.b = bs := by have := HX.out; rwa [List.take_length] at this
      have kf : BlksB wr (fun b => w.heap.size ≤ b) (some ⟨w.heap.size, 0, none⟩) bs.length bs := by
        have o := HO.out
        rw [Nat.sub_self, List.replicate_zero, List.append_nil] at o
        have := blocks_of o hds (by omega) (S := fun b => w.heap.size ≤ b) (Nat.le_refl _) (fun d hd => (HD.out d hd).go fun b hb _ => ⟨rfl, by omega⟩)
        rwa [e1] at this
      go_wp2
      go_ret
      exact ⟨some ⟨w.heap.size, 0, none⟩, bs.length, rfl, kf, HQ.out⟩
end Go.Proofs.YtlgdjbabbfdngaaDoor
set_option linter.unusedVariables false
set_option linter.unusedSimpArgs false
namespace Go.Proofs.YtlgdjbabbfdngaaDoor
open Go.RowKit
theorem words_own {B : Nat} {w : World} {S : Nat → Prop} {v : Value} {ds : List Wd} (h : OwnG B w 56 4 v (ds.map wcell)) (hS : ∀ g, v.ownBlock = some g → S g) (hk : ∀ d ∈ ds, KidsB w S d.a d.n d.x.ks) : ∃ a c, v = .slice a ds.length c ∧ WordsB w S a c (wds ds) := by
  obtain ⟨a, c, e, h1, h2, h3⟩ := h.form
  rw [List.length_map] at e h1
  have hlen : (wds ds).length = ds.length := List.length_map _
  refine ⟨a, c, e, by omega, h2, ?_⟩
  by_cases h0 : ds = []
  · subst h0; exact .inl rfl
  · obtain ⟨g, rfl, _, _⟩ := h3 (by simpa using h0)
    have hg : v.ownBlock = some g := by rw [e]; rfl
    have gd : ∀ i (hi : i < ds.length), ds.getD i default = ds[i] := fun i hi => by rw [List.getD_eq_getElem?_getD, List.getElem?_eq_getElem hi]; rfl
    refine .inr ⟨g, 0, (fun i => (ds.getD i default).a), (fun i => (ds.getD i default).n), rfl, hS g hg, fun i hi => ?_⟩
    have hi' : i < ds.length := by omega
    have c := fun j u hj => h.at (g := g) hg (i := i) (by simpa using hi') (j := j) (u := u) hj
    have c0 := c 0 (.int .i64 ds[i].c) (by rw [List.getElem_map]; rfl)
    have c1 := c 1 (.int .i64 ds[i].x.op) (by rw [List.getElem_map]; rfl)
    have c2 := c 2 (.int .i64 ds[i].x.n) (by rw [List.getElem_map]; rfl)
    have c3 := c 3 (.slice ds[i].a ds[i].x.ks.length ds[i].n) (by rw [List.getElem_map]; rfl)
    have e : (wds ds)[i] = (ds[i].c, ds[i].x) := by simp [wds]
    dsimp only
    rw [gd i hi', e, Nat.zero_add]
    exact ⟨c0, c1, c2, c3, hk _ (List.getElem_mem hi')⟩
def bcq (b : Sy.Bl) (wv : Value) (la : Option Addr) (lc : Nat) (xa : Option Addr) (xc : Nat) : Array Value := #[.int .i64 b.kind, .int .i64 b.label, .bool b.skip, wv, .int .i64 b.left.op, .int .i64 b.left.n, .slice la b.left.ks.length lc, .int .i64 b.x.op, .int .i64 b.x.n, .slice xa b.x.ks.length xc, .int .i64 b.n]
structure Cv (wr : World) (b : Sy.Bl) (la : Option Addr) (lc : Nat) (xa : Option Addr) (xc : Nat) (k : Nat) (ws : List Wd) (wv : Value) (wx : World) : Prop where
  X : Bx wx wr.heap.size (bcq b wv la lc xa xc) 37
  O : OwnG (wr.heap.size + 1) wx 56 4 wv (ws.map wcell)
  D : ∀ e ∈ ws, KidsB wx (fun b => wr.heap.size + 1 ≤ b ∧ wv.ownBlock ≠ some b) e.a e.n e.x.ks
  L : KidsB wx (fun b => wr.heap.size + 1 ≤ b ∧ wv.ownBlock ≠ some b) la lc b.left.ks
  R : KidsB wx (fun b => wr.heap.size + 1 ≤ b ∧ wv.ownBlock ≠ some b) xa xc b.x.ks
  Q : Qw wr wx
  x : wds ws = b.words.take k
theorem Cv.app {wr wx w1 w2 : World} {b : Sy.Bl} {la xa : Option Addr} {lc xc k : Nat} {ws : List Wd} {wv v' : Value} (h : Cv wr b la lc xa xc k ws wv wx) (hk : k < b.words.length) {d : Wd} (hd : (d.c, d.x) = b.words[k]) (q : Qw wx w1) (hkd : KidsB w1 (fun b => wx.heap.size ≤ b) d.a d.n d.x.ks)
    (ho : OwnG (wr.heap.size + 1) w2 56 4 v' (ws.map wcell ++ [wcell d])) (hg : w1.grownBy w2 wv.ownBlock) (hn : ∀ g, v'.ownBlock = some g → wv.ownBlock = some g ∨ w1.heap.size ≤ g) : Cv wr b la lc xa xc (k + 1) (ws ++ [d]) v' (w2.setCell ⟨wr.heap.size, 3, none⟩ v') := by
  have xl := h.X.lt
  have yo : ∀ g, wv.ownBlock = some g → wr.heap.size + 1 ≤ g ∧ g < wx.heap.size := fun g hg => h.O.lt hg
  have s1 := q.size
  have keep : ∀ b, b < w1.heap.size → wv.ownBlock ≠ some b → b ≠ wr.heap.size → (w2.setCell ⟨wr.heap.size, 3, none⟩ v').heap[b]? = w1.heap[b]? := fun b hb hne hY => (Below.heap_setCell w2 ⟨wr.heap.size, 3, none⟩ v' b hY).trans (hg.block b hb (fun e => hne e.symm))
  have nw : ∀ b, b < w1.heap.size → wv.ownBlock ≠ some b → v'.ownBlock ≠ some b := fun b hb hne e => by
    rcases hn b e with k | k
    · exact hne k
    · omega
  have ny : ∀ b, b < wr.heap.size + 1 → wv.ownBlock ≠ some b := fun b hb e => by have := yo b e; omega
  have old : ∀ {a : Option Addr} {c : Nat} {ks : List Sy.Ex}, KidsB wx (fun b => wr.heap.size + 1 ≤ b ∧ wv.ownBlock ≠ some b) a c ks → KidsB (w2.setCell ⟨wr.heap.size, 3, none⟩ v') (fun b => wr.heap.size + 1 ≤ b ∧ v'.ownBlock ≠ some b) a c ks := fun k => k.go fun b hb hl => ⟨(keep b (by omega) hb.2 (by omega)).trans (q.block b hl), hb.1, nw b (by omega) hb.2⟩
  refine ⟨?_, ?_, fun d' hd' => ?_, old h.L, old h.R, ?_, ?_⟩
  · have : Bx w2 wr.heap.size (bcq b wv la lc xa xc) 37 := ((hg.block _ (by omega) (fun e => ny _ (by omega) e.symm)).trans (q.block _ xl)).trans h.X
    exact this.set 3 v'
  · rw [List.map_append]
    exact ho.go fun g hg' _ => Below.heap_setCell w2 ⟨wr.heap.size, 3, none⟩ v' g (by
      show g ≠ wr.heap.size
      rcases hn g hg' with k | k
      · have := yo g k; omega
      · omega)
  · rcases List.mem_append.1 hd' with hd' | hd'
    · exact old (h.D d' hd')
    · obtain rfl := List.mem_singleton.1 hd'
      exact hkd.go fun b hb hl => by
        have hb' : wx.heap.size ≤ b := hb
        have hne : wv.ownBlock ≠ some b := fun e => by have := yo b e; omega
        exact ⟨keep b hl hne (by omega), by omega, nw b hl hne⟩
  · exact Qw.sc ⟨hg.os.trans (q.os.trans h.Q.os), hg.tape.trans (q.tape.trans h.Q.tape), hg.output.trans (q.output.trans h.Q.output), Nat.le_trans (Nat.le_trans h.Q.size q.size) hg.size, fun b hb => (hg.block b (by have := h.Q.size; omega) (fun e => ny b (by omega) e.symm)).trans ((q.block b (by have := h.Q.size; omega)).trans (h.Q.block b hb))⟩ (Nat.le_refl _) v'
  · show (ws ++ [d]).map (fun d => (d.c, d.x)) = _
    have := h.x
    unfold wds at this
    rw [List.map_append, this, List.take_succ_eq_append_getElem hk, ← hd]; rfl
structure Cbk (w : World) (bs : List Sy.Bl) (i : Nat) (ds : List Bi) (ov : Value) (wr : World) : Prop where
  O : OwnK w.heap.size wr ov ds
  D : ∀ d ∈ ds, BiB wr (fun b => w.heap.size ≤ b ∧ ov.ownBlock ≠ some b) d
  Q : Qw w wr
  x : bis ds = bs.take i
theorem Cbk.kept {w wr w1 : World} {bs : List Sy.Bl} {i : Nat} {ds : List Bi} {ov : Value} (h : Cbk w bs i ds ov wr) (q : Qw wr w1) : Cbk w bs i ds ov w1 := ⟨h.O.go fun g _ hl => q.block g hl, fun d hd => (h.D d hd).go fun b hb hl => ⟨q.block b hl, hb⟩, Qw.trans h.Q q, h.x⟩
theorem Cbk.app {w wr w1 w2 : World} {bs : List Sy.Bl} {i : Nat} {ds : List Bi} {ov v' : Value} (h : Cbk w bs i ds ov wr) (hi : i < bs.length) {d : Bi} (hd : d.b = bs[i]) (q : Qw wr w1) (hk : BiB w1 (fun b => wr.heap.size ≤ b) d)
    (ho : OwnK w.heap.size w2 v' (ds ++ [d])) (hg : w1.grownBy w2 ov.ownBlock) (hn : ∀ g, v'.ownBlock = some g → ov.ownBlock = some g ∨ w1.heap.size ≤ g) : Cbk w bs (i + 1) (ds ++ [d]) v' w2 := by
  have yo : ∀ g, ov.ownBlock = some g → w.heap.size ≤ g ∧ g < wr.heap.size := fun g hg => ⟨(h.O.lt hg).1, (h.O.lt hg).2.1⟩
  have s1 := q.size
  have s0 := h.Q.size
  have keep : ∀ b, b < w1.heap.size → ov.ownBlock ≠ some b → w2.heap[b]? = w1.heap[b]? := fun b hb hne => hg.block b hb (fun e => hne e.symm)
  have nw : ∀ b, b < w1.heap.size → ov.ownBlock ≠ some b → v'.ownBlock ≠ some b := fun b hb hne e => by
    rcases hn b e with k | k
    · exact hne k
    · omega
  refine ⟨ho, fun d' hd' => ?_, ?_, ?_⟩
  · rcases List.mem_append.1 hd' with hd' | hd'
    · exact (h.D d' hd').go fun b hb hl => ⟨(keep b (by omega) hb.2).trans (q.block b hl), hb.1, nw b (by omega) hb.2⟩
    · obtain rfl := List.mem_singleton.1 hd'
      exact hk.go fun b hb hl => by
        have hb' : wr.heap.size ≤ b := hb
        have hne : ov.ownBlock ≠ some b := fun e => by have := yo b e; omega
        exact ⟨keep b hl hne, by omega, nw b hl hne⟩
  · exact ⟨hg.os.trans (q.os.trans h.Q.os), hg.tape.trans (q.tape.trans h.Q.tape), hg.output.trans (q.output.trans h.Q.output), Nat.le_trans (Nat.le_trans s0 s1) hg.size, fun b hb => (hg.block b (by omega) (fun e => by have := yo b e.symm; omega)).trans ((q.block b (by omega)).trans (h.Q.block b hb))⟩
  · have := h.x
    unfold bis at this ⊢
    rw [List.map_append, this, List.take_succ_eq_append_getElem hi, ← hd]; rfl
def CqR (w : World) (bs : List Sy.Bl) (e : Ending) (w' : World) : Prop := ∃ a' c', e = .returned (.slice a' bs.length c') ∧ BlksB w' (fun b => w.heap.size ≤ b) a' c' bs ∧ Qw w w'
set_option maxRecDepth 100000 in
set_option maxHeartbeats 4000000 in
theorem cq_blocks (bs : List Sy.Bl) (hl : bs.length ≤ 5000) (IH : ∀ b ∈ bs, Smb b) (a : Option Addr) (cap : Nat) (S : Nat → Prop) (w : World) (h : BlksB w S a cap bs) :
    Calls Tryd.prog 42 #[.slice a bs.length cap] w (CqR w bs) := by
  have l1 : bs.length ≤ cap := h.1
  have l2 : cap ≤ 9223372036854775807 := h.2.1
  have HK := Lib.hid h
  have HI := Lib.hid IH
  clear h IH
  have C0 : Hid (Cbk w bs 0 [] (.slice none 0 0) w) := Lib.hid ⟨OwnK.nil _ _, by simp, Qw.refl w, rfl⟩
  go_enter Tryd.func42, Tryd.ntmps42
  go_wp2
  go_loopw [3, 4] (fun ov iv wr => ∃ (i : Nat) (ds : List Bi), i ≤ bs.length ∧ iv = .int .i64 (i : Int) ∧ ds.length = i ∧ Hid (Cbk w bs i ds ov wr)) (fun _ iv _ => bs.length - (intOf iv).toNat)
  case atStart => exact ⟨0, [], by omega, rfl, rfl, C0⟩
  case round =>
    clear C0
    obtain ⟨i, ds, hi, rfl, hds, C⟩ := hrel
    have hov : ∃ oa on oc, u3 = .slice oa on oc := C.out.O.shape
    obtain ⟨oa, on, oc, rfl⟩ := hov
    have h63 : (i : Int) ≤ 9223372036854775806 := by omega
    have hKr : BlksB wr S a cap bs := HK.out.kept C.out.Q
    by_cases hlt : i < bs.length
    · have sm := HI.out bs[i] (List.getElem_mem hlt)
      rcases hKr.2.2 with h0 | ⟨b, off, f, rfl, hS, hc⟩
      · rw [h0] at hlt; simp at hlt
      obtain ⟨hb, kk, hz⟩ := hc i hlt
      obtain ⟨d, hd⟩ : ∃ d, d = f i := ⟨_, rfl⟩
      rw [← hd] at hb kk hz
      rw [← hb] at sm
      have HB := Lib.hid hb
      have z0 : wr.cell? ⟨b, off + i * 11, none⟩ = some (.int .i64 d.b.kind) := hz 0 (.int .i64 d.b.kind) rfl
      have z1 := hz 1 (.int .i64 d.b.label) rfl
      have z2 := hz 2 (.bool d.b.skip) rfl
      have z3 := hz 3 (.slice d.wa d.b.words.length d.wc) rfl
      have z4 := hz 4 (.int .i64 d.b.left.op) rfl
      have z5 := hz 5 (.int .i64 d.b.left.n) rfl
      have z6 := hz 6 (.slice d.la d.b.left.ks.length d.lc) rfl
      have z7 := hz 7 (.int .i64 d.b.x.op) rfl
      have z8 := hz 8 (.int .i64 d.b.x.n) rfl
      have z9 := hz 9 (.slice d.xa d.b.x.ks.length d.xc) rfl
      have z10 := hz 10 (.int .i64 d.b.n) rfl
      have hi2 : (i : Int) < (bs.length : Int) := by omega
      have bl := cell_lt z0
      have hne : b ≠ wr.heap.size := by omega
      have CL := Lib.hid (fun w1 (q : Qw wr w1) => cq_expr d.b.left sm.l d.la d.lc S w1 (kk.2.1.kept q))
      have CX := Lib.hid (fun w1 (q : Qw wr w1) => cq_expr d.b.x sm.x d.xa d.xc S w1 (kk.2.2.kept q))
      have KW := Lib.hid kk.1
      have CW := Lib.hid (fun k (hk : k < d.b.words.length) (a : Option Addr) (c : Nat) (w1 : World) (h : KidsB w1 S a c d.b.words[k].2.ks) => cq_expr d.b.words[k].2 (sm.ws _ (List.getElem_mem hk)) a c S w1 h)
      have hwl : d.b.words.length ≤ 100 := sm.w
      unfold CqX at CL CX CW
      obtain ⟨S2, hS2⟩ : ∃ S2 : World → Prop, ∀ w', S2 w' ↔ Qw wr w' := ⟨_, fun _ => Iff.rfl⟩
      have HS := Lib.hid hS2
      have CS := Lib.hid (fun w' (h : S2 w') o => ((hS2 w').1 h).cell (p := ⟨b, o, none⟩) bl)
      clear hS2 hc kk hKr sm hb hd hz
      go_wp2
      have Z3 := Lib.hid z3
      have qa : Qw wr (wr.alloc (.cells (bcq d.b (.slice d.wa d.b.words.length d.wc) d.la d.lc d.xa d.xc) 37)) := Qw.al (Qw.refl wr) _
      refine code_of (fun wx => Bx wx wr.heap.size (bcq d.b (.slice d.wa d.b.words.length d.wc) d.la d.lc d.xa d.xc) 37 ∧ Qw wr wx) ⟨Bx.new _ _ _, qa⟩ ?_
      rintro w1 ⟨X1, Q1⟩
      have bn : w1.heap.size ≠ wr.heap.size := by have := X1.lt; omega
      clear qa z0 z1 z2 z3 z10
      refine wp_region_M S2 15 (by kernel_rfl) ?_
      have hSS : S2 (World.drew w1) := (HS.out _).2 (Qw.dr Q1)
      refine wpAnyM_take (i := 0) (v := ?_) rfl (by kernel_rfl) (fun _ _ _ h => h) (Or.inl ⟨by rfl, ?_⟩) hSS ?_
      rotate_left 1
      · intro wS hwS
        go_simp
        try with_reducible rfl
      simp only [List.getElem_toArray, List.getElem_cons_succ, List.getElem_cons_zero, Act.put, List.setIfInBounds_toArray, List.set_cons_zero, List.set_cons_succ]
      refine wpAnyM_take (i := 1) (v := ?_) rfl (by kernel_rfl) (fun _ _ _ h => h) (Or.inl ⟨by rfl, ?_⟩) hSS ?_
      rotate_left 1
      · intro wS hwS
        go_simp
        try with_reducible rfl
      simp only [List.getElem_toArray, List.getElem_cons_succ, List.getElem_cons_zero, Act.put, List.setIfInBounds_toArray, List.set_cons_zero, List.set_cons_succ]
      refine wpAnyM_take (i := 2) (v := ?_) rfl (by kernel_rfl) (fun _ _ _ h => h) (Or.inl ⟨by rfl, ?_⟩) hSS ?_
      rotate_left 1
      · intro wS hwS
        go_simp
        try with_reducible rfl
      simp only [List.getElem_toArray, List.getElem_cons_succ, List.getElem_cons_zero, Act.put, List.setIfInBounds_toArray, List.set_cons_zero, List.set_cons_succ]
      refine wpAnyM_take (i := 3) (v := ?_) rfl (by kernel_rfl) (fun _ _ _ h => h) (Or.inl ⟨by rfl, ?_⟩) hSS ?_
      rotate_left 1
      · intro wS hwS
        go_simp
        try with_reducible rfl
      simp only [List.getElem_toArray, List.getElem_cons_succ, List.getElem_cons_zero, Act.put, List.setIfInBounds_toArray, List.set_cons_zero, List.set_cons_succ]
      refine wpAnyM_take (i := 4) (v := ?_) rfl (by kernel_rfl) (fun _ _ _ h => h) (Or.inl ⟨by rfl, ?_⟩) hSS ?_
      rotate_left 1
      · intro wS hwS
        have c4 := (CS.out wS hwS (off + i * 11 + 4)).trans z4; have c5 := (CS.out wS hwS (off + i * 11 + 5)).trans z5; have c6 := (CS.out wS hwS (off + i * 11 + 6)).trans z6; go_simp
        try with_reducible rfl
      simp only [List.getElem_toArray, List.getElem_cons_succ, List.getElem_cons_zero, Act.put, List.setIfInBounds_toArray, List.set_cons_zero, List.set_cons_succ]
      refine wpAnyM_take (i := 6) (v := ?_) rfl (by kernel_rfl) (fun _ _ _ h => h) (Or.inl ⟨by rfl, ?_⟩) hSS ?_
      rotate_left 1
      · intro wS hwS
        go_simp
        try with_reducible rfl
      simp only [List.getElem_toArray, List.getElem_cons_succ, List.getElem_cons_zero, Act.put, List.setIfInBounds_toArray, List.set_cons_zero, List.set_cons_succ]
      refine wpAnyM_take (i := 7) (v := ?_) rfl (by kernel_rfl) (fun _ _ _ h => h) (Or.inl ⟨by rfl, ?_⟩) hSS ?_
      rotate_left 1
      · intro wS hwS
        go_simp
        try with_reducible rfl
      simp only [List.getElem_toArray, List.getElem_cons_succ, List.getElem_cons_zero, Act.put, List.setIfInBounds_toArray, List.set_cons_zero, List.set_cons_succ]
      refine wpAnyM_take (i := 8) (v := ?_) rfl (by kernel_rfl) (fun _ _ _ h => h) (Or.inl ⟨by rfl, ?_⟩) hSS ?_
      rotate_left 1
      · intro wS hwS
        go_simp
        try with_reducible rfl
      simp only [List.getElem_toArray, List.getElem_cons_succ, List.getElem_cons_zero, Act.put, List.setIfInBounds_toArray, List.set_cons_zero, List.set_cons_succ]
      refine wpAnyM_take (i := 9) (v := ?_) rfl (by kernel_rfl) (fun _ _ _ h => h) (Or.inl ⟨by rfl, ?_⟩) hSS ?_
      rotate_left 1
      · intro wS hwS
        go_simp
        try with_reducible rfl
      simp only [List.getElem_toArray, List.getElem_cons_succ, List.getElem_cons_zero, Act.put, List.setIfInBounds_toArray, List.set_cons_zero, List.set_cons_succ]
      refine wpAnyM_take (i := 10) (v := ?_) rfl (by kernel_rfl) (fun _ _ _ h => h) (Or.inl ⟨by rfl, ?_⟩) hSS ?_
      rotate_left 1
      · intro wS hwS
        have c7 := (CS.out wS hwS (off + i * 11 + 7)).trans z7; have c8 := (CS.out wS hwS (off + i * 11 + 8)).trans z8; have c9 := (CS.out wS hwS (off + i * 11 + 9)).trans z9; go_simp
        try with_reducible rfl
      simp only [List.getElem_toArray, List.getElem_cons_succ, List.getElem_cons_zero, Act.put, List.setIfInBounds_toArray, List.set_cons_zero, List.set_cons_succ]
      refine wpAnyM_one (i := 5) rfl (by kernel_rfl) rfl (fun K hK => ?_)
      go_simp
      refine (CL.out _ (Qw.dr Q1)).mono ?_
      rintro e w3 ⟨la', lc', rfl, kl, q3⟩
      have Q3 : Qw w1 w3 := Qw.trans (Qw.dr (Qw.refl w1)) q3
      have hSS : S2 w3 := (HS.out _).2 (Qw.trans Q1 Q3)
      refine hK _ _ (fun _ => hSS) ?_
      clear hK K q3
      refine wpAnyM_take (i := 12) (v := ?_) rfl (by kernel_rfl) (fun _ _ _ h => h) (Or.inl ⟨by rfl, ?_⟩) hSS ?_
      rotate_left 1
      · intro wS hwS
        go_simp
        try with_reducible rfl
      simp only [List.getElem_toArray, List.getElem_cons_succ, List.getElem_cons_zero, Act.put, List.setIfInBounds_toArray, List.set_cons_zero, List.set_cons_succ]
      refine wpAnyM_one (i := 11) rfl (by kernel_rfl) rfl (fun K hK => ?_)
      go_simp
      refine (CX.out _ (Qw.trans Q1 Q3)).mono ?_
      rintro e w4 ⟨xa', xc', rfl, kx, q4⟩
      have Q4 : Qw w1 w4 := Qw.trans Q3 q4
      have hSS : S2 w4 := (HS.out _).2 (Qw.trans Q1 Q4)
      refine hK _ _ (fun _ => hSS) ?_
      clear hK K
      have s14 := Q1.size
      have X4 := X1.kept Q4
      have y4 := X4.cell' 4 (.int .i64 d.b.left.op) rfl
      have y5 := X4.cell' 5 (.int .i64 d.b.left.n) rfl
      have y6 := X4.cell' 6 (.slice d.la d.b.left.ks.length d.lc) rfl
      have f4 := X4.free 4
      have f5 := X4.free 5
      have f6 := X4.free 6
      have X5 := ((X4.set 4 (.int .i64 d.b.left.op)).set 5 (.int .i64 d.b.left.n)).set 6 (.slice la' d.b.left.ks.length lc')
      have Q5 : Qw wr (((w4.setCell ⟨wr.heap.size, 4, none⟩ (.int .i64 d.b.left.op)).setCell ⟨wr.heap.size, 5, none⟩ (.int .i64 d.b.left.n)).setCell ⟨wr.heap.size, 6, none⟩ (.slice la' d.b.left.ks.length lc')) := Qw.sc (Qw.sc (Qw.sc (Qw.trans Q1 Q4) (Nat.le_refl _) _) (Nat.le_refl _) _) (Nat.le_refl _) _
      have e5 : ∀ b, b ≠ wr.heap.size → (((w4.setCell ⟨wr.heap.size, 4, none⟩ (.int .i64 d.b.left.op)).setCell ⟨wr.heap.size, 5, none⟩ (.int .i64 d.b.left.n)).setCell ⟨wr.heap.size, 6, none⟩ (.slice la' d.b.left.ks.length lc')).heap[b]? = w4.heap[b]? := fun b hb => (Below.heap_setCell _ _ _ b hb).trans ((Below.heap_setCell _ _ _ b hb).trans (Below.heap_setCell _ _ _ b hb))
      refine wpAnyM_one (i := 13) rfl (by kernel_rfl) rfl (fun K hK => ?_)
      go_simp
      refine hK _ (((w4.setCell ⟨wr.heap.size, 4, none⟩ (.int .i64 d.b.left.op)).setCell ⟨wr.heap.size, 5, none⟩ (.int .i64 d.b.left.n)).setCell ⟨wr.heap.size, 6, none⟩ (.slice la' d.b.left.ks.length lc')) (fun _ => (HS.out _).2 Q5) ?_
      clear hK K hSS y4 y5 y6 f4 f5 f6
      have hSS := (HS.out _).2 Q5
      have l5 : ∀ b, b < w4.heap.size → wr.heap.size < b → (((w4.setCell ⟨wr.heap.size, 4, none⟩ (.int .i64 d.b.left.op)).setCell ⟨wr.heap.size, 5, none⟩ (.int .i64 d.b.left.n)).setCell ⟨wr.heap.size, 6, none⟩ (.slice la' d.b.left.ks.length lc')).heap[b]? = w4.heap[b]? := fun b _ hb => e5 b (by omega)
      have xl1 := X1.lt
      have kl5 := kl.go (w' := ((w4.setCell ⟨wr.heap.size, 4, none⟩ (.int .i64 d.b.left.op)).setCell ⟨wr.heap.size, 5, none⟩ (.int .i64 d.b.left.n)).setCell ⟨wr.heap.size, 6, none⟩ (.slice la' d.b.left.ks.length lc')) (T := fun b => wr.heap.size + 1 ≤ b ∧ (Value.slice none 0 0).ownBlock ≠ some b) fun b hb hl => by
        have hb' : w1.heap.size ≤ b := hb
        exact ⟨(l5 b (Nat.lt_of_lt_of_le hl q4.size) (by omega)).trans (q4.block b hl), by omega, by intro e; cases e⟩
      have kx5 := kx.go (w' := ((w4.setCell ⟨wr.heap.size, 4, none⟩ (.int .i64 d.b.left.op)).setCell ⟨wr.heap.size, 5, none⟩ (.int .i64 d.b.left.n)).setCell ⟨wr.heap.size, 6, none⟩ (.slice la' d.b.left.ks.length lc')) (T := fun b => wr.heap.size + 1 ≤ b ∧ (Value.slice none 0 0).ownBlock ≠ some b) fun b hb hl => by
        have hb' : w3.heap.size ≤ b := hb
        have := Q3.size
        exact ⟨l5 b hl (by omega), by omega, by intro e; cases e⟩
      generalize ((w4.setCell ⟨wr.heap.size, 4, none⟩ (.int .i64 d.b.left.op)).setCell ⟨wr.heap.size, 5, none⟩ (.int .i64 d.b.left.n)).setCell ⟨wr.heap.size, 6, none⟩ (.slice la' d.b.left.ks.length lc') = w5 at *
      clear kl kx e5 l5 X4 q4 Q4 Q3 X1 Q1
      have y7 := X5.cell' 7 (.int .i64 d.b.x.op) rfl
      have y8 := X5.cell' 8 (.int .i64 d.b.x.n) rfl
      have y9 := X5.cell' 9 (.slice d.xa d.b.x.ks.length d.xc) rfl
      have f7 := X5.free 7
      have f8 := X5.free 8
      have f9 := X5.free 9
      have X6 := ((X5.set 7 (.int .i64 d.b.x.op)).set 8 (.int .i64 d.b.x.n)).set 9 (.slice xa' d.b.x.ks.length xc')
      have Q6 : Qw wr (((w5.setCell ⟨wr.heap.size, 7, none⟩ (.int .i64 d.b.x.op)).setCell ⟨wr.heap.size, 8, none⟩ (.int .i64 d.b.x.n)).setCell ⟨wr.heap.size, 9, none⟩ (.slice xa' d.b.x.ks.length xc')) := Qw.sc (Qw.sc (Qw.sc Q5 (Nat.le_refl _) _) (Nat.le_refl _) _) (Nat.le_refl _) _
      have e6 : ∀ b, wr.heap.size + 1 ≤ b → (((w5.setCell ⟨wr.heap.size, 7, none⟩ (.int .i64 d.b.x.op)).setCell ⟨wr.heap.size, 8, none⟩ (.int .i64 d.b.x.n)).setCell ⟨wr.heap.size, 9, none⟩ (.slice xa' d.b.x.ks.length xc')).heap[b]? = w5.heap[b]? := fun b hb => (Below.heap_setCell _ _ _ b (by show b ≠ wr.heap.size; omega)).trans ((Below.heap_setCell _ _ _ b (by show b ≠ wr.heap.size; omega)).trans (Below.heap_setCell _ _ _ b (by show b ≠ wr.heap.size; omega)))
      have kl6 := kl5.go (T := fun b => wr.heap.size + 1 ≤ b ∧ (Value.slice none 0 0).ownBlock ≠ some b) fun b hb hl => ⟨e6 b hb.1, hb⟩
      have kx6 := kx5.go (T := fun b => wr.heap.size + 1 ≤ b ∧ (Value.slice none 0 0).ownBlock ≠ some b) fun b hb hl => ⟨e6 b hb.1, hb⟩
      refine wpAnyM_take (i := 14) (v := ?_) rfl (by kernel_rfl) (fun _ _ _ h => h) (Or.inl ⟨by rfl, ?_⟩) hSS ?_
      rotate_left 1
      · intro wS hwS
        go_simp
        try with_reducible rfl
      simp only [List.getElem_toArray, List.getElem_cons_succ, List.getElem_cons_zero, Act.put, List.setIfInBounds_toArray, List.set_cons_zero, List.set_cons_succ]
      refine wpAnyM_one (i := 15) rfl (by kernel_rfl) rfl (fun K hK => ?_)
      go_simp
      refine hK _ (((w5.setCell ⟨wr.heap.size, 7, none⟩ (.int .i64 d.b.x.op)).setCell ⟨wr.heap.size, 8, none⟩ (.int .i64 d.b.x.n)).setCell ⟨wr.heap.size, 9, none⟩ (.slice xa' d.b.x.ks.length xc')) (fun h => absurd h (by decide)) ?_
      generalize ((w5.setCell ⟨wr.heap.size, 7, none⟩ (.int .i64 d.b.x.op)).setCell ⟨wr.heap.size, 8, none⟩ (.int .i64 d.b.x.n)).setCell ⟨wr.heap.size, 9, none⟩ (.slice xa' d.b.x.ks.length xc') = w6 at *
      clear hK K hSS y7 y8 y9 f7 f8 f9 X5 Q5 kl5 kx5 e6 z4 z5 z6 z7 z8 z9
      refine wpAnyM_done (by kernel_rfl) ?_ _
      have y3 := X6.cell' 3 (.slice d.wa d.b.words.length d.wc) rfl
      have f3 := X6.free 3
      have V0 : Hid (Cv wr d.b la' lc' xa' xc' 0 [] (.slice none 0 0) (w6.setCell ⟨wr.heap.size, 3, none⟩ (.slice none 0 0))) := Lib.hid ⟨X6.set 3 (.slice none 0 0), OwnG.nil .., by simp, kl6.go fun b hb hl => ⟨Below.heap_setCell _ _ _ b (by show b ≠ wr.heap.size; omega), hb⟩, kx6.go fun b hb hl => ⟨Below.heap_setCell _ _ _ b (by show b ≠ wr.heap.size; omega), hb⟩, Qw.sc Q6 (Nat.le_refl _) _, rfl⟩
      clear X6 Q6 kl6 kx6 CL CX
      go_wp2
      clear y3 f3
      generalize wr = wq at *
      go_loopw [6] (fun kv wr => ∃ (k : Nat) (ws : List Wd) (wv : Value), k ≤ d.b.words.length ∧ kv = .int .i64 (k : Int) ∧ ws.length = k ∧ Hid (Cv wq d.b la' lc' xa' xc' k ws wv wr)) (fun kv _ => d.b.words.length - (intOf kv).toNat)
      case atStart => exact ⟨0, [], _, by omega, rfl, rfl, V0⟩
      case round =>
        clear V0
        obtain ⟨k', ws, wv, hk, rfl, hws, V⟩ := hrel
        have hwv : ∃ va vn vc, wv = .slice va vn vc := by obtain ⟨a, c, e, _⟩ := V.out.O.form; exact ⟨a, _, c, e⟩
        obtain ⟨va, vn, vc, rfl⟩ := hwv
        have k63 : (k' : Int) ≤ 9223372036854775806 := by omega
        have w3 : wr.cell? ⟨b, off + i * 11 + 3, none⟩ = some (.slice d.wa d.b.words.length d.wc) := (V.out.Q.cell (p := ⟨b, off + i * 11 + 3, none⟩) bl).trans Z3.out
        have xl := V.out.X.lt
        have sx := V.out.Q.size
        by_cases hkl : k' < d.b.words.length
        · have kw := KW.out
          rcases kw.2.2 with h0 | ⟨g, o2, ad, cc, hga, hgS, hgc⟩
          · rw [h0] at hkl; simp at hkl
          obtain ⟨y0, y1, y2, y3, kkw⟩ := hgc k' hkl
          rw [hga] at w3
          clear hga
          have gr := cell_lt y0
          have gl : g < wr.heap.size := by omega
          rw [← V.out.Q.cell (p := ⟨g, o2 + k' * 4, none⟩) gr] at y0
          rw [← V.out.Q.cell (p := ⟨g, o2 + k' * 4 + 1, none⟩) gr] at y1
          rw [← V.out.Q.cell (p := ⟨g, o2 + k' * 4 + 2, none⟩) gr] at y2
          rw [← V.out.Q.cell (p := ⟨g, o2 + k' * 4 + 3, none⟩) gr] at y3
          replace kkw := kkw.kept V.out.Q
          have bx : b < wr.heap.size := by omega
          have v3 := V.out.X.cell' 3 (.slice va vn vc) rfl
          have KK := Lib.hid kkw
          have hk2 : (k' : Int) < (d.b.words.length : Int) := by omega
          have hkc : (d.b.words.length : Int) ≤ 9223372036854775807 := by omega
          have CR := Lib.hid (CW.out k' hkl (ad k') (cc k'))
          obtain ⟨S3, hS3⟩ : ∃ S3 : World → Prop, ∀ w', S3 w' ↔ (w'.cell? ⟨wq.heap.size, 3, none⟩ = some (.slice va vn vc) ∧ w'.cell? ⟨b, off + i * 11 + 3, none⟩ = some (.slice (some ⟨g, o2, none⟩) d.b.words.length d.wc) ∧ w'.cell? ⟨g, o2 + k' * 4, none⟩ = some (.int .i64 d.b.words[k'].1) ∧ w'.cell? ⟨g, o2 + k' * 4 + 1, none⟩ = some (.int .i64 d.b.words[k'].2.op) ∧ w'.cell? ⟨g, o2 + k' * 4 + 2, none⟩ = some (.int .i64 d.b.words[k'].2.n) ∧ w'.cell? ⟨g, o2 + k' * 4 + 3, none⟩ = some (.slice (ad k') d.b.words[k'].2.ks.length (cc k'))) := ⟨_, fun _ => Iff.rfl⟩
          have HS3 := Lib.hid hS3
          have KS := Lib.hid (fun w' (q : Qw wr w') => (hS3 w').2 ⟨(q.cell (p := ⟨wq.heap.size, 3, none⟩) xl).trans v3, (q.cell (p := ⟨b, off + i * 11 + 3, none⟩) bx).trans w3, (q.cell (p := ⟨g, o2 + k' * 4, none⟩) gl).trans y0, (q.cell (p := ⟨g, o2 + k' * 4 + 1, none⟩) gl).trans y1, (q.cell (p := ⟨g, o2 + k' * 4 + 2, none⟩) gl).trans y2, (q.cell (p := ⟨g, o2 + k' * 4 + 3, none⟩) gl).trans y3⟩)
          clear hS3 hgc kkw kw
          go_wp2
          clear y0 y1 y2 y3 w3 v3
          refine wp_region_M S3 25 (by kernel_rfl) ?_
          have hSS : S3 (World.drew wr) := KS.out _ (Qw.dr (Qw.refl wr))
          refine wpAnyM_take (i := 0) (v := ?_) rfl (by kernel_rfl) (fun _ _ _ h => h) (Or.inl ⟨by rfl, ?_⟩) hSS ?_
          rotate_left 1
          · intro wS hwS
            go_simp
            try with_reducible rfl
          simp only [List.getElem_toArray, List.getElem_cons_succ, List.getElem_cons_zero, Act.put, List.setIfInBounds_toArray, List.set_cons_zero, List.set_cons_succ]
          refine wpAnyM_take (i := 1) (v := ?_) rfl (by kernel_rfl) (fun _ _ _ h => h) (Or.inl ⟨by rfl, ?_⟩) hSS ?_
          rotate_left 1
          · intro wS hwS
            obtain ⟨e0, e1, e2, e3, e4, e5⟩ := (HS3.out wS).1 hwS; go_simp
            try with_reducible rfl
          simp only [List.getElem_toArray, List.getElem_cons_succ, List.getElem_cons_zero, Act.put, List.setIfInBounds_toArray, List.set_cons_zero, List.set_cons_succ]
          refine wpAnyM_take (i := 2) (v := ?_) rfl (by kernel_rfl) (fun _ _ _ h => h) (Or.inl ⟨by rfl, ?_⟩) hSS ?_
          rotate_left 1
          · intro wS hwS
            go_simp
            try with_reducible rfl
          simp only [List.getElem_toArray, List.getElem_cons_succ, List.getElem_cons_zero, Act.put, List.setIfInBounds_toArray, List.set_cons_zero, List.set_cons_succ]
          refine wpAnyM_take (i := 3) (v := ?_) rfl (by kernel_rfl) (fun _ _ _ h => h) (Or.inl ⟨by rfl, ?_⟩) hSS ?_
          rotate_left 1
          · intro wS hwS
            go_simp
            try with_reducible rfl
          simp only [List.getElem_toArray, List.getElem_cons_succ, List.getElem_cons_zero, Act.put, List.setIfInBounds_toArray, List.set_cons_zero, List.set_cons_succ]
          refine wpAnyM_take (i := 4) (v := ?_) rfl (by kernel_rfl) (fun _ _ _ h => h) (Or.inl ⟨by rfl, ?_⟩) hSS ?_
          rotate_left 1
          · intro wS hwS
            go_simp
            try with_reducible rfl
          simp only [List.getElem_toArray, List.getElem_cons_succ, List.getElem_cons_zero, Act.put, List.setIfInBounds_toArray, List.set_cons_zero, List.set_cons_succ]
          refine wpAnyM_take (i := 5) (v := ?_) rfl (by kernel_rfl) (fun _ _ _ h => h) (Or.inl ⟨by rfl, ?_⟩) hSS ?_
          rotate_left 1
          · intro wS hwS
            go_simp
            try with_reducible rfl
          simp only [List.getElem_toArray, List.getElem_cons_succ, List.getElem_cons_zero, Act.put, List.setIfInBounds_toArray, List.set_cons_zero, List.set_cons_succ]
          refine wpAnyM_take (i := 6) (v := ?_) rfl (by kernel_rfl) (fun _ _ _ h => h) (Or.inl ⟨by rfl, ?_⟩) hSS ?_
          rotate_left 1
          · intro wS hwS
            obtain ⟨e0, e1, e2, e3, e4, e5⟩ := (HS3.out wS).1 hwS; go_simp
            try with_reducible rfl
          simp only [List.getElem_toArray, List.getElem_cons_succ, List.getElem_cons_zero, Act.put, List.setIfInBounds_toArray, List.set_cons_zero, List.set_cons_succ]
          refine wpAnyM_take (i := 7) (v := ?_) rfl (by kernel_rfl) (fun _ _ _ h => h) (Or.inl ⟨by rfl, ?_⟩) hSS ?_
          rotate_left 1
          · intro wS hwS
            go_simp
            try with_reducible rfl
          simp only [List.getElem_toArray, List.getElem_cons_succ, List.getElem_cons_zero, Act.put, List.setIfInBounds_toArray, List.set_cons_zero, List.set_cons_succ]
          refine wpAnyM_take (i := 8) (v := ?_) rfl (by kernel_rfl) (fun _ _ _ h => h) (Or.inl ⟨by rfl, ?_⟩) hSS ?_
          rotate_left 1
          · intro wS hwS
            go_simp
            try with_reducible rfl
          simp only [List.getElem_toArray, List.getElem_cons_succ, List.getElem_cons_zero, Act.put, List.setIfInBounds_toArray, List.set_cons_zero, List.set_cons_succ]
          refine wpAnyM_take (i := 9) (v := ?_) rfl (by kernel_rfl) (fun _ _ _ h => h) (Or.inl ⟨by rfl, ?_⟩) hSS ?_
          rotate_left 1
          · intro wS hwS
            go_simp
            try with_reducible rfl
          simp only [List.getElem_toArray, List.getElem_cons_succ, List.getElem_cons_zero, Act.put, List.setIfInBounds_toArray, List.set_cons_zero, List.set_cons_succ]
          refine wpAnyM_take (i := 10) (v := ?_) rfl (by kernel_rfl) (fun _ _ _ h => h) (Or.inl ⟨by rfl, ?_⟩) hSS ?_
          rotate_left 1
          · intro wS hwS
            obtain ⟨e0, e1, e2, e3, e4, e5⟩ := (HS3.out wS).1 hwS; go_simp
            try with_reducible rfl
          simp only [List.getElem_toArray, List.getElem_cons_succ, List.getElem_cons_zero, Act.put, List.setIfInBounds_toArray, List.set_cons_zero, List.set_cons_succ]
          refine wpAnyM_take (i := 11) (v := ?_) rfl (by kernel_rfl) (fun _ _ _ h => h) (Or.inl ⟨by rfl, ?_⟩) hSS ?_
          rotate_left 1
          · intro wS hwS
            go_simp
            try with_reducible rfl
          simp only [List.getElem_toArray, List.getElem_cons_succ, List.getElem_cons_zero, Act.put, List.setIfInBounds_toArray, List.set_cons_zero, List.set_cons_succ]
          refine wpAnyM_take (i := 12) (v := ?_) rfl (by kernel_rfl) (fun _ _ _ h => h) (Or.inl ⟨by rfl, ?_⟩) hSS ?_
          rotate_left 1
          · intro wS hwS
            go_simp
            try with_reducible rfl
          simp only [List.getElem_toArray, List.getElem_cons_succ, List.getElem_cons_zero, Act.put, List.setIfInBounds_toArray, List.set_cons_zero, List.set_cons_succ]
          refine wpAnyM_take (i := 13) (v := ?_) rfl (by kernel_rfl) (fun _ _ _ h => h) (Or.inl ⟨by rfl, ?_⟩) hSS ?_
          rotate_left 1
          · intro wS hwS
            go_simp
            try with_reducible rfl
          simp only [List.getElem_toArray, List.getElem_cons_succ, List.getElem_cons_zero, Act.put, List.setIfInBounds_toArray, List.set_cons_zero, List.set_cons_succ]
          refine wpAnyM_take (i := 14) (v := ?_) rfl (by kernel_rfl) (fun _ _ _ h => h) (Or.inl ⟨by rfl, ?_⟩) hSS ?_
          rotate_left 1
          · intro wS hwS
            go_simp
            try with_reducible rfl
          simp only [List.getElem_toArray, List.getElem_cons_succ, List.getElem_cons_zero, Act.put, List.setIfInBounds_toArray, List.set_cons_zero, List.set_cons_succ]
          refine wpAnyM_take (i := 15) (v := ?_) rfl (by kernel_rfl) (fun _ _ _ h => h) (Or.inl ⟨by rfl, ?_⟩) hSS ?_
          rotate_left 1
          · intro wS hwS
            obtain ⟨e0, e1, e2, e3, e4, e5⟩ := (HS3.out wS).1 hwS; go_simp
            try with_reducible rfl
          simp only [List.getElem_toArray, List.getElem_cons_succ, List.getElem_cons_zero, Act.put, List.setIfInBounds_toArray, List.set_cons_zero, List.set_cons_succ]
          refine wpAnyM_take (i := 16) (v := ?_) rfl (by kernel_rfl) (fun _ _ _ h => h) (Or.inl ⟨by rfl, ?_⟩) hSS ?_
          rotate_left 1
          · intro wS hwS
            go_simp
            try with_reducible rfl
          simp only [List.getElem_toArray, List.getElem_cons_succ, List.getElem_cons_zero, Act.put, List.setIfInBounds_toArray, List.set_cons_zero, List.set_cons_succ]
          refine wpAnyM_take (i := 17) (v := ?_) rfl (by kernel_rfl) (fun _ _ _ h => h) (Or.inl ⟨by rfl, ?_⟩) hSS ?_
          rotate_left 1
          · intro wS hwS
            go_simp
            try with_reducible rfl
          simp only [List.getElem_toArray, List.getElem_cons_succ, List.getElem_cons_zero, Act.put, List.setIfInBounds_toArray, List.set_cons_zero, List.set_cons_succ]
          refine wpAnyM_take (i := 18) (v := ?_) rfl (by kernel_rfl) (fun _ _ _ h => h) (Or.inl ⟨by rfl, ?_⟩) hSS ?_
          rotate_left 1
          · intro wS hwS
            go_simp
            try with_reducible rfl
          simp only [List.getElem_toArray, List.getElem_cons_succ, List.getElem_cons_zero, Act.put, List.setIfInBounds_toArray, List.set_cons_zero, List.set_cons_succ]
          refine wpAnyM_take (i := 19) (v := ?_) rfl (by kernel_rfl) (fun _ _ _ h => h) (Or.inl ⟨by rfl, ?_⟩) hSS ?_
          rotate_left 1
          · intro wS hwS
            obtain ⟨e0, e1, e2, e3, e4, e5⟩ := (HS3.out wS).1 hwS; go_simp
            try with_reducible rfl
          simp only [List.getElem_toArray, List.getElem_cons_succ, List.getElem_cons_zero, Act.put, List.setIfInBounds_toArray, List.set_cons_zero, List.set_cons_succ]
          refine wpAnyM_one (i := 20) rfl (by kernel_rfl) rfl (fun K hK => ?_)
          go_simp
          refine (CR.out _ (KK.out.kept (Qw.dr (Qw.refl wr)))).mono ?_
          rintro e w1 ⟨a', c', rfl, kb, q1⟩
          have Q1 : Qw wr w1 := Qw.trans (Qw.dr (Qw.refl wr)) q1
          refine hK _ _ (fun _ => KS.out _ Q1) ?_
          clear hK K hSS
          have hSS : S3 w1 := KS.out _ Q1
          refine wpAnyM_take (i := 21) (v := ?_) rfl (by kernel_rfl) (fun _ _ _ h => h) (Or.inl ⟨by rfl, ?_⟩) hSS ?_
          rotate_left 1
          · intro wS hwS
            go_simp
            try with_reducible rfl
          simp only [List.getElem_toArray, List.getElem_cons_succ, List.getElem_cons_zero, Act.put, List.setIfInBounds_toArray, List.set_cons_zero, List.set_cons_succ]
          refine wpAnyM_one (i := 22) rfl (by kernel_rfl) rfl (fun K hK => ?_)
          go_simp
          have Q2 : Qw wr (w1.alloc (.cells #[.int .i64 d.b.words[k'].1, .int .i64 d.b.words[k'].2.op, .int .i64 d.b.words[k'].2.n, .slice a' d.b.words[k'].2.ks.length c'] 56)) := Qw.al Q1 _
          refine hK _ _ (fun _ => KS.out _ Q2) ?_
          clear hK K hSS
          have kb2 : KidsB (w1.alloc (.cells #[.int .i64 d.b.words[k'].1, .int .i64 d.b.words[k'].2.op, .int .i64 d.b.words[k'].2.n, .slice a' d.b.words[k'].2.ks.length c'] 56)) (fun b => wr.heap.size ≤ b) a' c' d.b.words[k'].2.ks := (kb.alloc _).mono fun b hb => hb
          have O2 := V.out.O.go (w' := w1.alloc (.cells #[.int .i64 d.b.words[k'].1, .int .i64 d.b.words[k'].2.op, .int .i64 d.b.words[k'].2.n, .slice a' d.b.words[k'].2.ks.length c'] 56)) fun g _ hl => Q2.block g hl
          obtain ⟨v', w2, hr, ho, hg, hn⟩ := g_append (ty := 32) 56 32 4 48 _ (wcell ⟨d.b.words[k'].1, d.b.words[k'].2, a', c'⟩) w1.heap.size info_word Tryd.underlying32 rfl (by decide) (by decide) (Bx.new w1 _ _) rfl (by intro u hu; simp [wcell] at hu; rcases hu with rfl | rfl | rfl | rfl <;> rfl) O2 (by rw [List.length_map]; omega) (Nat.le_trans (by omega) Q2.size)
          have hv' : ∃ va vn vc, v' = .slice va vn vc := by obtain ⟨va, vc, e, _⟩ := ho.form; exact ⟨va, _, vc, e⟩
          obtain ⟨va', vn', vc', rfl⟩ := hv'
          have CN := Lib.hid (V.out.app hkl (d := ⟨d.b.words[k'].1, d.b.words[k'].2, a', c'⟩) rfl Q2 kb2 ho hg hn)
          have own : ∀ k, k < wq.heap.size + 1 → (Value.slice va vn vc).ownBlock ≠ some k := fun k hk e => by have := V.out.O.lt e; omega
          have H2 := KS.out _ Q2
          have s2 := Q2.size
          obtain ⟨e0, e1, e2, e3, e4, e5⟩ := (HS3.out _).1 H2
          have gc : ∀ (k o : Nat), k < wq.heap.size + 1 → w2.cell? ⟨k, o, none⟩ = (w1.alloc (.cells #[.int .i64 d.b.words[k'].1, .int .i64 d.b.words[k'].2.op, .int .i64 d.b.words[k'].2.n, .slice a' d.b.words[k'].2.ks.length c'] 56)).cell? ⟨k, o, none⟩ := fun k o hk => World.cell?_of_block (w := w1.alloc (.cells #[.int .i64 d.b.words[k'].1, .int .i64 d.b.words[k'].2.op, .int .i64 d.b.words[k'].2.n, .slice a' d.b.words[k'].2.ks.length c'] 56)) (hg.block k (Nat.lt_of_lt_of_le (show k < wr.heap.size by omega) Q2.size) (fun e => own k hk e.symm))
          have hS2 : S3 w2 := (HS3.out _).2 ⟨(gc _ _ (by omega)).trans e0, (gc _ _ (by omega)).trans e1, (gc _ _ (by omega)).trans e2, (gc _ _ (by omega)).trans e3, (gc _ _ (by omega)).trans e4, (gc _ _ (by omega)).trans e5⟩
          have fY : w2.frozen? ⟨wq.heap.size, 3, none⟩ = false := by
            have : Bx w2 wq.heap.size (bcq d.b (.slice va vn vc) la' lc' xa' xc') 37 := (hg.block _ (Nat.lt_of_lt_of_le xl Q2.size) (fun e => own _ (by omega) e.symm)).trans (V.out.X.kept Q2)
            exact this.free 3
          have cY := ((HS3.out _).1 hS2).1
          refine wpAnyM_one (i := 23) rfl (by kernel_rfl) rfl (fun K hK => ?_)
          refine Lib.wp_append_run _ (.tmp 43) (.tmp 64) 32 32 rfl _ _ (by rfl) (by rfl) _ w2 hr ?_
          refine hK _ _ (fun _ => hS2) ?_
          clear hK K
          have hSS := hS2
          refine wpAnyM_take (i := 24) (v := ?_) rfl (by kernel_rfl) (fun _ _ _ h => h) (Or.inl ⟨by rfl, ?_⟩) hSS ?_
          rotate_left 1
          · intro wS hwS
            go_simp
            try with_reducible rfl
          simp only [List.getElem_toArray, List.getElem_cons_succ, List.getElem_cons_zero, Act.put, List.setIfInBounds_toArray, List.set_cons_zero, List.set_cons_succ]
          refine wpAnyM_one (i := 25) rfl (by kernel_rfl) rfl (fun K hK => ?_)
          go_simp
          refine hK _ (w2.setCell ⟨wq.heap.size, 3, none⟩ (.slice va' vn' vc')) (fun h => absurd h (by decide)) ?_
          clear hK K hSS hS2 fY cY gc own e0 e1 e2 e3 e4 e5 H2 hr ho hg hn O2 kb kb2 Q1 Q2 q1
          refine wpAnyM_done (by kernel_rfl) ?_ _
          go_wp2
          go_roundw
          case measure => simp [intOf]; omega
          case rel => exact ⟨k' + 1, _, _, by omega, by go_num, by simp [hws], CN⟩
        · obtain rfl : k' = d.b.words.length := by omega
          have hbk : ¬ (d.b.words.length : Int) < (d.b.words.length : Int) := by omega
          have ew : wds ws = d.b.words := by have := V.out.x; rwa [List.take_length] at this
          obtain ⟨ka, kc, hke, kd⟩ := words_own V.out.O (S := fun b => wq.heap.size ≤ b) (fun g hg => by have := (V.out.O.lt hg).1; omega) (fun d hd => (V.out.D d hd).go fun b hb _ => ⟨rfl, by omega⟩)
          rw [ew] at kd
          obtain ⟨rfl, rfl, rfl⟩ : va = ka ∧ vn = ws.length ∧ vc = kc := by simpa using hke
          have BB : BiB wr (fun b => wq.heap.size ≤ b) ⟨d.b, va, vc, la', lc', xa', xc'⟩ := ⟨kd, V.out.L.go fun b hb _ => ⟨rfl, by omega⟩, V.out.R.go fun b hb _ => ⟨rfl, by omega⟩⟩
          rw [hws] at V
          have x0 := V.out.X.cell' 0 (.int .i64 d.b.kind) rfl
          have x1 := V.out.X.cell' 1 (.int .i64 d.b.label) rfl
          have x2 := V.out.X.cell' 2 (.bool d.b.skip) rfl
          have x3 := V.out.X.cell' 3 (.slice va d.b.words.length vc) rfl
          have x4 := V.out.X.cell' 4 (.int .i64 d.b.left.op) rfl
          have x5 := V.out.X.cell' 5 (.int .i64 d.b.left.n) rfl
          have x6 := V.out.X.cell' 6 (.slice la' d.b.left.ks.length lc') rfl
          have x7 := V.out.X.cell' 7 (.int .i64 d.b.x.op) rfl
          have x8 := V.out.X.cell' 8 (.int .i64 d.b.x.n) rfl
          have x9 := V.out.X.cell' 9 (.slice xa' d.b.x.ks.length xc') rfl
          have x10 := V.out.X.cell' 10 (.int .i64 d.b.n) rfl
          have QX : Hid (Qw wq wr) := Lib.hid V.out.Q
          have BBH := Lib.hid BB
          have w0l := C.out.Q.size
          clear BB kd hke V ew
          have OX : OwnK w.heap.size (wr.alloc (.cells (bicell ⟨d.b, va, vc, la', lc', xa', xc'⟩).toArray 37)) (.slice oa on oc) ds := ((C.out.kept QX.out).kept (Qw.al (Qw.refl _) _)).O
          have OXH := Lib.hid OX
          have lX : w.heap.size ≤ (wr.alloc (.cells (bicell ⟨d.b, va, vc, la', lc', xa', xc'⟩).toArray 37)).heap.size := by simp; omega
          have LXH := Lib.hid lX
          have CA : ∀ v' w9, OwnK w.heap.size w9 v' (ds ++ [⟨d.b, va, vc, la', lc', xa', xc'⟩]) → (wr.alloc (.cells (bicell ⟨d.b, va, vc, la', lc', xa', xc'⟩).toArray 37)).grownBy w9 (Value.slice oa on oc).ownBlock → (∀ g, v'.ownBlock = some g → (Value.slice oa on oc).ownBlock = some g ∨ (wr.alloc (.cells (bicell ⟨d.b, va, vc, la', lc', xa', xc'⟩).toArray 37)).heap.size ≤ g) → Cbk w bs (i + 1) (ds ++ [⟨d.b, va, vc, la', lc', xa', xc'⟩]) v' w9 := fun v' w9 ho hg hn => C.out.app hlt (d := ⟨d.b, va, vc, la', lc', xa', xc'⟩) HB.out (w1 := (wr.alloc (.cells (bicell ⟨d.b, va, vc, la', lc', xa', xc'⟩).toArray 37))) (Qw.trans QX.out (Qw.al (Qw.refl _) _)) (BiB.kept BBH.out (Qw.al (Qw.refl _) _)) ho hg hn
          have CAH := Lib.hid CA
          clear OX lX CA
          go_wp2_with (at_builtin; refine block_append 67 69 ⟨d.b, va, vc, la', lc', xa', xc'⟩ w.heap.size _ ds _ (by rfl) (by rfl) (Bx.new _ _ _) OXH.out (by omega) LXH.out ?_; intro v' w9 ho hg hn; have CN := Lib.hid (CAH.out v' w9 ho hg hn); clear ho hg hn)
          go_roundw
          case measure => simp [intOf]; omega
          case rel => exact ⟨i + 1, _, by omega, by go_num, by simp [hds], CN⟩
    · obtain rfl : i = bs.length := by omega
      have hb : ¬ (bs.length : Int) < (bs.length : Int) := by omega
      have e1 : bis ds = bs := by have := C.out.x; rwa [List.take_length] at this
      obtain ⟨ka, kc, hke, kd⟩ := C.out.O.blocks (S := fun b => w.heap.size ≤ b) (fun g hg => (C.out.O.lt hg).1) (fun d hd => (C.out.D d hd).go fun b hb _ => ⟨rfl, hb.1⟩)
      rw [e1] at kd
      obtain ⟨rfl, rfl, rfl⟩ : oa = ka ∧ on = ds.length ∧ oc = kc := by simpa using hke
      have KD := Lib.hid kd
      rw [hds] at C ⊢
      clear kd hke
      go_wp2
      go_ret
      exact ⟨oa, oc, rfl, KD.out, C.out.Q⟩
end Go.Proofs.YtlgdjbabbfdngaaDoor

