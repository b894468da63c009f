import Derived.Test.YtnjcbgnghfppoaaDoorGS
import Derived.Test.YtnjcbgnghfppoaaDoorGK
import Derived.OpenShut

/- What the frames of rows with a frame as an argument share. -/
set_option linter.unusedVariables false
set_option linter.unusedSimpArgs false
namespace Go.Proofs.YtnjcbgnghfppoaaDoor
open Go Go.ChangeShapes Go.WideShapes Go.ChangeAt Go.RowKit Go.Joins

theorem cVecF : Tryd.prog.cellsOf 23 = 3 := by kernel_rfl
theorem cSysF : Tryd.prog.cellsOf 24 = 18 := by kernel_rfl
theorem cFrmF : Tryd.prog.cellsOf 26 = 32 := by kernel_rfl
section
variable {H : Type} {enc : TypeId × Value → H} {w : World} {base : Nat} {spare : Nat → Bool} {held : Bool}
/-- Three cells that read as a vector. -/
theorem vec_cells {m : Nat} {c0 c1 c2 : Value} {x : DataW H × List MemPlace} (h : DataW.trod enc Tryd.prog w base spare held m 23 [c0, c1, c2] = some x) :
    ∃ a b c : Int, c0 = .int .i64 a ∧ c1 = .int .i64 b ∧ c2 = .int .i64 c ∧ (Lit.int .i64 a).wf = true ∧ (Lit.int .i64 b).wf = true ∧ (Lit.int .i64 c).wf = true := by
  obtain ⟨xs, j, _, _, _, hxl, hfs⟩ := DataW.trod_struct Tryd.underlying23 h
  match xs, hxl with
  | [y0, y1, y2], _ =>
    have g0 := hfs 0 _ rfl
    have g1 := hfs 1 _ rfl
    have g2 := hfs 2 _ rfl
    simp [cIntM, Value.cells] at g0 g1 g2
    obtain ⟨x0, k0, _, w0⟩ := DataW.trod_int Tryd.underlying3 g0
    obtain ⟨x1, k1, _, w1⟩ := DataW.trod_int Tryd.underlying3 g1
    obtain ⟨x2, k2, _, w2⟩ := DataW.trod_int Tryd.underlying3 g2
    simp only [List.cons.injEq, and_true] at k0 k1 k2
    exact ⟨x0, x1, x2, k0, k1, k2, w0, w1, w2⟩
end
set_option maxRecDepth 100000 in
set_option maxHeartbeats 8000000 in
theorem open_fr {H : Type} {enc : TypeId × Value → H} {W : World} {base : Nat} {v : Value} {d : DataW H} {p : List MemPlace} (hval : Value.okWide Tryd.prog W .any base 26 v)
    (h : DataW.Trod enc Tryd.prog W 0 (fun _ => true) true 26 v d p) : ∃ f, v = .agg (frc f) ∧ Fm.Wf f := by
  obtain ⟨cs, rfl, hsz⟩ := okWide_struct Tryd.underlying26 hval
  rw [cFrmF] at hsz
  obtain ⟨fuel, hf⟩ := h
  obtain ⟨xs, j, _, _, _, hxl, hfs⟩ := DataW.trod_struct Tryd.underlying26 hf
  obtain ⟨l⟩ := cs
  match l, hsz with
  | [c0, c1, c2, c3, c4, c5, c6, c7, c8, c9, c10, c11, c12, c13, c14, c15, c16, c17, c18, c19, c20, c21, c22, c23, c24, c25, c26, c27, c28, c29, c30, c31], _ =>
    match xs, hxl with
    | [y0, y1, y2, y3, y4, y5, y6, y7, y8], _ =>
      have g0 := hfs 0 _ rfl
      have g1 := hfs 1 _ rfl
      have g2 := hfs 2 _ rfl
      have g3 := hfs 3 _ rfl
      have g4 := hfs 4 _ rfl
      have g5 := hfs 5 _ rfl
      have g6 := hfs 6 _ rfl
      have g7 := hfs 7 _ rfl
      have g8 := hfs 8 _ rfl
      simp [cIntM, cBoolM, cVecF, cSysF, Value.cells] at g0 g1 g2 g3 g4 g5 g6 g7 g8
      obtain ⟨zs, mm, _, _, _, hzl, hz⟩ := DataW.trod_array Tryd.underlying24 g0
      match zs, hzl with
      | [s0, s1, s2, s3, s4, s5], _ =>
        have q0 := hz 0 (by decide)
        have q1 := hz 1 (by decide)
        have q2 := hz 2 (by decide)
        have q3 := hz 3 (by decide)
        have q4 := hz 4 (by decide)
        have q5 := hz 5 (by decide)
        simp [cVecF] at q0 q1 q2 q3 q4 q5
        obtain ⟨a0, b0, d0, ra0, rb0, rd0, wa0, wb0, wd0⟩ := vec_cells q0
        obtain ⟨a1, b1, d1, ra1, rb1, rd1, wa1, wb1, wd1⟩ := vec_cells q1
        obtain ⟨a2, b2, d2, ra2, rb2, rd2, wa2, wb2, wd2⟩ := vec_cells q2
        obtain ⟨a3, b3, d3, ra3, rb3, rd3, wa3, wb3, wd3⟩ := vec_cells q3
        obtain ⟨a4, b4, d4, ra4, rb4, rd4, wa4, wb4, wd4⟩ := vec_cells q4
        obtain ⟨a5, b5, d5, ra5, rb5, rd5, wa5, wb5, wd5⟩ := vec_cells q5
        obtain ⟨e1, k1, _, w1⟩ := DataW.trod_int Tryd.underlying3 g1
        simp only [List.cons.injEq, and_true] at k1
        obtain ⟨lx, ly, lz, rl1, rl2, rl3, wl1, wl2, wl3⟩ := vec_cells g2
        obtain ⟨sx, sy, sz, rs1, rs2, rs3, ws1, ws2, ws3⟩ := vec_cells g3
        obtain ⟨e4, k4, _, w4⟩ := DataW.trod_int Tryd.underlying3 g4
        simp only [List.cons.injEq, and_true] at k4
        obtain ⟨tt, k5, _⟩ := DataW.trod_bool Tryd.underlying4 g5
        simp only [List.cons.injEq, and_true] at k5
        obtain ⟨e6, k6, _, w6⟩ := DataW.trod_int Tryd.underlying3 g6
        simp only [List.cons.injEq, and_true] at k6
        obtain ⟨ex, ey, ez, re1, re2, re3, we1, we2, we3⟩ := vec_cells g7
        obtain ⟨e8, k8, _, w8⟩ := DataW.trod_int Tryd.underlying3 g8
        simp only [List.cons.injEq, and_true] at k8
        subst ra0 rb0 rd0 ra1 rb1 rd1 ra2 rb2 rd2 ra3 rb3 rd3 ra4 rb4 rd4 ra5 rb5 rd5 k1 rl1 rl2 rl3 rs1 rs2 rs3 k4 k5 k6 re1 re2 re3 k8
        refine ⟨⟨fun k => match k with | 0 => a0 | 1 => b0 | 2 => d0 | 3 => a1 | 4 => b1 | 5 => d1 | 6 => a2 | 7 => b2 | 8 => d2 | 9 => a3 | 10 => b3 | 11 => d3 | 12 => a4 | 13 => b4 | 14 => d4 | 15 => a5 | 16 => b5 | 17 => d5 | _ => 0, e1, lx, ly, lz, sx, sy, sz, e4, tt, e6, ex, ey, ez, e8⟩, rfl, ?_⟩
        refine ⟨fun k hk => ?_, wfM w1, wfM wl1, wfM wl2, wfM wl3, wfM ws1, wfM ws2, wfM ws3, wfM w4, wfM w6, wfM we1, wfM we2, wfM we3, wfM w8⟩
        have hk18 : k = 0 ∨ k = 1 ∨ k = 2 ∨ k = 3 ∨ k = 4 ∨ k = 5 ∨ k = 6 ∨ k = 7 ∨ k = 8 ∨ k = 9 ∨ k = 10 ∨ k = 11 ∨ k = 12 ∨ k = 13 ∨ k = 14 ∨ k = 15 ∨ k = 16 ∨ k = 17 := by omega
        rcases hk18 with rfl | rfl | rfl | rfl | rfl | rfl | rfl | rfl | rfl | rfl | rfl | rfl | rfl | rfl | rfl | rfl | rfl | rfl
        · exact wfM wa0
        · exact wfM wb0
        · exact wfM wd0
        · exact wfM wa1
        · exact wfM wb1
        · exact wfM wd1
        · exact wfM wa2
        · exact wfM wb2
        · exact wfM wd2
        · exact wfM wa3
        · exact wfM wb3
        · exact wfM wd3
        · exact wfM wa4
        · exact wfM wb4
        · exact wfM wd4
        · exact wfM wa5
        · exact wfM wb5
        · exact wfM wd5
theorem out_fr {H : Type} {enc : TypeId × Value → H} {W W' : World} {v : Value} {d : DataW H} {p : List MemPlace} (h : DataW.Trod enc Tryd.prog W 0 (fun _ => true) true 26 v d p) (bel : Below W.heap.size W W')
    (hlt : ∀ x ∈ p, x.block < W.heap.size) : DataW.Trod enc Tryd.prog W' 0 (fun b => decide (b < W.heap.size)) true 26 v d p :=
  Below.trod laidOutM (by kernel_rfl) (of_decide_eq_true (by kernel_rfl)) h bel hlt
end Go.Proofs.YtnjcbgnghfppoaaDoor
