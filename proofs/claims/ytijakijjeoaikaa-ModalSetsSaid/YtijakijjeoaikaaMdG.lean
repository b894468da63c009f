
/- What a modal state keeps: one code of each group, and numbers in their ranges. -/
import Derived.Test.YtijakijjeoaikaaMdQ
set_option linter.unusedVariables false
set_option linter.unusedSimpArgs false
namespace Go.Proofs.Ytijakijjeoaikaa.Md

/-- A state with a code of each group, and numbers in their ranges. -/
structure Ok (s : S) : Prop where
  g1 : grp 71 s.mo = 1
  g2 : grp 71 s.pl = 2
  g3 : grp 71 s.di = 3
  g4 : grp 71 s.un = 4
  g5 : grp 71 s.fe = 5
  g6 : grp 71 s.cu = 6
  g7 : grp 71 s.le = 7
  g8 : grp 71 s.re = 8
  g9 : grp 71 s.sy = 9
  g10 : grp 71 s.pa = 10
  g11 : grp 71 s.po = 11
  g12 : grp 71 s.tu = 12
  g22 : grp 77 s.sp = 22
  fd : 0 ≤ s.fd ∧ s.fd ≤ 60000000
  se : 0 ≤ s.se ∧ s.se ≤ 30000
  tl : 0 ≤ s.tl ∧ s.tl ≤ 32
  lo : 0 ≤ s.lo ∧ s.lo ≤ 32
  h : 0 ≤ s.h ∧ s.h ≤ 32
  d : 0 ≤ s.d ∧ s.d ≤ 32
  bl : 0 ≤ s.bl ∧ s.bl ≤ 1000
theorem ok_start : Ok S.start := by constructor <;> decide +kernel
theorem gof_let (p : Int × Int) : (1 ≤ gof p → gof p ≤ 14 → grp 71 (cv p) = gof p) ∧ (gof p = 22 → grp 77 (cv p) = 22) := by
  have e : gof p ≠ 0 → gof p = grp p.1 (cv p) := fun h => by
    have k := gof_pos h
    have c : cv p = wholev p.2 := by unfold cv; rw [if_pos k.1]
    rw [c]; exact k.2.1
  have m := grpM_bd (cv p)
  have g := grpG_bd (cv p)
  have e71 : grp 71 (cv p) = grpG (cv p) := by unfold grp; rw [if_pos rfl]
  have e77 : grp 77 (cv p) = grpM (cv p) := by unfold grp; rw [if_neg (by decide), if_pos rfl]
  by_cases h0 : gof p = 0
  · omega
  · have e := e h0
    by_cases h1 : p.1 = 71
    · rw [h1, e71] at e; omega
    · by_cases h2 : p.1 = 77
      · rw [h2, e77] at e; omega
      · have : grp p.1 (cv p) = 0 := by unfold grp; rw [if_neg h1, if_neg h2]
        omega
theorem Ok.wgc {s : S} (o : Ok s) (g c : Int) (h1 : 1 ≤ g → g ≤ 14 → grp 71 c = g) (h2 : g = 22 → grp 77 c = 22) : Ok (wgc s g c) := by
  obtain ⟨g1, g2, g3, g4, g5, g6, g7, g8, g9, g10, g11, g12, g22, fd, se, tl, lo, h, d, bl⟩ := o
  have z32 : 0 ≤ (0 : Int) ∧ (0 : Int) ≤ 32 := by decide
  have z1000 : 0 ≤ (0 : Int) ∧ (0 : Int) ≤ 1000 := by decide
  unfold Md.wgc
  by_cases k : g = 1
  · subst k; exact ⟨h1 (by decide) (by decide), g2, g3, g4, g5, g6, g7, g8, g9, g10, g11, g12, g22, fd, se, tl, lo, h, d, bl⟩
  rw [if_neg k]; clear k
  by_cases k : g = 2
  · subst k; exact ⟨g1, h1 (by decide) (by decide), g3, g4, g5, g6, g7, g8, g9, g10, g11, g12, g22, fd, se, tl, lo, h, d, bl⟩
  rw [if_neg k]; clear k
  by_cases k : g = 3
  · subst k; exact ⟨g1, g2, h1 (by decide) (by decide), g4, g5, g6, g7, g8, g9, g10, g11, g12, g22, fd, se, tl, lo, h, d, bl⟩
  rw [if_neg k]; clear k
  by_cases k : g = 4
  · subst k; exact ⟨g1, g2, g3, h1 (by decide) (by decide), g5, g6, g7, g8, g9, g10, g11, g12, g22, fd, se, tl, lo, h, d, bl⟩
  rw [if_neg k]; clear k
  by_cases k : g = 5
  · subst k; exact ⟨g1, g2, g3, g4, h1 (by decide) (by decide), g6, g7, g8, g9, g10, g11, g12, g22, fd, se, tl, lo, h, d, bl⟩
  rw [if_neg k]; clear k
  by_cases k : g = 6
  · subst k
    rw [if_pos rfl]
    split
    · exact ⟨g1, g2, g3, g4, g5, h1 (by decide) (by decide), g7, g8, g9, g10, g11, g12, g22, fd, se, tl, lo, h, z32, bl⟩
    · exact ⟨g1, g2, g3, g4, g5, h1 (by decide) (by decide), g7, g8, g9, g10, g11, g12, g22, fd, se, tl, lo, h, d, bl⟩
  rw [if_neg k]; clear k
  by_cases k : g = 7
  · subst k
    rw [if_pos rfl]
    split
    · exact ⟨g1, g2, g3, g4, g5, g6, h1 (by decide) (by decide), g8, g9, g10, g11, g12, g22, fd, se, tl, lo, z32, d, bl⟩
    · exact ⟨g1, g2, g3, g4, g5, g6, h1 (by decide) (by decide), g8, g9, g10, g11, g12, g22, fd, se, tl, lo, h, d, bl⟩
  rw [if_neg k]; clear k
  by_cases k : g = 8
  · subst k; exact ⟨g1, g2, g3, g4, g5, g6, g7, h1 (by decide) (by decide), g9, g10, g11, g12, g22, fd, se, tl, lo, h, d, bl⟩
  rw [if_neg k]; clear k
  by_cases k : g = 9
  · subst k; exact ⟨g1, g2, g3, g4, g5, g6, g7, g8, h1 (by decide) (by decide), g10, g11, g12, g22, fd, se, tl, lo, h, d, bl⟩
  rw [if_neg k]; clear k
  by_cases k : g = 10
  · subst k; exact ⟨g1, g2, g3, g4, g5, g6, g7, g8, g9, h1 (by decide) (by decide), g11, g12, g22, fd, se, tl, lo, h, d, z1000⟩
  rw [if_neg k]; clear k
  by_cases k : g = 11
  · subst k; exact ⟨g1, g2, g3, g4, g5, g6, g7, g8, g9, g10, h1 (by decide) (by decide), g12, g22, fd, se, tl, lo, h, d, bl⟩
  rw [if_neg k]; clear k
  by_cases k : g = 12
  · subst k; exact ⟨g1, g2, g3, g4, g5, g6, g7, g8, g9, g10, g11, h1 (by decide) (by decide), g22, fd, se, tl, lo, h, d, bl⟩
  rw [if_neg k]; clear k
  by_cases k : g = 22
  · subst k; exact ⟨g1, g2, g3, g4, g5, g6, g7, g8, g9, g10, g11, g12, h2 rfl, fd, se, tl, lo, h, d, bl⟩
  rw [if_neg k]; clear k
  by_cases k : g = 24
  · subst k
    rw [if_pos rfl]
    unfold wcl
    by_cases c7 : c = 7
    · rw [if_pos c7]; exact ⟨g1, g2, g3, g4, g5, g6, g7, g8, g9, g10, g11, g12, g22, fd, se, tl, lo, h, d, bl⟩
    rw [if_neg c7]
    by_cases c8 : c = 8
    · rw [if_pos c8]; exact ⟨g1, g2, g3, g4, g5, g6, g7, g8, g9, g10, g11, g12, g22, fd, se, tl, lo, h, d, bl⟩
    rw [if_neg c8]
    by_cases c9 : c = 9
    · rw [if_pos c9]; exact ⟨g1, g2, g3, g4, g5, g6, g7, g8, g9, g10, g11, g12, g22, fd, se, tl, lo, h, d, bl⟩
    rw [if_neg c9]; exact ⟨g1, g2, g3, g4, g5, g6, g7, g8, g9, g10, g11, g12, g22, fd, se, tl, lo, h, d, bl⟩
  rw [if_neg k]
  exact ⟨g1, g2, g3, g4, g5, g6, g7, g8, g9, g10, g11, g12, g22, fd, se, tl, lo, h, d, bl⟩
theorem Ok.wcs {s : S} (o : Ok s) (p : Int × Int) : Ok (wcs s p) := o.wgc _ _ (gof_let p).1 (gof_let p).2
theorem Ok.codes {s : S} (o : Ok s) (l : V) : Ok (codes s l) := by
  unfold Md.codes
  induction l generalizing s with
  | nil => exact o
  | cons p l ih => exact ih (o.wcs p)
theorem rev_bd {n u : Int} (h : ree n u = 0) : 0 ≤ rev n u ∧ rev n u ≤ 60000000 := by
  unfold rev
  rw [if_pos h]
  unfold ree at h
  split at h
  · split at h
    · omega
    · omega
  · omega
theorem nst_bd {l : V} {c m was : Int} (h : nok l c m = true) (w : 0 ≤ was ∧ was ≤ m) : 0 ≤ nst l c was ∧ nst l c was ≤ m := by
  unfold nst
  unfold nok at h
  by_cases k : fo l c = true
  · rw [if_pos k]
    rw [k] at h
    simp at h
    exact ⟨h.1.2, h.2⟩
  · rw [if_neg k]; exact w
theorem Ok.aps {s : S} (o : Ok s) {l : V} (h : ape s l = 0) : Ok (aps s l) := by
  unfold Md.aps
  rw [if_pos h]
  unfold ape at h
  have o1 := o.codes l
  split at h
  · rename_i k; exact absurd h k
  generalize Md.codes s l = t at *
  unfold wde at h
  split at h
  · rename_i k; exact absurd h k
  rename_i kf
  split at h
  · rename_i k; exact absurd h k
  rename_i kn
  have kf : fde t l = 0 := by omega
  have kn : nue l = 0 := by omega
  have o2 : Ok (fds t l) ∧ (fds t l).un = t.un := by
    unfold fds
    unfold fde at kf
    by_cases k : fo l 70 = true
    · rw [if_pos k] at kf ⊢
      obtain ⟨g1, g2, g3, g4, g5, g6, g7, g8, g9, g10, g11, g12, g22, fd, se, tl, lo, h, d, bl⟩ := o1
      exact ⟨⟨g1, g2, g3, g4, g5, g6, g7, g8, g9, g10, g11, g12, g22, rev_bd kf, se, tl, lo, h, d, bl⟩, rfl⟩
    · rw [if_neg k]; exact ⟨o1, rfl⟩
  obtain ⟨o2, u2⟩ := o2
  have o3 : Ok (nus (fds t l) l) := by
    unfold nue at kn
    split at kn
    · rename_i k
      simp only [Bool.and_eq_true] at k
      obtain ⟨⟨⟨ks, kt⟩, kh⟩, kd⟩ := k
      obtain ⟨g1, g2, g3, g4, g5, g6, g7, g8, g9, g10, g11, g12, g22, fd, se, tl, lo, h, d, bl⟩ := o2
      exact ⟨g1, g2, g3, g4, g5, g6, g7, g8, g9, g10, g11, g12, g22, fd, nst_bd ks se, nst_bd kt tl, lo, nst_bd kh h, nst_bd kd d, bl⟩
    · omega
  have u3 : (nus (fds t l) l).un = t.un := u2
  have o4 : Ok (wds t l) := by
    unfold wds bls
    generalize nus (fds t l) l = r at *
    by_cases k : blw l = true
    · rw [if_pos k]
      unfold ble at h
      rw [if_pos k] at h
      split at h
      · omega
      · rename_i kb
        have : 0 ≤ lenv (fv l 80) t.un ∧ lenv (fv l 80) t.un ≤ 1000 := by omega
        rw [← u3] at this
        obtain ⟨g1, g2, g3, g4, g5, g6, g7, g8, g9, g10, g11, g12, g22, fd, se, tl, lo, h, d, bl⟩ := o3
        exact ⟨g1, g2, g3, g4, g5, g6, g7, g8, g9, g10, g11, g12, g22, fd, se, tl, lo, h, d, this⟩
    · rw [if_neg k]; exact o3
  unfold lod
  split
  · obtain ⟨g1, g2, g3, g4, g5, g6, g7, g8, g9, g10, g11, g12, g22, fd, se, tl, lo, h, d, bl⟩ := o4
    exact ⟨g1, g2, g3, g4, g5, g6, g7, g8, g9, g10, g11, g12, g22, fd, se, tl, tl, h, d, bl⟩
  · exact o4
theorem aps_zero {s : S} {l : V} (h : ape s l ≠ 0) : aps s l = S.zero := by unfold aps; rw [if_neg h]
end Go.Proofs.Ytijakijjeoaikaa.Md
