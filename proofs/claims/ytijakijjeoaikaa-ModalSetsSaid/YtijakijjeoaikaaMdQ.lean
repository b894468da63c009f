
/- Plain facts about modal groups: the state as the specification reckons it. -/
import Derived.Test.YtijakijjeoaikaaMdP
set_option linter.unusedVariables false
set_option linter.unusedSimpArgs false
namespace Go.Proofs.Ytijakijjeoaikaa.Md

/-- The same, field by field. -/
def wgf (s : S) (g c : Int) : S :=
  { mo := if g = 1 then c else s.mo, pl := if g = 2 then c else s.pl, di := if g = 3 then c else s.di, un := if g = 4 then c else s.un, fe := if g = 5 then c else s.fe, cu := if g = 6 then c else s.cu, le := if g = 7 then c else s.le, re := if g = 8 then c else s.re, sy := if g = 9 then c else s.sy, pa := if g = 10 then c else s.pa, po := if g = 11 then c else s.po, tu := if g = 12 then c else s.tu, sp := if g = 22 then c else s.sp, mi := if g = 24 then (wcl s c).mi else s.mi, fl := if g = 24 then (wcl s c).fl else s.fl, bl := if g = 10 then 0 else s.bl, fd := s.fd, se := s.se, tl := s.tl, lo := s.lo, h := if g = 7 ∧ c = 49 then 0 else s.h, d := if g = 6 ∧ c = 40 then 0 else s.d }
theorem wcl_keep (s : S) (c : Int) : wcl s c = { s with mi := (wcl s c).mi, fl := (wcl s c).fl } := by
  unfold wcl
  by_cases h7 : c = 7
  · rw [if_pos h7]
  · by_cases h8 : c = 8
    · rw [if_neg h7, if_pos h8]
    · by_cases h9 : c = 9
      · rw [if_neg h7, if_neg h8, if_pos h9]
      · rw [if_neg h7, if_neg h8, if_neg h9]
set_option maxRecDepth 100000 in
theorem wgf_eq (s : S) (g c : Int) : wgc s g c = wgf s g c := by
  by_cases h1 : g = 1
  · subst h1; rfl
  by_cases h2 : g = 2
  · subst h2; rfl
  by_cases h3 : g = 3
  · subst h3; rfl
  by_cases h4 : g = 4
  · subst h4; rfl
  by_cases h5 : g = 5
  · subst h5; rfl
  by_cases h6 : g = 6
  · subst h6
    by_cases hc : c = 40
    · subst hc; rfl
    · show (if c = 40 then _ else _) = _
      rw [if_neg hc]; unfold wgf; rw [if_neg (show ¬ ((6 : Int) = 6 ∧ c = 40) from fun h => hc h.2)]; rfl
  by_cases h7 : g = 7
  · subst h7
    by_cases hc : c = 49
    · subst hc; rfl
    · show (if c = 49 then _ else _) = _
      rw [if_neg hc]; unfold wgf; rw [if_neg (show ¬ ((7 : Int) = 7 ∧ c = 49) from fun h => hc h.2)]; rfl
  by_cases h8 : g = 8
  · subst h8; rfl
  by_cases h9 : g = 9
  · subst h9; rfl
  by_cases h10 : g = 10
  · subst h10; rfl
  by_cases h11 : g = 11
  · subst h11; rfl
  by_cases h12 : g = 12
  · subst h12; rfl
  by_cases h22 : g = 22
  · subst h22; rfl
  by_cases h24 : g = 24
  · subst h24
    exact wcl_keep s c
  unfold wgc wgf
  simp only [if_neg h1, if_neg h2, if_neg h3, if_neg h4, if_neg h5, if_neg h6, if_neg h7, if_neg h8, if_neg h9, if_neg h10, if_neg h11, if_neg h12, if_neg h22, if_neg h24, if_neg (show ¬ (g = 7 ∧ c = 49) from fun h => h7 h.1), if_neg (show ¬ (g = 6 ∧ c = 40) from fun h => h6 h.1)]

theorem hg_cons (p : Int × Int) (l : V) (g : Int) : hg (p :: l) g = (decide (gof p = g) || hg l g) := rfl
theorem hgS (l : V) (p : Int × Int) (g : Int) : hg (l ++ [p]) g = (hg l g || decide (gof p = g)) := by
  unfold hg
  rw [List.any_append]
  simp
theorem chf_cons {pre l : V} {p : Int × Int} (h : chf pre (p :: l) = 0) : cke pre p = 0 ∧ chf (pre ++ [p]) l = 0 := by
  unfold chf at h
  split at h
  · rename_i k; exact absurd h k
  · rename_i k; exact ⟨by omega, h⟩
theorem gof_gm {p : Int × Int} (h : gof p ≠ 0) : p.1 = 71 ∨ p.1 = 77 := (grp_pos (l := p.1) (c := wholev p.2) (by rw [← (gof_pos h).2.1]; exact h)).2.2
theorem cke_gof {pre : V} {p : Int × Int} (h : cke pre p = 0) (hg0 : gof p ≠ 0) : hg pre (gof p) = false := by
  unfold cke at h
  have k := gof_gm hg0
  split at h
  · cases h
  · split at h
    · cases h
    · split at h
      · cases h
      · rename_i e; simpa using e
/-- A group comes up once. -/
theorem uq {pre l : V} (h : chf pre l = 0) {g : Int} (hg0 : g ≠ 0) (hp : hg pre g = true) : hg l g = false := by
  induction l generalizing pre with
  | nil => rfl
  | cons p l ih =>
    obtain ⟨h1, h2⟩ := chf_cons h
    rw [hg_cons, ih h2 (by rw [hgS, hp]; rfl), Bool.or_false]
    by_cases e : gof p = g
    · have := cke_gof h1 (by omega)
      rw [e, hp] at this
      cases this
    · simpa using e
theorem uq_next {pre l : V} {p : Int × Int} (h : chf pre (p :: l) = 0) {g : Int} (hg0 : g ≠ 0) (e : gof p = g) : hg l g = false :=
  uq (chf_cons h).2 hg0 (by rw [hgS, e]; simp)
theorem gcd_no {l : V} {g : Int} (h : hg l g = false) : gcd l g = -1 := by
  induction l with
  | nil => rfl
  | cons p l ih =>
    rw [hg_cons, Bool.or_eq_false_iff] at h
    rw [gcd_cons, if_neg (of_decide_eq_false h.1), ih h.2]
theorem gcd_at {l : V} {g : Int} (h : hg l g = true) : ∃ p ∈ l, gof p = g ∧ gcd l g = cv p := by
  induction l with
  | nil => cases h
  | cons p l ih =>
    rw [gcd_cons]
    by_cases e : gof p = g
    · exact ⟨p, List.mem_cons_self .., e, if_pos e⟩
    · rw [hg_cons, decide_eq_false e, Bool.false_or] at h
      obtain ⟨q, h1, h2, h3⟩ := ih h
      exact ⟨q, List.mem_cons_of_mem _ h1, h2, by rw [if_neg e, h3]⟩

/-- What stands for a field behind the codes. -/
def cdv (l : V) (g was : Int) : Int := if 0 ≤ gcd l g then gcd l g else was
theorem codes_field (f : S → Int) (g : Int) (hg0 : g ≠ 0) (h1 : ∀ s p, gof p = g → f (wcs s p) = cv p) (h2 : ∀ s p, gof p ≠ g → f (wcs s p) = f s) {pre l : V} (h : chf pre l = 0) (s : S) : f (codes s l) = cdv l g (f s) := by
  induction l generalizing pre s with
  | nil => show f s = if 0 ≤ (-1 : Int) then _ else _; rw [if_neg (by decide)]
  | cons p l ih =>
    have k : codes s (p :: l) = codes (wcs s p) l := rfl
    rw [k, ih (chf_cons h).2]
    unfold cdv
    rw [gcd_cons]
    by_cases e : gof p = g
    · rw [if_pos e, gcd_no (uq_next h hg0 e), if_neg (by decide), h1 s p e, if_pos (gof_pos (p := p) (by omega)).2.2.1]
    · rw [if_neg e, h2 s p e]
/-- A field that codes leave alone. -/
theorem codes_same {α : Type} (f : S → α) (h : ∀ s p, f (wcs s p) = f s) (l : V) (s : S) : f (codes s l) = f s := by
  induction l generalizing s with
  | nil => rfl
  | cons p l ih => exact (ih (wcs s p)).trans (h s p)
/-- A field that one code clears. -/
theorem codes_clear (f : S → Int) (g c : Int) (h : ∀ s p, f (wcs s p) = if gof p = g ∧ cv p = c then 0 else f s) (l : V) (s : S) : f (codes s l) = if (l.any fun p => decide (gof p = g) && decide (cv p = c)) = true then 0 else f s := by
  induction l generalizing s with
  | nil => rfl
  | cons p l ih =>
    have k : codes s (p :: l) = codes (wcs s p) l := rfl
    rw [k, ih, h, List.any_cons]
    by_cases e : gof p = g ∧ cv p = c
    · rw [if_pos e, decide_eq_true e.1, decide_eq_true e.2]; simp
    · rw [if_neg e]
      have : (decide (gof p = g) && decide (cv p = c)) = false := by simpa using e
      rw [this, Bool.false_or]
theorem codes_clear2 (f : S → Int) (g : Int) (h : ∀ s p, f (wcs s p) = if gof p = g then 0 else f s) (l : V) (s : S) : f (codes s l) = if hg l g = true then 0 else f s := by
  induction l generalizing s with
  | nil => rfl
  | cons p l ih =>
    have k : codes s (p :: l) = codes (wcs s p) l := rfl
    rw [k, ih, h, hg_cons]
    by_cases e : gof p = g
    · rw [if_pos e, decide_eq_true e]; simp
    · rw [if_neg e, decide_eq_false e, Bool.false_or]

/-- A code of a block is that of its group. -/
theorem has_any (l : V) (lt c g : Int) (hlt : lt = 71 ∨ lt = 77) (hgr : grp lt c = g) (hg0 : g ≠ 0) (huq : ∀ x, (x = 71 ∨ x = 77) → grp x c = g → x = lt) : has l lt c = l.any fun p => decide (gof p = g) && decide (cv p = c) := by
  unfold has
  have q : (fun p => isC p && decide (p.1 = lt) && decide (cv p = c)) = fun p => decide (gof p = g) && decide (cv p = c) := by
    funext p
    rw [Bool.eq_iff_iff]
    simp only [Bool.and_eq_true, decide_eq_true_eq]
    constructor
    · rintro ⟨⟨h1, h2⟩, h3⟩
      refine ⟨?_, h3⟩
      unfold gof
      unfold cv at h3
      rw [if_pos h1] at h3 ⊢
      rw [h2, h3]; exact hgr
    · rintro ⟨h1, h3⟩
      have k := gof_pos (p := p) (by omega)
      have m := gof_gm (p := p) (by omega)
      have e : cv p = wholev p.2 := by unfold cv; rw [if_pos k.1]
      refine ⟨⟨k.1, huq _ m ?_⟩, h3⟩
      rw [← h1, k.2.1, ← e, h3]
  rw [q]
theorem any_gcd {pre l : V} (h : chf pre l = 0) (g c : Int) (hg0 : g ≠ 0) (hc : 0 ≤ c) : (l.any fun p => decide (gof p = g) && decide (cv p = c)) = decide (gcd l g = c) := by
  induction l generalizing pre with
  | nil => show false = decide ((-1 : Int) = c); rw [decide_eq_false (by omega)]
  | cons p l ih =>
    rw [List.any_cons, gcd_cons, ih (chf_cons h).2]
    by_cases e : gof p = g
    · rw [if_pos e, gcd_no (uq_next h hg0 e), decide_eq_true e, Bool.true_and, decide_eq_false (show ¬ (-1 : Int) = c by omega), Bool.or_false]
    · rw [if_neg e, decide_eq_false e, Bool.false_and, Bool.false_or]
theorem has_G {l : V} (h : chk l = 0) (c g : Int) (hgr : grpG c = g) (hg0 : g ≠ 0) (hc : 0 ≤ c) (h14 : g ≤ 14) : has l 71 c = decide (gcd l g = c) := by
  rw [has_any l 71 c g (.inl rfl) (by unfold grp; rw [if_pos rfl]; exact hgr) hg0 (fun x hx e => by
    rcases hx with rfl | rfl
    · rfl
    · unfold grp at e
      rw [if_neg (by decide), if_pos rfl] at e
      have := grpM_bd c; omega)]
  exact any_gcd h g c hg0 hc
theorem has_M {l : V} (h : chk l = 0) (c g : Int) (hgr : grpM c = g) (hg0 : 21 ≤ g) (hc : 0 ≤ c) : has l 77 c = decide (gcd l g = c) := by
  rw [has_any l 77 c g (.inr rfl) (by unfold grp; rw [if_neg (by decide), if_pos rfl]; exact hgr) (by omega) (fun x hx e => by
    rcases hx with rfl | rfl
    · unfold grp at e
      rw [if_pos rfl] at e
      have := grpG_bd c; omega
    · rfl)]
  exact any_gcd h g c (by omega) hc

theorem codes_mi {pre l : V} (h : chf pre l = 0) (s : S) : (codes s l).mi = ((s.mi || decide (gcd l 24 = 7)) && !decide (gcd l 24 = 9)) := by
  induction l generalizing pre s with
  | nil => show s.mi = ((s.mi || decide ((-1 : Int) = 7)) && !decide ((-1 : Int) = 9)); simp
  | cons p l ih =>
    have k : codes s (p :: l) = codes (wcs s p) l := rfl
    rw [k, ih (chf_cons h).2, gcd_cons]
    by_cases e : gof p = 24
    · rw [if_pos e, gcd_no (uq_next h (by decide) e)]
      have : (wcs s p).mi = (wcl s (cv p)).mi := by unfold wcs wgc; rw [e]; rfl
      rw [this]
      unfold wcl
      by_cases h7 : cv p = 7
      · rw [if_pos h7, h7]; simp
      · rw [if_neg h7]
        by_cases h8 : cv p = 8
        · rw [if_pos h8, h8]; simp
        · rw [if_neg h8]
          by_cases h9 : cv p = 9
          · rw [if_pos h9, h9]; simp
          · rw [if_neg h9]; simp [h7, h9]
    · rw [if_neg e]
      have : (wcs s p).mi = s.mi := by
        rw [show wcs s p = wgf s (gof p) (cv p) from wgf_eq s (gof p) (cv p)]
        exact if_neg e
      rw [this]
theorem codes_fl {pre l : V} (h : chf pre l = 0) (s : S) : (codes s l).fl = ((s.fl || decide (gcd l 24 = 8)) && !decide (gcd l 24 = 9)) := by
  induction l generalizing pre s with
  | nil => show s.fl = ((s.fl || decide ((-1 : Int) = 8)) && !decide ((-1 : Int) = 9)); simp
  | cons p l ih =>
    have k : codes s (p :: l) = codes (wcs s p) l := rfl
    rw [k, ih (chf_cons h).2, gcd_cons]
    by_cases e : gof p = 24
    · rw [if_pos e, gcd_no (uq_next h (by decide) e)]
      have : (wcs s p).fl = (wcl s (cv p)).fl := by unfold wcs wgc; rw [e]; rfl
      rw [this]
      unfold wcl
      by_cases h7 : cv p = 7
      · rw [if_pos h7, h7]; simp
      · rw [if_neg h7]
        by_cases h8 : cv p = 8
        · rw [if_pos h8, h8]; simp
        · rw [if_neg h8]
          by_cases h9 : cv p = 9
          · rw [if_pos h9, h9]; simp
          · rw [if_neg h9]; simp [h8, h9]
    · rw [if_neg e]
      have : (wcs s p).fl = s.fl := by
        rw [show wcs s p = wgf s (gof p) (cv p) from wgf_eq s (gof p) (cv p)]
        exact if_neg e
      rw [this]

/-- The state as the specification reckons it. -/
def rfs (s : S) (l : V) : S :=
  { mo := cdv l 1 s.mo, pl := cdv l 2 s.pl, di := cdv l 3 s.di, un := cdv l 4 s.un, fe := cdv l 5 s.fe, cu := cdv l 6 s.cu, le := cdv l 7 s.le, re := cdv l 8 s.re, sy := cdv l 9 s.sy, pa := cdv l 10 s.pa, po := cdv l 11 s.po, tu := cdv l 12 s.tu, sp := cdv l 22 s.sp,
    mi := (s.mi || has l 77 7) && !has l 77 9, fl := (s.fl || has l 77 8) && !has l 77 9,
    bl := if has l 71 61 = true then 0 else if has l 71 64 = true then (if fo l 80 = true then lenv (fv l 80) (cdv l 4 s.un) else 0) else s.bl,
    fd := if fo l 70 = true then rev (fv l 70) (cdv l 4 s.un) else s.fd, se := nst l 83 s.se, tl := nst l 84 s.tl, lo := if has l 77 6 = true then nst l 84 s.tl else s.lo,
    h := if (has l 71 49 && !fo l 72) = true then 0 else nst l 72 s.h, d := if (has l 71 40 && !fo l 68) = true then 0 else nst l 68 s.d }

theorem S.ext' {a b : S} (h1 : a.mo = b.mo) (h2 : a.pl = b.pl) (h3 : a.di = b.di) (h4 : a.un = b.un) (h5 : a.fe = b.fe) (h6 : a.cu = b.cu) (h7 : a.le = b.le) (h8 : a.re = b.re) (h9 : a.sy = b.sy) (h10 : a.pa = b.pa) (h11 : a.po = b.po) (h12 : a.tu = b.tu) (h13 : a.sp = b.sp)
    (h14 : a.mi = b.mi) (h15 : a.fl = b.fl) (h16 : a.bl = b.bl) (h17 : a.fd = b.fd) (h18 : a.se = b.se) (h19 : a.tl = b.tl) (h20 : a.lo = b.lo) (h21 : a.h = b.h) (h22 : a.d = b.d) : a = b := by
  cases a; cases b; simp only at *; subst h1 h2 h3 h4 h5 h6 h7 h8 h9 h10 h11 h12 h13 h14 h15 h16 h17 h18 h19 h20 h21 h22; rfl
theorem wds_keep (s : S) (l : V) : (wds s l).mo = s.mo ∧ (wds s l).pl = s.pl ∧ (wds s l).di = s.di ∧ (wds s l).un = s.un ∧ (wds s l).fe = s.fe ∧ (wds s l).cu = s.cu ∧ (wds s l).le = s.le ∧ (wds s l).re = s.re ∧ (wds s l).sy = s.sy ∧ (wds s l).pa = s.pa ∧ (wds s l).po = s.po ∧ (wds s l).tu = s.tu ∧ (wds s l).sp = s.sp ∧ (wds s l).mi = s.mi ∧ (wds s l).fl = s.fl ∧ (wds s l).lo = s.lo := by
  unfold wds bls nus fds
  cases blw l <;> cases fo l 70 <;> exact ⟨rfl, rfl, rfl, rfl, rfl, rfl, rfl, rfl, rfl, rfl, rfl, rfl, rfl, rfl, rfl, rfl⟩
theorem wds_words (s : S) (l : V) : (wds s l).bl = (if blw l = true then lenv (fv l 80) s.un else s.bl) ∧ (wds s l).fd = (if fo l 70 = true then rev (fv l 70) s.un else s.fd) ∧ (wds s l).se = nst l 83 s.se ∧ (wds s l).tl = nst l 84 s.tl ∧ (wds s l).h = nst l 72 s.h ∧ (wds s l).d = nst l 68 s.d := by
  unfold wds bls nus fds
  cases blw l <;> cases fo l 70 <;> exact ⟨rfl, rfl, rfl, rfl, rfl, rfl⟩
theorem lod_all (s : S) (l : V) : (lod s l) = { s with lo := if has l 77 6 = true then s.tl else s.lo } := by
  unfold lod
  cases has l 77 6 <;> rfl
theorem nst_nst (l : V) (c a b : Int) (x : Bool) : nst l c (if x = true then a else b) = if x = true then nst l c a else nst l c b := by cases x <;> rfl

theorem same_rfs {l : V} (hk : chk l = 0) (s : S) : lod (wds (codes s l) l) l = rfs s l := by
  have F := fun (f : S → Int) g h0 h1 h2 => codes_field f g h0 h1 h2 (show chf [] l = 0 from hk) s
  have W : ∀ (s : S) (p : Int × Int), wcs s p = wgf s (gof p) (cv p) := fun s p => wgf_eq s (gof p) (cv p)
  have fmo : (codes s l).mo = cdv l 1 s.mo := F (·.mo) 1 (by decide) (fun s p e => by rw [W, e]; rfl) (fun s p e => by rw [W]; exact if_neg e)
  have fpl : (codes s l).pl = cdv l 2 s.pl := F (·.pl) 2 (by decide) (fun s p e => by rw [W, e]; rfl) (fun s p e => by rw [W]; exact if_neg e)
  have fdi : (codes s l).di = cdv l 3 s.di := F (·.di) 3 (by decide) (fun s p e => by rw [W, e]; rfl) (fun s p e => by rw [W]; exact if_neg e)
  have fun_ : (codes s l).un = cdv l 4 s.un := F (·.un) 4 (by decide) (fun s p e => by rw [W, e]; rfl) (fun s p e => by rw [W]; exact if_neg e)
  have ffe : (codes s l).fe = cdv l 5 s.fe := F (·.fe) 5 (by decide) (fun s p e => by rw [W, e]; rfl) (fun s p e => by rw [W]; exact if_neg e)
  have fcu : (codes s l).cu = cdv l 6 s.cu := F (·.cu) 6 (by decide) (fun s p e => by rw [W, e]; rfl) (fun s p e => by rw [W]; exact if_neg e)
  have fle : (codes s l).le = cdv l 7 s.le := F (·.le) 7 (by decide) (fun s p e => by rw [W, e]; rfl) (fun s p e => by rw [W]; exact if_neg e)
  have fre : (codes s l).re = cdv l 8 s.re := F (·.re) 8 (by decide) (fun s p e => by rw [W, e]; rfl) (fun s p e => by rw [W]; exact if_neg e)
  have fsy : (codes s l).sy = cdv l 9 s.sy := F (·.sy) 9 (by decide) (fun s p e => by rw [W, e]; rfl) (fun s p e => by rw [W]; exact if_neg e)
  have fpa : (codes s l).pa = cdv l 10 s.pa := F (·.pa) 10 (by decide) (fun s p e => by rw [W, e]; rfl) (fun s p e => by rw [W]; exact if_neg e)
  have fpo : (codes s l).po = cdv l 11 s.po := F (·.po) 11 (by decide) (fun s p e => by rw [W, e]; rfl) (fun s p e => by rw [W]; exact if_neg e)
  have ftu : (codes s l).tu = cdv l 12 s.tu := F (·.tu) 12 (by decide) (fun s p e => by rw [W, e]; rfl) (fun s p e => by rw [W]; exact if_neg e)
  have fsp : (codes s l).sp = cdv l 22 s.sp := F (·.sp) 22 (by decide) (fun s p e => by rw [W, e]; rfl) (fun s p e => by rw [W]; exact if_neg e)
  have fse : (codes s l).se = s.se := codes_same (·.se) (fun s p => by rw [W]; rfl) l s
  have ftl : (codes s l).tl = s.tl := codes_same (·.tl) (fun s p => by rw [W]; rfl) l s
  have flo : (codes s l).lo = s.lo := codes_same (·.lo) (fun s p => by rw [W]; rfl) l s
  have ffd : (codes s l).fd = s.fd := codes_same (·.fd) (fun s p => by rw [W]; rfl) l s
  have fbl : (codes s l).bl = if hg l 10 = true then 0 else s.bl := codes_clear2 (·.bl) 10 (fun s p => by rw [W]; rfl) l s
  have fd' : (codes s l).d = if (l.any fun p => decide (gof p = 6) && decide (cv p = 40)) = true then 0 else s.d := codes_clear (·.d) 6 40 (fun s p => by rw [W]; rfl) l s
  have fh' : (codes s l).h = if (l.any fun p => decide (gof p = 7) && decide (cv p = 49)) = true then 0 else s.h := codes_clear (·.h) 7 49 (fun s p => by rw [W]; rfl) l s
  have fmi := codes_mi (show chf [] l = 0 from hk) s
  have ffl := codes_fl (show chf [] l = 0 from hk) s
  have H61 := has_G hk 61 10 (by decide) (by decide) (by decide) (by decide)
  have H64 := has_G hk 64 10 (by decide) (by decide) (by decide) (by decide)
  have H40 := has_G hk 40 6 (by decide) (by decide) (by decide) (by decide)
  have H49 := has_G hk 49 7 (by decide) (by decide) (by decide) (by decide)
  have H7 := has_M hk 7 24 (by decide) (by decide) (by decide)
  have H8 := has_M hk 8 24 (by decide) (by decide) (by decide)
  have H9 := has_M hk 9 24 (by decide) (by decide) (by decide)
  have A40 := any_gcd (show chf [] l = 0 from hk) 6 40 (by decide) (by decide)
  have A49 := any_gcd (show chf [] l = 0 from hk) 7 49 (by decide) (by decide)
  obtain ⟨k1, k2, k3, k4, k5, k6, k7, k8, k9, k10, k11, k12, k13, k14, k15, k16⟩ := wds_keep (codes s l) l
  obtain ⟨m1, m2, m3, m4, m5, m6⟩ := wds_words (codes s l) l
  have G10 : hg l 10 = true → gcd l 10 = 61 ∨ gcd l 10 = 64 := fun h => by
    obtain ⟨p, _, e1, e2⟩ := gcd_at h
    have k := gof_pos (p := p) (by omega)
    have hc : cv p = wholev p.2 := by unfold cv; rw [if_pos k.1]
    have g := k.2.1
    rw [e1, ← hc] at g
    rw [e2]
    have q : cv p ∈ allG := by
      refine Classical.byContradiction fun hn => ?_
      unfold grp at g
      rw [grpG_no hn] at g
      have := grpM_bd (cv p)
      split at g
      · omega
      · split at g <;> omega
    have all : ∀ c ∈ allG, grpG c = 10 → c = 61 ∨ c = 64 := by decide +kernel
    refine all _ q ?_
    unfold grp at g
    have := grpM_bd (cv p)
    split at g
    · exact g.symm
    · split at g <;> omega
  rw [lod_all]
  refine S.ext' (k1.trans fmo) (k2.trans fpl) (k3.trans fdi) (k4.trans fun_) (k5.trans ffe) (k6.trans fcu) (k7.trans fle) (k8.trans fre) (k9.trans fsy) (k10.trans fpa) (k11.trans fpo) (k12.trans ftu) (k13.trans fsp) ?_ ?_ ?_ ?_ (m3.trans (by rw [fse]; rfl)) (m4.trans (by rw [ftl]; rfl)) ?_ ?_ ?_
  · show (wds (codes s l) l).mi = ((s.mi || has l 77 7) && !has l 77 9)
    rw [k14, fmi, H7, H9]
  · show (wds (codes s l) l).fl = ((s.fl || has l 77 8) && !has l 77 9)
    rw [k15, ffl, H8, H9]
  · show (wds (codes s l) l).bl = if has l 71 61 = true then 0 else if has l 71 64 = true then (if fo l 80 = true then lenv (fv l 80) (cdv l 4 s.un) else 0) else s.bl
    rw [m1, fbl, fun_]
    unfold blw
    rw [H61, H64]
    cases h10 : hg l 10
    · rw [gcd_no h10]
      simp
    · rcases G10 h10 with e | e
      · rw [e]; simp
      · rw [e]; cases fo l 80 <;> simp
  · show (wds (codes s l) l).fd = if fo l 70 = true then rev (fv l 70) (cdv l 4 s.un) else s.fd
    rw [m2, fun_, ffd]
  · show (if has l 77 6 = true then (wds (codes s l) l).tl else (wds (codes s l) l).lo) = if has l 77 6 = true then nst l 84 s.tl else s.lo
    rw [m4, ftl, k16, flo]
  · show (wds (codes s l) l).h = if (has l 71 49 && !fo l 72) = true then 0 else nst l 72 s.h
    rw [m5, fh', A49, H49]
    unfold nst
    cases decide (gcd l 7 = 49) <;> cases fo l 72 <;> simp
  · show (wds (codes s l) l).d = if (has l 71 40 && !fo l 68) = true then 0 else nst l 68 s.d
    rw [m6, fd', A40, H40]
    unfold nst
    cases decide (gcd l 6 = 40) <;> cases fo l 68 <;> simp
theorem codes_un {l : V} (hk : chk l = 0) (s : S) : (codes s l).un = cdv l 4 s.un :=
  codes_field (·.un) 4 (by decide) (fun s p e => by rw [show wcs s p = wgf s (gof p) (cv p) from wgf_eq s (gof p) (cv p), e]; rfl) (fun s p e => by rw [show wcs s p = wgf s (gof p) (cv p) from wgf_eq s (gof p) (cv p)]; exact if_neg e) (show chf [] l = 0 from hk) s

end Go.Proofs.Ytijakijjeoaikaa.Md
