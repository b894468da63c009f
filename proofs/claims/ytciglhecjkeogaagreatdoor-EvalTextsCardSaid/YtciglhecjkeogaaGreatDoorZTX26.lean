import Derived.Test.YtciglhecjkeogaaGreatDoorZTX5
import Derived.Test.YtciglhecjkeogaaGreatDoorZTX7
import Derived.Test.YtciglhecjkeogaaGreatDoorZTX14
import Derived.Test.YtciglhecjkeogaaGreatDoorZTX24
import Derived.Test.YtciglhecjkeogaaGreatDoorZTX25
set_option linter.unusedVariables false
set_option linter.unusedSimpArgs false
namespace Go.Proofs.YtciglhecjkeogaaGreatDoor
namespace Sy
open Lx
def Nx (v : List UInt8) : Prop := v = [] ∨ ∃ s t, v = s :: t ∧ isn s = false ∧ isu s = false
def Hd (u : List UInt8) : Prop := ∃ s t, u = s :: t ∧ isn s = false ∧ isu s = false
theorem Hd.nx {u : List UInt8} (h : Hd u) (v : List UInt8) : Nx (u ++ v) := by
  obtain ⟨s, t, rfl, h⟩ := h; exact .inr ⟨s, t ++ v, rfl, h⟩
def Lx0 (u : List UInt8) (us : List Tr) : Prop := ∀ v a, ∃ ts, lx (u ++ v) a = (lx v (a + u.length)).pre ts ∧ ts.map tri = us
def Lxd (u : List UInt8) (us : List Tr) : Prop := ∀ v a, Nx v → ∃ ts, lx (u ++ v) a = (lx v (a + u.length)).pre ts ∧ ts.map tri = us
theorem Lx0.d {u : List UInt8} {us : List Tr} (h : Lx0 u us) : Lxd u us := fun v a _ => h v a
theorem Lx0.nil : Lx0 [] [] := fun v a => ⟨[], by rw [List.nil_append, pre_nil]; rfl, rfl⟩
theorem Lx0.app {u w : List UInt8} {us ws : List Tr} (h : Lx0 u us) (k : Lx0 w ws) : Lx0 (u ++ w) (us ++ ws) := fun v a => by
  obtain ⟨t1, e1, m1⟩ := h (w ++ v) a
  obtain ⟨t2, e2, m2⟩ := k v (a + u.length)
  exact ⟨t1 ++ t2, by rw [List.append_assoc, e1, e2, pre_pre, List.length_append, Nat.add_assoc], by rw [List.map_append, m1, m2]⟩
theorem Lx0.appd {u w : List UInt8} {us ws : List Tr} (h : Lx0 u us) (k : Lxd w ws) : Lxd (u ++ w) (us ++ ws) := fun v a hv => by
  obtain ⟨t1, e1, m1⟩ := h (w ++ v) a
  obtain ⟨t2, e2, m2⟩ := k v (a + u.length) hv
  exact ⟨t1 ++ t2, by rw [List.append_assoc, e1, e2, pre_pre, List.length_append, Nat.add_assoc], by rw [List.map_append, m1, m2]⟩
theorem Lxd.app {u w : List UInt8} {us ws : List Tr} (h : Lxd u us) (hw : Hd w) (k : Lx0 w ws) : Lx0 (u ++ w) (us ++ ws) := fun v a => by
  obtain ⟨t1, e1, m1⟩ := h (w ++ v) a (hw.nx v)
  obtain ⟨t2, e2, m2⟩ := k v (a + u.length)
  exact ⟨t1 ++ t2, by rw [List.append_assoc, e1, e2, pre_pre, List.length_append, Nat.add_assoc], by rw [List.map_append, m1, m2]⟩
theorem Lxd.appd {u w : List UInt8} {us ws : List Tr} (h : Lxd u us) (hw : Hd w) (k : Lxd w ws) : Lxd (u ++ w) (us ++ ws) := fun v a hv => by
  obtain ⟨t1, e1, m1⟩ := h (w ++ v) a (hw.nx v)
  obtain ⟨t2, e2, m2⟩ := k v (a + u.length) hv
  exact ⟨t1 ++ t2, by rw [List.append_assoc, e1, e2, pre_pre, List.length_append, Nat.add_assoc], by rw [List.map_append, m1, m2]⟩
theorem lx_one {c : UInt8} {t : List UInt8} {f : F} (h1 : ws c = false) (h2 : c ≠ 59) (h3 : c ≠ 40) (hf : fst (c :: t) = f) (hm : f.m ≠ 0) (a : Nat) : lx (c :: t) a = (lx (t.drop (f.m - 1)) (a + f.m)).pre [⟨f.k, f.n, a, f.x⟩] := by
  refine lx_tok ?_ a
  rw [act_first h1 h2 h3, hf, if_neg hm]
theorem sg_facts (c : UInt8) (h : isg c = true) : ws c = false ∧ c ≠ 59 ∧ c ≠ 40 ∧ isn c = false ∧ isu c = false := by
  have k : ∀ d : Fin 256, isg (UInt8.ofNat d.val) = true → (ws (UInt8.ofNat d.val) = false ∧ UInt8.ofNat d.val ≠ 59 ∧ UInt8.ofNat d.val ≠ 40 ∧ isn (UInt8.ofNat d.val) = false ∧ isu (UInt8.ofNat d.val) = false) := by decide +kernel
  have := k ⟨c.toNat, c.toNat_lt⟩
  rw [UInt8.ofNat_toNat] at this
  exact this h
theorem up_facts (c : UInt8) (h : isu c = true) : ws c = false ∧ c ≠ 59 ∧ c ≠ 40 ∧ isn c = false ∧ fnm [c] = [] := by
  have k : ∀ d : Fin 256, isu (UInt8.ofNat d.val) = true → (ws (UInt8.ofNat d.val) = false ∧ UInt8.ofNat d.val ≠ 59 ∧ UInt8.ofNat d.val ≠ 40 ∧ isn (UInt8.ofNat d.val) = false ∧ fnm [UInt8.ofNat d.val] = []) := by decide +kernel
  have := k ⟨c.toNat, c.toNat_lt⟩
  rw [UInt8.ofNat_toNat] at this
  exact this h
theorem lx0_sgn (c : UInt8) (h : isg c = true) : Lx0 [c] [sgn c] := fun v a => by
  obtain ⟨h1, h2, h3, h4, h5⟩ := sg_facts c h
  refine ⟨[⟨4, 0, a, [c]⟩], ?_, rfl⟩
  rw [List.singleton_append, lx_one h1 h2 h3 (fst_sg h4 h5 h) (by show (1 : Nat) ≠ 0; decide) a]
  rfl
theorem lx0_space : Lx0 [32] [] := fun v a => ⟨[], by rw [List.singleton_append, lx_skip (act_ws (by decide)), pre_nil]; rfl, rfl⟩
theorem lx_letter (c : UInt8) (h : isu c = true) (s : UInt8) (t : List UInt8) (hs : isu s = false) (a : Nat) : lx (c :: s :: t) a = (lx (s :: t) (a + 1)).pre [⟨1, c.toNat, a, []⟩] := by
  obtain ⟨h1, h2, h3, h4, h5⟩ := up_facts c h
  have e : fnm (c :: s :: t) = [] := by
    have := fnm_sep [c] t s hs
    rw [show [c] ++ s :: t = c :: s :: t from rfl, h5] at this; exact this
  have hf : fst (c :: s :: t) = ⟨1, c.toNat, [], 1⟩ := by rw [fst_up h4 h, if_pos e]
  rw [lx_one h1 h2 h3 hf (by show (1 : Nat) ≠ 0; decide) a]
  rfl
theorem nms_own : ∀ n ∈ nms, fnm n = n := by decide +kernel
theorem nms_ne : ∀ n ∈ nms, n ≠ [] := by decide
theorem lxd_nam (n : List UInt8) (hn : n ∈ nms) : Lxd n [nam n] := fun v a hv => by
  refine ⟨[⟨3, 0, a, n⟩], ?_, rfl⟩
  cases hc : n with
  | nil => exact absurd hc (nms_ne n hn)
  | cons c r =>
    have hu : isu c = true := nms_up n hn c (by rw [hc]; exact List.mem_cons_self ..)
    obtain ⟨h1, h2, h3, h4, _⟩ := up_facts c hu
    have e : fnm (n ++ v) = n := by
      rcases hv with rfl | ⟨s, t, rfl, _, hs⟩
      · rw [List.append_nil]; exact nms_own n hn
      · rw [fnm_sep _ _ _ hs]; exact nms_own n hn
    rw [hc] at e
    have hf : fst ((c :: r) ++ v) = ⟨3, 0, c :: r, (c :: r).length⟩ := by
      rw [List.cons_append] at e ⊢
      rw [fst_up h4 hu, e, if_neg (List.cons_ne_nil _ _)]
    rw [List.cons_append] at hf ⊢
    rw [lx_one h1 h2 h3 hf (by simp) a]
    simp
theorem lxd_num (m : Int) (h0 : 0 ≤ m) (h1 : m < 1000000000000000) : Lxd (fmtp m) [nmb m] := fun v a hv => by
  refine ⟨[⟨2, m, a, []⟩], ?_, rfl⟩
  obtain ⟨d, r, e, hd⟩ := fmtp_cons m
  obtain ⟨k1, k2, k3, k4⟩ := isd_not hd
  have kn := isn_isd hd
  have hr : nrun (fmtp m ++ v) = (fmtp m).length := by
    rcases hv with rfl | ⟨s, t, rfl, hs, _⟩
    · rw [List.append_nil]; exact nrun_all (fmtp_isn m)
    · rw [nrun_sep _ _ _ hs]; exact nrun_all (fmtp_isn m)
  have hp := fmt_parse m h0 h1
  have hok : pok (fmtp m) = true := by
    have := hp.2; unfold pre at this
    cases q : pok (fmtp m)
    · rw [q] at this; cases this
    · rfl
  have hnum : pnum (fmtp m) = m := by
    have := hp.1; unfold prv at this; rw [hok] at this; exact this
  have hf : fst (fmtp m ++ v) = ⟨2, m, [], (fmtp m).length⟩ := by
    have q : fst (fmtp m ++ v) = fnum (fmtp m ++ v) := by
      rw [e, List.cons_append]; exact fst_num kn
    rw [q]; unfold fnum
    rw [hr, List.take_left, if_pos hok, hnum]
  have hl : (fmtp m).length ≠ 0 := by rw [e]; simp
  rw [e, List.cons_append] at hf ⊢
  rw [lx_one k2 k3 k4 hf (by simp) a]
  simp
def bpc : Ex → List UInt8 × List UInt8
  | .mk op n [] => (fmtp n, fmtp n)
  | .mk op n [x] =>
    if op = 1 then
      let c := 35 :: (if x.op = 0 ∨ x.op = 1 then (bpc x).2 else 91 :: (bpc x).1 ++ [93])
      (c, c)
    else if op = 2 then
      let p := 45 :: (bpc x).2
      (p, 91 :: p ++ [93])
    else
      let c := onm op.toNat ++ 91 :: (bpc x).1 ++ [93]
      (c, c)
  | .mk op n (x :: y :: _) =>
    if op = 11 then
      let c := onm 11 ++ 91 :: (bpc x).1 ++ 93 :: 47 :: 91 :: (bpc y).1 ++ [93]
      (c, c)
    else
      let p := (bpc x).2 ++ 32 :: onm op.toNat ++ 32 :: (bpc y).2
      (p, 91 :: p ++ [93])
def bpr (x : Ex) : List UInt8 := (bpc x).1
def bcl (x : Ex) : List UInt8 := (bpc x).2
def binb (x : Ex) : List UInt8 := 91 :: bpr x ++ [93]
def bce (x : Ex) : List UInt8 := if smp x = true then bcl x else binb x
theorem lx0_inb {x : Ex} (h : Lxd (bpr x) (tpr x)) : Lx0 (binb x) (inbT x) :=
  show Lx0 ([91] ++ (bpr x ++ [93])) ([sgn 91] ++ (tpr x ++ [sgn 93])) from Lx0.app (lx0_sgn 91 (by decide)) (Lxd.app h ⟨93, [], rfl, by decide, by decide⟩ (lx0_sgn 93 (by decide)))
theorem hd_inb (x : Ex) : Hd (binb x) := ⟨91, bpr x ++ [93], rfl, by decide, by decide⟩
theorem onm_fun : ∀ o, o < 26 → ((8 ≤ o ∧ o ≤ 16)) → onm o ∈ nms := by decide
theorem onm_op : ∀ o, o < 26 → binB o = true → ((onm o).length = 1 ∧ ∃ c, onm o = [c] ∧ isg c = true) ∨ ((onm o).length ≠ 1 ∧ onm o ∈ nms) := by
  have h : ∀ o, o < 26 → binB o = true → ((onm o).length = 1 ∧ isg ((onm o).getD 0 0) = true ∧ onm o = [(onm o).getD 0 0]) ∨ ((onm o).length ≠ 1 ∧ onm o ∈ nms) := by decide
  intro o h1 h2
  rcases h o h1 h2 with ⟨a, b, c⟩ | k
  · exact .inl ⟨a, _, c, b⟩
  · exact .inr k
theorem lx0_op {o : Nat} (ho : o < 26) (hb : binB o = true) : Lx0 (32 :: onm o ++ [32]) [otk o] := by
  have hs : Lx0 [32] [] := lx0_space
  rcases onm_op o ho hb with ⟨hl, c, e, hc⟩ | ⟨hl, hn⟩
  · have et : otk o = sgn c := by unfold otk; rw [if_pos hl, e]; rfl
    rw [et, e]
    exact Lx0.app hs (Lx0.app (lx0_sgn c hc) hs)
  · have et : otk o = nam (onm o) := by unfold otk; rw [if_neg hl]; rfl
    rw [et]
    exact Lx0.app hs (Lxd.app (lxd_nam _ hn) ⟨32, [], rfl, by decide, by decide⟩ hs)
structure Lxs (x : Ex) : Prop where
  p : Lxd (bpr x) (tpr x)
  c : Lxd (bcl x) (tcl x)
theorem lxs (x : Ex) : okx x = true → Lxs x := by
  induction x using Ex.ind with
  | h op n ks ih =>
    intro hok
    have hF := form hok
    cases hF with
    | num n h0 h1 =>
      have e1 : bpr (.mk 0 n []) = fmtp n := by simp [bpr, bpc]
      have e2 : bcl (.mk 0 n []) = fmtp n := by simp [bcl, bpc]
      have e3 : tpr (.mk 0 n []) = [nmb n] := by simp [tpr, tpc]
      have e4 : tcl (.mk 0 n []) = [nmb n] := by simp [tcl, tpc]
      exact ⟨by rw [e1, e3]; exact lxd_num n h0 h1, by rw [e2, e4]; exact lxd_num n h0 h1⟩
    | un o x hx ho =>
      have ihx := ih x (by simp) hx
      have hT : ((o : Int)).toNat = o := by omega
      by_cases o1 : o = 1
      · subst o1
        have hs : smp x = decide (x.op = 0 ∨ x.op = 1) := by unfold smp; rw [Bool.decide_or]
        have key : Lxd (35 :: bce x) (sgn 35 :: tce x) := by
          refine Lx0.appd (lx0_sgn 35 (by decide)) ?_
          (try unfold bce); (try unfold tce)
          split
          · exact ihx.c
          · exact (lx0_inb ihx.p).d
        have e1 : bpr (.mk ((1 : Nat) : Int) 0 [x]) = 35 :: bce x := by
          simp only [bpr, bpc, bce, smp, binb, bcl]; simp [bpr]
        have e2 : bcl (.mk ((1 : Nat) : Int) 0 [x]) = 35 :: bce x := by
          simp only [bcl, bpc, bce, smp, binb]; simp [bpr]
        have e3 : tpr (.mk ((1 : Nat) : Int) 0 [x]) = sgn 35 :: tce x := by
          simp only [tpr, tpc, tce, smp, tcl]; simp
        have e4 : tcl (.mk ((1 : Nat) : Int) 0 [x]) = sgn 35 :: tce x := by
          simp only [tcl, tpc, tce, smp, tpr]; simp
        exact ⟨by rw [e1, e3]; exact key, by rw [e2, e4]; exact key⟩
      · by_cases o2 : o = 2
        · subst o2
          have e1 : bpr (.mk ((2 : Nat) : Int) 0 [x]) = 45 :: bcl x := by simp [bpr, bcl, bpc]
          have e3 : tpr (.mk ((2 : Nat) : Int) 0 [x]) = sgn 45 :: tcl x := by simp [tpr, tcl, tpc]
          have key : Lxd (bpr (.mk ((2 : Nat) : Int) 0 [x])) (tpr (.mk ((2 : Nat) : Int) 0 [x])) := by
            rw [e1, e3]; exact Lx0.appd (lx0_sgn 45 (by decide)) ihx.c
          have e2 : bcl (.mk ((2 : Nat) : Int) 0 [x]) = binb (.mk ((2 : Nat) : Int) 0 [x]) := by simp [bcl, binb, bpr, bpc]
          have e4 : tcl (.mk ((2 : Nat) : Int) 0 [x]) = inbT (.mk ((2 : Nat) : Int) 0 [x]) := by simp [tcl, inbT, tpr, tpc]
          exact ⟨key, by rw [e2, e4]; exact (lx0_inb key).d⟩
        · have e1 : bpr (.mk (o : Int) 0 [x]) = onm o ++ binb x := by
            unfold bpr; rw [bpc, if_neg (by omega), if_neg (by omega), hT]; simp [binb, bpr]
          have e2 : bcl (.mk (o : Int) 0 [x]) = onm o ++ binb x := by
            unfold bcl; rw [bpc, if_neg (by omega), if_neg (by omega), hT]; simp [binb, bpr]
          have e3 : tpr (.mk (o : Int) 0 [x]) = [nam (onm o)] ++ inbT x := by
            unfold tpr; rw [tpc, if_neg (by omega), if_neg (by omega), hT]; rfl
          have e4 : tcl (.mk (o : Int) 0 [x]) = [nam (onm o)] ++ inbT x := by
            unfold tcl; rw [tpc, if_neg (by omega), if_neg (by omega), hT]; rfl
          have key := (Lxd.app (lxd_nam _ (onm_fun o (by omega) (by omega))) (hd_inb x) (lx0_inb ihx.p)).d
          exact ⟨by rw [e1, e3]; exact key, by rw [e2, e4]; exact key⟩
    | bin o x y hx hy ho =>
      have ihx := ih x (by simp) hx
      have ihy := ih y (by simp) hy
      have hT : ((o : Int)).toNat = o := by omega
      by_cases o11 : o = 11
      · subst o11
        have e1 : bpr (.mk ((11 : Nat) : Int) 0 [x, y]) = onm 11 ++ (binb x ++ ([47] ++ binb y)) := by
          unfold bpr; rw [bpc, if_pos (show ((11 : Nat) : Int) = 11 from rfl)]; simp [binb, bpr]
        have e2 : bcl (.mk ((11 : Nat) : Int) 0 [x, y]) = onm 11 ++ (binb x ++ ([47] ++ binb y)) := by
          unfold bcl; rw [bpc, if_pos (show ((11 : Nat) : Int) = 11 from rfl)]; simp [binb, bpr]
        have e3 : tpr (.mk ((11 : Nat) : Int) 0 [x, y]) = [nam (onm 11)] ++ (inbT x ++ ([sgn 47] ++ inbT y)) := by
          unfold tpr; rw [tpc, if_pos (show ((11 : Nat) : Int) = 11 from rfl)]; simp [inbT, tpr]
        have e4 : tcl (.mk ((11 : Nat) : Int) 0 [x, y]) = [nam (onm 11)] ++ (inbT x ++ ([sgn 47] ++ inbT y)) := by
          unfold tcl; rw [tpc, if_pos (show ((11 : Nat) : Int) = 11 from rfl)]; simp [inbT, tpr]
        have key := (Lxd.app (lxd_nam _ (onm_fun 11 (by omega) (by omega))) (show Hd (binb x ++ ([47] ++ binb y)) from ⟨91, bpr x ++ [93] ++ ([47] ++ binb y), by simp [binb], by decide, by decide⟩) (Lx0.app (lx0_inb ihx.p) (Lx0.app (lx0_sgn 47 (by decide)) (lx0_inb ihy.p)))).d
        exact ⟨by rw [e1, e3]; exact key, by rw [e2, e4]; exact key⟩
      · have hb := binB_of ho o11
        have e1 : bpr (.mk (o : Int) 0 [x, y]) = bcl x ++ ((32 :: onm o ++ [32]) ++ bcl y) := by
          unfold bpr; rw [bpc, if_neg (by omega), hT]; simp [bcl]
        have e3 : tpr (.mk (o : Int) 0 [x, y]) = tcl x ++ ([otk o] ++ tcl y) := by
          unfold tpr; rw [tpc, if_neg (by omega), hT]; simp [tcl]
        have key : Lxd (bpr (.mk (o : Int) 0 [x, y])) (tpr (.mk (o : Int) 0 [x, y])) := by
          rw [e1, e3]
          exact Lxd.appd ihx.c (show Hd ((32 :: onm o ++ [32]) ++ bcl y) from ⟨32, onm o ++ [32] ++ bcl y, by simp, by decide, by decide⟩) (Lx0.appd (lx0_op (by omega) hb) ihy.c)
        have e2 : bcl (.mk (o : Int) 0 [x, y]) = binb (.mk (o : Int) 0 [x, y]) := by unfold bcl binb bpr; rw [bpc, if_neg (by omega)]
        have e4 : tcl (.mk (o : Int) 0 [x, y]) = inbT (.mk (o : Int) 0 [x, y]) := by unfold tcl inbT tpr; rw [tpc, if_neg (by omega)]
        exact ⟨key, by rw [e2, e4]; exact (lx0_inb key).d⟩
end Sy
end Go.Proofs.YtciglhecjkeogaaGreatDoor
set_option linter.unusedVariables false
set_option linter.unusedSimpArgs false
namespace Go.Proofs.YtciglhecjkeogaaGreatDoor
namespace Sy
open Lx
def bva (x : Ex) : List UInt8 := if smp x = true then bcl x else match x with
  | .mk 2 _ [k] => if smp k = true then 45 :: bcl k else binb x
  | _ => binb x
theorem bva_cases (x : Ex) (h : okx x = true) : (bva x = bce x ∧ tva x = tce x) ∨ ∃ k, smp k = true ∧ okx k = true ∧ bva x = 45 :: bce k ∧ tva x = sgn 45 :: tce k := by
  cases hs : smp x with
  | true => left; unfold bva tva bce tce; rw [hs]; exact ⟨rfl, rfl⟩
  | false =>
    have e1 : bce x = binb x := by unfold bce; rw [hs]; rfl
    have e2 : tce x = inbT x := by unfold tce; rw [hs]; rfl
    by_cases hx : ∃ o k, x = .mk 2 o [k]
    · obtain ⟨o, k, rfl⟩ := hx
      cases hk : smp k with
      | true =>
        right
        rw [okx_mk] at h
        simp [nodeB] at h
        refine ⟨k, hk, h.2, ?_, ?_⟩
        · unfold bva bce; rw [hs, if_neg (by decide)]; simp only [hk]; rfl
        · unfold tva tce; rw [hs, if_neg (by decide)]; simp only [hk]; rfl
      | false =>
        left
        refine ⟨?_, ?_⟩
        · rw [e1]; unfold bva; rw [hs, if_neg (by decide)]; simp only [hk]; rfl
        · rw [e2]; unfold tva; rw [hs, if_neg (by decide)]; simp only [hk]; rfl
    · left
      refine ⟨?_, ?_⟩
      · rw [e1]; unfold bva; rw [hs, if_neg (by decide)]
        split
        · exact absurd ⟨_, _, rfl⟩ hx
        · rfl
      · rw [e2]; unfold tva; rw [hs, if_neg (by decide)]
        split
        · exact absurd ⟨_, _, rfl⟩ hx
        · rfl
theorem lxd_bce {x : Ex} (h : okx x = true) : Lxd (bce x) (tce x) := by
  unfold bce tce
  split
  · exact (lxs x h).c
  · exact (lx0_inb (lxs x h).p).d
theorem lxd_bva {x : Ex} (h : okx x = true) : Lxd (bva x) (tva x) := by
  rcases bva_cases x h with ⟨e1, e2⟩ | ⟨k, _, hk, e1, e2⟩
  · rw [e1, e2]; exact lxd_bce h
  · rw [e1, e2]; exact Lx0.appd (lx0_sgn 45 (by decide)) (lxd_bce hk)
def Nu (u : List UInt8) : Prop := ∃ s t, u = s :: t ∧ isu s = false
theorem nu_fmtp (m : Int) : Nu (fmtp m) := by
  obtain ⟨d, r, e, hd⟩ := fmtp_cons m
  refine ⟨d, r, e, ?_⟩
  have k : ∀ c : Fin 256, isd (UInt8.ofNat c.val) = true → isu (UInt8.ofNat c.val) = false := by decide +kernel
  have := k ⟨d.toNat, d.toNat_lt⟩
  rw [UInt8.ofNat_toNat] at this
  exact this hd
theorem nu_bce {x : Ex} (h : okx x = true) : Nu (bce x) := by
  unfold bce
  split
  · rename_i hs
    cases form h with
    | num n h0 h1 =>
      have e2 : bcl (.mk 0 n []) = fmtp n := by simp [bcl, bpc]
      show Nu (bcl (.mk 0 n []))
      rw [e2]; exact nu_fmtp n
    | un o y hy ho =>
      have hs' : decide ((o : Int) = 0) || decide ((o : Int) = 1) := hs
      have o1 : o = 1 := by simp at hs'; omega
      subst o1
      have e2 : bcl (.mk ((1 : Nat) : Int) 0 [y]) = 35 :: bce y := by
        simp only [bcl, bpc, bce, smp, binb]; simp [bpr]
      show Nu (bcl (.mk ((1 : Nat) : Int) 0 [y]))
      rw [e2]; exact ⟨35, _, rfl, by decide⟩
    | bin o y z hy hz ho =>
      have hs' : decide ((o : Int) = 0) || decide ((o : Int) = 1) := hs
      simp at hs'; omega
  · exact ⟨91, _, rfl, by decide⟩
theorem nu_bva {x : Ex} (h : okx x = true) : Nu (bva x) := by
  rcases bva_cases x h with ⟨e1, _⟩ | ⟨k, _, hk, e1, _⟩
  · rw [e1]; exact nu_bce h
  · rw [e1]; exact ⟨45, _, rfl, by decide⟩
theorem lxd_let {c : UInt8} (h : isu c = true) {u : List UInt8} {us : List Tr} (hu : Nu u) (k : Lxd u us) : Lxd (c :: u) (let1 c.toNat :: us) := fun v a hv => by
  obtain ⟨s, t, rfl, hs⟩ := hu
  obtain ⟨ts, e, m⟩ := k v (a + 1) hv
  refine ⟨[⟨1, c.toNat, a, []⟩] ++ ts, ?_, by rw [List.map_append, m]; rfl⟩
  have := lx_letter c h s (t ++ v) hs a
  rw [show c :: s :: t ++ v = c :: s :: (t ++ v) from rfl, this, show s :: (t ++ v) = s :: t ++ v from rfl, e, pre_pre, List.length_cons (a := c), show a + 1 + (s :: t).length = a + ((s :: t).length + 1) by omega]
def decs (n : Int) : List UInt8 := Lib.decDigits n.toNat
theorem fmtp_whole (n : Int) : fmtp (n * 1000000) = decs n := by
  unfold fmtp decs frac
  rw [Int.mul_ediv_cancel _ (by decide), Int.mul_emod_left, if_pos rfl, List.append_nil]
theorem lxd_dec {n : Int} {m : Nat} (h : cnt n m = true) (hm : m ≤ 99999) : Lxd (decs n) [nmb (n * 1000000)] := by
  simp [cnt] at h
  rw [← fmtp_whole]
  exact lxd_num _ (by omega) (by omega)
theorem nu_decs (n : Int) : Nu (decs n) := by rw [← fmtp_whole]; exact nu_fmtp _
theorem hd32 (u : List UInt8) : Hd ([32] ++ u) := ⟨32, u, rfl, by decide, by decide⟩
theorem Lxd.sp {u w : List UInt8} {us ws : List Tr} (h : Lxd u us) (k : Lxd w ws) : Lxd (u ++ ([32] ++ w)) (us ++ ws) := by
  have := Lxd.appd h (hd32 w) (Lx0.appd lx0_space k)
  rw [List.nil_append] at this
  exact this
def ctl (b : Bl) : List UInt8 :=
  if b.kind = 1 then (35 :: bce b.left) ++ ([32] ++ ([61] ++ ([32] ++ bpr b.x)))
  else if b.kind = 2 then cGOTO ++ ([32] ++ bva b.x)
  else if b.kind = 3 then cIF ++ ([32] ++ (binb b.x ++ ([32] ++ (cGOTO ++ ([32] ++ bva b.left)))))
  else if b.kind = 4 then cWHILE ++ ([32] ++ (binb b.x ++ ([32] ++ (cDO ++ ([32] ++ decs b.n)))))
  else if b.kind = 5 then cEND ++ ([32] ++ decs b.n)
  else 79 :: decs b.n
theorem lxd_ctl {b : Bl} (h : okb b = true) (k0 : b.kind ≠ 0) : Lxd (ctl b) (contT b) := by
  simp only [okb, Bool.and_eq_true] at h
  obtain ⟨hl, h⟩ := h
  rw [if_neg k0] at h
  simp only [Bool.and_eq_true, decide_eq_true_eq] at h
  obtain ⟨hw, h⟩ := h
  unfold ctl contT
  rw [if_neg k0]
  by_cases k1 : b.kind = 1
  · rw [if_pos k1, if_pos k1]
    rw [if_pos (.inl k1)] at h
    simp only [Bool.and_eq_true] at h
    have := Lxd.sp (Lx0.appd (lx0_sgn 35 (by decide)) (lxd_bce h.1.1)) (Lxd.sp (lx0_sgn 61 (by decide)).d (lxs _ h.1.2).p)
    simpa using this
  rw [if_neg k1, if_neg k1]
  by_cases k2 : b.kind = 2
  · rw [if_pos k2, if_pos k2]
    rw [if_neg (by omega), if_pos k2] at h
    simp only [Bool.and_eq_true] at h
    exact Lxd.sp (lxd_nam cGOTO (by decide)) (lxd_bva h.1.2)
  rw [if_neg k2, if_neg k2]
  by_cases k3 : b.kind = 3
  · rw [if_pos k3, if_pos k3]
    rw [if_pos (.inr k3)] at h
    simp only [Bool.and_eq_true] at h
    exact Lxd.sp (lxd_nam cIF (by decide)) (Lxd.sp (lx0_inb (lxs _ h.1.2).p).d (Lxd.sp (lxd_nam cGOTO (by decide)) (lxd_bva h.1.1)))
  rw [if_neg k3, if_neg k3]
  rw [if_neg (by omega), if_neg k2] at h
  by_cases k4 : b.kind = 4
  · rw [if_pos k4, if_pos k4]
    rw [if_pos k4] at h
    simp only [Bool.and_eq_true] at h
    exact Lxd.sp (lxd_nam cWHILE (by decide)) (Lxd.sp (lx0_inb (lxs _ h.1.2).p).d (Lxd.sp (lxd_nam cDO (by decide)) (lxd_dec h.2 (by decide))))
  rw [if_neg k4, if_neg k4]
  rw [if_neg k4] at h
  by_cases k5 : b.kind = 5
  · rw [if_pos k5, if_pos k5]
    rw [if_pos k5] at h
    simp only [Bool.and_eq_true] at h
    exact Lxd.sp (lxd_nam cEND (by decide)) (lxd_dec h.2 (by decide))
  rw [if_neg k5, if_neg k5]
  rw [if_neg k5] at h
  split at h
  · simp only [Bool.and_eq_true] at h
    exact lxd_let (c := 79) (by decide) (nu_decs _) (lxd_dec h.2 (by decide))
  · cases h
def joinb : List (List UInt8) → List UInt8
  | [] => []
  | p :: ps => if ps = [] then p else p ++ ([32] ++ joinb ps)
theorem lxd_join : ∀ ps : List (List UInt8 × List Tr), (∀ p ∈ ps, Lxd p.1 p.2) → Lxd (joinb (ps.map Prod.fst)) (ps.flatMap Prod.snd)
  | [], _ => by exact Lx0.nil.d
  | p :: ps, h => by
    have i := lxd_join ps (fun q hq => h q (List.mem_cons_of_mem _ hq))
    have k := h p (List.mem_cons_self ..)
    rw [List.map_cons, joinb, List.flatMap_cons]
    split
    · rename_i e
      have : ps = [] := List.map_eq_nil_iff.1 e
      subst this
      rw [List.flatMap_nil, List.append_nil]; exact k
    · exact Lxd.sp k i
def wdb (w : Int × Ex) : List UInt8 := UInt8.ofNat w.1.toNat :: bva w.2
theorem isw_up {c : Int} (h : isw c = true) : isu (UInt8.ofNat c.toNat) = true ∧ (((UInt8.ofNat c.toNat).toNat : Nat) : Int) = c := by
  have hb : 65 ≤ c ∧ c ≤ 90 := by simp [isw] at h; omega
  obtain ⟨m, rfl⟩ : ∃ m : Nat, c = m := ⟨c.toNat, by omega⟩
  have k : ∀ d : Fin 91, 65 ≤ d.val → isu (UInt8.ofNat d.val) = true ∧ (UInt8.ofNat d.val).toNat = d.val := by decide +kernel
  have := k ⟨m, by omega⟩ (by show 65 ≤ m; omega)
  rw [Int.toNat_natCast]
  exact ⟨this.1, by rw [this.2]⟩
theorem lxd_word {w : Int × Ex} (h : isw w.1 = true) (hx : okx w.2 = true) : Lxd (wdb w) (let1 w.1 :: tva w.2) := by
  have := lxd_let (isw_up h).1 (nu_bva hx) (lxd_bva hx)
  rw [(isw_up h).2] at this
  exact this
def parts2 (b : Bl) : List (List UInt8 × List Tr) :=
  (if b.skip = true then [([47], [sgn 47])] else []) ++ ((if b.label = 0 then [] else [(78 :: decs b.label, [let1 78, nmb (b.label * 1000000)])]) ++
    (b.words.map (fun w => (wdb w, let1 w.1 :: tva w.2)) ++ if b.kind = 0 then [] else [(ctl b, contT b)]))
def partsb (b : Bl) : List (List UInt8) :=
  (if b.skip = true then [[47]] else []) ++ ((if b.label = 0 then [] else [78 :: decs b.label]) ++ (b.words.map wdb ++ if b.kind = 0 then [] else [ctl b]))
def fmb (b : Bl) : List UInt8 := joinb (partsb b)
theorem parts_fst (b : Bl) : (parts2 b).map Prod.fst = partsb b := by
  unfold parts2 partsb
  simp only [List.map_append, List.map_map]
  congr 1
  · split <;> rfl
  · congr 1
    · split <;> rfl
    · congr 1
      split <;> rfl
theorem parts_snd {b : Bl} (h : okb b = true) : (parts2 b).flatMap Prod.snd = blT b := by
  unfold parts2 blT labT
  rw [List.flatMap_append, List.flatMap_append, List.flatMap_append]
  congr 1
  · split <;> rfl
  · congr 1
    · split <;> rfl
    · rw [List.flatMap_map]
      by_cases k0 : b.kind = 0
      · rw [if_pos k0, List.flatMap_nil, List.append_nil]
        unfold contT; rw [if_pos k0]; rfl
      · simp only [okb, Bool.and_eq_true] at h
        have h := h.2
        rw [if_neg k0] at h ⊢
        simp only [Bool.and_eq_true, decide_eq_true_eq] at h
        rw [h.1]; simp
theorem lxd_fmb {b : Bl} (h : okb b = true) : Lxd (fmb b) (blT b) := by
  unfold fmb
  rw [← parts_fst, ← parts_snd h]
  refine lxd_join _ (fun p hp => ?_)
  unfold parts2 at hp
  simp only [List.mem_append] at hp
  have h0 := h
  simp only [okb, Bool.and_eq_true] at h
  rcases hp with hp | hp | hp | hp
  · split at hp
    · rw [List.mem_singleton] at hp; subst hp; exact (lx0_sgn 47 (by decide)).d
    · cases hp
  · split at hp
    · cases hp
    · rename_i hl
      rw [List.mem_singleton] at hp; subst hp
      have := h.1
      simp only [Bool.or_eq_true, decide_eq_true_eq] at this
      rcases this with this | this
      · exact absurd this hl
      · exact lxd_let (c := 78) (by decide) (nu_decs _) (lxd_dec this (by decide))
  · obtain ⟨w, hw, rfl⟩ := List.mem_map.1 hp
    by_cases k0 : b.kind = 0
    · have := h.2
      rw [if_pos k0] at this
      simp only [Bool.and_eq_true, List.all_eq_true] at this
      have := this.1.1.1 w hw
      exact lxd_word this.1 this.2
    · have := h.2
      rw [if_neg k0] at this
      simp only [Bool.and_eq_true, decide_eq_true_eq] at this
      rw [this.1] at hw; cases hw
  · split at hp
    · cases hp
    · rename_i k0
      rw [List.mem_singleton] at hp; subst hp
      exact lxd_ctl h0 k0
theorem lx_fmb {b : Bl} (h : okb b = true) : ∃ ts, lx (fmb b) 0 = .ok ts ∧ ts.map tri = blT b := by
  obtain ⟨ts, e, m⟩ := lxd_fmb h [] 0 (.inl rfl)
  refine ⟨ts, ?_, m⟩
  rw [List.append_nil] at e
  rw [e, lx_nil]
  simp [Res.pre]
theorem ln_fmb {b : Bl} (h : okb b = true) : ∃ ts, lx (fmb b) 0 = .ok ts ∧ pLn ts = .ok b ts.length := by
  obtain ⟨ts, e, m⟩ := lx_fmb h
  exact ⟨ts, e, pLn_back h m⟩
end Sy
end Go.Proofs.YtciglhecjkeogaaGreatDoor
set_option linter.unusedVariables false
set_option linter.unusedSimpArgs false
namespace Go.Proofs.YtciglhecjkeogaaGreatDoor
namespace Sy
open Lx
theorem lnR_fmb {b : Bl} (h : vldb b = true) (hl : (fmb b).length ≤ 65536) : lnR (fmb b) = (b, (fmb b).length, 0) := by
  have ho : okb b = true := by unfold vldb at h; simp only [Bool.and_eq_true] at h; exact h.1
  obtain ⟨ts, e, m⟩ := ln_fmb ho
  unfold lnR
  rw [if_neg (by omega), e]
  simp only [m, h, if_true]
end Sy
end Go.Proofs.YtciglhecjkeogaaGreatDoor
set_option linter.unusedVariables false
set_option linter.unusedSimpArgs false
namespace Go.Proofs.YtciglhecjkeogaaGreatDoor
open Go.RowKit
theorem sw_simple (op n : Int) (l : Nat) (a : Option Addr) (cap : Nat) (l1 : l ≤ cap) (l2 : cap ≤ 9223372036854775807) (w : World) :
    Calls Tryz.prog 112 #[.agg #[.int .i64 op, .int .i64 n, .slice a l cap]] w fun e w' => e = .returned (.bool (decide (op = 0) || decide (op = 1))) ∧ Qw w w' := by
  by_cases c1 : op = 0
  · subst c1
    go_enter Tryz.func112, Tryz.ntmps112
    go_wp2
    go_ret
    exact ⟨rfl, Qz⟩
  · have h3 : (op == 0) = false := beq_eq_false_iff_ne.2 c1
    rw [decide_eq_false c1]
    by_cases c2 : op = 1
    · subst c2
      clear h3 c1
      go_enter Tryz.func112, Tryz.ntmps112
      go_wp2
      go_ret
      exact ⟨rfl, Qz⟩
    · have h4 : (op == 1) = false := beq_eq_false_iff_ne.2 c2
      rw [decide_eq_false c2]
      clear c1 c2
      go_enter Tryz.func112, Tryz.ntmps112
      go_wp2
      go_ret
      exact ⟨rfl, Qz⟩
end Go.Proofs.YtciglhecjkeogaaGreatDoor
set_option linter.unusedVariables false
set_option linter.unusedSimpArgs false
namespace Go.Proofs.YtciglhecjkeogaaGreatDoor
open Go.RowKit
theorem bs_app (a b : List UInt8) : bs a ++ bs b = bs (a ++ b) := by
  apply ByteArray.ext
  simp [bs]
def WrC (f : FuncId) (r : List UInt8) (op n : Int) (ks : List Sy.Ex) : Prop := ∀ (a : Option Addr) (cap : Nat) (S : Nat → Prop) (w : World), Ow w → Tb w → KidsB w S a cap ks →
  Calls Tryz.prog f #[.agg #[.int .i64 op, .int .i64 n, .slice a ks.length cap]] w fun e w' => e = .returned (.string (bs r)) ∧ Qw w w'
theorem sw_inBrackets {op n : Int} {ks : List Sy.Ex} (hl : (Sy.bpr (.mk op n ks)).length ≤ 1000000000000) (h : WrC 27 (Sy.bpr (.mk op n ks)) op n ks) : WrC 76 (Sy.binb (.mk op n ks)) op n ks := by
  intro a cap S w hO hT hk
  have c1 := fun w1 (h1 : Ow w1) (h2 : Tb w1) (h3 : KidsB w1 S a cap ks) => h a cap S w1 h1 h2 h3
  have eB : bs [91] ++ bs (Sy.bpr (.mk op n ks)) ++ bs [93] = bs (Sy.binb (.mk op n ks)) := by rw [bs_app, bs_app]; rfl
  generalize Sy.bpr (.mk op n ks) = r at c1 eB hl
  have hz1 : ¬ 9223372036854775807 < 1 + (bs r).size := by rw [bs_size]; omega
  have hz2 : ¬ 9223372036854775807 < 1 + (bs r).size + 1 := by rw [bs_size]; omega
  clear hl
  generalize Sy.binb (.mk op n ks) = r2 at eB ⊢
  have EB := Lib.hid eB
  have C1 := Lib.hid c1
  have HO := Lib.hid hO
  have HT := Lib.hid hT
  have HK := Lib.hid hk
  clear c1 hO hT hk h eB
  have q0 : Hid (Qw w w) := Lib.hid (Qw.refl w)
  go_enter Tryz.func76, Tryz.ntmps76
  go_wp2_with (go_at_call 27; ((with_reducible refine (C1.out _ (Ow.kept HO.out Qz) (Tb.kept HT.out Qz) (KidsB.kept HK.out Qz)).mono ?_); rintro e w' ⟨rfl, q⟩; replace q0 : Hid (Qw w w') := Lib.hid (Qw.trans Qz q); clear q))
  go_ret
  exact ⟨by rw [← EB.out]; rfl, q0.out⟩
end Go.Proofs.YtciglhecjkeogaaGreatDoor
set_option linter.unusedVariables false
set_option linter.unusedSimpArgs false
namespace Go.Proofs.YtciglhecjkeogaaGreatDoor
namespace Sy
open Lx
theorem fmtp_16 {m : Int} (h0 : 0 ≤ m) (h1 : m < 1000000000000000) : (fmtp m).length ≤ 16 := by
  have a := dec_len 8 (m / 1000000).toNat (by omega)
  have b : (frac (m % 1000000)).length ≤ 7 := by
    unfold frac
    split
    · simp
    · have := (kf_range (m % 1000000)).2
      rw [List.length_cons, dgs_length]; omega
  unfold fmtp
  rw [List.length_append]; omega
theorem onm_len : ∀ o, o < 26 → (onm o).length ≤ 5 := by decide
def Ln (x : Ex) : Prop := (bpr x).length + 12 ≤ 30 * 2 ^ dpt x ∧ (bcl x).length + 12 ≤ 30 * 2 ^ dpt x
theorem two_le {a b : Nat} (h : a ≤ b) : 2 ^ a ≤ 2 ^ b := Nat.pow_le_pow_right (by decide) h
theorem blen (x : Ex) : okx x = true → Ln x := by
  induction x using Ex.ind with
  | h op n ks ih =>
    intro hok
    have hF := form hok
    cases hF with
    | num n h0 h1 =>
      have e1 : bpr (.mk 0 n []) = fmtp n := by simp [bpr, bpc]
      have e2 : bcl (.mk 0 n []) = fmtp n := by simp [bcl, bpc]
      have l := fmtp_16 h0 h1
      have d : 2 ≤ 2 ^ dpt (.mk 0 n []) := two_le (a := 1) (by rw [dpt_mk]; omega)
      unfold Ln; rw [e1, e2]; omega
    | un o x hx ho =>
      have ihx := ih x (by simp) hx
      have hT : ((o : Int)).toNat = o := by omega
      have d : dpt (.mk (o : Int) 0 [x]) = dpt x + 1 := by rw [dpt_mk]; simp [dmx]; omega
      have p1 : 1 ≤ 2 ^ dpt x := Nat.one_le_two_pow
      unfold Ln at ihx ⊢
      rw [d, Nat.pow_succ]
      by_cases o1 : o = 1
      · subst o1
        have e1 : bpr (.mk ((1 : Nat) : Int) 0 [x]) = 35 :: bce x := by
          simp only [bpr, bpc, bce, smp, binb, bcl]; simp [bpr]
        have e2 : bcl (.mk ((1 : Nat) : Int) 0 [x]) = 35 :: bce x := by
          simp only [bcl, bpc, bce, smp, binb]; simp [bpr]
        have l : (bce x).length ≤ max (bcl x).length ((bpr x).length + 2) := by
          unfold bce binb; split
          · omega
          · simp; omega
        rw [e1, e2, List.length_cons]; omega
      · by_cases o2 : o = 2
        · subst o2
          have e1 : bpr (.mk ((2 : Nat) : Int) 0 [x]) = 45 :: bcl x := by simp [bpr, bcl, bpc]
          have e2 : bcl (.mk ((2 : Nat) : Int) 0 [x]) = 91 :: (45 :: bcl x) ++ [93] := by simp [bcl, bpc]
          rw [e1, e2]; simp only [List.length_cons, List.length_append, List.length_nil]; omega
        · have e1 : bpr (.mk (o : Int) 0 [x]) = onm o ++ binb x := by
            unfold bpr; rw [bpc, if_neg (by omega), if_neg (by omega), hT]; simp [binb, bpr]
          have e2 : bcl (.mk (o : Int) 0 [x]) = onm o ++ binb x := by
            unfold bcl; rw [bpc, if_neg (by omega), if_neg (by omega), hT]; simp [binb, bpr]
          have lo := onm_len o (by omega)
          rw [e1, e2]; unfold binb; simp only [List.length_cons, List.length_append, List.length_nil]; omega
    | bin o x y hx hy ho =>
      have ihx := ih x (by simp) hx
      have ihy := ih y (by simp) hy
      have hT : ((o : Int)).toNat = o := by omega
      have lo := onm_len o (by omega)
      have dx : 2 ^ (dpt x + 1) ≤ 2 ^ dpt (.mk (o : Int) 0 [x, y]) := two_le (by rw [dpt_mk]; simp [dmx]; omega)
      have dy : 2 ^ (dpt y + 1) ≤ 2 ^ dpt (.mk (o : Int) 0 [x, y]) := two_le (by rw [dpt_mk]; simp [dmx]; omega)
      rw [Nat.pow_succ] at dx dy
      unfold Ln at ihx ihy ⊢
      by_cases o11 : o = 11
      · subst o11
        have e1 : bpr (.mk ((11 : Nat) : Int) 0 [x, y]) = onm 11 ++ (binb x ++ ([47] ++ binb y)) := by
          unfold bpr; rw [bpc, if_pos (show ((11 : Nat) : Int) = 11 from rfl)]; simp [binb, bpr]
        have e2 : bcl (.mk ((11 : Nat) : Int) 0 [x, y]) = onm 11 ++ (binb x ++ ([47] ++ binb y)) := by
          unfold bcl; rw [bpc, if_pos (show ((11 : Nat) : Int) = 11 from rfl)]; simp [binb, bpr]
        have l4 : (onm 11).length = 4 := by decide
        rw [e1, e2]; unfold binb; simp only [List.length_cons, List.length_append, List.length_nil]; omega
      · have e1 : bpr (.mk (o : Int) 0 [x, y]) = bcl x ++ ((32 :: onm o ++ [32]) ++ bcl y) := by
          unfold bpr; rw [bpc, if_neg (by omega), hT]; simp [bcl]
        have e2 : bcl (.mk (o : Int) 0 [x, y]) = 91 :: (bcl x ++ ((32 :: onm o ++ [32]) ++ bcl y)) ++ [93] := by
          unfold bcl; rw [bpc, if_neg (by omega), hT]; simp [bcl]
        have l3 : (onm o).length ≤ 3 := (by decide : ∀ o, o < 26 → binB o = true → (onm o).length ≤ 3) o (by omega) (binB_of ho o11)
        rw [e1, e2]; simp only [List.length_cons, List.length_append, List.length_nil]; omega
theorem blen_16 {x : Ex} (h : okx x = true) (d : dpt x ≤ 16) : (bpr x).length ≤ 2000000 ∧ (bcl x).length ≤ 2000000 := by
  have := blen x h
  have k : 2 ^ dpt x ≤ 2 ^ 16 := two_le d
  unfold Ln at this; omega
end Sy
end Go.Proofs.YtciglhecjkeogaaGreatDoor

