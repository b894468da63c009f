
/- The walk of package modal's Apply. -/
import Derived.Test.YtijakijjeoaikaaMdE
import Derived.Test.YtijakijjeoaikaaMdQ
set_option linter.unusedVariables false
set_option linter.unusedSimpArgs false
namespace Go.Proofs.Ytijakijjeoaikaa
open Go.RowKit

def wS (s : Md.S) (l : Vs.Ar) : Nat → Md.S
  | 0 => s
  | 1 => Md.fds s l
  | 2 => Md.nus (Md.fds s l) l
  | _ => Md.wds s l
def wE (s : Md.S) (l : Vs.Ar) : Nat → Int
  | 0 => Md.fde s l
  | 1 => Md.nue l
  | _ => Md.ble s l
theorem ble_un {s t : Md.S} (l : Vs.Ar) (h : s.un = t.un) : Md.ble s l = Md.ble t l := by unfold Md.ble; rw [h]
theorem fds_un (s : Md.S) (l : Vs.Ar) : (Md.nus (Md.fds s l) l).un = s.un := by
  unfold Md.nus Md.fds
  cases Md.fo l 70 <;> rfl
theorem wde_bad {s : Md.S} {l : Vs.Ar} {k : Nat} (hk : k < 3) (h : ∀ j, j < k → wE s l j = 0) (hn : wE s l k ≠ 0) : Md.wde s l = wE s l k := by
  unfold Md.wde
  match k, hk with
  | 0, _ => rw [if_pos (show Md.fde s l ≠ 0 from hn)]; rfl
  | 1, _ => rw [if_neg (show ¬ Md.fde s l ≠ 0 from fun e => e (h 0 (by decide))), if_pos (show Md.nue l ≠ 0 from hn)]; rfl
  | 2, _ => rw [if_neg (show ¬ Md.fde s l ≠ 0 from fun e => e (h 0 (by decide))), if_neg (show ¬ Md.nue l ≠ 0 from fun e => e (h 1 (by decide)))]; rfl
theorem wde_ok {s : Md.S} {l : Vs.Ar} (h : ∀ j, j < 3 → wE s l j = 0) : Md.wde s l = 0 := by
  unfold Md.wde
  rw [if_neg (show ¬ Md.fde s l ≠ 0 from fun e => e (h 0 (by decide))), if_neg (show ¬ Md.nue l ≠ 0 from fun e => e (h 1 (by decide)))]
  exact h 2 (by decide)
theorem up_w {s : Md.S} {l : Vs.Ar} {k : Nat} (h : ∀ j, j < k → wE s l j = 0) (hk : wE s l k = 0) : ∀ j, j < k + 1 → wE s l j = 0 := fun j hj => by
  by_cases e : j = k
  · rw [e]; exact hk
  · exact h j (by omega)
def StR (s' : Md.S) (err : Int) (w : World) (e : Ending) (w' : World) : Prop := (∃ r, e = .returned (.tuple #[.agg (mdc r), .int .i64 err]) ∧ (err = 0 → r = s')) ∧ Qw w w'
def wdz (s : Md.S) (l : Vs.Ar) : Md.S := if Md.wde s l = 0 then Md.wds s l else Md.S.zero
def funA : Array Value := #[.func (.func 73) #[] #[], .func (.func 74) #[] #[], .func (.func 75) #[] #[]]
set_option maxRecDepth 100000 in
set_option maxHeartbeats 4000000 in
theorem mdWords (s : Md.S) {w : World} {v : Value} {l : Vs.Ar} (h : Blk w v l) : Calls Try.prog 51 #[.agg (mdc s), v] w fun e w' => e = .returned (.tuple #[.agg (mdc (wdz s l)), .int .i64 (Md.wde s l)]) ∧ Qw w w' := by
  have cf : ∀ w', Qw w w' → Calls Try.prog 73 #[.agg (mdc (wS s l 0)), v] w' (StR (wS s l 1) (wE s l 0) w') := fun w' q => (mdFeed s (h.kept q)).mono fun e w'' ⟨he, q2⟩ => ⟨⟨_, he, fun _ => rfl⟩, q2⟩
  have cn : ∀ w', Qw w w' → Calls Try.prog 74 #[.agg (mdc (wS s l 1)), v] w' (StR (wS s l 2) (wE s l 1) w') := fun w' q => mdNumbers _ (h.kept q)
  have cb : ∀ w', Qw w w' → Calls Try.prog 75 #[.agg (mdc (wS s l 2)), v] w' (StR (wS s l 3) (wE s l 2) w') := fun w' q => (mdBlend _ (h.kept q)).mono fun e w'' ⟨he, q2⟩ => ⟨⟨_, he.trans (ret_mi rfl (ble_un l (fds_un s l))), fun _ => rfl⟩, q2⟩
  unfold StR at cf cn cb
  have C0 := Lib.hid cf
  have C1 := Lib.hid cn
  have C2 := Lib.hid cb
  clear h cf cn cb
  go_enter Try.func51, Try.ntmps51
  go_wp2_with (refine two_start 0 rfl ?_; intro w1 P R T; have T1 := Lib.hid T; clear T)
  refine code_of (fun w' => ∃ t, Bx w' w1.heap.size funA t ∧ Two w w' P R s Md.S.zero) ⟨_, Bx.new w1 _ _, T1.out.kept (Qw.al (Qw.refl w1) _)⟩ ?_
  rintro w2 ⟨t, hA, hT⟩
  have KA : Hid (w1.heap.size ≠ P ∧ w1.heap.size ≠ R) := Lib.hid ⟨by have := T1.out.bp.lt; omega, by have := T1.out.br.lt; omega⟩
  generalize w1.heap.size = A at *
  have HA := Lib.hid hA
  have HT := Lib.hid hT
  clear hA hT T1
  go_loopw [11] (fun iv wr => ∃ k : Nat, k ≤ 3 ∧ iv = .int .i64 (k : Int) ∧ Hid (∀ j, j < k → wE s l j = 0) ∧ Hid (Two w wr P R (wS s l k) Md.S.zero) ∧ Hid (Bx wr A funA t)) (fun iv _ => 3 - (intOf iv).toNat)
  case atStart => exact ⟨0, by omega, rfl, Lib.hid (fun j hj => absurd hj (Nat.not_lt_zero _)), HT, HA⟩
  case round =>
    clear HT HA
    obtain ⟨k, hk, rfl, HN, HT, HA⟩ := hrel
    have hcs : k = 0 ∨ k = 1 ∨ k = 2 ∨ k = 3 := by omega
    rcases hcs with rfl | rfl | rfl | rfl
    · have c0 := HA.out.cell' 0 (.func (.func 73) #[] #[]) rfl
      by_cases hz : wE s l 0 = 0
      · have HZ := Lib.hid hz
        rw [hz] at C0
        clear hz
        go_wp2_with (first | (go_at_call 73; ((with_reducible refine (C0.out _ HT.out.q).mono ?_); rintro e w3 ⟨⟨r, rfl, hr⟩, q⟩; have HR := Lib.hid (hr rfl); have T3 := Lib.hid (HT.out.kept q); have Q3 := Lib.hid q; clear q hr)) | (refine ld_md 2 rfl HT.out.bp ?_) | (refine st_md 2 20 rfl rfl T3.out.bp ?_))
        go_roundw
        case rel => exact ⟨1, by omega, by go_num, Lib.hid (up_w HN.out HZ.out), Lib.hid (by rw [← HR.out]; exact T3.out.putP r), Lib.hid ((HA.out.kept Q3.out).sr' KA.out.1)⟩
        case measure => simp [intOf]
      · have E1 : Hid (Md.wde s l = wE s l 0 ∧ wdz s l = Md.S.zero) := Lib.hid ⟨wde_bad (by decide) HN.out hz, if_neg (by rw [wde_bad (k := 0) (by decide) HN.out hz]; exact hz)⟩
        generalize wE s l 0 = er at *
        have z : (er != 0) = true := by rw [bne_iff_ne]; exact hz
        clear hz
        go_wp2_with (first | (go_at_call 73; ((with_reducible refine (C0.out _ HT.out.q).mono ?_); rintro e w3 ⟨⟨r, rfl, hr⟩, q⟩; have T3 := Lib.hid (HT.out.kept q); clear q hr)) | (refine ld_md 2 rfl HT.out.bp ?_) | (refine st_P 2 20 T3.out rfl rfl ?_; intro w4 T; have T4 := Lib.hid T; clear T) | (refine bu_md ?_) | (refine st_R 4 24 T4.out rfl rfl ?_; intro w5 T; have T5 := Lib.hid T; clear T))
        exact bodyPost_ret (ret_m2 4 5 Try.results51 rfl rfl T5.out.br) rfl ⟨ret_mi E1.out.2.symm E1.out.1.symm, T5.out.q⟩
    · have c0 := HA.out.cell' 1 (.func (.func 74) #[] #[]) rfl
      by_cases hz : wE s l 1 = 0
      · have HZ := Lib.hid hz
        rw [hz] at C1
        clear hz
        go_wp2_with (first | (go_at_call 74; ((with_reducible refine (C1.out _ HT.out.q).mono ?_); rintro e w3 ⟨⟨r, rfl, hr⟩, q⟩; have HR := Lib.hid (hr rfl); have T3 := Lib.hid (HT.out.kept q); have Q3 := Lib.hid q; clear q hr)) | (refine ld_md 2 rfl HT.out.bp ?_) | (refine st_md 2 20 rfl rfl T3.out.bp ?_))
        go_roundw
        case rel => exact ⟨2, by omega, by go_num, Lib.hid (up_w HN.out HZ.out), Lib.hid (by rw [← HR.out]; exact T3.out.putP r), Lib.hid ((HA.out.kept Q3.out).sr' KA.out.1)⟩
        case measure => simp [intOf]
      · have E1 : Hid (Md.wde s l = wE s l 1 ∧ wdz s l = Md.S.zero) := Lib.hid ⟨wde_bad (by decide) HN.out hz, if_neg (by rw [wde_bad (k := 1) (by decide) HN.out hz]; exact hz)⟩
        generalize wE s l 1 = er at *
        have z : (er != 0) = true := by rw [bne_iff_ne]; exact hz
        clear hz
        go_wp2_with (first | (go_at_call 74; ((with_reducible refine (C1.out _ HT.out.q).mono ?_); rintro e w3 ⟨⟨r, rfl, hr⟩, q⟩; have T3 := Lib.hid (HT.out.kept q); clear q hr)) | (refine ld_md 2 rfl HT.out.bp ?_) | (refine st_P 2 20 T3.out rfl rfl ?_; intro w4 T; have T4 := Lib.hid T; clear T) | (refine bu_md ?_) | (refine st_R 4 24 T4.out rfl rfl ?_; intro w5 T; have T5 := Lib.hid T; clear T))
        exact bodyPost_ret (ret_m2 4 5 Try.results51 rfl rfl T5.out.br) rfl ⟨ret_mi E1.out.2.symm E1.out.1.symm, T5.out.q⟩
    · have c0 := HA.out.cell' 2 (.func (.func 75) #[] #[]) rfl
      by_cases hz : wE s l 2 = 0
      · have HZ := Lib.hid hz
        rw [hz] at C2
        clear hz
        go_wp2_with (first | (go_at_call 75; ((with_reducible refine (C2.out _ HT.out.q).mono ?_); rintro e w3 ⟨⟨r, rfl, hr⟩, q⟩; have HR := Lib.hid (hr rfl); have T3 := Lib.hid (HT.out.kept q); have Q3 := Lib.hid q; clear q hr)) | (refine ld_md 2 rfl HT.out.bp ?_) | (refine st_md 2 20 rfl rfl T3.out.bp ?_))
        go_roundw
        case rel => exact ⟨3, by omega, by go_num, Lib.hid (up_w HN.out HZ.out), Lib.hid (by rw [← HR.out]; exact T3.out.putP r), Lib.hid ((HA.out.kept Q3.out).sr' KA.out.1)⟩
        case measure => simp [intOf]
      · have E1 : Hid (Md.wde s l = wE s l 2 ∧ wdz s l = Md.S.zero) := Lib.hid ⟨wde_bad (by decide) HN.out hz, if_neg (by rw [wde_bad (k := 2) (by decide) HN.out hz]; exact hz)⟩
        generalize wE s l 2 = er at *
        have z : (er != 0) = true := by rw [bne_iff_ne]; exact hz
        clear hz
        go_wp2_with (first | (go_at_call 75; ((with_reducible refine (C2.out _ HT.out.q).mono ?_); rintro e w3 ⟨⟨r, rfl, hr⟩, q⟩; have T3 := Lib.hid (HT.out.kept q); clear q hr)) | (refine ld_md 2 rfl HT.out.bp ?_) | (refine st_P 2 20 T3.out rfl rfl ?_; intro w4 T; have T4 := Lib.hid T; clear T) | (refine bu_md ?_) | (refine st_R 4 24 T4.out rfl rfl ?_; intro w5 T; have T5 := Lib.hid T; clear T))
        exact bodyPost_ret (ret_m2 4 5 Try.results51 rfl rfl T5.out.br) rfl ⟨ret_mi E1.out.2.symm E1.out.1.symm, T5.out.q⟩
    · have E0 : Hid (Md.wde s l = 0 ∧ wdz s l = Md.wds s l) := Lib.hid ⟨wde_ok HN.out, if_pos (wde_ok HN.out)⟩
      go_wp2_with (first | (refine ld_md 2 rfl HT.out.bp ?_) | (refine st_R 4 27 HT.out rfl rfl ?_; intro w4 T; have T4 := Lib.hid T; clear T))
      exact bodyPost_ret (ret_m2 4 5 Try.results51 rfl rfl T4.out.br) rfl ⟨ret_mi E0.out.2.symm E0.out.1.symm, T4.out.q⟩
theorem codes_next (s : Md.S) (l : Vs.Ar) (i : Nat) (h : i < l.length) : Md.codes s (l.take (i + 1)) = Md.wcs (Md.codes s (l.take i)) (Vs.ltr l i, Vs.num l i) := by
  rw [v_take l i h]
  unfold Md.codes
  rw [List.foldl_append]
  rfl
theorem wcs_no {s : Md.S} {p : Int × Int} (h : Md.isC p = false) : Md.wcs s p = s := by
  have e : Md.gof p = 0 := by unfold Md.gof; rw [if_neg (by rw [h]; decide)]
  unfold Md.wcs
  rw [e]
  rfl
theorem wcs_yes {s : Md.S} {x y : Int} (h : Md.isC (x, y) = true) : Md.wcs s (x, y) = Md.wgc s (Md.grp x (Md.cv (x, y))) (Md.cv (x, y)) := by
  have e : Md.gof (x, y) = Md.grp x (Md.cv (x, y)) := by unfold Md.gof Md.cv; rw [if_pos h, if_pos h]
  unfold Md.wcs
  rw [e]
set_option maxRecDepth 100000 in
set_option maxHeartbeats 4000000 in
theorem mdApply (s : Md.S) {C : Nat} {w : World} {v : Value} {l : Vs.Ar} (h : ValsB C w v l) (hC : C ≤ w.heap.size) : Calls Try.prog 33 #[.agg (mdc s), v] w fun e w' => e = .returned (.tuple #[.agg (mdc (Md.aps s l)), .int .i64 (Md.ape s l)]) ∧ Qw w w' := by
  have HB := Lib.hid (Blk.of h hC)
  have ck := fun w' (q : Qw w w') => mdCheck (h.kept (C := w.heap.size) (w' := w') q hC) (Nat.le_trans hC q.size)
  obtain ⟨a, cap, rfl, l1, l2, hA⟩ := h
  have HA := Lib.hid hA
  clear hA
  by_cases hz : Md.chk l = 0
  · rw [hz] at ck
    have CK := Lib.hid ck
    have HZ := Lib.hid hz
    clear ck hz
    have wds := fun w' (q : Qw w w') => mdWords (Md.codes s l) (HB.out.kept q)
    have EA : Hid (Md.ape s l = Md.wde (Md.codes s l) l) := Lib.hid (if_neg (fun e => e HZ.out))
    go_enter Try.func33, Try.ntmps33
    go_wp2_with (first | (refine two_start 0 rfl ?_; intro w1 P R T; have T1 := Lib.hid T; clear T) | (go_at_call 27; ((with_reducible refine (CK.out _ T1.out.q).mono ?_); rintro e w2 ⟨rfl, q⟩; have T2 := Lib.hid (T1.out.kept q); clear q)))
    clear T1
    go_loopw [20] (fun iv wr => ∃ i : Nat, i ≤ l.length ∧ iv = .int .i64 (i : Int) ∧ Hid (Two w wr P R (Md.codes s (l.take i)) Md.S.zero)) (fun iv _ => l.length - (intOf iv).toNat)
    case atStart => exact ⟨0, by omega, rfl, T2⟩
    case round =>
      clear T2
      obtain ⟨i, hi, rfl, HT⟩ := hrel
      by_cases hlt : i < l.length
      · rcases HA.out with hn | ⟨b, off, rfl, hb, hc⟩
        · rw [hn] at hlt; simp at hlt
        · obtain ⟨c0, c1, _, _⟩ := hc i hlt
          have d0 := (HT.out.q.cell (p := ⟨b, off + i * 2, none⟩) (by show b < w.heap.size; omega)).trans c0
          have d1 := (HT.out.q.cell (p := ⟨b, off + i * 2 + 1, none⟩) (by show b < w.heap.size; omega)).trans c1
          have hS := codes_next s l i hlt
          generalize Vs.ltr l i = x at *
          generalize Vs.num l i = y at *
          have hl1 : (i : Int) < (l.length : Int) := by omega
          have CC := Lib.hid (mdCode x y)
          clear hc c0 c1 CK
          generalize hm : Md.codes s (l.take i) = m at *
          have HS := Lib.hid hS
          clear hS hm
          cases hic : Md.isC (x, y)
          · have HS2 : Hid (Md.codes s (l.take (i + 1)) = m) := Lib.hid (HS.out.trans (wcs_no hic))
            rw [hic] at CC
            clear hic
            go_wp2_with (go_at_call 40; ((with_reducible refine (CC.out _).mono ?_); rintro e w1 ⟨rfl, q⟩; have T3 := Lib.hid (HT.out.kept (Qw.trans (Qw.al (Qw.refl wr) _) q)); clear q))
            go_roundw
            case rel => exact ⟨i + 1, by omega, by go_num, Lib.hid (by rw [HS2.out]; exact T3.out)⟩
            case measure => simp [intOf]; omega
          · have HS2 := Lib.hid (HS.out.trans (wcs_yes hic))
            rw [hic] at CC
            clear hic
            generalize Md.cv (x, y) = c at *
            have WC := Lib.hid (mdWithCode m x c)
            generalize Md.wgc m (Md.grp x c) c = m2 at *
            go_wp2_with (first | (go_at_call 40; ((with_reducible refine (CC.out _).mono ?_); rintro e w1 ⟨rfl, q⟩; have T3 := Lib.hid (HT.out.kept (Qw.trans (Qw.al (Qw.refl wr) _) q)); have kx := ((Bx.new wr #[.int .i64 x, .int .i64 y] 50).kept q).cell' 0 (.int .i64 x) rfl; clear q)) | (refine ld_md 2 rfl T3.out.bp ?_) | (go_at_call 50; ((with_reducible refine (WC.out _).mono ?_); rintro e w4 ⟨rfl, q⟩; have T4 := Lib.hid (T3.out.kept q); clear q)) | (refine st_md 2 34 rfl rfl T4.out.bp ?_))
            go_roundw
            case rel => exact ⟨i + 1, by omega, by go_num, Lib.hid (by rw [HS2.out]; exact T4.out.putP m2)⟩
            case measure => simp [intOf]; omega
      · obtain rfl : i = l.length := by omega
        rw [List.take_length] at HT
        have h6 := fun w' q => HB.out.has w' 77 6 q
        have eS : Md.aps s l = if Md.wde (Md.codes s l) l = 0 then Md.lod (Md.wds (Md.codes s l) l) l else Md.S.zero := by unfold Md.aps; rw [EA.out]
        unfold wdz at wds
        generalize Md.codes s l = m at *
        by_cases he : Md.wde m l = 0
        · rw [if_pos he] at eS
          have EE : Hid (Md.ape s l = 0) := Lib.hid (EA.out.trans he)
          rw [if_pos he, he] at wds
          have WW := Lib.hid wds
          clear wds he EA
          generalize Md.wds m l = r at *
          unfold Md.lod at eS
          cases hh : Md.has l 77 6
          · rw [hh] at eS h6
            have ES : Hid (Md.aps s l = r) := Lib.hid (eS.trans (if_neg (by decide)))
            have HH := Lib.hid h6
            clear eS h6 hh
            go_wp2_with (first | (refine ld_md 2 rfl HT.out.bp ?_) | (go_at_call 51; ((with_reducible refine (WW.out _ HT.out.q).mono ?_); rintro e w3 ⟨rfl, q⟩; have T3 := Lib.hid (HT.out.kept q); clear q)) | (refine st_P 2 40 T3.out rfl rfl ?_; intro w4 T; have T4 := Lib.hid T; clear T) | (go_at_call 21; ((with_reducible refine (HH.out _ T4.out.q).mono ?_); rintro e w5 ⟨rfl, q⟩; have T5 := Lib.hid (T4.out.kept q); clear q)) | (refine ld_md 2 rfl T5.out.bp ?_) | (refine st_R 4 51 T5.out rfl rfl ?_; intro w6 T; have T6 := Lib.hid T; clear T))
            exact bodyPost_ret (ret_m2 4 5 Try.results33 rfl rfl T6.out.br) rfl ⟨ret_mi ES.out.symm EE.out.symm, T6.out.q⟩
          · rw [hh] at eS h6
            have ES : Hid (Md.aps s l = { r with lo := r.tl }) := Lib.hid (eS.trans (if_pos rfl))
            have HH := Lib.hid h6
            clear eS h6 hh
            go_wp2_with (first | (refine ld_md 2 rfl HT.out.bp ?_) | (go_at_call 51; ((with_reducible refine (WW.out _ HT.out.q).mono ?_); rintro e w3 ⟨rfl, q⟩; have T3 := Lib.hid (HT.out.kept q); clear q)) | (refine st_P 2 40 T3.out rfl rfl ?_; intro w4 T; have T4 := Lib.hid T; clear T) | (go_at_call 21; ((with_reducible refine (HH.out _ T4.out.q).mono ?_); rintro e w5 ⟨rfl, q⟩; have T5 := Lib.hid (T4.out.kept q); have c18 := T5.out.cell 18 (.int .i64 r.tl) rfl; have c19 := T5.out.cell 19 (.int .i64 r.lo) rfl; have f19 := T5.out.bp.free 19; clear q)) | (refine ld_md 2 rfl (T5.out.setP 19 _ { r with lo := r.tl } rfl).bp ?_) | (refine st_R 4 51 (T5.out.setP 19 _ { r with lo := r.tl } rfl) rfl rfl ?_; intro w6 T; have T6 := Lib.hid T; clear T))
            exact bodyPost_ret (ret_m2 4 5 Try.results33 rfl rfl T6.out.br) rfl ⟨ret_mi ES.out.symm EE.out.symm, T6.out.q⟩
        · rw [if_neg he] at eS
          have ES := Lib.hid eS
          rw [if_neg he] at wds
          generalize Md.wde m l = er at *
          have z : (er != 0) = true := by rw [bne_iff_ne]; exact he
          have WW := Lib.hid wds
          clear wds he eS h6
          go_wp2_with (first | (refine ld_md 2 rfl HT.out.bp ?_) | (go_at_call 51; ((with_reducible refine (WW.out _ HT.out.q).mono ?_); rintro e w3 ⟨rfl, q⟩; have T3 := Lib.hid (HT.out.kept q); clear q)) | (refine st_P 2 40 T3.out rfl rfl ?_; intro w4 T; have T4 := Lib.hid T; clear T) | (refine bu_md ?_) | (refine st_R 4 44 T4.out rfl rfl ?_; intro w6 T; have T6 := Lib.hid T; clear T))
          exact bodyPost_ret (ret_m2 4 5 Try.results33 rfl rfl T6.out.br) rfl ⟨ret_mi ES.out.symm EA.out.symm, T6.out.q⟩
  · have E1 : Hid (Md.ape s l = Md.chk l) := Lib.hid (if_pos hz)
    have E2 : Hid (Md.aps s l = Md.S.zero) := Lib.hid (if_neg (by rw [E1.out]; exact hz))
    generalize Md.chk l = er at *
    have CK := Lib.hid ck
    have z : (er != 0) = true := by rw [bne_iff_ne]; exact hz
    clear ck hz
    go_enter Try.func33, Try.ntmps33
    go_wp2_with (first | (refine two_start 0 rfl ?_; intro w1 P R T; have T1 := Lib.hid T; clear T) | (go_at_call 27; ((with_reducible refine (CK.out _ T1.out.q).mono ?_); rintro e w2 ⟨rfl, q⟩; have T2 := Lib.hid (T1.out.kept q); clear q)) | (refine bu_md ?_) | (refine st_R 4 16 T2.out rfl rfl ?_; intro w6 T; have T6 := Lib.hid T; clear T))
    exact bodyPost_ret (ret_m2 4 5 Try.results33 rfl rfl T6.out.br) rfl ⟨ret_mi E2.out.symm E1.out.symm, T6.out.q⟩
end Go.Proofs.Ytijakijjeoaikaa
