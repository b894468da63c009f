
/- VarsKeeps: a variable keeps its value until it is set, and no other one changes.
   Conditions: the listed tables lie as the program's own text lays them (the card ties them); every input. -/
import Derived.Test.YtmfhiabajkdikaaDoorFrameW
import Derived.Test.YtmfhiabajkdikaaDoorVlB
set_option linter.unusedVariables false
set_option linter.unusedSimpArgs false
namespace Go.Proofs.YtmfhiabajkdikaaDoor
open Go.ChangeShapes Go.WideShapes Go.ChangeAt Go.RowKit


namespace Vs
def putE (n v : Int) : Int := if 5000 ≤ n then herr n v else serr n v
def St.put (s : St) (n v : Int) : St := if 5000 ≤ n then s.host n v else s.set n v
theorem put_err {n v : Int} (hv : vld v) : putE n v = gerr n := by
  unfold putE herr serr gerr
  by_cases h : 5000 ≤ n
  · rw [if_pos h]
    by_cases hs : isS n
    · rw [if_neg (fun k => k hs), if_pos hv, if_pos (.inr (.inr hs))]
    · rw [if_pos hs, if_neg (by intro k; rcases k with k | k | k; (unfold isL at k; omega); (unfold isC at k; omega); exact hs k)]
  · rw [if_neg h]
    have hs : ¬ isS n := by unfold isS; omega
    rw [if_neg hs]
    by_cases hn : ¬ isL n ∧ ¬ isC n
    · rw [if_pos hn, if_neg (by intro k; rcases k with k | k | k; exact hn.1 k; exact hn.2 k; exact hs k)]
    · rw [if_neg hn, if_pos hv, if_pos]
      by_cases hL : isL n
      · exact .inl hL
      · by_cases hC : isC n
        · exact .inr (.inl hC)
        · exact absurd ⟨hL, hC⟩ hn
theorem gerr_cases (n : Int) : gerr n = 0 ∨ gerr n = 6 := by unfold gerr; split; exact .inl rfl; exact .inr rfl
theorem get_none {s : St} {n : Int} (h : gerr n = 6) : s.get n = 0 := by
  unfold gerr at h
  split at h
  · cases h
  · rename_i k
    unfold St.get
    rw [if_neg (fun x => k (.inl x)), if_neg (fun x => k (.inr (.inl x))), if_neg (fun x => k (.inr (.inr x)))]
theorem getD_set (l : List Int) (i j : Nat) (v : Int) (h : i < l.length) : (l.set i v).getD j 0 = if i = j then v else l.getD j 0 := by
  rw [List.getD_eq_getElem?_getD, List.getElem?_set]
  by_cases e : i = j
  · rw [if_pos e, if_pos e, if_pos h]; rfl
  · rw [if_neg e, if_neg e, ← List.getD_eq_getElem?_getD]
theorem put_get {s : St} (ok : s.ok) {m w : Int} (hw : vld w) (hm : gerr m = 0) (n : Int) : (s.put m w).get n = if m = n then w else s.get n := by
  have pe := put_err (n := m) hw
  rw [hm] at pe
  have e1 : ∀ a b : St, (if isL n then a.ls.getD (a.at n) 0 else if isC n then a.cm.getD (n - 100).toNat 0 else if isS n then a.sy.getD (n - 5000).toNat 0 else 0) = a.get n := fun a b => rfl
  unfold putE at pe
  unfold St.put
  have hl := ok.hl
  have n1 := ok.n1
  by_cases h : 5000 ≤ m
  · rw [if_pos h] at pe ⊢
    have hs : isS m := by
      by_cases k : isS m
      · exact k
      · unfold herr at pe; rw [if_pos k] at pe; cases pe
    unfold St.host
    rw [if_neg (fun k => k pe)]
    have hs2 := hs
    unfold isS at hs2
    unfold St.get
    have hsy := ok.hs
    by_cases a1 : isL n
    · rw [if_pos a1, if_pos a1, if_neg (by unfold isL at a1; omega)]; rfl
    · rw [if_neg a1, if_neg a1]
      by_cases a2 : isC n
      · rw [if_pos a2, if_pos a2, if_neg (by unfold isC at a2; omega)]
      · rw [if_neg a2, if_neg a2]
        by_cases a3 : isS n
        · rw [if_pos a3, if_pos a3]
          unfold isS at a3
          show (s.sy.set (m - 5000).toNat w).getD _ 0 = _
          rw [getD_set _ _ _ _ (by omega)]
          by_cases e : m = n
          · rw [if_pos e, if_pos (by omega)]
          · rw [if_neg e, if_neg (by omega)]
        · rw [if_neg a3, if_neg a3, if_neg (fun (e : m = n) => a3 (e ▸ hs))]
  · rw [if_neg h] at pe ⊢
    unfold St.set
    rw [if_neg (fun k => k pe)]
    by_cases hL : isL m
    · rw [if_pos hL]
      have hL2 := hL
      unfold isL at hL2
      unfold St.get
      by_cases a1 : isL n
      · rw [if_pos a1, if_pos a1]
        unfold isL at a1
        show (s.ls.set (s.at m) w).getD (s.at n) 0 = _
        rw [getD_set _ _ _ _ (by unfold St.at; omega)]
        by_cases e : m = n
        · rw [if_pos e, if_pos (by rw [e])]
        · rw [if_neg e, if_neg (by unfold St.at; omega)]
      · rw [if_neg a1, if_neg a1, if_neg (fun (e : m = n) => a1 (e ▸ hL))]
    · have hC : isC m := by
        by_cases k : isC m
        · exact k
        · unfold serr at pe
          have hs : ¬ isS m := by unfold isS; omega
          rw [if_neg hs, if_pos ⟨hL, k⟩] at pe
          cases pe
      rw [if_neg hL]
      have hC2 := hC
      unfold isC at hC2
      have hcm := ok.hc
      unfold St.get
      by_cases a1 : isL n
      · rw [if_pos a1, if_pos a1, if_neg (fun (e : m = n) => hL (e ▸ a1))]; rfl
      · rw [if_neg a1, if_neg a1]
        by_cases a2 : isC n
        · rw [if_pos a2, if_pos a2]
          unfold isC at a2
          show (s.cm.set (m - 100).toNat w).getD _ 0 = _
          rw [getD_set _ _ _ _ (by omega)]
          by_cases e : m = n
          · rw [if_pos e, if_pos (by omega)]
          · rw [if_neg e, if_neg (by omega)]
        · rw [if_neg a2, if_neg a2, if_neg (fun (e : m = n) => a2 (e ▸ hC))]
theorem put_no {s : St} {n v : Int} (h : putE n v ≠ 0) : s.put n v = s := by
  unfold putE at h
  unfold St.put
  split
  · rename_i k
    rw [if_pos k] at h
    unfold St.host
    rw [if_pos h]
  · rename_i k
    rw [if_neg k] at h
    unfold St.set
    rw [if_pos h]
theorem put_ok {s : St} (h : s.ok) (n v : Int) : (s.put n v).ok := by
  unfold St.put
  split
  · exact host_ok h n v
  · exact set_ok h n v
end Vs

set_option maxRecDepth 100000 in
set_option maxHeartbeats 4000000 in
theorem vlPut {w0 w : World} {B L cap : Nat} {s : Vs.St} (h : Ps w0 w B L cap s) (k x y : Int) (hy : Vs.putE k x = y) : Calls Tryd.prog 27 #[.pointer (some ⟨B, 0, none⟩), .int .i64 k, .int .i64 x] w fun e w' => e = .returned (.int .i64 y) ∧ Ps w0 w' B L cap (s.put k x) := by
  unfold Vs.putE at hy
  unfold Vs.St.put
  have H := Lib.hid h
  clear h
  by_cases hk : 5000 ≤ k
  · rw [if_pos hk] at hy ⊢
    replace hy := Lib.hid hy
    go_enter Tryd.func27, Tryd.ntmps27
    go_wp2_with (go_at_call 31; ((with_reducible refine (psHost H.out k x y hy.out).mono ?_); rintro e w' ⟨rfl, hP⟩; have P := Lib.hid hP; clear hP))
    go_ret
    exact ⟨rfl, P.out⟩
  · rw [if_neg hk] at hy ⊢
    replace hy := Lib.hid hy
    go_enter Tryd.func27, Tryd.ntmps27
    go_wp2_with (go_at_call 21; ((with_reducible refine (psSet H.out k x y hy.out).mono ?_); rintro e w' ⟨rfl, hP⟩; have P := Lib.hid hP; clear hP))
    go_ret
    exact ⟨rfl, P.out⟩

set_option maxRecDepth 100000 in
set_option maxHeartbeats 4000000 in
theorem walk_varsKeeps (n : Int) (n1 : -9223372036854775808 ≤ n) (n2 : n ≤ 9223372036854775807) (m : Int) (m1 : -9223372036854775808 ≤ m) (m2 : m ≤ 9223372036854775807) (v : Int) (v1 : -9223372036854775808 ≤ v) (v2 : v ≤ 9223372036854775807) (x : Int) (x1 : -9223372036854775808 ≤ x) (x2 : x ≤ 9223372036854775807) (w : World) (hT : Tl w) :
    Calls Tryd.prog 7 #[.int .i64 n, .int .i64 m, .int .i64 v, .int .i64 x] w fun e w' => e = .returned (.bool true) ∧ Below w.heap.size w w' := by
  have HT := Lib.hid hT
  obtain ⟨N, hN⟩ : ∃ N, (if (true : Bool) then Vs.vtab.getD (n % 17).toNat 0 else n) = N := ⟨_, rfl⟩
  obtain ⟨M, hM⟩ : ∃ M, (if (true : Bool) then Vs.vtab.getD (m % 17).toNat 0 else m) = M := ⟨_, rfl⟩
  have V1 := Lib.hid (fun w => vlVar 0 n 0 true (.slice none 0 0) ⟨_, _, _, rfl⟩ n1 n2 N hN w)
  have V2 := Lib.hid (fun w => vlVar 0 m 0 true (.slice none 0 0) ⟨_, _, _, rfl⟩ m1 m2 M hM w)
  have hb := Int.emod_nonneg v (show (1000000000000000 - -1000000000000000 + 1 : Int) ≠ 0 by decide)
  have hb2 := Int.emod_lt_of_pos v (show (0 : Int) < 1000000000000000 - -1000000000000000 + 1 by decide)
  have hx := Int.emod_nonneg x (show (1000000000000000 - -1000000000000000 + 1 : Int) ≠ 0 by decide)
  have hx2 := Int.emod_lt_of_pos x (show (0 : Int) < 1000000000000000 - -1000000000000000 + 1 by decide)
  have B1 := Lib.hid (fun w => betweenW v (-1000000000000000) 1000000000000000 v1 v2 (by decide) (by decide) (by decide) (by decide) w)
  have B2 := Lib.hid (fun w => betweenW x (-1000000000000000) 1000000000000000 x1 x2 (by decide) (by decide) (by decide) (by decide) w)
  generalize v % (1000000000000000 - -1000000000000000 + 1) = b at *
  generalize x % (1000000000000000 - -1000000000000000 + 1) = c at *
  obtain ⟨V, hV⟩ : ∃ V, V = -1000000000000000 + b := ⟨_, rfl⟩
  obtain ⟨W, hW⟩ : ∃ W, W = -1000000000000000 + c := ⟨_, rfl⟩
  rw [← hV] at B1
  rw [← hW] at B2
  have vV : Vs.vld V := ⟨by omega, by omega⟩
  have vW : Vs.vld W := ⟨by omega, by omega⟩
  have ok1 := Vs.put_ok Vs.new_ok N V
  have pe1 := Vs.put_err (n := N) vV
  have pe2 := Vs.put_err (n := M) vW
  clear hT n1 n2 m1 m2 v1 v2 x1 x2 hN hM hb hb2 hx hx2 hV hW
  rcases Vs.gerr_cases N with g | g
  · rcases Vs.gerr_cases M with h | h
    · by_cases e : M = N
      · subst e
        have G1 : Hid (Vs.gerr M = 0) := Lib.hid g
        have G2 : Hid (Vs.gerr M = 0) := Lib.hid h
        rw [g] at pe1
        rw [h] at pe2
        have E1 := Lib.hid pe1
        have E2 := Lib.hid pe2
        have A1 : Hid (((Vs.new.put M V).put M W).get M = W) := Lib.hid (by rw [Vs.put_get ok1 vW h, if_pos rfl])
        have A2 := A1
        clear g h pe1 pe2 ok1 vV vW
        go_enter Tryd.func7, Tryd.ntmps7
        go_wp2_with (first
    | (go_at_call 26; ((with_reducible refine (V1.out _).mono ?_); rintro e w1 ⟨rfl, q⟩; have Q1 := Lib.hid q; clear q))
    | (go_at_call 26; ((with_reducible refine (V2.out _).mono ?_); rintro e w2 ⟨rfl, q⟩; have Q2 := Lib.hid (Q1.out.trans q); clear q))
    | (go_at_call 22; ((with_reducible refine (B1.out _).mono ?_); rintro e w' ⟨rfl, rfl⟩))
    | (go_at_call 22; ((with_reducible refine (B2.out _).mono ?_); rintro e w' ⟨rfl, rfl⟩))
    | (go_at_call 11; ((with_reducible refine (psNew Q2.out).mono ?_); rintro e w3 ⟨B, L, cap, rfl, hP⟩; have P3 := Lib.hid hP; clear hP))
    | (go_at_call 10; ((with_reducible refine (awakeV _ (HT.out.kept P3.out.q)).mono ?_); rintro e w4 ⟨rfl, q⟩; have P4 := Lib.hid (P3.out.kept q); clear q))
    | (go_at_call 27; ((with_reducible refine (vlPut P4.out M V _ E1.out).mono ?_); rintro e w5 ⟨rfl, hP⟩; have P5 := Lib.hid hP; clear hP))
    | (go_at_call 27; ((with_reducible refine (vlPut P5.out M W _ E2.out).mono ?_); rintro e w6 ⟨rfl, hP⟩; have P6 := Lib.hid hP; clear hP))
    | (go_at_call 18; ((with_reducible refine (psGet P6.out M _ _ A1.out G1.out).mono ?_); rintro e w7 ⟨rfl, hP⟩; have P7 := Lib.hid hP; clear hP))
    | (go_at_call 18; ((with_reducible refine (psGet P7.out M _ _ A2.out G2.out).mono ?_); rintro e w8 ⟨rfl, hP⟩; have P8 := Lib.hid hP; clear hP)))
        go_ret
        exact ⟨rfl, P8.out.q⟩
      · have eb : ((N : Int) == M) = false := beq_eq_false_iff_ne.2 (fun k => e k.symm)
        have G1 : Hid (Vs.gerr N = 0) := Lib.hid g
        have G2 : Hid (Vs.gerr M = 0) := Lib.hid h
        rw [g] at pe1
        rw [h] at pe2
        have E1 := Lib.hid pe1
        have E2 := Lib.hid pe2
        have A1 : Hid (((Vs.new.put N V).put M W).get N = V) := Lib.hid (by rw [Vs.put_get ok1 vW h, if_neg e, Vs.put_get Vs.new_ok vV g, if_pos rfl])
        have A2 : Hid (((Vs.new.put N V).put M W).get M = W) := Lib.hid (by rw [Vs.put_get ok1 vW h, if_pos rfl])
        clear e
        clear g h pe1 pe2 ok1 vV vW
        go_enter Tryd.func7, Tryd.ntmps7
        go_wp2_with (first
    | (go_at_call 26; ((with_reducible refine (V1.out _).mono ?_); rintro e w1 ⟨rfl, q⟩; have Q1 := Lib.hid q; clear q))
    | (go_at_call 26; ((with_reducible refine (V2.out _).mono ?_); rintro e w2 ⟨rfl, q⟩; have Q2 := Lib.hid (Q1.out.trans q); clear q))
    | (go_at_call 22; ((with_reducible refine (B1.out _).mono ?_); rintro e w' ⟨rfl, rfl⟩))
    | (go_at_call 22; ((with_reducible refine (B2.out _).mono ?_); rintro e w' ⟨rfl, rfl⟩))
    | (go_at_call 11; ((with_reducible refine (psNew Q2.out).mono ?_); rintro e w3 ⟨B, L, cap, rfl, hP⟩; have P3 := Lib.hid hP; clear hP))
    | (go_at_call 10; ((with_reducible refine (awakeV _ (HT.out.kept P3.out.q)).mono ?_); rintro e w4 ⟨rfl, q⟩; have P4 := Lib.hid (P3.out.kept q); clear q))
    | (go_at_call 27; ((with_reducible refine (vlPut P4.out N V _ E1.out).mono ?_); rintro e w5 ⟨rfl, hP⟩; have P5 := Lib.hid hP; clear hP))
    | (go_at_call 27; ((with_reducible refine (vlPut P5.out M W _ E2.out).mono ?_); rintro e w6 ⟨rfl, hP⟩; have P6 := Lib.hid hP; clear hP))
    | (go_at_call 18; ((with_reducible refine (psGet P6.out N _ _ A1.out G1.out).mono ?_); rintro e w7 ⟨rfl, hP⟩; have P7 := Lib.hid hP; clear hP))
    | (go_at_call 18; ((with_reducible refine (psGet P7.out M _ _ A2.out G2.out).mono ?_); rintro e w8 ⟨rfl, hP⟩; have P8 := Lib.hid hP; clear hP)))
        go_ret
        exact ⟨rfl, P8.out.q⟩
    · have e : Vs.St.put (Vs.new.put N V) M W = Vs.new.put N V := Vs.put_no (by rw [pe2, h]; decide)
      have eb : ((N : Int) == M) = false := beq_eq_false_iff_ne.2 (fun k => by rw [k, h] at g; cases g)
      have G1 : Hid (Vs.gerr N = 0) := Lib.hid g
      have G2 : Hid (Vs.gerr M = 6) := Lib.hid h
      rw [g] at pe1
      rw [h] at pe2
      have E1 := Lib.hid pe1
      have E2 := Lib.hid pe2
      have A1 : Hid (((Vs.new.put N V).put M W).get N = V) := Lib.hid (by rw [e, Vs.put_get Vs.new_ok vV g, if_pos rfl])
      have A2 : Hid (((Vs.new.put N V).put M W).get M = 0) := Lib.hid (Vs.get_none h)
      clear e
      clear g h pe1 pe2 ok1 vV vW
      go_enter Tryd.func7, Tryd.ntmps7
      go_wp2_with (first
    | (go_at_call 26; ((with_reducible refine (V1.out _).mono ?_); rintro e w1 ⟨rfl, q⟩; have Q1 := Lib.hid q; clear q))
    | (go_at_call 26; ((with_reducible refine (V2.out _).mono ?_); rintro e w2 ⟨rfl, q⟩; have Q2 := Lib.hid (Q1.out.trans q); clear q))
    | (go_at_call 22; ((with_reducible refine (B1.out _).mono ?_); rintro e w' ⟨rfl, rfl⟩))
    | (go_at_call 22; ((with_reducible refine (B2.out _).mono ?_); rintro e w' ⟨rfl, rfl⟩))
    | (go_at_call 11; ((with_reducible refine (psNew Q2.out).mono ?_); rintro e w3 ⟨B, L, cap, rfl, hP⟩; have P3 := Lib.hid hP; clear hP))
    | (go_at_call 10; ((with_reducible refine (awakeV _ (HT.out.kept P3.out.q)).mono ?_); rintro e w4 ⟨rfl, q⟩; have P4 := Lib.hid (P3.out.kept q); clear q))
    | (go_at_call 27; ((with_reducible refine (vlPut P4.out N V _ E1.out).mono ?_); rintro e w5 ⟨rfl, hP⟩; have P5 := Lib.hid hP; clear hP))
    | (go_at_call 27; ((with_reducible refine (vlPut P5.out M W _ E2.out).mono ?_); rintro e w6 ⟨rfl, hP⟩; have P6 := Lib.hid hP; clear hP))
    | (go_at_call 18; ((with_reducible refine (psGet P6.out N _ _ A1.out G1.out).mono ?_); rintro e w7 ⟨rfl, hP⟩; have P7 := Lib.hid hP; clear hP))
    | (go_at_call 18; ((with_reducible refine (psGet P7.out M _ _ A2.out G2.out).mono ?_); rintro e w8 ⟨rfl, hP⟩; have P8 := Lib.hid hP; clear hP)))
      go_ret
      exact ⟨rfl, P8.out.q⟩
  · rcases Vs.gerr_cases M with h | h
    · have G1 : Hid (Vs.gerr N = 6) := Lib.hid g
      have G2 : Hid (Vs.gerr M = 0) := Lib.hid h
      rw [g] at pe1
      rw [h] at pe2
      have E1 := Lib.hid pe1
      have E2 := Lib.hid pe2
      have A1 : Hid (((Vs.new.put N V).put M W).get N = 0) := Lib.hid (Vs.get_none g)
      have A2 : Hid (((Vs.new.put N V).put M W).get M = W) := Lib.hid (by rw [Vs.put_get ok1 vW h, if_pos rfl])
      clear g h pe1 pe2 ok1 vV vW
      go_enter Tryd.func7, Tryd.ntmps7
      go_wp2_with (first
    | (go_at_call 26; ((with_reducible refine (V1.out _).mono ?_); rintro e w1 ⟨rfl, q⟩; have Q1 := Lib.hid q; clear q))
    | (go_at_call 26; ((with_reducible refine (V2.out _).mono ?_); rintro e w2 ⟨rfl, q⟩; have Q2 := Lib.hid (Q1.out.trans q); clear q))
    | (go_at_call 22; ((with_reducible refine (B1.out _).mono ?_); rintro e w' ⟨rfl, rfl⟩))
    | (go_at_call 22; ((with_reducible refine (B2.out _).mono ?_); rintro e w' ⟨rfl, rfl⟩))
    | (go_at_call 11; ((with_reducible refine (psNew Q2.out).mono ?_); rintro e w3 ⟨B, L, cap, rfl, hP⟩; have P3 := Lib.hid hP; clear hP))
    | (go_at_call 10; ((with_reducible refine (awakeV _ (HT.out.kept P3.out.q)).mono ?_); rintro e w4 ⟨rfl, q⟩; have P4 := Lib.hid (P3.out.kept q); clear q))
    | (go_at_call 27; ((with_reducible refine (vlPut P4.out N V _ E1.out).mono ?_); rintro e w5 ⟨rfl, hP⟩; have P5 := Lib.hid hP; clear hP))
    | (go_at_call 27; ((with_reducible refine (vlPut P5.out M W _ E2.out).mono ?_); rintro e w6 ⟨rfl, hP⟩; have P6 := Lib.hid hP; clear hP))
    | (go_at_call 18; ((with_reducible refine (psGet P6.out N _ _ A1.out G1.out).mono ?_); rintro e w7 ⟨rfl, hP⟩; have P7 := Lib.hid hP; clear hP))
    | (go_at_call 18; ((with_reducible refine (psGet P7.out M _ _ A2.out G2.out).mono ?_); rintro e w8 ⟨rfl, hP⟩; have P8 := Lib.hid hP; clear hP)))
      go_ret
      exact ⟨rfl, P8.out.q⟩
    · have G1 : Hid (Vs.gerr N = 6) := Lib.hid g
      have G2 : Hid (Vs.gerr M = 6) := Lib.hid h
      rw [g] at pe1
      rw [h] at pe2
      have E1 := Lib.hid pe1
      have E2 := Lib.hid pe2
      have A1 : Hid (((Vs.new.put N V).put M W).get N = 0) := Lib.hid (Vs.get_none g)
      have A2 : Hid (((Vs.new.put N V).put M W).get M = 0) := Lib.hid (Vs.get_none h)
      clear g h pe1 pe2 ok1 vV vW
      go_enter Tryd.func7, Tryd.ntmps7
      go_wp2_with (first
    | (go_at_call 26; ((with_reducible refine (V1.out _).mono ?_); rintro e w1 ⟨rfl, q⟩; have Q1 := Lib.hid q; clear q))
    | (go_at_call 26; ((with_reducible refine (V2.out _).mono ?_); rintro e w2 ⟨rfl, q⟩; have Q2 := Lib.hid (Q1.out.trans q); clear q))
    | (go_at_call 22; ((with_reducible refine (B1.out _).mono ?_); rintro e w' ⟨rfl, rfl⟩))
    | (go_at_call 22; ((with_reducible refine (B2.out _).mono ?_); rintro e w' ⟨rfl, rfl⟩))
    | (go_at_call 11; ((with_reducible refine (psNew Q2.out).mono ?_); rintro e w3 ⟨B, L, cap, rfl, hP⟩; have P3 := Lib.hid hP; clear hP))
    | (go_at_call 10; ((with_reducible refine (awakeV _ (HT.out.kept P3.out.q)).mono ?_); rintro e w4 ⟨rfl, q⟩; have P4 := Lib.hid (P3.out.kept q); clear q))
    | (go_at_call 27; ((with_reducible refine (vlPut P4.out N V _ E1.out).mono ?_); rintro e w5 ⟨rfl, hP⟩; have P5 := Lib.hid hP; clear hP))
    | (go_at_call 27; ((with_reducible refine (vlPut P5.out M W _ E2.out).mono ?_); rintro e w6 ⟨rfl, hP⟩; have P6 := Lib.hid hP; clear hP))
    | (go_at_call 18; ((with_reducible refine (psGet P6.out N _ _ A1.out G1.out).mono ?_); rintro e w7 ⟨rfl, hP⟩; have P7 := Lib.hid hP; clear hP))
    | (go_at_call 18; ((with_reducible refine (psGet P7.out M _ _ A2.out G2.out).mono ?_); rintro e w8 ⟨rfl, hP⟩; have P8 := Lib.hid hP; clear hP)))
      go_ret
      exact ⟨rfl, P8.out.q⟩

/-! ### the row and the card -/
theorem reads_varsKeeps (os : Os) {H : Type} (enc : TypeId × Value → H) : ∃ places, DataW.whole enc Tryd.prog ((laidWorldW os).forCall (fun _ _ => 0) ⟨#[], #[.int .i64 0, .int .i64 0, .int .i64 0, .int .i64 0], []⟩).memory Tryd.f7.params.toList Rows.varsKeepsSpec.vars false #[(.int .i64 0 : Value), .int .i64 0, .int .i64 0, .int .i64 0].toList 8 = some ([.lit (.int .i64 0), .lit (.int .i64 0), .lit (.int .i64 0), .lit (.int .i64 0)], [], places) :=
  ⟨[], by kernel_rfl⟩
set_option maxRecDepth 100000 in
theorem lifted_varsKeeps (os : Os) (started : os.Started) (H : Type) (enc : TypeId × Value → H) (F : Stop.Interp) :
    ReturnsInHanded {} Tryd.checked os 7 .any ((OpenSpec.ofChange Rows.varsKeepsSpec).preRow enc Tryd.prog Tryd.f7 Rows.varsKeepsRow.domain false Rows.varsKeepsRow.laid) (((OpenSpec.ofChange Rows.varsKeepsSpec).at F).post enc Tryd.prog Tryd.f7 false true false false) := by
  obtain ⟨places, hx⟩ := reads_varsKeeps os enc
  refine returnsInHanded_of_row (C := Tryd.checked) (s := OpenSpec.ofChange Rows.varsKeepsSpec) ownW started (by kernel_rfl) Tryd.func7
    (witness_row_at (enc := enc) (C := Tryd.checked) false (laidWorldW os) #[.int .i64 0, .int .i64 0, .int .i64 0, .int .i64 0] rfl (by kernel_rfl) (by kernel_rfl) (by kernel_rfl)
      (OpenSpec.preRow_of_cond 8 hx (by kernel_rfl) (fun k hk => by cases hk) (by kernel_rfl) (laid_metW os _))) ?_
  intro W base args ds gs before hval0 hW _ _ _ hL _ _
  have ht : Tl W := tableW hL
  have hval : ∀ (j : Nat) t v, Tryd.f7.params[j]? = some t → args[j]? = some v → Value.okWide Tryd.prog W .any base t v := hval0
  have hW' := hW
  obtain ⟨p, q, hA0, hV, rfl, hfz, hnd⟩ := hW
  have hA : DataW.TrodAll enc Tryd.prog W 0 (fun _ => true) true Tryd.f7.params.toList args.toList ds p := hA0
  rw [Tryd.params7] at hA hval
  obtain ⟨v0, vs0, d0, ds0, p0, q0, hargs, rfl, rfl, h0, r0⟩ := trodAll_cons hA
  obtain ⟨v1, vs1, d1, ds1, p1, q1, rfl, rfl, rfl, h1, r1⟩ := trodAll_cons r0
  obtain ⟨v2, vs2, d2, ds2, p2, q2, rfl, rfl, rfl, h2, r2⟩ := trodAll_cons r1
  obtain ⟨v3, vs3, d3, ds3, p3, q3, rfl, rfl, rfl, h3, r3⟩ := trodAll_cons r2
  obtain ⟨rfl, rfl, rfl⟩ := trodAll_nil r3
  obtain rfl : args = #[v0, v1, v2, v3] := by cases args; simp_all
  obtain ⟨rfl, rfl⟩ := trodVars_none hV
  obtain ⟨a0, rfl, rfl, rfl, w0⟩ := open_int Tryd.underlying3 (hval 0 3 v0 rfl rfl) h0
  obtain ⟨x0, y0⟩ := i64_wfW w0
  obtain ⟨a1, rfl, rfl, rfl, w1⟩ := open_int Tryd.underlying3 (hval 1 3 v1 rfl rfl) h1
  obtain ⟨x1, y1⟩ := i64_wfW w1
  obtain ⟨a2, rfl, rfl, rfl, w2⟩ := open_int Tryd.underlying3 (hval 2 3 v2 rfl rfl) h2
  obtain ⟨x2, y2⟩ := i64_wfW w2
  obtain ⟨a3, rfl, rfl, rfl, w3⟩ := open_int Tryd.underlying3 (hval 3 3 v3 rfl rfl) h3
  obtain ⟨x3, y3⟩ := i64_wfW w3
  clear hA0 hval0 hL
  simp only [List.append_nil] at hW'
  refine (walk_varsKeeps a0 x0 y0 a1 x1 y1 a2 x2 y2 a3 x3 y3 W ht).mono fun e W' ⟨he, bel⟩ => ?_
  subst he
  exact ⟨_, rfl, _, _, _, [], _, [], hW', trodAll_mk1 (shut_bool Tryd.underlying4 _), (trodAll_cons_mk (shut_int Tryd.underlying3 w0) (trodAll_cons_mk (shut_int Tryd.underlying3 w1) (trodAll_cons_mk (shut_int Tryd.underlying3 w2) (trodAll_cons_mk (shut_int Tryd.underlying3 w3) trodAll_mk0)))), rfl, Below.frame bel _, fun h => by cases h⟩

theorem varsKeeps_said : Rows.VarsKeepsSaid :=
  OpenClaim.holds_of_cond 7 Tryd.f7 rfl rfl rfl rfl rfl rfl rfl ⟨rfl, rfl, rfl, rfl, rfl⟩ rfl rfl rfl rfl rfl (by kernel_rfl) Tryd.func7 (by kernel_rfl)
    (of_decide_eq_true (by kernel_rfl)) (by unfold Func.isWrapper; first | (rw [if_pos (by decide +kernel)]; kernel_rfl) | (rw [if_neg (by decide +kernel)]; exact ⟨rfl, rfl⟩))
    (fun os started H enc _ F => by rw [OpenClaim.pre_eq_preRow]; exact lifted_varsKeeps os started H enc F)

theorem plain_varsKeeps (f : FuncId) (fn : Func) (hf : Tryd.pinned.checked.prog.funcNamed "cnc/cnclaw07.VarsKeeps" = some f) (hfn : Tryd.pinned.checked.prog.funcs[f]? = some fn) :
    false = Tryd.pinned.checked.prog.looks [] ∧ ∀ (j : Nat) t, fn.params[j]? = some t → Tryd.pinned.checked.prog.wantsStandIn t = false := by
  obtain rfl : f = 7 := Option.some.inj ((show Tryd.prog.funcNamed "cnc/cnclaw07.VarsKeeps" = some 7 by kernel_rfl).symm.trans hf) |>.symm
  obtain rfl : fn = Tryd.f7 := (Option.some.inj (Tryd.func7.symm.trans hfn)).symm
  refine ⟨by kernel_rfl, fun j t ht => ?_⟩
  rw [Tryd.params7] at ht
  obtain rfl : t = 3 := by simpa using Array.mem_of_getElem? ht
  exact (show Tryd.prog.wantsStandIn 3 = false by kernel_rfl)

/-- The statement. -/
theorem varsKeeps_card : Rows.VarsKeepsCardSaid :=
  Claim7.holds_tied_plain_at .later [] _ _ _ _ varsKeeps_said (fun _ h => by cases h) (by kernel_rfl) (fun _ h => by cases h) varsKeeps_row_tie rfl ⟨rfl, rfl⟩ (by kernel_rfl) rfl plain_varsKeeps (by kernel_rfl)

end Go.Proofs.YtmfhiabajkdikaaDoor
