import Derived.Test.YtciglhecjkeogaaGreatDoorZTX3
import Derived.Test.YtciglhecjkeogaaGreatDoorZTX4
import Derived.Test.YtciglhecjkeogaaGreatDoorZTX6
import Derived.Deep.QuietTactic
import Derived.BigQuiet
import Derived.StillTailTactics
import Derived.WalkLawsBesides
import Derived.Outline
set_option linter.unusedVariables false
set_option linter.unusedSimpArgs false
namespace Go.Proofs.YtciglhecjkeogaaGreatDoor
namespace Sy
open Lx
def noneB (x : Ex) : Bool := decide (x.op = 0) && decide (x.n = 0) && decide (x.ks.length = 0)
theorem noneB_eq {x : Ex} (h : noneB x = true) : x = zx := by
  obtain ⟨o, n, ks⟩ := x
  unfold noneB at h
  simp only [Bool.and_eq_true] at h
  obtain ⟨⟨h1, h2⟩, h3⟩ := h
  have k1 : o = 0 := of_decide_eq_true h1
  have k2 : n = 0 := of_decide_eq_true h2
  have k3 : ks.length = 0 := of_decide_eq_true h3
  rw [k1, k2, List.eq_nil_of_length_eq_zero k3]; rfl
def depB (x : Ex) : Bool := decide (dpt x ≤ 16)
def rgt (x : Ex) : Bool := okx x && depB x
def cnt (n : Int) (m : Nat) : Bool := decide (1 ≤ n) && decide (n ≤ m)
def okb (b : Bl) : Bool :=
  (decide (b.label = 0) || cnt b.label 99999) &&
  (if b.kind = 0 then b.words.all (fun w => isw w.1 && okx w.2) && noneB b.left && noneB b.x && decide (b.n = 0)
  else decide (b.words = []) &&
    (if b.kind = 1 ∨ b.kind = 3 then okx b.left && okx b.x && decide (b.n = 0)
    else if b.kind = 2 then noneB b.left && okx b.x && decide (b.n = 0)
    else if b.kind = 4 then noneB b.left && okx b.x && cnt b.n 3
    else if b.kind = 5 then noneB b.left && noneB b.x && cnt b.n 3
    else if b.kind = 6 then noneB b.left && noneB b.x && cnt b.n 99999
    else false))
def limb (b : Bl) : Bool := decide (b.words.length ≤ 24) && b.words.all (fun w => depB w.2) && depB b.left && depB b.x
def vldb (b : Bl) : Bool := okb b && limb b
theorem dpt_zx : depB zx = true := by unfold depB zx; rw [dpt_mk]; decide
def cIF : List UInt8 := [73, 70]
def cGOTO : List UInt8 := [71, 79, 84, 79]
def cWHILE : List UInt8 := [87, 72, 73, 76, 69]
def cDO : List UInt8 := [68, 79]
def cEND : List UInt8 := [69, 78, 68]
def inbT (x : Ex) : List Tr := sgn 91 :: tpr x ++ [sgn 93]
def wordsT (ws : List (Int × Ex)) : List Tr := ws.flatMap (fun w => let1 w.1 :: tva w.2)
def contT (b : Bl) : List Tr :=
  if b.kind = 0 then wordsT b.words
  else if b.kind = 1 then sgn 35 :: (tce b.left ++ sgn 61 :: tpr b.x)
  else if b.kind = 2 then nam cGOTO :: tva b.x
  else if b.kind = 3 then nam cIF :: (inbT b.x ++ nam cGOTO :: tva b.left)
  else if b.kind = 4 then nam cWHILE :: (inbT b.x ++ [nam cDO, nmb (b.n * 1000000)])
  else if b.kind = 5 then [nam cEND, nmb (b.n * 1000000)]
  else [let1 79, nmb (b.n * 1000000)]
def labT (b : Bl) : List Tr := if b.label = 0 then [] else [let1 78, nmb (b.label * 1000000)]
def blT (b : Bl) : List Tr := (if b.skip = true then [sgn 47] else []) ++ (labT b ++ contT b)
theorem has_all {ts : List Lx.Tok} {us : List Tr} (h : ts.map tri = us) : Has ts 0 us := ⟨[], by rw [List.drop_zero, h, List.append_nil]⟩
theorem kd_end (ts : List Lx.Tok) : kd ts ts.length = 0 ∧ tx ts ts.length = [] := by
  unfold kd tx; rw [List.getElem?_eq_none (Nat.le_refl _)]; exact ⟨rfl, rfl⟩
theorem noop_end (ts : List Lx.Tok) : Noop ts 0 ts.length := fun m _ hm => by rw [(kd_end ts).2]; exact lop_nil m hm
theorem pN_back {ts : List Lx.Tok} {i m : Nat} {n : Int} (h : cnt n m = true) (hh : Has ts i [nmb (n * 1000000)]) : pN ts m i = .ok n (i + 1) := by
  have g := hh.head
  simp [cnt] at h
  unfold pN
  have k1 : kd ts i = 2 := g.1
  have k2 : tn ts i = n * 1000000 := g.2.1
  have k3 : isc (n * 1000000) m = true := by unfold isc; simp; omega
  rw [k2, if_pos ⟨k1, k3⟩, Int.mul_ediv_cancel _ (by decide)]
theorem pW_back {ts : List Lx.Tok} : ∀ (ws : List (Int × Ex)) (i : Nat) (vs : List (Int × Ex)) (f : Nat), (∀ w ∈ ws, isw w.1 = true ∧ okx w.2 = true) → i ≤ ts.length → Has ts i (wordsT ws) → i + (wordsT ws).length = ts.length →
    ts.length - i + 1 ≤ f → pW ts f vs i = .ok (vs ++ ws) ts.length
  | [], i, vs, f, _, hi, hh, he, hf => by
    obtain ⟨f, rfl⟩ : ∃ g, f = g + 1 := ⟨f - 1, by omega⟩
    have : i = ts.length := by simp [wordsT] at he; exact he
    subst this
    rw [pW, if_neg (by rw [(kd_end ts).1]; simp), List.append_nil]
  | w :: ws, i, vs, f, hw, hi, hh, he, hf => by
    obtain ⟨f, rfl⟩ : ∃ g, f = g + 1 := ⟨f - 1, by omega⟩
    have e : wordsT (w :: ws) = let1 w.1 :: (tva w.2 ++ wordsT ws) := by simp [wordsT]
    rw [e] at hh he
    have g := hh.head
    have l0 := g.2.2.2
    have k := hw w (List.mem_cons_self ..)
    have k1 : kd ts i = 1 := g.1
    have k2 : tn ts i = w.1 := g.2.1
    rw [pW, if_pos ⟨k1, by rw [k2]; exact k.1⟩, pV_back k.2 (by omega) hh.tail.left]
    simp only
    have h2 := hh.tail.right
    simp only [List.length_cons, List.length_append] at he
    rw [pW_back ws _ _ f (fun v hv => hw v (List.mem_cons_of_mem _ hv)) (by omega) h2 (by omega) (by omega), k2]
    simp
theorem isw_not {c : Int} (h : isw c = true) : c ≠ 78 ∧ c ≠ 79 := by
  simp [isw] at h; omega
theorem cont_first {b : Bl} (h : okb b = true) {ts : List Lx.Tok} {i : Nat} (hh : Has ts i (contT b)) (he : i + (contT b).length = ts.length) : tx ts i ≠ [47] ∧ ¬ (kd ts i = 1 ∧ tn ts i = 78) := by
  simp only [okb, Bool.and_eq_true] at h
  obtain ⟨hl, h⟩ := h
  have key : ∀ {u : Tr} {us : List Tr}, contT b = u :: us → u.2.2 ≠ [47] → ¬ (u.1 = 1 ∧ u.2.1 = 78) → tx ts i ≠ [47] ∧ ¬ (kd ts i = 1 ∧ tn ts i = 78) := by
    intro u us e h1 h2
    have g := (show Has ts i (u :: us) from e ▸ hh).head
    rw [g.1, g.2.1, g.2.2.1]; exact ⟨h1, h2⟩
  by_cases k0 : b.kind = 0
  · rw [if_pos k0] at h
    simp only [Bool.and_eq_true, List.all_eq_true] at h
    have hc : contT b = wordsT b.words := by unfold contT; rw [if_pos k0]
    cases hw : b.words with
    | nil =>
      have : i = ts.length := by rw [hc, hw] at he; simpa [wordsT] using he
      subst this
      rw [(kd_end ts).1, (kd_end ts).2]; simp
    | cons w ws =>
      refine key (u := let1 w.1) (us := tva w.2 ++ wordsT ws) (by rw [hc, hw]; simp [wordsT]) (by simp [let1]) ?_
      have := (isw_not (h.1.1.1 w (by rw [hw]; exact List.mem_cons_self ..)).1).1
      simp [let1, this]
  · unfold contT at key
    rw [if_neg k0] at key
    split at key
    · exact key rfl (by decide) (by decide)
    · split at key
      · exact key rfl (by decide) (by decide)
      · split at key
        · exact key rfl (by decide) (by decide)
        · split at key
          · exact key rfl (by decide) (by decide)
          · split at key
            · exact key rfl (by decide) (by simp [nam])
            · exact key rfl (by simp [let1]) (by simp [let1])
def bare (b : Bl) : Bl := { b with skip := false, label := 0 }
theorem pCt_back {b : Bl} (h : okb b = true) {ts : List Lx.Tok} {i : Nat} (hi : i ≤ ts.length) (hh : Has ts i (contT b)) (he : i + (contT b).length = ts.length) : pCt ts i = .ok (bare b) ts.length := by
  obtain ⟨kind, label, skip, words, left, x, n⟩ := b
  simp only [okb, Bool.and_eq_true] at h
  obtain ⟨hl, h⟩ := h
  unfold contT at hh he
  unfold bare
  simp only at h hh he ⊢
  by_cases k0 : kind = 0
  · subst k0
    rw [if_pos rfl] at h hh he
    simp only [Bool.and_eq_true, decide_eq_true_eq, List.all_eq_true] at h
    obtain ⟨⟨⟨h1, h2⟩, h3⟩, rfl⟩ := h
    obtain rfl := noneB_eq h2
    obtain rfl := noneB_eq h3
    have first : tx ts i = [] ∧ ¬ (kd ts i = 1 ∧ tn ts i = 79) := by
      cases words with
      | nil =>
        have : i = ts.length := by simpa [wordsT] using he
        subst this
        rw [(kd_end ts).1, (kd_end ts).2]; simp
      | cons w ws =>
        have g := (show Has ts i (let1 w.1 :: (tva w.2 ++ wordsT ws)) by rw [show wordsT (w :: ws) = let1 w.1 :: (tva w.2 ++ wordsT ws) by simp [wordsT]] at hh; exact hh).head
        have e := (isw_not (h1 w (List.mem_cons_self ..)).1).2
        rw [g.1, g.2.1, g.2.2.1]
        exact ⟨rfl, by simp [let1, e]⟩
    unfold pCt
    rw [first.1, if_neg (by decide), if_neg (by decide), if_neg (by decide), if_neg (by decide), if_neg (by decide), if_neg first.2, pW_back words i [] _ (fun w hw => h1 w hw) hi hh he (by omega)]
    rfl
  · rw [if_neg k0] at h hh he
    simp only [Bool.and_eq_true, decide_eq_true_eq] at h
    obtain ⟨rfl, h⟩ := h
    by_cases k1 : kind = 1
    · subst k1
      rw [if_pos rfl] at hh he
      rw [if_pos (.inl rfl)] at h
      simp only [Bool.and_eq_true, decide_eq_true_eq] at h
      obtain ⟨⟨h1, h2⟩, rfl⟩ := h
      have g := hh.head
      have l0 := g.2.2.2
      have h3 := hh.tail.right
      have g3 := h3.head
      simp only [List.length_cons, List.length_append] at he
      unfold pCt
      rw [if_pos (show tx ts i = [35] from g.2.2.1), (back left h1).ce (by omega) hh.tail.left _ (by unfold fuel; omega)]
      simp only
      rw [if_pos (show tx ts (i + 1 + (tce left).length) = [61] from g3.2.2.1)]
      have e : i + 1 + (tce left).length + 1 + (tpr x).length = ts.length := by omega
      rw [(back x h2).p ts _ (by omega) h3.tail (by rw [e]; exact noop_end ts) _ (by unfold need fuel; omega), e]
      rfl
    · by_cases k2 : kind = 2
      · subst k2
        rw [if_neg (by decide), if_pos rfl] at hh he
        rw [if_neg (by decide), if_pos rfl] at h
        simp only [Bool.and_eq_true, decide_eq_true_eq] at h
        obtain ⟨⟨h1, h2⟩, rfl⟩ := h
        obtain rfl := noneB_eq h1
        have g := hh.head
        have l0 := g.2.2.2
        have x0 : tx ts i = [71, 79, 84, 79] := g.2.2.1
        simp only [List.length_cons] at he
        unfold pCt
        rw [x0, if_neg (by decide), if_neg (by decide), if_pos rfl, pV_back h2 (by omega) hh.tail, show i + 1 + (tva x).length = ts.length by omega]
        rfl
      · by_cases k3 : kind = 3
        · subst k3
          rw [if_neg (by decide), if_neg (by decide), if_pos rfl] at hh he
          rw [if_pos (.inr rfl)] at h
          simp only [Bool.and_eq_true, decide_eq_true_eq] at h
          obtain ⟨⟨h1, h2⟩, rfl⟩ := h
          have g := hh.head
          have l0 := g.2.2.2
          have x0 : tx ts i = [73, 70] := g.2.2.1
          have h3 := hh.tail.right
          have g3 := h3.head
          have lb : (inbT x).length = (tpr x).length + 2 := by simp [inbT]
          simp only [List.length_cons, List.length_append] at he
          rw [lb] at h3 g3 he
          unfold pCt
          rw [x0, if_neg (by decide), if_pos rfl, (back x h2).b (by omega) hh.tail.left _ (by unfold fuel; omega)]
          simp only
          rw [show i + 1 + (tpr x).length + 2 = i + 1 + ((tpr x).length + 2) by omega, if_pos (show tx ts (i + 1 + ((tpr x).length + 2)) = [71, 79, 84, 79] from g3.2.2.1), pV_back h1 (by omega) h3.tail, show i + 1 + ((tpr x).length + 2) + 1 + (tva left).length = ts.length by omega]
          rfl
        · by_cases k4 : kind = 4
          · subst k4
            rw [if_neg (by decide), if_neg (by decide), if_neg (by decide), if_pos rfl] at hh he
            rw [if_neg (by decide), if_neg (by decide), if_pos rfl] at h
            simp only [Bool.and_eq_true, decide_eq_true_eq] at h
            obtain ⟨⟨h1, h2⟩, h4⟩ := h
            obtain rfl := noneB_eq h1
            have g := hh.head
            have l0 := g.2.2.2
            have x0 : tx ts i = [87, 72, 73, 76, 69] := g.2.2.1
            have h3 := hh.tail.right
            have g3 := h3.head
            have lb : (inbT x).length = (tpr x).length + 2 := by simp [inbT]
            simp only [List.length_cons, List.length_append, List.length_nil] at he
            rw [lb] at h3 g3 he
            unfold pCt
            rw [x0, if_neg (by decide), if_neg (by decide), if_neg (by decide), if_pos rfl, (back x h2).b (by omega) hh.tail.left _ (by unfold fuel; omega)]
            simp only
            rw [show i + 1 + (tpr x).length + 2 = i + 1 + ((tpr x).length + 2) by omega, if_pos (show tx ts (i + 1 + ((tpr x).length + 2)) = [68, 79] from g3.2.2.1), pN_back h4 h3.tail, show i + 1 + ((tpr x).length + 2) + 1 + 1 = ts.length by omega]
            rfl
          · by_cases k5 : kind = 5
            · subst k5
              rw [if_neg (by decide), if_neg (by decide), if_neg (by decide), if_neg (by decide), if_pos rfl] at hh he
              rw [if_neg (by decide), if_neg (by decide), if_neg (by decide), if_pos rfl] at h
              simp only [Bool.and_eq_true, decide_eq_true_eq] at h
              obtain ⟨⟨h1, h2⟩, h4⟩ := h
              obtain rfl := noneB_eq h1
              obtain rfl := noneB_eq h2
              have g := hh.head
              have x0 : tx ts i = [69, 78, 68] := g.2.2.1
              simp only [List.length_cons, List.length_nil] at he
              unfold pCt
              rw [x0, if_neg (by decide), if_neg (by decide), if_neg (by decide), if_neg (by decide), if_pos rfl, pN_back h4 hh.tail, show i + 1 + 1 = ts.length by omega]
              rfl
            · rw [if_neg k1, if_neg k2, if_neg k3, if_neg k4, if_neg k5] at hh he
              rw [if_neg (by omega), if_neg k2, if_neg k4, if_neg k5] at h
              by_cases k6 : kind = 6
              · subst k6
                rw [if_pos rfl] at h
                simp only [Bool.and_eq_true, decide_eq_true_eq] at h
                obtain ⟨⟨h1, h2⟩, h4⟩ := h
                obtain rfl := noneB_eq h1
                obtain rfl := noneB_eq h2
                have g := hh.head
                have x0 : tx ts i = [] := g.2.2.1
                have y0 : kd ts i = 1 := g.1
                have z0 : tn ts i = 79 := g.2.1
                simp only [List.length_cons, List.length_nil] at he
                unfold pCt
                rw [x0, if_neg (by decide), if_neg (by decide), if_neg (by decide), if_neg (by decide), if_neg (by decide), if_pos ⟨y0, z0⟩, pN_back h4 hh.tail, show i + 1 + 1 = ts.length by omega]
                rfl
              · rw [if_neg k6] at h; cases h
theorem pLn_back {b : Bl} (h : okb b = true) {ts : List Lx.Tok} (hh : ts.map tri = blT b) : pLn ts = .ok b ts.length := by
  have H := has_all hh
  have hlen : (blT b).length = ts.length := by rw [← hh, List.length_map]
  unfold blT at H hlen
  have key : ∀ (i : Nat) (s : Bool), i ≤ ts.length → Has ts i (labT b ++ contT b) → i + (labT b ++ contT b).length = ts.length → s = b.skip →
      (if kd ts i = 1 ∧ tn ts i = 78 then match pN ts 99999 (i + 1) with
        | .bad j => .bad j
        | .ok n j => pEnd ts s n (pCt ts j)
      else pEnd ts s 0 (pCt ts i)) = .ok b ts.length := by
    intro i s hi hH hL hs
    by_cases l0 : b.label = 0
    · have e : labT b = [] := by unfold labT; rw [if_pos l0]
      rw [e, List.nil_append] at hH hL
      have c := cont_first h hH hL
      rw [if_neg c.2, pCt_back h hi hH hL]
      unfold pEnd
      simp only
      rw [if_neg (by omega), hs]
      unfold bare
      rw [← l0]
    · have e : labT b = [let1 78, nmb (b.label * 1000000)] := by unfold labT; rw [if_neg l0]
      rw [e] at hH hL
      have g := hH.head
      have c : cnt b.label 99999 = true := by
        simp only [okb, Bool.and_eq_true, Bool.or_eq_true, decide_eq_true_eq] at h
        rcases h.1 with h | h
        · exact absurd h l0
        · exact h
      simp only [List.length_cons, List.length_append, List.length_nil] at hL
      rw [if_pos ⟨g.1, g.2.1⟩, pN_back c (Has.left (vs := contT b) hH.tail)]
      simp only
      have h2 : Has ts (i + 1 + 1) (contT b) := hH.tail.tail
      rw [pCt_back h (by omega) h2 (by omega)]
      unfold pEnd
      simp only
      rw [if_neg (by omega), hs]
      rfl
  cases hs : b.skip with
  | true =>
    rw [hs, if_pos rfl] at H hlen
    have g := H.head
    have g1 : tx ts 0 = [47] := g.2.2.1
    unfold pLn
    simp only [g1, if_pos]
    refine key 1 _ g.2.2.2 H.tail (by simp only [List.length_cons, List.length_append, List.length_nil] at hlen ⊢; omega) (by rw [hs]; rfl)
  | false =>
    rw [hs, if_neg (by decide), List.nil_append] at H hlen
    have g1 : tx ts 0 ≠ [47] := by
      by_cases l0 : b.label = 0
      · have e : labT b = [] := by unfold labT; rw [if_pos l0]
        rw [e, List.nil_append] at H hlen
        exact (cont_first h H (by omega)).1
      · have e : labT b = [let1 78, nmb (b.label * 1000000)] := by unfold labT; rw [if_neg l0]
        rw [e] at H
        rw [H.head.2.2.1]; simp [let1]
    unfold pLn
    simp only [if_neg g1]
    refine key 0 _ (Nat.zero_le _) H (by omega) (by rw [hs]; exact decide_eq_false g1)
theorem pV_ok {ts : List Lx.Tok} (hg : Good ts) (i : Nat) : OkR (pV ts i) := by
  unfold pV
  split
  · exact OkR.wrapU (o := 2) ((okr ts hg _).c (i + 1)) (by omega)
  · split
    · exact (okr ts hg _).c (i + 1)
    · exact (okr ts hg _).c i
def wsB (ws : List (Int × Ex)) : Bool := ws.all (fun w => isw w.1 && okx w.2)
theorem pW_ok {ts : List Lx.Tok} (hg : Good ts) : ∀ (f : Nat) (ws : List (Int × Ex)) (i : Nat), wsB ws = true → ∀ us j, pW ts f ws i = .ok us j → wsB us = true
  | 0, ws, i, h, us, j, e => by unfold pW at e; cases e
  | f + 1, ws, i, h, us, j, e => by
    unfold pW at e
    split at e
    · rename_i hc
      have g := pV_ok hg (i + 1)
      cases e1 : pV ts (i + 1) with
      | bad k => rw [e1] at e; cases e
      | ok x k =>
        rw [e1] at e g
        simp only at e
        refine pW_ok hg f _ k ?_ us j e
        unfold wsB at h ⊢
        rw [List.all_append, h]
        simp [hc.2, show okx x = true from g]
    · cases e; exact h
theorem wrapC_ok {α β : Type} {g : α → β} {r : Rs α} {y : β} {j : Nat} (e : wrapC g r = .ok y j) : ∃ x, r = .ok x j ∧ y = g x := by
  cases r with
  | bad k => cases e
  | ok x k => cases e; exact ⟨x, rfl, rfl⟩
theorem okx_num' {n : Int} (h0 : 0 ≤ n) (h1 : n < 1000000000000000) : okx (num n) = true := by
  unfold num; rw [okx_mk]; unfold nodeB; simp [kds, kdsl]; omega
theorem okx_un' {o : Int} {x : Ex} (h : 0 ≤ o ∧ o ≤ 25) (k : kds o.toNat = 1) (hx : okx x = true) : okx (un o x) = true := by
  unfold un; rw [okx_mk]; unfold nodeB; simp [k, hx]; omega
theorem okx_bin' {o : Int} {x y : Ex} (h : 0 ≤ o ∧ o ≤ 25) (k : kds o.toNat = 2) (hx : okx x = true) (hy : okx y = true) : okx (bin o x y) = true := by
  unfold bin; rw [okx_mk]; unfold nodeB; simp [k, hx, hy]; omega
theorem dpt_num (n : Int) : dpt (num n) = 1 := by unfold num; rw [dpt_mk]; rfl
theorem dpt_un (o : Int) (x : Ex) : dpt (un o x) = 1 + dpt x := by unfold un; rw [dpt_mk]; simp [dmx]
theorem dpt_bin (o : Int) (x y : Ex) : dpt (bin o x y) = 1 + max (dpt x) (dpt y) := by unfold bin; rw [dpt_mk]; simp [dmx]
end Sy
end Go.Proofs.YtciglhecjkeogaaGreatDoor
set_option linter.unusedVariables false
set_option linter.unusedSimpArgs false
namespace Go.Proofs.YtciglhecjkeogaaGreatDoor
open Go.RowKit
structure Px (P : Nat) (w w' : World) : Prop where
  os : w'.os = w.os
  tape : w'.tape = w.tape
  output : w'.output = w.output
  size : w.heap.size ≤ w'.heap.size
  block : ∀ k, k < w.heap.size → k ≠ P → w'.heap[k]? = w.heap[k]?
theorem Px.refl (P : Nat) (w : World) : Px P w w := ⟨rfl, rfl, rfl, Nat.le_refl _, fun _ _ _ => rfl⟩
theorem Px.of {P : Nat} {w w' : World} (q : Qw w w') : Px P w w' := ⟨q.os, q.tape, q.output, q.size, fun k h _ => q.block k h⟩
theorem Px.trans {P : Nat} {a b c : World} (h : Px P a b) (k : Px P b c) : Px P a c :=
  ⟨k.os.trans h.os, k.tape.trans h.tape, k.output.trans h.output, Nat.le_trans h.size k.size, fun i hi hp => (k.block i (Nat.lt_of_lt_of_le hi h.size) hp).trans (h.block i hi hp)⟩
theorem Px.set (P : Nat) (w : World) (o : Nat) (u : Value) : Px P w (w.setCell ⟨P, o, none⟩ u) :=
  ⟨rfl, rfl, rfl, by simp [World.setCell], fun k _ hp => Below.heap_setCell _ _ _ _ hp⟩
theorem Px.below {P : Nat} {w w' : World} (h : Px P w w') (hP : P ≤ w.heap.size) : Below P w w' := ⟨h.os, h.tape, h.output, h.size, fun k hk => h.block k (by omega) (by omega)⟩
theorem Px.alloc {P : Nat} {a w : World} (h : Px P a w) (o : Obj) : Px P a (w.alloc o) :=
  h.trans ⟨rfl, rfl, rfl, by simp, fun k hk _ => Below.heap_alloc _ _ _ hk⟩
theorem Px.setP {P : Nat} {a w : World} (h : Px P a w) (o : Nat) (u : Value) : Px P a (w.setCell ⟨P, o, none⟩ u) := h.trans (Px.set P w o u)
theorem Px.setNew {P : Nat} {a w : World} (h : Px P a w) {p : Addr} (hp : a.heap.size ≤ p.block) (u : Value) : Px P a (w.setCell p u) :=
  ⟨h.os, h.tape, h.output, by have := h.size; simpa [World.setCell] using this, fun k hk hP => (Below.heap_setCell _ _ _ _ (by omega)).trans (h.block k hk hP)⟩
theorem Px.drew {P : Nat} {a w : World} (h : Px P a w) : Px P a w.drew := ⟨h.os, h.tape, h.output, h.size, h.block⟩
theorem Px.drewN {P : Nat} {a w : World} (h : Px P a w) (n : Nat) : Px P a (w.drewN n) := h.trans ⟨rfl, rfl, rfl, Nat.le_refl _, fun _ _ _ => rfl⟩
theorem Bx.px {P : Nat} {w w' : World} {b : Nat} {cs : Array Value} {t : TypeId} (h : Bx w b cs t) (q : Px P w w') (hb : b ≠ P) : Bx w' b cs t := (q.block b h.lt hb).trans h
theorem Qw.al {a w : World} (h : Qw a w) (o : Obj) : Qw a (w.alloc o) := Below.alloc h h.size o
theorem Qw.dr {a w : World} (h : Qw a w) : Qw a w.drew := Below.drew h
theorem Qw.dn {a w : World} (h : Qw a w) (n : Nat) : Qw a (w.drewN n) := Below.trans h ⟨rfl, rfl, rfl, Nat.le_refl _, fun _ _ => rfl⟩
theorem Qw.sc {a w : World} (h : Qw a w) {p : Addr} (hp : a.heap.size ≤ p.block) (u : Value) : Qw a (w.setCell p u) := Below.setCell h hp u
theorem Qw.le {w w' : World} (h : Qw w w') : w.heap.size ≤ w'.heap.size := h.size
theorem Qw.bel {w w' : World} (h : Qw w w') : Below w.heap.size w w' := h
def Ow (w : World) : Prop := 0 < w.heap.size ∧ ∀ j, j < 26 → w.cell? ⟨0, j * 2, none⟩ = some (.string (bs (Sy.onm j))) ∧ w.cell? ⟨0, j * 2 + 1, none⟩ = some (.int .i64 (Sy.kds j : Nat))
theorem Ow.cong {w w' : World} (h : Ow w) (hs : w.heap.size ≤ w'.heap.size) (hb : w'.heap[0]? = w.heap[0]?) : Ow w' :=
  ⟨Nat.lt_of_lt_of_le h.1 hs, fun j hj => by
    have k : ∀ o, w'.cell? ⟨0, o, none⟩ = w.cell? ⟨0, o, none⟩ := fun o => World.cell?_of_block (w := w) hb
    rw [k, k]; exact h.2 j hj⟩
theorem Ow.kept {w w' : World} (h : Ow w) (q : Qw w w') : Ow w' := h.cong q.size (q.block _ h.1)
structure Par (w : World) (P : Nat) (a : Option Addr) (cap : Nat) (ts : List Lx.Tok) (len i : Nat) : Prop where
  bx : Bx w P #[.slice a ts.length cap, .int .i64 (i : Int), .int .i64 (len : Int)] 62
  tk : ToksB P w (.slice a ts.length cap) ts
  ow : Ow w
  og : 0 ≠ P
  le : i ≤ ts.length
  hl : ts.length ≤ 1000000
theorem Par.kept {w w' : World} {P : Nat} {a : Option Addr} {cap : Nat} {ts : List Lx.Tok} {len i : Nat} (h : Par w P a cap ts len i) (q : Qw w w') : Par w' P a cap ts len i :=
  ⟨h.bx.kept q, h.tk.kept q (Nat.le_of_lt h.bx.lt), h.ow.kept q, h.og, h.le, h.hl⟩
theorem Par.set {w : World} {P : Nat} {a : Option Addr} {cap : Nat} {ts : List Lx.Tok} {len i : Nat} (h : Par w P a cap ts len i) (j : Nat) (hj : j ≤ ts.length) : Par (w.setCell ⟨P, 1, none⟩ (.int .i64 (j : Int))) P a cap ts len j :=
  ⟨h.bx.set 1 _, h.tk.kept ((Px.set P w 1 _).below (Nat.le_of_lt h.bx.lt)) (Nat.le_refl _), h.ow.cong (by simp [World.setCell]) (Below.heap_setCell _ _ _ _ h.og), h.og, hj, h.hl⟩
def tokV (ts : List Lx.Tok) (len i : Nat) : Value := .agg #[.int .i64 (Sy.kd ts i), .int .i64 (Sy.tn ts i), .int .i64 (Sy.tp ts len i : Nat), .string (bs (Sy.tx ts i))]
theorem tok_end {ts : List Lx.Tok} {i : Nat} (h : i = ts.length) (len : Nat) : tokV ts len i = .agg #[.int .i64 0, .int .i64 0, .int .i64 (len : Nat), .string ⟨#[]⟩] := by
  unfold tokV Sy.kd Sy.tn Sy.tp Sy.tx
  rw [List.getElem?_eq_none (by omega)]
  rfl
theorem tok_mid {ts : List Lx.Tok} {i : Nat} (h : i < ts.length) (len : Nat) : tokV ts len i = .agg #[.int .i64 ts[i].k, .int .i64 ts[i].n, .int .i64 (ts[i].p : Nat), .string (bs ts[i].x)] := by
  unfold tokV Sy.kd Sy.tn Sy.tp Sy.tx
  rw [List.getElem?_eq_getElem h]
theorem bel_drewN {B : Nat} {a w : World} (h : Below B a w) (n : Nat) : Below B a (w.drewN n) := h.trans ⟨rfl, rfl, rfl, Nat.le_refl _, fun _ _ => rfl⟩
theorem ret_tok {fn : Func} {s : Nat} {a : Act} {w : World} {b : Nat} {v0 v1 v2 v3 : Value} {t : TypeId} (hr : fn.results = #[.cell s 82]) (hs : a.tmps[s]?.getD undef = .pointer (some ⟨b, 0, none⟩)) (X : Bx w b #[v0, v1, v2, v3] t) :
    (results fn a.tmps).run Tryz.prog w = .ok (.agg #[v0, v1, v2, v3]) w := by
  have c0 : w.cell? ⟨b, 0, none⟩ = some v0 := X.cell' 0 _ rfl
  have c1 : w.cell? ⟨b, 1, none⟩ = some v1 := X.cell' 1 _ rfl
  have c2 : w.cell? ⟨b, 2, none⟩ = some v2 := X.cell' 2 _ rfl
  have c3 : w.cell? ⟨b, 3, none⟩ = some v3 := X.cell' 3 _ rfl
  simp [results, hr, hs, go_sem, c0, c1, c2, c3]
theorem ret_ex {fn : Func} {s : Nat} {a : Act} {w : World} {b : Nat} {v0 v1 v2 : Value} {t : TypeId} (hr : fn.results = #[.cell s 31]) (hs : a.tmps[s]?.getD undef = .pointer (some ⟨b, 0, none⟩)) (X : Bx w b #[v0, v1, v2] t) :
    (results fn a.tmps).run Tryz.prog w = .ok (.agg #[v0, v1, v2]) w := by
  have c0 : w.cell? ⟨b, 0, none⟩ = some v0 := X.cell' 0 _ rfl
  have c1 : w.cell? ⟨b, 1, none⟩ = some v1 := X.cell' 1 _ rfl
  have c2 : w.cell? ⟨b, 2, none⟩ = some v2 := X.cell' 2 _ rfl
  simp [results, hr, hs, go_sem, c0, c1, c2]
theorem ret_fail {fn : Func} {s : Nat} {a : Act} {w : World} {b : Nat} {v0 v1 : Value} {t : TypeId} (hr : fn.results = #[.cell s 59]) (hs : a.tmps[s]?.getD undef = .pointer (some ⟨b, 0, none⟩)) (X : Bx w b #[v0, v1] t) :
    (results fn a.tmps).run Tryz.prog w = .ok (.agg #[v0, v1]) w := by
  have c0 : w.cell? ⟨b, 0, none⟩ = some v0 := X.cell' 0 _ rfl
  have c1 : w.cell? ⟨b, 1, none⟩ = some v1 := X.cell' 1 _ rfl
  simp [results, hr, hs, go_sem, c0, c1]
theorem ret_blk {fn : Func} {s : Nat} {a : Act} {w : World} {b : Nat} {v0 v1 v2 v3 v4 v5 v6 v7 v8 v9 v10 : Value} {t : TypeId} (hr : fn.results = #[.cell s 37]) (hs : a.tmps[s]?.getD undef = .pointer (some ⟨b, 0, none⟩)) (X : Bx w b #[v0, v1, v2, v3, v4, v5, v6, v7, v8, v9, v10] t) :
    (results fn a.tmps).run Tryz.prog w = .ok (.agg #[v0, v1, v2, v3, v4, v5, v6, v7, v8, v9, v10]) w := by
  have c0 : w.cell? ⟨b, 0, none⟩ = some v0 := X.cell' 0 _ rfl
  have c1 : w.cell? ⟨b, 1, none⟩ = some v1 := X.cell' 1 _ rfl
  have c2 : w.cell? ⟨b, 2, none⟩ = some v2 := X.cell' 2 _ rfl
  have c3 : w.cell? ⟨b, 3, none⟩ = some v3 := X.cell' 3 _ rfl
  have c4 : w.cell? ⟨b, 4, none⟩ = some v4 := X.cell' 4 _ rfl
  have c5 : w.cell? ⟨b, 5, none⟩ = some v5 := X.cell' 5 _ rfl
  have c6 : w.cell? ⟨b, 6, none⟩ = some v6 := X.cell' 6 _ rfl
  have c7 : w.cell? ⟨b, 7, none⟩ = some v7 := X.cell' 7 _ rfl
  have c8 : w.cell? ⟨b, 8, none⟩ = some v8 := X.cell' 8 _ rfl
  have c9 : w.cell? ⟨b, 9, none⟩ = some v9 := X.cell' 9 _ rfl
  have c10 : w.cell? ⟨b, 10, none⟩ = some v10 := X.cell' 10 _ rfl
  simp [results, hr, hs, go_sem, c0, c1, c2, c3, c4, c5, c6, c7, c8, c9, c10]
set_option maxRecDepth 100000 in
set_option maxHeartbeats 4000000 in
theorem syNext {w : World} {P : Nat} {a : Option Addr} {cap : Nat} {ts : List Lx.Tok} {len i : Nat} (h : Par w P a cap ts len i) :
    Calls Tryz.prog 64 #[.pointer (some ⟨P, 0, none⟩)] w fun e w' => e = .returned (tokV ts len i) ∧ Qw w w' := by
  have c0 : w.cell? ⟨P, 0, none⟩ = some (.slice a ts.length cap) := h.bx.cell' 0 _ rfl
  have c1 : w.cell? ⟨P, 1, none⟩ = some (.int .i64 (i : Int)) := h.bx.cell' 1 _ rfl
  have c2 : w.cell? ⟨P, 2, none⟩ = some (.int .i64 (len : Int)) := h.bx.cell' 2 _ rfl
  have hP := h.bx.lt
  have hl := h.hl
  have hle := h.le
  obtain ⟨a', cap', e, l1, l2, ht⟩ := h.tk
  injection e with e1 e2 e3
  subst e1 e3
  by_cases hi : i = ts.length
  · rw [tok_end hi]
    clear ht hle h
    subst hi
    go_enter Tryz.func64, Tryz.ntmps64
    go_wp2
    go_quiet (fail)
    go_wp2
    exact bodyPost_ret (v := .agg #[.int .i64 0, .int .i64 0, .int .i64 (len : Nat), .string ⟨#[]⟩]) (by simp [results, Tryz.results64, go_sem]) rfl ⟨rfl, (by repeat (first | exact q0.out | exact Qw.refl _ | refine Qw.al ?_ _ | refine Qw.dr ?_ | refine Qw.dn ?_ _ | refine Qw.sc ?_ (by first | (simp; done) | omega | (have := q0.out.size; first | omega | (simp; omega))) _))⟩
  · have hi' : i < ts.length := by omega
    rw [tok_mid hi']
    rcases ht with h0 | ⟨g, off, rfl, hg, hc⟩
    · rw [h0] at hi'; simp at hi'
    obtain ⟨d0, d1, d2, d3⟩ := hc i hi'
    have E : ((i : Int) == (ts.length : Int)) = false := beq_eq_false_iff_ne.2 (by omega)
    have hgP : g ≠ w.heap.size := by omega
    have hi3 : (i : Int) < (ts.length : Int) := by omega
    clear hc hi h
    generalize ts[i].k = t0 at *
    generalize ts[i].n = t1 at *
    generalize ts[i].p = t2 at *
    generalize bs ts[i].x = t3 at *
    go_enter Tryz.func64, Tryz.ntmps64
    go_wp2
    go_quiet (fail)
    go_wp2_with fail
    refine code_of (fun w' => Bx w' w.heap.size #[.int .i64 0, .int .i64 0, .int .i64 0, .string ⟨#[]⟩] 82 ∧ Qw w w') ⟨(Bx.new w _ _), (by repeat (first | exact q0.out | exact Qw.refl _ | refine Qw.al ?_ _ | refine Qw.dr ?_ | refine Qw.dn ?_ _ | refine Qw.sc ?_ (by first | (simp; done) | omega | (have := q0.out.size; first | omega | (simp; omega))) _))⟩ ?_
    rintro w1 ⟨X, q⟩
    have kP : ∀ o, w1.cell? ⟨P, o, none⟩ = w.cell? ⟨P, o, none⟩ := fun o => q.cell (p := ⟨P, o, none⟩) hP
    have kg : ∀ o, w1.cell? ⟨g, o, none⟩ = w.cell? ⟨g, o, none⟩ := fun o => q.cell (p := ⟨g, o, none⟩) (by show g < w.heap.size; omega)
    rw [← kP] at c0 c1 c2
    rw [← kg] at d0 d1 d2 d3
    have x0 := X.cell' 0 _ rfl
    have x1 := X.cell' 1 _ rfl
    have x2 := X.cell' 2 _ rfl
    have x3 := X.cell' 3 _ rfl
    have y0 := X.free 0
    have y1 := X.free 1
    have y2 := X.free 2
    have y3 := X.free 3
    have XX := Lib.hid X
    have q0 := Lib.hid q
    clear kP kg X q
    refine wp_region_still_tail 10 (by kernel_rfl) (by kernel_rfl) ?_
    change wpStill _ _ (World.drew _) _ _ _
    simp only [List.take_succ_cons, List.take_zero, List.drop_succ_cons, List.drop_zero]
    repeat still_step
    refine wpStill_nil ?_
    change wpList _ _ _ _ _ (World.drew _)
    go_wp2
    exact bodyPost_ret (ret_tok Tryz.results64 rfl ((((XX.out.set 0 _).set 1 _).set 2 _).set 3 _)) rfl ⟨rfl, (by repeat (first | exact q0.out | exact Qw.refl _ | refine Qw.al ?_ _ | refine Qw.dr ?_ | refine Qw.dn ?_ _ | refine Qw.sc ?_ (by first | (simp; done) | omega | (have := q0.out.size; first | omega | (simp; omega))) _))⟩
theorem run_field_x (k n p : Int) (x : ByteArray) (w : World) : (Instr.field 82 (.agg #[.int .i64 k, .int .i64 n, .int .i64 p, .string x]) 3).run Tryz.prog w = .ok (.string x) w := by kernel_rfl
theorem run_field_p (k n p : Int) (x : ByteArray) (w : World) : (Instr.field 82 (.agg #[.int .i64 k, .int .i64 n, .int .i64 p, .string x]) 2).run Tryz.prog w = .ok (.int .i64 p) w := by kernel_rfl
def failP (p : Nat) (c : Int) : List PanicEntry := [{ v := .iface 59 (.agg #[.int .i64 (p : Nat), .int .i64 c]), recovered := false }]
set_option maxRecDepth 100000 in
set_option maxHeartbeats 4000000 in
theorem syUnexpected {w : World} {P : Nat} {a : Option Addr} {cap : Nat} {ts : List Lx.Tok} {len i : Nat} (h : Par w P a cap ts len i) :
    Calls Tryz.prog 44 #[.pointer (some ⟨P, 0, none⟩)] w fun e w' => e = .returned (.agg #[.int .i64 (Sy.tp ts len i : Nat), .int .i64 2]) ∧ Qw w w' := by
  have H := Lib.hid h
  clear h
  have hf := run_field_p (Sy.kd ts i) (Sy.tn ts i) (Sy.tp ts len i : Nat) (bs (Sy.tx ts i))
  go_enter Tryz.func44, Tryz.ntmps44
  go_wp2_with (go_at_call 64; ((with_reducible refine (syNext (H.out.kept (by repeat (first | exact q0.out | exact Qw.refl _ | refine Qw.al ?_ _ | refine Qw.dr ?_ | refine Qw.dn ?_ _ | refine Qw.sc ?_ (by first | (simp; done) | omega | (have := q0.out.size; first | omega | (simp; omega))) _)))).mono ?_); rintro e w' ⟨rfl, q⟩; unfold tokV; have X := (Bx.new w #[.int .i64 0, .int .i64 0] 59).kept q; have x0 := X.cell' 0 _ rfl; have x1 := X.cell' 1 _ rfl; have y0 := X.free 0; have y1 := X.free 1; replace X := Lib.hid X; have q0 : Hid (Qw w w') := Lib.hid (Qw.trans (by repeat (first | exact q0.out | exact Qw.refl _ | refine Qw.al ?_ _ | refine Qw.dr ?_ | refine Qw.dn ?_ _ | refine Qw.sc ?_ (by first | (simp; done) | omega | (have := q0.out.size; first | omega | (simp; omega))) _)) q); clear q))
  exact bodyPost_ret (ret_fail Tryz.results44 rfl ((X.out.set 0 _).set 1 _)) rfl ⟨rfl, (by repeat (first | exact q0.out | exact Qw.refl _ | refine Qw.al ?_ _ | refine Qw.dr ?_ | refine Qw.dn ?_ _ | refine Qw.sc ?_ (by first | (simp; done) | omega | (have := q0.out.size; first | omega | (simp; omega))) _))⟩
set_option maxRecDepth 100000 in
set_option maxHeartbeats 4000000 in
theorem syAcceptY {w : World} {P : Nat} {a : Option Addr} {cap : Nat} {ts : List Lx.Tok} {len i : Nat} (h : Par w P a cap ts len i) (x : ByteArray) (hx : x = bs (Sy.tx ts i)) (h0 : Sy.tx ts i ≠ []) :
    Calls Tryz.prog 40 #[.pointer (some ⟨P, 0, none⟩), .string x] w fun e w' => e = .returned (.bool true) ∧ Par w' P a cap ts len (i + 1) ∧ Px P w w' := by
  subst hx
  have hi := Sy.tx_lt (x := Sy.tx ts i) rfl h0
  have hl := h.hl
  have H := Lib.hid h
  clear h
  have hf := run_field_x (Sy.kd ts i) (Sy.tn ts i) (Sy.tp ts len i : Nat) (bs (Sy.tx ts i))
  have hb := beq_txt (bs (Sy.tx ts i)) (bs (Sy.tx ts i))
  rw [decide_eq_true rfl] at hb
  have e1 : ((i + 1 : Nat) : Int) = (i : Int) + 1 := by omega
  replace e1 := Lib.hid e1
  go_enter Tryz.func40, Tryz.ntmps40
  go_wp2_with (go_at_call 64; ((with_reducible refine (syNext (H.out.kept (by repeat (first | exact q0.out | exact Qw.refl _ | refine Qw.al ?_ _ | refine Qw.dr ?_ | refine Qw.dn ?_ _ | refine Qw.sc ?_ (by first | (simp; done) | omega | (have := q0.out.size; first | omega | (simp; omega))) _)))).mono ?_); rintro e w' ⟨rfl, q⟩; unfold tokV; have p1 : w'.cell? ⟨P, 1, none⟩ = some (.int .i64 (i : Int)) := (H.out.kept q).bx.cell' 1 _ rfl; have p2 := (H.out.kept q).bx.free 1; have q0 : Hid (Qw w w') := Lib.hid (Qw.trans (by repeat (first | exact q0.out | exact Qw.refl _ | refine Qw.al ?_ _ | refine Qw.dr ?_ | refine Qw.dn ?_ _ | refine Qw.sc ?_ (by first | (simp; done) | omega | (have := q0.out.size; first | omega | (simp; omega))) _)) q); clear q))
  go_ret
  exact ⟨rfl, by have := (H.out.kept q0.out).set (i + 1) hi; rw [e1.out] at this; exact this, (by repeat (first | exact q0.out | exact Px.of q0.out | exact Px.refl _ _ | refine Px.setP ?_ _ _ | refine Px.alloc ?_ _ | refine Px.drewN ?_ _ | refine Px.drew ?_ | refine Px.setNew ?_ (by first | (simp; done) | omega | (have := q0.out.size; first | omega | (simp; omega))) _))⟩
set_option maxRecDepth 100000 in
set_option maxHeartbeats 4000000 in
theorem syAcceptN {w : World} {P : Nat} {a : Option Addr} {cap : Nat} {ts : List Lx.Tok} {len i : Nat} (h : Par w P a cap ts len i) (x : ByteArray) (hx : x ≠ bs (Sy.tx ts i)) :
    Calls Tryz.prog 40 #[.pointer (some ⟨P, 0, none⟩), .string x] w fun e w' => e = .returned (.bool false) ∧ Qw w w' := by
  have H := Lib.hid h
  clear h
  have hf := run_field_x (Sy.kd ts i) (Sy.tn ts i) (Sy.tp ts len i : Nat) (bs (Sy.tx ts i))
  have hb := beq_txt (bs (Sy.tx ts i)) x
  rw [decide_eq_false (fun h => hx h.symm)] at hb
  go_enter Tryz.func40, Tryz.ntmps40
  go_wp2_with (go_at_call 64; ((with_reducible refine (syNext (H.out.kept (by repeat (first | exact q0.out | exact Qw.refl _ | refine Qw.al ?_ _ | refine Qw.dr ?_ | refine Qw.dn ?_ _ | refine Qw.sc ?_ (by first | (simp; done) | omega | (have := q0.out.size; first | omega | (simp; omega))) _)))).mono ?_); rintro e w' ⟨rfl, q⟩; unfold tokV; have q0 : Hid (Qw w w') := Lib.hid (Qw.trans (by repeat (first | exact q0.out | exact Qw.refl _ | refine Qw.al ?_ _ | refine Qw.dr ?_ | refine Qw.dn ?_ _ | refine Qw.sc ?_ (by first | (simp; done) | omega | (have := q0.out.size; first | omega | (simp; omega))) _)) q); clear q))
  go_ret
  exact ⟨rfl, (by repeat (first | exact q0.out | exact Qw.refl _ | refine Qw.al ?_ _ | refine Qw.dr ?_ | refine Qw.dn ?_ _ | refine Qw.sc ?_ (by first | (simp; done) | omega | (have := q0.out.size; first | omega | (simp; omega))) _))⟩
theorem syAccept {w : World} {P : Nat} {a : Option Addr} {cap : Nat} {ts : List Lx.Tok} {len i : Nat} (h : Par w P a cap ts len i) (x : List UInt8) (X : ByteArray) (hX : X = bs x) (hx : x ≠ []) :
    Calls Tryz.prog 40 #[.pointer (some ⟨P, 0, none⟩), .string X] w fun e w' => e = .returned (.bool (decide (Sy.tx ts i = x))) ∧ Par w' P a cap ts len (if Sy.tx ts i = x then i + 1 else i) ∧ Px P w w' := by
  subst hX
  by_cases e : Sy.tx ts i = x
  · rw [if_pos e, decide_eq_true e]
    exact syAcceptY h (bs x) (by rw [e]) (by rw [e]; exact hx)
  · rw [if_neg e, decide_eq_false e]
    exact (syAcceptN h (bs x) (fun k => e (bs_inj.1 k).symm)).mono fun _ _ ⟨h1, h2⟩ => ⟨h1, h.kept h2, Px.of h2⟩
set_option maxRecDepth 100000 in
set_option maxHeartbeats 4000000 in
theorem syExpectY {w : World} {P : Nat} {a : Option Addr} {cap : Nat} {ts : List Lx.Tok} {len i : Nat} (h : Par w P a cap ts len i) (x : ByteArray) (hx : x = bs (Sy.tx ts i)) (h0 : Sy.tx ts i ≠ []) :
    Calls Tryz.prog 104 #[.pointer (some ⟨P, 0, none⟩), .string x] w fun e w' => e = .returned (.tuple #[]) ∧ Par w' P a cap ts len (i + 1) ∧ Px P w w' := by
  have H := Lib.hid h
  replace h0 := Lib.hid h0
  replace hx := Lib.hid hx
  clear h
  go_enter Tryz.func104, Tryz.ntmps104
  go_wp2_with (go_at_call 40; ((with_reducible refine (syAcceptY (H.out.kept (by repeat (first | exact q0.out | exact Qw.refl _ | refine Qw.al ?_ _ | refine Qw.dr ?_ | refine Qw.dn ?_ _ | refine Qw.sc ?_ (by first | (simp; done) | omega | (have := q0.out.size; first | omega | (simp; omega))) _))) x hx.out h0.out).mono ?_); rintro e w' ⟨rfl, h1, q⟩; replace h1 := Lib.hid h1; have q0 := Lib.hid q; clear q))
  go_end0
  exact ⟨rfl, h1.out, q0.out⟩
set_option maxRecDepth 100000 in
set_option maxHeartbeats 4000000 in
theorem syExpectN {w : World} {P : Nat} {a : Option Addr} {cap : Nat} {ts : List Lx.Tok} {len i : Nat} (h : Par w P a cap ts len i) (x : ByteArray) (hx : x ≠ bs (Sy.tx ts i)) :
    Calls Tryz.prog 104 #[.pointer (some ⟨P, 0, none⟩), .string x] w fun e w' => e = .panicked (failP (Sy.tp ts len i) 2) ∧ Qw w w' := by
  have H := Lib.hid h
  replace hx := Lib.hid hx
  clear h
  have q0 : Hid (Qw w w) := Lib.hid (Qw.refl w)
  go_enter Tryz.func104, Tryz.ntmps104
  go_wp2_with (first | (go_at_call 40; ((with_reducible refine (syAcceptN (H.out.kept (by repeat (first | exact q0.out | exact Qw.refl _ | refine Qw.al ?_ _ | refine Qw.dr ?_ | refine Qw.dn ?_ _ | refine Qw.sc ?_ (by first | (simp; done) | omega | (have := q0.out.size; first | omega | (simp; omega))) _))) x hx.out).mono ?_); rintro e w' ⟨rfl, q⟩; replace q0 : Hid (Qw w w') := Lib.hid (Qw.trans (by repeat (first | exact q0.out | exact Qw.refl _ | refine Qw.al ?_ _ | refine Qw.dr ?_ | refine Qw.dn ?_ _ | refine Qw.sc ?_ (by first | (simp; done) | omega | (have := q0.out.size; first | omega | (simp; omega))) _)) q); clear q)) | (go_at_call 44; ((with_reducible refine (syUnexpected (H.out.kept (by repeat (first | exact q0.out | exact Qw.refl _ | refine Qw.al ?_ _ | refine Qw.dr ?_ | refine Qw.dn ?_ _ | refine Qw.sc ?_ (by first | (simp; done) | omega | (have := q0.out.size; first | omega | (simp; omega))) _)))).mono ?_); rintro e w' ⟨rfl, q⟩; replace q0 : Hid (Qw w w') := Lib.hid (Qw.trans (by repeat (first | exact q0.out | exact Qw.refl _ | refine Qw.al ?_ _ | refine Qw.dr ?_ | refine Qw.dn ?_ _ | refine Qw.sc ?_ (by first | (simp; done) | omega | (have := q0.out.size; first | omega | (simp; omega))) _)) q); clear q)))
  exact ⟨rfl, rfl, q0.out⟩
theorem Qz {w w' : World} (h : Qw w w' := by repeat (first | exact q0.out | exact Qw.refl _ | refine Qw.al ?_ _ | refine Qw.dr ?_ | refine Qw.dn ?_ _ | refine Qw.sc ?_ (by first | (simp; done) | omega | (have := q0.out.size; first | omega | (simp; omega))) _)) : Qw w w' := h
theorem Pz {P : Nat} {w w' : World} (h : Px P w w' := by repeat (first | exact q0.out | exact Px.of q0.out | exact Px.refl _ _ | refine Px.setP ?_ _ _ | refine Px.alloc ?_ _ | refine Px.drewN ?_ _ | refine Px.drew ?_ | refine Px.setNew ?_ (by first | (simp; done) | omega | (have := q0.out.size; first | omega | (simp; omega))) _)) : Px P w w' := h
end Go.Proofs.YtciglhecjkeogaaGreatDoor

