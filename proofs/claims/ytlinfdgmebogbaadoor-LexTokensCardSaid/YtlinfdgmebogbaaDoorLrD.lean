
/- The walk of the specification's Tokens. -/
import Derived.Test.YtlinfdgmebogbaaDoorLrC
import Derived.Outline
set_option linter.unusedVariables false
set_option linter.unusedSimpArgs false
namespace Go.Proofs.YtlinfdgmebogbaaDoor
open Go.RowKit

set_option maxRecDepth 100000 in
set_option maxHeartbeats 4000000 in
theorem lrTokens (s : ByteArray) (hs : s.size ≤ 1000000) (w : World) :
    Calls Tryd.prog 15 #[.string s] w fun e w' => (∃ v, e = .returned (.tuple #[v, .int .i64 (Lx.tat s.data.toList : Int), .int .i64 (Lx.ter s.data.toList)]) ∧ ToksB w'.heap.size w' v (Lx.tks s.data.toList)) ∧ Qw w w' := by
  have sl := size_len s
  have SL := Lib.hid sl
  have sm : s.size ≤ maxLen := by unfold maxLen; omega
  have NA := Lib.hid (fun k (h : k ≤ s.size) w => lrNamed s k sm h w)
  have PA := Lib.hid (fun k j (h : k ≤ j) (h2 : j ≤ s.size) w => rxParse (s.extract k j) (by simp; unfold maxLen; omega) w)
  clear sl sm
  go_enter Tryd.func15, Tryd.ntmps15
  go_wp2
  go_loopw [5, 6] (fun tv av wr => ∃ k ts, LexK w.heap.size s.data.toList w tv av wr k ts) (fun _ av _ => s.size - (intOf av).toNat)
  case atStart => exact ⟨0, [], Lx.At.start _, OwnT.nil _ _, Below.refl _ _, Nat.le_refl _, rfl⟩
  case round =>
    obtain ⟨k, ts, hA, hO, hB, hBs, rfl⟩ := hrel
    have hk : k ≤ s.size := by have := hA.1; have := SL.out; omega
    have AT := Lib.hid hA
    have OW := Lib.hid hO
    have BL := Lib.hid hB
    have tl := hA.2.1
    clear hA hO hB
    by_cases hlt : k < s.size
    · have gl : s.data.toList[k]'(by have := SL.out; omega) = s[k] := rfl
      have dl : s.data.toList.drop k = s[k] :: s.data.toList.drop (k + 1) := by rw [← gl]; exact List.drop_eq_getElem_cons _
      have tlen : (s.data.toList.drop (k + 1)).length = s.size - (k + 1) := by rw [List.length_drop, SL.out]
      have A2 : Hid (∀ a, Lx.act s[k] (s.data.toList.drop (k + 1)) = a → Lx.act (s.data.toList[k]'(by have := SL.out; omega)) (s.data.toList.drop (k + 1)) = a) := Lib.hid fun a h => by rw [gl]; exact h
      by_cases hw : s[k] = 32 ∨ s[k] = 9 ∨ s[k] = 13
      · have N := Lib.hid (AT.out.skip (by have := SL.out; omega) (A2.out _ (Lx.act_ws (by unfold Lx.ws; rcases hw with h | h | h <;> rw [h] <;> rfl))) (by have := SL.out; omega))
        clear dl tlen A2 gl
        rcases hw with h | h | h
        · have b : (s[k].toNat : Int) = 32 := by rw [h]; rfl
          clear h
          go_wp2
          go_roundw
          case rel => exact ⟨k + 1, ts, N.out, OW.out, BL.out, hBs, by go_num⟩
          case measure => simp [intOf]; omega
        · have b : (s[k].toNat : Int) = 9 := by rw [h]; rfl
          clear h
          go_wp2
          go_roundw
          case rel => exact ⟨k + 1, ts, N.out, OW.out, BL.out, hBs, by go_num⟩
          case measure => simp [intOf]; omega
        · have b : (s[k].toNat : Int) = 13 := by rw [h]; rfl
          clear h
          go_wp2
          go_roundw
          case rel => exact ⟨k + 1, ts, N.out, OW.out, BL.out, hBs, by go_num⟩
          case measure => simp [intOf]; omega
      · by_cases h59 : s[k] = 59
        · have N := Lib.hid (AT.out.skip (by have := SL.out; omega) (A2.out _ (by rw [h59]; exact Lx.act_semi)) (by have := SL.out; omega))
          have e : k + 1 + (s.data.toList.drop (k + 1)).length = s.size := by omega
          rw [e] at N
          have b : (s[k].toNat : Int) = 59 := by rw [h59]; rfl
          clear dl tlen A2 gl hw h59 e
          go_wp2
          go_roundw
          case rel => exact ⟨s.size, ts, N.out, OW.out, BL.out, hBs, by go_num⟩
          case measure => simp [intOf]; omega
        · by_cases h40 : s[k] = 40
          · have b : (s[k].toNat : Int) = 40 := by rw [h40]; rfl
            have AO : Hid (Lx.act s[k] (s.data.toList.drop (k + 1)) = (if Lib.indexByte (s.data.toList.drop (k + 1)) 41 = -1 then .bad else .skip ((Lib.indexByte (s.data.toList.drop (k + 1)) 41).toNat + 1))) := Lib.hid (by rw [h40]; exact Lx.act_open)
            clear dl tlen gl hw h59 h40
            go_wp2
            go_loop [8] (fun jv => ∃ j : Nat, Lx.Opn s.data.toList (k + 1) j ∧ jv = .int .i64 (j : Int)) (fun jv => s.size - (intOf jv).toNat)
            case atStart => exact ⟨k + 1, Lx.Opn.start _ _ (by have := SL.out; omega), by go_num⟩
            case round =>
              obtain ⟨j, hj, rfl⟩ := hrel
              have OP := Lib.hid hj
              have j1 : k + 1 ≤ j := hj.1
              have j2 : j ≤ s.size := by have := hj.2.1; have := SL.out; omega
              clear hj
              by_cases hl : j < s.size
              · by_cases h41 : s[j] = 41
                · have b2 : ((s[j].toNat : Int) == 41) = true := by rw [h41]; rfl
                  have ix := OP.out.hit (by have := SL.out; omega) (show s.data.toList[j]'(by have := SL.out; omega) = 41 from h41)
                  have ao := AO.out
                  rw [ix, if_neg (by omega), Int.toNat_natCast] at ao
                  have N := AT.out.skip (by have := SL.out; omega) (A2.out _ ao) (by have := SL.out; omega)
                  rw [show k + 1 + (j - (k + 1) + 1) = j + 1 by omega] at N
                  have N := Lib.hid N
                  have ne : ((j : Int) == (s.size : Int)) = false := beq_eq_false_iff_ne.2 (by omega)
                  clear ix ao h41 A2
                  go_wp2
                  go_roundw
                  case rel => exact ⟨j + 1, ts, N.out, OW.out, BL.out, hBs, by go_num⟩
                  case measure => simp [intOf]; omega
                · have b2 : ((s[j].toNat : Int) == 41) = false := beq_eq_false_iff_ne.2 (fun h => h41 (UInt8.toNat_inj.1 (by have : (41 : UInt8).toNat = 41 := rfl; omega)))
                  have MO := Lib.hid (OP.out.more (by have := SL.out; omega) (show s.data.toList[j]'(by have := SL.out; omega) ≠ 41 from h41))
                  clear h41 A2
                  go_wp2
                  go_round
                  case rel => exact ⟨j + 1, MO.out, by go_num⟩
                  case measure => simp [intOf]; omega
              · obtain rfl : j = s.size := by omega
                have ix := OP.out.fin (by have := SL.out; omega)
                have ao := AO.out
                rw [ix, if_pos rfl] at ao
                have F := Lib.hid (AT.out.bad (by have := SL.out; omega) (A2.out _ ao))
                clear ix ao A2
                go_wp2
                try rw [Exit.noGoto_ret]
                go_ret3
                exact ⟨⟨.slice none 0 0, by rw [F.out.2.1, F.out.2.2]; try rfl, by rw [F.out.1]; exact (OwnT.nil 0 _).toks⟩, BL.out⟩
          · have wsf : Lx.ws s[k] = false := by
              unfold Lx.ws
              rw [show (s[k] == 32) = false from beq_eq_false_iff_ne.2 (fun h => hw (.inl h)), show (s[k] == 9) = false from beq_eq_false_iff_ne.2 (fun h => hw (.inr (.inl h))), show (s[k] == 13) = false from beq_eq_false_iff_ne.2 (fun h => hw (.inr (.inr h)))]
              rfl
            have af := Lx.act_first (t := s.data.toList.drop (k + 1)) wsf h59 h40
            have nb : ∀ n : UInt8, s[k] ≠ n → ((s[k].toNat : Int) == (n.toNat : Int)) = false := fun n h => beq_eq_false_iff_ne.2 (fun e => h (UInt8.toNat_inj.1 (by omega)))
            have b1 : ((s[k].toNat : Int) == 32) = false := nb 32 (fun h => hw (.inl h))
            have b2 : ((s[k].toNat : Int) == 9) = false := nb 9 (fun h => hw (.inr (.inl h)))
            have b3 : ((s[k].toNat : Int) == 13) = false := nb 13 (fun h => hw (.inr (.inr h)))
            have b4 : ((s[k].toNat : Int) == 59) = false := nb 59 h59
            have b5 : ((s[k].toNat : Int) == 40) = false := nb 40 h40
            clear wsf nb tlen hw h59 h40
            cases hc : chI (s[k].toNat : Int)
            · have hi : Lx.isn s[k] = false := by rw [isn_chI]; exact hc
              by_cases hu : (65 : Int) ≤ (s[k].toNat : Int) ∧ (s[k].toNat : Int) ≤ 90
              · have fu := Lx.fst_up (t := s.data.toList.drop (k + 1)) hi (decide_eq_true hu)
                rw [← dl] at fu af
                obtain ⟨hu1, hu2⟩ := hu
                have nm := NA.out k hk
                have nl := Lx.nfold_le (s.data.toList.drop k) 24 (Nat.le_refl _)
                rw [show Lx.nfold (s.data.toList.drop k) 24 = Lx.fnm (s.data.toList.drop k) from rfl, List.length_drop, SL.out] at nl
                have zl := bs_size (Lx.fnm (s.data.toList.drop k))
                have bq := empty_txt (bs (Lx.fnm (s.data.toList.drop k)))
                rw [zl] at bq
                generalize Lx.fnm (s.data.toList.drop k) = f at *
                by_cases hz : f = []
                · rw [if_pos hz] at fu
                  rw [fu] at af
                  replace af := Lx.act_one af (show ¬ (1 : Nat) = 0 by decide)
                  have N := Lib.hid (AT.out.tok (by have := SL.out; omega) (A2.out _ af) (Nat.le_refl _) (by have := SL.out; show k + 1 ≤ _; omega))
                  rw [hz] at nm bq
                  have NM := Lib.hid nm
                  obtain ⟨X, hX⟩ : ∃ X, bs [] = X := ⟨_, rfl⟩
                  rw [hX] at bq NM
                  clear hX af fu hz zl dl A2 gl nm nl
                  go_wp2_with (first | (go_at_call 27; ((with_reducible refine (lrPart _ _).mono ?_); rintro e w' ⟨rfl, rfl⟩)) | (go_at_call 29; ((with_reducible refine (NM.out _).mono ?_); rintro e w1 ⟨rfl, q1⟩; have Q1 := Lib.hid q1; clear q1)) | (at_builtin; refine tok_append2 104 109 _ _ _ [] w.heap.size u5 ts w1.heap.size (by rfl) (by rfl) (one_new w1 _ _) (World.ownsRow.alloc (OW.out.kept Q1.out) _) (by omega) (le_one (Nat.le_trans hBs Q1.out.size)) ?_; intro v' w2 ho hb; have hx := after_one BL.out hBs Q1.out hb; have HO := Lib.hid ho; have HB := Lib.hid hx.1; have zb := hx.2; clear hx ho hb))
                  go_roundw
                  case rel => exact ⟨k + 1, _, N.out, HO.out, HB.out, zb, by go_num⟩
                  case measure => simp [intOf]; omega
                · rw [if_neg hz] at fu
                  have n0 : f.length ≠ 0 := fun h => hz (List.eq_nil_of_length_eq_zero h)
                  rw [fu] at af
                  replace af := Lx.act_one af n0
                  rw [decide_eq_false n0] at bq
                  have N := Lib.hid (AT.out.tok (by have := SL.out; omega) (A2.out _ af) (by show 1 ≤ f.length; omega) (by have := SL.out; show k + f.length ≤ _; omega))
                  have N : Hid (Lx.At s.data.toList (k + (bs f).size) (ts ++ [⟨3, 0, k, f⟩])) := Lib.hid (by rw [zl]; exact N.out)
                  rw [← zl] at nl n0
                  have NM := Lib.hid nm
                  clear af fu hz zl dl A2 gl nm
                  go_wp2_with (first | (go_at_call 27; ((with_reducible refine (lrPart _ _).mono ?_); rintro e w' ⟨rfl, rfl⟩)) | (go_at_call 29; ((with_reducible refine (NM.out _).mono ?_); rintro e w1 ⟨rfl, q1⟩; have Q1 := Lib.hid q1; clear q1)) | (at_builtin; refine tok_append2 115 119 _ _ _ f w.heap.size u5 ts w1.heap.size (by rfl) (by rfl) (one_new w1 _ _) (World.ownsRow.alloc (OW.out.kept Q1.out) _) (by omega) (le_one (Nat.le_trans hBs Q1.out.size)) ?_; intro v' w2 ho hb; have hx := after_one BL.out hBs Q1.out hb; have HO := Lib.hid ho; have HB := Lib.hid hx.1; have zb := hx.2; clear hx ho hb))
                  go_roundw
                  case rel => exact ⟨k + (bs f).size, _, N.out, HO.out, HB.out, zb, by go_num⟩
                  case measure => simp [intOf]; omega
              · have hu' : (s[k].toNat : Int) < 65 ∨ 90 < (s[k].toNat : Int) := by omega
                have huf : Lx.isu s[k] = false := decide_eq_false hu
                have sg := fun w => lrSign s[k] w
                cases hg : Lx.isg s[k]
                · rw [hg] at sg
                  have SG := Lib.hid sg
                  rw [Lx.fst_no hi huf hg, if_pos rfl] at af
                  have F := Lib.hid (AT.out.bad (by have := SL.out; omega) (A2.out _ af))
                  clear af dl A2 gl sg hg huf hi hu
                  rcases hu' with hu' | hu'
                  · go_wp2_with (first | (go_at_call 27; ((with_reducible refine (lrPart _ _).mono ?_); rintro e w' ⟨rfl, rfl⟩)) | (go_at_call 30; ((with_reducible refine (SG.out _).mono ?_); rintro e w' ⟨rfl, rfl⟩)))
                    try rw [Exit.noGoto_ret]
                    go_ret3
                    exact ⟨⟨.slice none 0 0, by rw [F.out.2.1, F.out.2.2]; try rfl, by rw [F.out.1]; exact (OwnT.nil 0 _).toks⟩, BL.out⟩
                  · go_wp2_with (first | (go_at_call 27; ((with_reducible refine (lrPart _ _).mono ?_); rintro e w' ⟨rfl, rfl⟩)) | (go_at_call 30; ((with_reducible refine (SG.out _).mono ?_); rintro e w' ⟨rfl, rfl⟩)))
                    try rw [Exit.noGoto_ret]
                    go_ret3
                    exact ⟨⟨.slice none 0 0, by rw [F.out.2.1, F.out.2.2]; try rfl, by rw [F.out.1]; exact (OwnT.nil 0 _).toks⟩, BL.out⟩
                · rw [hg] at sg
                  have SG := Lib.hid sg
                  rw [Lx.fst_sg hi huf hg] at af
                  replace af := Lx.act_one af (show ¬ (1 : Nat) = 0 by decide)
                  have N := Lib.hid (AT.out.tok (by have := SL.out; omega) (A2.out _ af) (Nat.le_refl _) (by have := SL.out; show k + 1 ≤ _; omega))
                  have ex : s.extract k (k + 1) = bs [s[k]] := by
                    apply ByteArray.ext; apply Array.toList_inj.1
                    rw [Lib.extract_data, bs_list, dl, Nat.add_sub_cancel_left]; rfl
                  have z0 : (0 : Int) ≤ (k : Int) := by omega
                  have z1 : (k : Int) ≤ (k : Int) + 1 := by omega
                  have z2 : (k : Int) + 1 ≤ (s.size : Int) := by omega
                  clear af dl A2 gl sg hg huf hi hu
                  rcases hu' with hu' | hu'
                  · go_wp2_with (first | (go_at_call 27; ((with_reducible refine (lrPart _ _).mono ?_); rintro e w' ⟨rfl, rfl⟩)) | (go_at_call 30; ((with_reducible refine (SG.out _).mono ?_); rintro e w' ⟨rfl, rfl⟩)) | (at_builtin; refine tok_append2 124 131 _ _ _ _ w.heap.size u5 ts wr.heap.size (by rfl) (by rfl) (one_new wr _ _) (World.ownsRow.alloc OW.out _) (by omega) (le_one hBs) ?_; intro v' w2 ho hb; have hx := after_one BL.out hBs (Qw.refl wr) hb; have HO := Lib.hid ho; have HB := Lib.hid hx.1; have zb := hx.2; clear hx ho hb))
                    go_roundw
                    case rel => exact ⟨k + 1, _, N.out, HO.out, HB.out, zb, by go_num⟩
                    case measure => simp [intOf]; omega
                  · go_wp2_with (first | (go_at_call 27; ((with_reducible refine (lrPart _ _).mono ?_); rintro e w' ⟨rfl, rfl⟩)) | (go_at_call 30; ((with_reducible refine (SG.out _).mono ?_); rintro e w' ⟨rfl, rfl⟩)) | (at_builtin; refine tok_append2 124 131 _ _ _ _ w.heap.size u5 ts wr.heap.size (by rfl) (by rfl) (one_new wr _ _) (World.ownsRow.alloc OW.out _) (by omega) (le_one hBs) ?_; intro v' w2 ho hb; have hx := after_one BL.out hBs (Qw.refl wr) hb; have HO := Lib.hid ho; have HB := Lib.hid hx.1; have zb := hx.2; clear hx ho hb))
                    go_roundw
                    case rel => exact ⟨k + 1, _, N.out, HO.out, HB.out, zb, by go_num⟩
                    case measure => simp [intOf]; omega
            · have hi : Lx.isn s[k] = true := by rw [isn_chI]; exact hc
              rw [Lx.fst_num hi, ← dl] at af
              have AF := Lib.hid af
              clear af
              have NS := Lib.hid (Lx.nrun_step s.data.toList k (by have := SL.out; omega) |>.1 (by rw [gl]; exact hi))
              clear dl gl hi
              go_wp2_with (go_at_call 27; ((with_reducible refine (lrPart _ _).mono ?_); rintro e w' ⟨rfl, rfl⟩))
              go_loop [8] (fun jv => ∃ j : Nat, k + 1 ≤ j ∧ j ≤ s.size ∧ j + Lx.nrun (s.data.toList.drop j) = k + Lx.nrun (s.data.toList.drop k) ∧ jv = .int .i64 (j : Int)) (fun jv => s.size - (intOf jv).toNat)
              case atStart => exact ⟨k + 1, by omega, by omega, by have := NS.out; omega, by go_num⟩
              case round =>
                obtain ⟨j, j1, j2, j3, rfl⟩ := hrel
                have J3 := Lib.hid j3
                clear j3
                by_cases hl : j < s.size
                · have st := Lx.nrun_step s.data.toList j (by have := SL.out; omega)
                  have gj : s.data.toList[j]'(by have := SL.out; omega) = s[j] := rfl
                  rw [gj, isn_chI] at st
                  have ST := Lib.hid st
                  clear st gj
                  cases hd : chI (s[j].toNat : Int)
                  · have e : j = k + Lx.nrun (s.data.toList.drop k) := by have := J3.out; have := ST.out.2 hd; omega
                    have LE : (s.extract k j).data.toList = (s.data.toList.drop k).take (Lx.nrun (s.data.toList.drop k)) := by rw [Lib.extract_data, e, Nat.add_sub_cancel_left]
                    have ps := PA.out k j (by omega) (by omega)
                    rw [LE] at ps
                    have jk : k + Lx.nrun (s.data.toList.drop k) = j := e.symm
                    have jp : 1 ≤ Lx.nrun (s.data.toList.drop k) := by omega
                    have z0 : (0 : Int) ≤ (k : Int) := by omega
                    have z1 : (k : Int) ≤ (j : Int) := by omega
                    have z2 : (j : Int) ≤ (s.size : Int) := by omega
                    clear e LE
                    by_cases hp : pre ((s.data.toList.drop k).take (Lx.nrun (s.data.toList.drop k))) = 0
                    · have af := AF.out
                      rw [fnum_ok _ hp] at af
                      rw [hp] at ps
                      generalize prv ((s.data.toList.drop k).take (Lx.nrun (s.data.toList.drop k))) = V at *
                      have N := AT.out.tok (by have := SL.out; omega) (A2.out _ (Lx.act_one af (show ¬ Lx.nrun _ = 0 by omega))) (show 1 ≤ Lx.nrun _ from jp) (by have := SL.out; show k + Lx.nrun _ ≤ _; omega)
                      rw [show k + (Lx.F.mk 2 V [] (Lx.nrun (s.data.toList.drop k))).m = j from jk] at N
                      have N := Lib.hid N
                      have PS := Lib.hid ps
                      clear ps af hp jk jp A2
                      go_wp2_with (first | (go_at_call 27; ((with_reducible refine (lrPart _ _).mono ?_); rintro e w' ⟨rfl, rfl⟩)) | (go_at_call 28; ((with_reducible refine (PS.out _).mono ?_); rintro e w' ⟨rfl, rfl⟩)) | (at_builtin; refine tok_append2 86 90 _ _ _ [] w.heap.size u5 ts wr.heap.size (by rfl) (by rfl) (one_new wr _ _) (World.ownsRow.alloc OW.out _) (by omega) (le_one hBs) ?_; intro v' w2 ho hb; have hx := after_one BL.out hBs (Qw.refl wr) hb; have HO := Lib.hid ho; have HB := Lib.hid hx.1; have zb := hx.2; clear hx ho hb))
                      go_roundw
                      case rel => exact ⟨j, _, N.out, HO.out, HB.out, zb, by go_num⟩
                      case measure => simp [intOf]; omega
                    · have af := AF.out
                      have hp2 : pre ((s.data.toList.drop k).take (Lx.nrun (s.data.toList.drop k))) = 2 := by unfold pre at hp ⊢; split at hp; exact absurd rfl hp; rename_i h; rw [if_neg h]
                      rw [fnum_no _ hp, if_pos rfl] at af
                      rw [hp2] at ps
                      generalize prv ((s.data.toList.drop k).take (Lx.nrun (s.data.toList.drop k))) = V at *
                      have F := Lib.hid (AT.out.bad (by have := SL.out; omega) (A2.out _ af))
                      have PS := Lib.hid ps
                      clear ps af hp hp2 jk jp A2
                      go_wp2_with (first | (go_at_call 27; ((with_reducible refine (lrPart _ _).mono ?_); rintro e w' ⟨rfl, rfl⟩)) | (go_at_call 28; ((with_reducible refine (PS.out _).mono ?_); rintro e w' ⟨rfl, rfl⟩)))
                      try rw [Exit.noGoto_ret]
                      go_ret3
                      exact ⟨⟨.slice none 0 0, by rw [F.out.2.1, F.out.2.2]; try rfl, by rw [F.out.1]; exact (OwnT.nil 0 _).toks⟩, BL.out⟩
                  · have E := ST.out.1 hd
                    have HE := Lib.hid E
                    clear E ST
                    go_wp2_with (go_at_call 27; ((with_reducible refine (lrPart _ _).mono ?_); rintro e w' ⟨rfl, rfl⟩))
                    go_round
                    case rel => exact ⟨j + 1, by omega, by omega, by have := J3.out; have := HE.out; omega, by go_num⟩
                    case measure => simp [intOf]; omega
                · have e : j = k + Lx.nrun (s.data.toList.drop k) := by have := J3.out; have := Lx.nrun_end s.data.toList j (by have := SL.out; omega); omega
                  have LE : (s.extract k j).data.toList = (s.data.toList.drop k).take (Lx.nrun (s.data.toList.drop k)) := by rw [Lib.extract_data, e, Nat.add_sub_cancel_left]
                  have ps := PA.out k j (by omega) (by omega)
                  rw [LE] at ps
                  have jk : k + Lx.nrun (s.data.toList.drop k) = j := e.symm
                  have jp : 1 ≤ Lx.nrun (s.data.toList.drop k) := by omega
                  have z0 : (0 : Int) ≤ (k : Int) := by omega
                  have z1 : (k : Int) ≤ (j : Int) := by omega
                  have z2 : (j : Int) ≤ (s.size : Int) := by omega
                  clear e LE
                  by_cases hp : pre ((s.data.toList.drop k).take (Lx.nrun (s.data.toList.drop k))) = 0
                  · have af := AF.out
                    rw [fnum_ok _ hp] at af
                    rw [hp] at ps
                    generalize prv ((s.data.toList.drop k).take (Lx.nrun (s.data.toList.drop k))) = V at *
                    have N := AT.out.tok (by have := SL.out; omega) (A2.out _ (Lx.act_one af (show ¬ Lx.nrun _ = 0 by omega))) (show 1 ≤ Lx.nrun _ from jp) (by have := SL.out; show k + Lx.nrun _ ≤ _; omega)
                    rw [show k + (Lx.F.mk 2 V [] (Lx.nrun (s.data.toList.drop k))).m = j from jk] at N
                    have N := Lib.hid N
                    have PS := Lib.hid ps
                    clear ps af hp jk jp A2
                    go_wp2_with (first | (go_at_call 27; ((with_reducible refine (lrPart _ _).mono ?_); rintro e w' ⟨rfl, rfl⟩)) | (go_at_call 28; ((with_reducible refine (PS.out _).mono ?_); rintro e w' ⟨rfl, rfl⟩)) | (at_builtin; refine tok_append2 86 90 _ _ _ [] w.heap.size u5 ts wr.heap.size (by rfl) (by rfl) (one_new wr _ _) (World.ownsRow.alloc OW.out _) (by omega) (le_one hBs) ?_; intro v' w2 ho hb; have hx := after_one BL.out hBs (Qw.refl wr) hb; have HO := Lib.hid ho; have HB := Lib.hid hx.1; have zb := hx.2; clear hx ho hb))
                    go_roundw
                    case rel => exact ⟨j, _, N.out, HO.out, HB.out, zb, by go_num⟩
                    case measure => simp [intOf]; omega
                  · have af := AF.out
                    have hp2 : pre ((s.data.toList.drop k).take (Lx.nrun (s.data.toList.drop k))) = 2 := by unfold pre at hp ⊢; split at hp; exact absurd rfl hp; rename_i h; rw [if_neg h]
                    rw [fnum_no _ hp, if_pos rfl] at af
                    rw [hp2] at ps
                    generalize prv ((s.data.toList.drop k).take (Lx.nrun (s.data.toList.drop k))) = V at *
                    have F := Lib.hid (AT.out.bad (by have := SL.out; omega) (A2.out _ af))
                    have PS := Lib.hid ps
                    clear ps af hp hp2 jk jp A2
                    go_wp2_with (first | (go_at_call 27; ((with_reducible refine (lrPart _ _).mono ?_); rintro e w' ⟨rfl, rfl⟩)) | (go_at_call 28; ((with_reducible refine (PS.out _).mono ?_); rintro e w' ⟨rfl, rfl⟩)))
                    try rw [Exit.noGoto_ret]
                    go_ret3
                    exact ⟨⟨.slice none 0 0, by rw [F.out.2.1, F.out.2.2]; try rfl, by rw [F.out.1]; exact (OwnT.nil 0 _).toks⟩, BL.out⟩
    · obtain rfl : k = s.size := by omega
      have f := Lib.hid (AT.out.fin (by have := SL.out; omega))
      go_wp2
      try rw [Exit.noGoto_ret]
      go_ret3
      exact ⟨⟨u5, by rw [f.out.2.1, f.out.2.2, SL.out]; try rfl, by rw [f.out.1]; exact OW.out.toks⟩, BL.out⟩

end Go.Proofs.YtlinfdgmebogbaaDoor
