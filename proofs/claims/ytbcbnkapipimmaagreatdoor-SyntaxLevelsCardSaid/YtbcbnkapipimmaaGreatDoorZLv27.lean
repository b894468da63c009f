import Derived.Test.YtbcbnkapipimmaaGreatDoorZLv23
import Derived.Test.YtbcbnkapipimmaaGreatDoorZLv25
import Derived.Test.YtbcbnkapipimmaaGreatDoorZLv26
set_option linter.unusedVariables false
set_option linter.unusedSimpArgs false
namespace Go.Proofs.YtbcbnkapipimmaaGreatDoor
open Go.RowKit
set_option maxRecDepth 100000 in
set_option maxHeartbeats 4000000 in
theorem numW (a : Int) (x0 : -9223372036854775808 ≤ a) (y0 : a ≤ 9223372036854775807) (m : Int) (hm : a % 1000 = m) (w : World) : Calls Tryz.prog 12 #[.int .i64 a] w fun e w' => e = .returned (.agg #[.int .i64 0, .int .i64 (m * 1000000), .slice none 0 0]) ∧ Qw w w' := by
  have m1 := fun w => modW a 1000 x0 y0 (by decide) (by decide) w
  have h0 : 0 ≤ m ∧ m < 1000 := by omega
  rw [hm] at m1
  obtain ⟨h0, h1⟩ := h0
  have M1 := Lib.hid m1
  clear m1 hm
  have q0 : Hid (Qw w w) := Lib.hid (Qw.refl w)
  go_enter Tryz.func12, Tryz.ntmps12
  go_wp2_with (go_at_call 11; ((with_reducible refine (M1.out _).mono ?_); rintro e w' ⟨rfl, rfl⟩))
  exact bodyPost_ret (v := .agg #[.int .i64 0, .int .i64 (m * 1000000), .slice none 0 0]) (by simp [results, Tryz.results12, go_sem]) rfl ⟨rfl, Qz⟩
theorem printNum {x : Int} (h0 : 0 ≤ x) (h1 : x < 1000000000000000) (w : World) (hO : Ow w) (hT : Tb w) : Calls Tryz.prog 13 #[.agg #[.int .i64 0, .int .i64 x, .slice none 0 0]] w fun e w' => e = .returned (.string (bs (fmtp x))) ∧ Qw w w' := by
  have h := rw_print 0 x [] none 0 (fun _ => True) w hO hT (KidsB.nl none 0 (by decide))
  have ho := Sy.okx_num' h0 h1
  have e1 : Sy.prt (.mk 0 x []) = fmtp x := by
    unfold Sy.prt
    rw [if_pos (show Sy.rgt (.mk 0 x []) = true by unfold Sy.rgt; rw [show Sy.okx (.mk 0 x []) = true from ho, Sy.dep_le (d := 1) (x := .mk 0 x []) (by have := Sy.dpt_num x; unfold Sy.num at this; omega) (by decide)]; rfl)]
    simp [Sy.bpr, Sy.bpc]
  rw [e1] at h
  exact h
theorem fmtp_size {x : Int} (h0 : 0 ≤ x) (h1 : x < 1000000000000000) : (bs (fmtp x)).size ≤ 16 := by rw [bs_size]; exact Sy.fmtp_16 h0 h1
theorem onm_size {o : Nat} (h : o < 26) : (bs (Sy.onm o)).size ≤ 5 := by rw [bs_size]; exact Sy.onm_len o h
def sigA : Array Value := #[.string ⟨#[79, 82]⟩, .string ⟨#[88, 79, 82]⟩, .string ⟨#[65, 78, 68]⟩, .string ⟨#[69, 81]⟩, .string ⟨#[76, 84]⟩, .string ⟨#[43]⟩, .string ⟨#[45]⟩, .string ⟨#[42]⟩, .string ⟨#[47]⟩, .string ⟨#[77, 79, 68]⟩]
def opsA : Array Value := #[.int .i64 24, .int .i64 25, .int .i64 23, .int .i64 17, .int .i64 21, .int .i64 3, .int .i64 4, .int .i64 5, .int .i64 6, .int .i64 7]
def levA : Array Value := #[.int .i64 0, .int .i64 0, .int .i64 1, .int .i64 2, .int .i64 2, .int .i64 3, .int .i64 3, .int .i64 4, .int .i64 4, .int .i64 4]
theorem sig_at (i : Nat) (h : i < 10) : sigA[i]? = some (.string (bs (Sy.onm (Sy.opN i)))) := by
  match i, h with
  | 0, _ => rfl | 1, _ => rfl | 2, _ => rfl | 3, _ => rfl | 4, _ => rfl | 5, _ => rfl | 6, _ => rfl | 7, _ => rfl | 8, _ => rfl | 9, _ => rfl
theorem ops_at (i : Nat) (h : i < 10) : opsA[i]? = some (.int .i64 (Sy.opN i : Nat)) := by
  match i, h with
  | 0, _ => rfl | 1, _ => rfl | 2, _ => rfl | 3, _ => rfl | 4, _ => rfl | 5, _ => rfl | 6, _ => rfl | 7, _ => rfl | 8, _ => rfl | 9, _ => rfl
theorem lev_at (i : Nat) (h : i < 10) : levA[i]? = some (.int .i64 (Sy.lvN i : Nat)) := by
  match i, h with
  | 0, _ => rfl | 1, _ => rfl | 2, _ => rfl | 3, _ => rfl | 4, _ => rfl | 5, _ => rfl | 6, _ => rfl | 7, _ => rfl | 8, _ => rfl | 9, _ => rfl
end Go.Proofs.YtbcbnkapipimmaaGreatDoor

