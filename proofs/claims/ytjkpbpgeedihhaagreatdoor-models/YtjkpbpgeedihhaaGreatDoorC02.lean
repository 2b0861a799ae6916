import Derived.Test.YtjkpbpgeedihhaaGreatDoorRows
import Derived.Test.YtjkpbpgeedihhaaGreatDoorC01
import Derived.WalkKit
import Derived.WalkSpells
import Derived.WalkLawsBesides
set_option linter.all false
namespace Go.Proofs.YtjkpbpgeedihhaaGreatDoor
open Go.RowKit
open M
/-- A statement's truth as a bool, by whatever tells it. -/
def dB (p : Prop) (d : Decidable p) : Bool := @decide p d
theorem ret_bool {a b : Bool} (h : a = b) : Ending.returned (.bool a) = .returned (.bool b) := by rw [h]
set_option maxHeartbeats 400000 in
theorem isId_any (s : ByteArray) (w : World) (hs : s.size ≤ maxLen) :
    Calls Tryz.prog 111 #[.string s] w fun e w' => e = .returned (.bool (isIdB s.data.toList)) ∧ w' = w := by
  unfold maxLen at hs
  go_enter Tryz.func111, Tryz.ntmps111
  go_wp2
  go_loop [3] (fun i => ∃ k : Nat, k ≤ s.size ∧ i = .int .i64 k ∧ (s.data.toList.take k).all idCh = true) (fun i => s.size - (intOf i).toNat)
  case atStart => exact ⟨0, Nat.zero_le _, rfl, rfl⟩
  case round =>
    obtain ⟨k, hk, rfl, hall⟩ := hrel
    by_cases hlt : k < s.size
    · have H1 := idCh_iff s[k]
      have H2 : Hid ((s.data.toList.take (k + 1)).all idCh = ((s.data.toList.take k).all idCh && idCh s[k])) := all_take_succ idCh s k hlt
      have HA : Hid ((s.data.toList.take k).all idCh = true) := hall
      clear hall
      go_wp2
      all_goals first | (go_ret; exact ⟨ret_bool (by rw [isIdB, all_false_of_take idCh s k hlt (by rw [Bool.eq_false_iff]; intro h; rw [H1] at h; omega)]; rfl), rfl⟩) | (refine ⟨⟨k + 1, by omega, by go_num, by rw [H2.out, HA.out, H1.2 (by omega)]; rfl⟩, ?_⟩; simp [intOf]; omega)
    · have hA : s.data.toList.all idCh = true := by rw [List.take_of_length_le (by simp; omega)] at hall; exact hall
      have hz : s.data.toList.length = s.size := rfl
      go_wp2
      all_goals go_ret
      all_goals exact ⟨ret_bool (by unfold isIdB; rw [hA, hz, Bool.eq_iff_iff]; simp; omega), rfl⟩
end Go.Proofs.YtjkpbpgeedihhaaGreatDoor
