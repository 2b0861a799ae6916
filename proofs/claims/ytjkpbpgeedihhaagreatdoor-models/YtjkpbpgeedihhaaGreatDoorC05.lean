import Derived.Test.YtjkpbpgeedihhaaGreatDoorC04
import Derived.Laws.RangeAny
set_option linter.all false
namespace Go.Proofs.YtjkpbpgeedihhaaGreatDoor
open Go.RowKit
open M
theorem ret_int {k : IntKind} {a b : Int} (h : a = b) : Ending.returned (.int k a) = .returned (.int k b) := by rw [h]
set_option maxHeartbeats 400000 in
theorem having_any (b : Bool) (f : Int) (w : World) :
    Calls Tryz.prog 350 #[.bool b, .int .u64 f] w fun e w' => e = .returned (.int .u64 (if b then f else 0)) ∧ w' = w := by
  go_enter Tryz.func350, Tryz.ntmps350
  cases b
  all_goals
    go_wp2
    go_ret
    exact ⟨ret_int (by simp), rfl⟩
def isVarB (c : Int) : Bool := decide (97 ≤ c) && decide (c ≤ 104)
set_option maxHeartbeats 400000 in
theorem isVar_any (c : Int) (w : World) :
    Calls Tryz.prog 232 #[.int .u8 c] w fun e w' => e = .returned (.bool (isVarB c)) ∧ w' = w := by
  go_enter Tryz.func232, Tryz.ntmps232
  go_wp2
  all_goals go_ret
  all_goals exact ⟨ret_bool' (by unfold isVarB; first | (simp_all; done) | (simp_all; omega)), rfl⟩
def needF (k : Int) : Int := if k = 1 then 0 else if k = 5 then 2 else 1
set_option maxHeartbeats 400000 in
theorem need_any (k : Int) (w : World) :
    Calls Tryz.prog 282 #[.int .i64 k] w fun e w' => e = .returned (.int .i64 (needF k)) ∧ w' = w := by
  go_enter Tryz.func282, Tryz.ntmps282
  go_wp2
  all_goals go_ret
  all_goals exact ⟨ret_int (by unfold needF; simp_all), rfl⟩
/-- The names of what a case asks, as they are laid. -/
structure OpsLaid (w : World) : Prop where
  c1 : w.cell? ⟨2, 1, none⟩ = some (.string ⟨#[108, 116]⟩)
  c2 : w.cell? ⟨2, 2, none⟩ = some (.string ⟨#[101, 113]⟩)
  c3 : w.cell? ⟨2, 3, none⟩ = some (.string ⟨#[103, 116]⟩)
  c0 : w.cell? ⟨2, 0, none⟩ = some (.string ⟨#[]⟩)
def opNameF (k : Int) : ByteArray := if k = 1 then ⟨#[108, 116]⟩ else if k = 2 then ⟨#[101, 113]⟩ else if k = 3 then ⟨#[103, 116]⟩ else ⟨#[]⟩
theorem ret_str {a b : ByteArray} (h : a = b) : Ending.returned (.string a) = .returned (.string b) := by rw [h]
set_option maxHeartbeats 400000 in
theorem opName_any (k : Int) (w : World) (h : OpsLaid w) :
    Calls Tryz.prog 353 #[.int .i64 k] w fun e w' => e = .returned (.string (opNameF k)) ∧ w' = w := by
  obtain ⟨h1, h2, h3, h0⟩ := h
  by_cases hk : 0 ≤ k ∧ k < 4
  · rcases (by omega : k = 0 ∨ k = 1 ∨ k = 2 ∨ k = 3) with rfl | rfl | rfl | rfl
    all_goals
      go_enter Tryz.func353, Tryz.ntmps353
      go_wp2
      go_ret
      exact ⟨rfl, rfl⟩
  · go_enter Tryz.func353, Tryz.ntmps353
    go_wp2
    all_goals first | (exfalso; omega) | (go_ret; exact ⟨ret_str (by unfold opNameF; rw [if_neg (by omega), if_neg (by omega), if_neg (by omega)]), rfl⟩)
end Go.Proofs.YtjkpbpgeedihhaaGreatDoor
