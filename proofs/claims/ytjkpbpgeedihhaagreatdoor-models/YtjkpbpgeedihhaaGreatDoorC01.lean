import Derived.WalkKit
set_option linter.all false
/-
  PLAIN MATHEMATICS for 'ferrylaw.Models' (no dump).
-/
namespace Go.Proofs.YtjkpbpgeedihhaaGreatDoor
open Go
namespace M
def idCh (c : UInt8) : Bool := (97 ≤ c && c ≤ 122) || (48 ≤ c && c ≤ 57)
def isIdB (l : List UInt8) : Bool := l.all idCh && (decide (1 ≤ l.length) && decide (l.length ≤ 8))
theorem take_snoc (s : ByteArray) (k : Nat) (h : k < s.size) : s.data.toList.take (k + 1) = s.data.toList.take k ++ [s[k]] := by
  rw [List.take_succ_eq_append_getElem (by simpa using h)]; rfl
theorem idCh_iff (c : UInt8) : idCh c = true ↔ (97 ≤ (c.toNat : Int) ∧ (c.toNat : Int) ≤ 122) ∨ (48 ≤ (c.toNat : Int) ∧ (c.toNat : Int) ≤ 57) := by
  simp [idCh, UInt8.le_iff_toNat_le]; omega
theorem all_take_succ (p : UInt8 → Bool) (s : ByteArray) (k : Nat) (h : k < s.size) : (s.data.toList.take (k + 1)).all p = ((s.data.toList.take k).all p && p s[k]) := by
  rw [take_snoc s k h]; simp
theorem all_false_of_take (p : UInt8 → Bool) (s : ByteArray) (k : Nat) (h : k < s.size) (hp : p s[k] = false) : s.data.toList.all p = false := by
  rw [List.all_eq_false]
  exact ⟨s[k], by simp [ByteArray.getElem_eq_getElem_data], by simp [hp]⟩
end M
end Go.Proofs.YtjkpbpgeedihhaaGreatDoor
