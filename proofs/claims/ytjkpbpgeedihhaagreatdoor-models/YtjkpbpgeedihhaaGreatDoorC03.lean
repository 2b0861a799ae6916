import Derived.Test.YtjkpbpgeedihhaaGreatDoorRows
import Derived.Test.YtjkpbpgeedihhaaGreatDoorC01
import Derived.WalkKit
import Derived.WalkSpells
import Derived.WalkLawsBesides
import Derived.Deep.QuietTactic
import Derived.BigQuiet
set_option linter.all false
namespace Go.Proofs.YtjkpbpgeedihhaaGreatDoor
open Go.RowKit
open M

/-- A slice's value: where its array begins (none: nil). -/
def SlV (a : Option Addr) (len cap : Nat) : Value := .slice a len cap
/-- Ints that stand in an array. -/
def IntsIn (w : World) (a : Option Addr) (l : List Int) : Prop := ∀ i, i < l.length → ∃ b o, a = some ⟨b, o, none⟩ ∧ w.cell? ⟨b, o + i, none⟩ = some (.int .i64 (l.getD i 0))
theorem take_getD_succ {α : Type} (d : α) (l : List α) (k : Nat) (h : k < l.length) : l.take (k + 1) = l.take k ++ [l.getD k d] := by
  rw [List.take_succ_eq_append_getElem h]; simp [List.getD, List.getElem?_eq_getElem h]
theorem take_next {la lb : List Int} {k n : Nat} (HN : Hid (la.length = n ∧ lb.length = n)) (HT : Hid (la.take k = lb.take k)) (hlt : k < n) (h : (la[k]?.getD 0 != lb[k]?.getD 0) = false) : la.take (k + 1) = lb.take (k + 1) := by
  have h' : la.getD k 0 = lb.getD k 0 := by simpa [List.getD] using h
  rw [take_getD_succ 0 la k (by rw [HN.out.1]; exact hlt), take_getD_succ 0 lb k (by rw [HN.out.2]; exact hlt), HT.out, h']
theorem ne_at {la lb : List Int} {k : Nat} (h : (la[k]?.getD 0 != lb[k]?.getD 0) = true) : decide (la = lb) = false := by
  rw [decide_eq_false_iff_not]; rintro rfl; simp at h
theorem ret_bool' {a b : Bool} (h : a = b) : Ending.returned (.bool a) = .returned (.bool b) := by rw [h]

set_option maxHeartbeats 400000 in
theorem sameInts_any (a b : Option Addr) (ca cb : Nat) (la lb : List Int) (w : World) (ha : IntsIn w a la) (hb : IntsIn w b lb) (hla : la.length ≤ maxLen) :
    Calls Tryz.prog 73 #[SlV a la.length ca, SlV b lb.length cb] w fun e w' => e = .returned (.bool (decide (la = lb))) ∧ ∃ n, w' = w.drewN n := by
  unfold maxLen at hla
  by_cases hlen : la.length = lb.length
  · obtain ⟨n, hn⟩ : ∃ n, la.length = n := ⟨_, rfl⟩
    have HN : Hid (la.length = n ∧ lb.length = n) := ⟨hn, by omega⟩
    simp only [SlV]
    rw [hn, HN.out.2]
    have hle : n ≤ 9223372036854775807 := by omega
    clear hn hlen hla
    go_enter Tryz.func73, Tryz.ntmps73
    go_wp2
    go_loopw [5] (fun i wr => ∃ k q : Nat, k ≤ n ∧ i = .int .i64 k ∧ wr = w.drewN q ∧ la.take k = lb.take k) (fun i _ => n - (intOf i).toNat)
    case atStart => exact ⟨0, 0, Nat.zero_le _, rfl, rfl, rfl⟩
    case round =>
      obtain ⟨k, q, hk, rfl, rfl, htk⟩ := hrel
      have HT : Hid (la.take k = lb.take k) := htk
      clear htk
      by_cases hlt : k < n
      · obtain ⟨ba, oa, rfl, hca⟩ := ha k (by rw [HN.out.1]; exact hlt)
        obtain ⟨bb, ob, rfl, hcb⟩ := hb k (by rw [HN.out.2]; exact hlt)
        have hb1 : (k : Int) < (n : Int) := by omega
        go_wp2
        go_quiet (fail)
        go_wp2
        · go_ret
          exact ⟨ret_bool' (ne_at ‹_›).symm, _, World.drewN_drewN _ _ _⟩
        · refine ⟨⟨k + 1, _, by omega, by go_num, rfl, take_next HN HT hlt ‹_›⟩, ?_⟩
          simp [intOf]; omega
      · go_wp2
        go_ret
        exact ⟨ret_bool' (by symm; rw [decide_eq_true_iff]; have := HT.out; rwa [List.take_of_length_le (by rw [HN.out.1]; omega), List.take_of_length_le (by rw [HN.out.2]; omega)] at this), q, rfl⟩
  · have H : ((la.length : Int) == (lb.length : Int)) = false := by simp; omega
    simp only [SlV]
    go_enter Tryz.func73, Tryz.ntmps73
    go_wp2
    go_ret
    exact ⟨ret_bool' (by symm; rw [decide_eq_false_iff_not]; intro e; exact hlen (by rw [e])), 0, rfl⟩
end Go.Proofs.YtjkpbpgeedihhaaGreatDoor
