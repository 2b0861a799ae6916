import Derived.Test.YtjkpbpgeedihhaaGreatDoorC06
import Derived.Test.YtjkpbpgeedihhaaGreatDoorC00
set_option linter.all false
namespace Go.Proofs.YtjkpbpgeedihhaaGreatDoor
open Go.RowKit
open M
set_option maxHeartbeats 1000000 in
set_option maxRecDepth 100000 in
theorem rightNode_f1 (n : Nod) (r : Raw) (w : World) (hn : NodIn w n r) (hz : NodSz n)  (hI : isIdB n.id.data.toList = false) (hN : rightNameB n.name = true) (hC : rightCasesB n.cases = true) :
    Calls Tryz.prog 118 #[.agg (nodV n r)] w fun e w' => e = .returned (.bool (rightNodeB n)) ∧ Below w.heap.size w w' := by
  have h22 := fun o => isId_any n.id (w.alloc o) (by unfold maxLen; have := hz.id; omega)
  have h48 := fun o => rightName_any n.name (w.alloc o) hz.name
  have h49 := fun o => rightCases_any r.ca r.cc n.cases (w.alloc o) (hn.cs.below (b1 w o)) hn.cl
  rw [hI] at h22
  rw [hN] at h48
  rw [hC] at h49
  have hcl := hn.cl
  have hbl := hn.bl
  unfold maxLen at hcl hbl
  clear hn hz
  have HI : Hid (isIdB n.id.data.toList = false ∧ rightNameB n.name = true ∧ rightCasesB n.cases = true ∧ True) := ⟨hI, hN, hC, trivial⟩
  clear hI hN hC
  unfold nodV
  simp only [SlV]
  go_enter Tryz.func118, Tryz.ntmps118
  go_wp2_with (first | (go_at_call 111; go_must (refine (h22 _).mono ?_; rintro e w1 ⟨rfl, rfl⟩)) | (go_at_call 199; go_must (refine (h48 _).mono ?_; rintro e w1 ⟨rfl, rfl⟩)) | (go_at_call 200; go_must (refine (h49 _).mono ?_; rintro e w1 ⟨rfl, rfl⟩)))
  all_goals
    go_ret
    refine ⟨ret_bool' ?_, b1 _ _⟩
    have HO := HI.out
    clear h22 h48 h49 HI
    symm
    unfold rightNodeB
    rw [if_pos (by simp_all)]
set_option maxHeartbeats 1000000 in
set_option maxRecDepth 100000 in
theorem rightNode_f2 (n : Nod) (r : Raw) (w : World) (hn : NodIn w n r) (hz : NodSz n)  (hI : isIdB n.id.data.toList = false) (hN : rightNameB n.name = false) (hC : rightCasesB n.cases = true) :
    Calls Tryz.prog 118 #[.agg (nodV n r)] w fun e w' => e = .returned (.bool (rightNodeB n)) ∧ Below w.heap.size w w' := by
  have h22 := fun o => isId_any n.id (w.alloc o) (by unfold maxLen; have := hz.id; omega)
  have h48 := fun o => rightName_any n.name (w.alloc o) hz.name
  have h49 := fun o => rightCases_any r.ca r.cc n.cases (w.alloc o) (hn.cs.below (b1 w o)) hn.cl
  rw [hI] at h22
  rw [hN] at h48
  rw [hC] at h49
  have hcl := hn.cl
  have hbl := hn.bl
  unfold maxLen at hcl hbl
  clear hn hz
  have HI : Hid (isIdB n.id.data.toList = false ∧ rightNameB n.name = false ∧ rightCasesB n.cases = true ∧ True) := ⟨hI, hN, hC, trivial⟩
  clear hI hN hC
  unfold nodV
  simp only [SlV]
  go_enter Tryz.func118, Tryz.ntmps118
  go_wp2_with (first | (go_at_call 111; go_must (refine (h22 _).mono ?_; rintro e w1 ⟨rfl, rfl⟩)) | (go_at_call 199; go_must (refine (h48 _).mono ?_; rintro e w1 ⟨rfl, rfl⟩)) | (go_at_call 200; go_must (refine (h49 _).mono ?_; rintro e w1 ⟨rfl, rfl⟩)))
  all_goals
    go_ret
    refine ⟨ret_bool' ?_, b1 _ _⟩
    have HO := HI.out
    clear h22 h48 h49 HI
    symm
    unfold rightNodeB
    rw [if_pos (by simp_all)]
set_option maxHeartbeats 1000000 in
set_option maxRecDepth 100000 in
theorem rightNode_f3 (n : Nod) (r : Raw) (w : World) (hn : NodIn w n r) (hz : NodSz n)  (hI : isIdB n.id.data.toList = false) (hN : rightNameB n.name = true) (hC : rightCasesB n.cases = false) :
    Calls Tryz.prog 118 #[.agg (nodV n r)] w fun e w' => e = .returned (.bool (rightNodeB n)) ∧ Below w.heap.size w w' := by
  have h22 := fun o => isId_any n.id (w.alloc o) (by unfold maxLen; have := hz.id; omega)
  have h48 := fun o => rightName_any n.name (w.alloc o) hz.name
  have h49 := fun o => rightCases_any r.ca r.cc n.cases (w.alloc o) (hn.cs.below (b1 w o)) hn.cl
  rw [hI] at h22
  rw [hN] at h48
  rw [hC] at h49
  have hcl := hn.cl
  have hbl := hn.bl
  unfold maxLen at hcl hbl
  clear hn hz
  have HI : Hid (isIdB n.id.data.toList = false ∧ rightNameB n.name = true ∧ rightCasesB n.cases = false ∧ True) := ⟨hI, hN, hC, trivial⟩
  clear hI hN hC
  unfold nodV
  simp only [SlV]
  go_enter Tryz.func118, Tryz.ntmps118
  go_wp2_with (first | (go_at_call 111; go_must (refine (h22 _).mono ?_; rintro e w1 ⟨rfl, rfl⟩)) | (go_at_call 199; go_must (refine (h48 _).mono ?_; rintro e w1 ⟨rfl, rfl⟩)) | (go_at_call 200; go_must (refine (h49 _).mono ?_; rintro e w1 ⟨rfl, rfl⟩)))
  all_goals
    go_ret
    refine ⟨ret_bool' ?_, b1 _ _⟩
    have HO := HI.out
    clear h22 h48 h49 HI
    symm
    unfold rightNodeB
    rw [if_pos (by simp_all)]
set_option maxHeartbeats 1000000 in
set_option maxRecDepth 100000 in
theorem rightNode_f4 (n : Nod) (r : Raw) (w : World) (hn : NodIn w n r) (hz : NodSz n)  (hI : isIdB n.id.data.toList = false) (hN : rightNameB n.name = false) (hC : rightCasesB n.cases = false) :
    Calls Tryz.prog 118 #[.agg (nodV n r)] w fun e w' => e = .returned (.bool (rightNodeB n)) ∧ Below w.heap.size w w' := by
  have h22 := fun o => isId_any n.id (w.alloc o) (by unfold maxLen; have := hz.id; omega)
  have h48 := fun o => rightName_any n.name (w.alloc o) hz.name
  have h49 := fun o => rightCases_any r.ca r.cc n.cases (w.alloc o) (hn.cs.below (b1 w o)) hn.cl
  rw [hI] at h22
  rw [hN] at h48
  rw [hC] at h49
  have hcl := hn.cl
  have hbl := hn.bl
  unfold maxLen at hcl hbl
  clear hn hz
  have HI : Hid (isIdB n.id.data.toList = false ∧ rightNameB n.name = false ∧ rightCasesB n.cases = false ∧ True) := ⟨hI, hN, hC, trivial⟩
  clear hI hN hC
  unfold nodV
  simp only [SlV]
  go_enter Tryz.func118, Tryz.ntmps118
  go_wp2_with (first | (go_at_call 111; go_must (refine (h22 _).mono ?_; rintro e w1 ⟨rfl, rfl⟩)) | (go_at_call 199; go_must (refine (h48 _).mono ?_; rintro e w1 ⟨rfl, rfl⟩)) | (go_at_call 200; go_must (refine (h49 _).mono ?_; rintro e w1 ⟨rfl, rfl⟩)))
  all_goals
    go_ret
    refine ⟨ret_bool' ?_, b1 _ _⟩
    have HO := HI.out
    clear h22 h48 h49 HI
    symm
    unfold rightNodeB
    rw [if_pos (by simp_all)]
set_option maxHeartbeats 1000000 in
set_option maxRecDepth 100000 in
theorem rightNode_f5 (n : Nod) (r : Raw) (w : World) (hn : NodIn w n r) (hz : NodSz n)  (hI : isIdB n.id.data.toList = true) (hN : rightNameB n.name = false) (hC : rightCasesB n.cases = true) :
    Calls Tryz.prog 118 #[.agg (nodV n r)] w fun e w' => e = .returned (.bool (rightNodeB n)) ∧ Below w.heap.size w w' := by
  have h22 := fun o => isId_any n.id (w.alloc o) (by unfold maxLen; have := hz.id; omega)
  have h48 := fun o => rightName_any n.name (w.alloc o) hz.name
  have h49 := fun o => rightCases_any r.ca r.cc n.cases (w.alloc o) (hn.cs.below (b1 w o)) hn.cl
  rw [hI] at h22
  rw [hN] at h48
  rw [hC] at h49
  have hcl := hn.cl
  have hbl := hn.bl
  unfold maxLen at hcl hbl
  clear hn hz
  have HI : Hid (isIdB n.id.data.toList = true ∧ rightNameB n.name = false ∧ rightCasesB n.cases = true ∧ True) := ⟨hI, hN, hC, trivial⟩
  clear hI hN hC
  unfold nodV
  simp only [SlV]
  go_enter Tryz.func118, Tryz.ntmps118
  go_wp2_with (first | (go_at_call 111; go_must (refine (h22 _).mono ?_; rintro e w1 ⟨rfl, rfl⟩)) | (go_at_call 199; go_must (refine (h48 _).mono ?_; rintro e w1 ⟨rfl, rfl⟩)) | (go_at_call 200; go_must (refine (h49 _).mono ?_; rintro e w1 ⟨rfl, rfl⟩)))
  all_goals
    go_ret
    refine ⟨ret_bool' ?_, b1 _ _⟩
    have HO := HI.out
    clear h22 h48 h49 HI
    symm
    unfold rightNodeB
    rw [if_pos (by simp_all)]
set_option maxHeartbeats 1000000 in
set_option maxRecDepth 100000 in
theorem rightNode_f6 (n : Nod) (r : Raw) (w : World) (hn : NodIn w n r) (hz : NodSz n)  (hI : isIdB n.id.data.toList = true) (hN : rightNameB n.name = false) (hC : rightCasesB n.cases = false) :
    Calls Tryz.prog 118 #[.agg (nodV n r)] w fun e w' => e = .returned (.bool (rightNodeB n)) ∧ Below w.heap.size w w' := by
  have h22 := fun o => isId_any n.id (w.alloc o) (by unfold maxLen; have := hz.id; omega)
  have h48 := fun o => rightName_any n.name (w.alloc o) hz.name
  have h49 := fun o => rightCases_any r.ca r.cc n.cases (w.alloc o) (hn.cs.below (b1 w o)) hn.cl
  rw [hI] at h22
  rw [hN] at h48
  rw [hC] at h49
  have hcl := hn.cl
  have hbl := hn.bl
  unfold maxLen at hcl hbl
  clear hn hz
  have HI : Hid (isIdB n.id.data.toList = true ∧ rightNameB n.name = false ∧ rightCasesB n.cases = false ∧ True) := ⟨hI, hN, hC, trivial⟩
  clear hI hN hC
  unfold nodV
  simp only [SlV]
  go_enter Tryz.func118, Tryz.ntmps118
  go_wp2_with (first | (go_at_call 111; go_must (refine (h22 _).mono ?_; rintro e w1 ⟨rfl, rfl⟩)) | (go_at_call 199; go_must (refine (h48 _).mono ?_; rintro e w1 ⟨rfl, rfl⟩)) | (go_at_call 200; go_must (refine (h49 _).mono ?_; rintro e w1 ⟨rfl, rfl⟩)))
  all_goals
    go_ret
    refine ⟨ret_bool' ?_, b1 _ _⟩
    have HO := HI.out
    clear h22 h48 h49 HI
    symm
    unfold rightNodeB
    rw [if_pos (by simp_all)]
set_option maxHeartbeats 1000000 in
set_option maxRecDepth 100000 in
theorem rightNode_f7 (n : Nod) (r : Raw) (w : World) (hn : NodIn w n r) (hz : NodSz n)  (hI : isIdB n.id.data.toList = true) (hN : rightNameB n.name = true) (hC : rightCasesB n.cases = false) :
    Calls Tryz.prog 118 #[.agg (nodV n r)] w fun e w' => e = .returned (.bool (rightNodeB n)) ∧ Below w.heap.size w w' := by
  have h22 := fun o => isId_any n.id (w.alloc o) (by unfold maxLen; have := hz.id; omega)
  have h48 := fun o => rightName_any n.name (w.alloc o) hz.name
  have h49 := fun o => rightCases_any r.ca r.cc n.cases (w.alloc o) (hn.cs.below (b1 w o)) hn.cl
  rw [hI] at h22
  rw [hN] at h48
  rw [hC] at h49
  have hcl := hn.cl
  have hbl := hn.bl
  unfold maxLen at hcl hbl
  clear hn hz
  have HI : Hid (isIdB n.id.data.toList = true ∧ rightNameB n.name = true ∧ rightCasesB n.cases = false ∧ True) := ⟨hI, hN, hC, trivial⟩
  clear hI hN hC
  unfold nodV
  simp only [SlV]
  go_enter Tryz.func118, Tryz.ntmps118
  go_wp2_with (first | (go_at_call 111; go_must (refine (h22 _).mono ?_; rintro e w1 ⟨rfl, rfl⟩)) | (go_at_call 199; go_must (refine (h48 _).mono ?_; rintro e w1 ⟨rfl, rfl⟩)) | (go_at_call 200; go_must (refine (h49 _).mono ?_; rintro e w1 ⟨rfl, rfl⟩)))
  all_goals
    go_ret
    refine ⟨ret_bool' ?_, b1 _ _⟩
    have HO := HI.out
    clear h22 h48 h49 HI
    symm
    unfold rightNodeB
    rw [if_pos (by simp_all)]
set_option maxHeartbeats 1000000 in
set_option maxRecDepth 100000 in
theorem rightNode_lo (n : Nod) (r : Raw) (w : World) (hn : NodIn w n r) (hz : NodSz n) (hk : n.kind < 1) (hI : isIdB n.id.data.toList = true) (hN : rightNameB n.name = true) (hC : rightCasesB n.cases = true) :
    Calls Tryz.prog 118 #[.agg (nodV n r)] w fun e w' => e = .returned (.bool (rightNodeB n)) ∧ Below w.heap.size w w' := by
  have h22 := fun o => isId_any n.id (w.alloc o) (by unfold maxLen; have := hz.id; omega)
  have h48 := fun o => rightName_any n.name (w.alloc o) hz.name
  have h49 := fun o => rightCases_any r.ca r.cc n.cases (w.alloc o) (hn.cs.below (b1 w o)) hn.cl
  rw [hI] at h22
  rw [hN] at h48
  rw [hC] at h49
  have hcl := hn.cl
  have hbl := hn.bl
  unfold maxLen at hcl hbl
  clear hn hz
  have HI : Hid (isIdB n.id.data.toList = true ∧ rightNameB n.name = true ∧ rightCasesB n.cases = true ∧ n.kind < 1) := ⟨hI, hN, hC, hk⟩
  clear hI hN hC
  unfold nodV
  simp only [SlV]
  go_enter Tryz.func118, Tryz.ntmps118
  go_wp2_with (first | (go_at_call 111; go_must (refine (h22 _).mono ?_; rintro e w1 ⟨rfl, rfl⟩)) | (go_at_call 199; go_must (refine (h48 _).mono ?_; rintro e w1 ⟨rfl, rfl⟩)) | (go_at_call 200; go_must (refine (h49 _).mono ?_; rintro e w1 ⟨rfl, rfl⟩)))
  all_goals
    go_ret
    refine ⟨ret_bool' ?_, b1 _ _⟩
    have HO := HI.out
    clear h22 h48 h49 HI
    symm
    unfold rightNodeB
    rw [if_pos (by simp_all)]
set_option maxHeartbeats 1000000 in
set_option maxRecDepth 100000 in
theorem rightNode_hi (n : Nod) (r : Raw) (w : World) (hn : NodIn w n r) (hz : NodSz n) (hk : 7 < n.kind) (hI : isIdB n.id.data.toList = true) (hN : rightNameB n.name = true) (hC : rightCasesB n.cases = true) :
    Calls Tryz.prog 118 #[.agg (nodV n r)] w fun e w' => e = .returned (.bool (rightNodeB n)) ∧ Below w.heap.size w w' := by
  have h22 := fun o => isId_any n.id (w.alloc o) (by unfold maxLen; have := hz.id; omega)
  have h48 := fun o => rightName_any n.name (w.alloc o) hz.name
  have h49 := fun o => rightCases_any r.ca r.cc n.cases (w.alloc o) (hn.cs.below (b1 w o)) hn.cl
  rw [hI] at h22
  rw [hN] at h48
  rw [hC] at h49
  have hcl := hn.cl
  have hbl := hn.bl
  unfold maxLen at hcl hbl
  clear hn hz
  have HI : Hid (isIdB n.id.data.toList = true ∧ rightNameB n.name = true ∧ rightCasesB n.cases = true ∧ 7 < n.kind) := ⟨hI, hN, hC, hk⟩
  clear hI hN hC
  unfold nodV
  simp only [SlV]
  go_enter Tryz.func118, Tryz.ntmps118
  go_wp2_with (first | (go_at_call 111; go_must (refine (h22 _).mono ?_; rintro e w1 ⟨rfl, rfl⟩)) | (go_at_call 199; go_must (refine (h48 _).mono ?_; rintro e w1 ⟨rfl, rfl⟩)) | (go_at_call 200; go_must (refine (h49 _).mono ?_; rintro e w1 ⟨rfl, rfl⟩)))
  all_goals
    go_ret
    refine ⟨ret_bool' ?_, b1 _ _⟩
    have HO := HI.out
    clear h22 h48 h49 HI
    symm
    unfold rightNodeB
    rw [if_pos (by simp_all)]
theorem rightNode_any (n : Nod) (r : Raw) (w : World) (hn : NodIn w n r) (hz : NodSz n) :
    Calls Tryz.prog 118 #[.agg (nodV n r)] w fun e w' => e = .returned (.bool (rightNodeB n)) ∧ Below w.heap.size w w' := by
  cases hI : isIdB n.id.data.toList <;> cases hN : rightNameB n.name <;> cases hC : rightCasesB n.cases
  · exact rightNode_f4 n r w hn hz hI hN hC
  · exact rightNode_f2 n r w hn hz hI hN hC
  · exact rightNode_f3 n r w hn hz hI hN hC
  · exact rightNode_f1 n r w hn hz hI hN hC
  · exact rightNode_f6 n r w hn hz hI hN hC
  · exact rightNode_f5 n r w hn hz hI hN hC
  · exact rightNode_f7 n r w hn hz hI hN hC
  · by_cases h1 : n.kind < 1
    · exact rightNode_lo n r w hn hz h1 hI hN hC
    · by_cases h7 : 7 < n.kind
      · exact rightNode_hi n r w hn hz h7 hI hN hC
      · have hk : n.kind = 1 ∨ n.kind = 2 ∨ n.kind = 3 ∨ n.kind = 4 ∨ n.kind = 5 ∨ n.kind = 6 ∨ n.kind = 7 := by omega
        rcases hk with hk | hk | hk | hk | hk | hk | hk
        · exact rightNode_k1 n r w hn hz hk hI hN hC
        · exact rightNode_k2 n r w hn hz hk hI hN hC
        · exact rightNode_k3 n r w hn hz hk hI hN hC
        · exact rightNode_k4 n r w hn hz hk hI hN hC
        · exact rightNode_k5 n r w hn hz hk hI hN hC
        · exact rightNode_k6 n r w hn hz hk hI hN hC
        · exact rightNode_k7 n r w hn hz hk hI hN hC
end Go.Proofs.YtjkpbpgeedihhaaGreatDoor
namespace Go.Proofs.YtjkpbpgeedihhaaGreatDoor
open Go.RowKit
open M
def escCh (c : UInt8) : List UInt8 :=
  if c.toNat = 60 then [38, 108, 116, 59] else if c.toNat = 62 then [38, 103, 116, 59] else if c.toNat = 38 then [38, 97, 109, 112, 59] else if c.toNat = 34 then [38, 113, 117, 111, 116, 59] else if c.toNat = 39 then [38, 97, 112, 111, 115, 59] else [c]
/-- What is written for the first k bytes. -/
def escTo (s : ByteArray) (k : Nat) : List UInt8 := (s.data.toList.take k).flatMap escCh
theorem escTo_next (s : ByteArray) (k : Nat) (h : k < s.size) : escTo s (k + 1) = escTo s k ++ escCh s[k] := by
  unfold escTo
  rw [take_snoc s k h, List.flatMap_append]
  simp
theorem escCh_len (c : UInt8) : (escCh c).length ≤ 6 := by
  unfold escCh; repeat' split
  all_goals simp
theorem escTo_len (s : ByteArray) : ∀ k, k ≤ s.size → (escTo s k).length ≤ 6 * k
  | 0, _ => by simp [escTo]
  | k + 1, h => by
    rw [escTo_next s k (by omega), List.length_append]
    have := escTo_len s k (by omega)
    have := escCh_len s[k]
    omega
def mkS (l : List UInt8) : ByteArray := ⟨l.toArray⟩
theorem ba_ext {a b : ByteArray} (h : a.data.toList = b.data.toList) : a = b := by
  obtain ⟨⟨x⟩⟩ := a; obtain ⟨⟨y⟩⟩ := b; simp at h; simp [h]
theorem mkS_list (l : List UInt8) : (mkS l).data.toList = l := rfl
theorem mkS_of (a : ByteArray) : mkS a.data.toList = a := ba_ext rfl
theorem mkS_app (a b : List UInt8) : mkS a ++ mkS b = mkS (a ++ b) := ba_ext (by simp [mkS])
theorem mkS_size (l : List UInt8) : (mkS l).size = l.length := rfl
def quotedL (name : List UInt8) (v : List UInt8) : List UInt8 := [32] ++ name ++ [61, 34] ++ v ++ [34]

theorem esc_step {s : ByteArray} {k : Nat} {c : UInt8} (h : escTo s (k + 1) = escTo s k ++ escCh c) {x : ByteArray} (hx : escCh c = x.data.toList) : Value.string (mkS (escTo s k) ++ x) = Value.string (mkS (escTo s (k + 1))) := by
  congr 1
  rw [h, hx, ← mkS_app, mkS_of]
theorem extract_one (s : ByteArray) (k : Nat) (h : k < s.size) : (s.extract k (k + 1)).data.toList = [s[k]] := by
  have h' : k < s.data.toList.length := by simpa using h
  rw [ByteArray.data_extract, Array.toList_extract, List.extract_eq_take_drop]
  have : k + 1 - k = 1 := by omega
  rw [this, List.drop_eq_getElem_cons h']
  rfl

set_option maxHeartbeats 1000000 in
set_option maxRecDepth 100000 in
theorem quoted_any (name s : ByteArray) (w : World) (hn : name.size ≤ 12) (hs : s.size ≤ 40) :
    Calls Tryz.prog 74 #[.string name, .string s] w fun e w' => e = .returned (.string (mkS (quotedL name.data.toList (escTo s s.size)))) ∧ w' = w := by
  go_enter Tryz.func74, Tryz.ntmps74
  go_wp2
  go_loop [5, 6] (fun v i => ∃ k : Nat, k ≤ s.size ∧ i = .int .i64 k ∧ v = .string (mkS (escTo s k))) (fun _ i => s.size - (intOf i).toNat)
  case atStart => exact ⟨0, Nat.zero_le _, rfl, rfl⟩
  case round =>
    obtain ⟨k, hk, rfl, rfl⟩ := hrel
    have hel := escTo_len s k hk
    have hsz := mkS_size (escTo s k)
    have hbd : (mkS (escTo s k)).size ≤ 240 := by rw [hsz]; omega
    by_cases hlt : k < s.size
    · have HX : Hid (escTo s (k + 1) = escTo s k ++ escCh s[k]) := escTo_next s k hlt
      clear hel hsz
      go_wp2
      all_goals
        refine ⟨⟨k + 1, by omega, by go_num, esc_step HX.out ?_⟩, ?_⟩
        rotate_left
        · simp [intOf]; omega
        first
        | (unfold escCh; simp only [beq_iff_eq, beq_eq_false_iff_ne, ne_eq] at *; (repeat' split) <;> first | rfl | omega)
        | (rw [extract_one s k hlt]; unfold escCh; simp only [beq_eq_false_iff_ne, ne_eq] at *; (repeat' split) <;> first | rfl | omega)
    · obtain rfl : k = s.size := by omega
      clear hel hsz
      go_wp2
      go_ret
      refine ⟨?_, rfl⟩
      congr 2
end Go.Proofs.YtjkpbpgeedihhaaGreatDoor
namespace Go.Proofs.YtjkpbpgeedihhaaGreatDoor
open Go.RowKit
open M
def zN : Nod := ⟨0, ByteArray.empty, ByteArray.empty, 0, 0, [], 0, [], 0, 0⟩
/-- Node i. -/
def nd (ns : List Nod) (i : Nat) : Nod := ns.getD i zN
/-- The ten cells of a node. -/
structure NodCells (w : World) (b o : Nat) (n : Nod) (r : Raw) : Prop where
  c0 : w.cell? ⟨b, o, none⟩ = some (.int .i64 n.kind)
  c1 : w.cell? ⟨b, o + 1, none⟩ = some (.string n.id)
  c2 : w.cell? ⟨b, o + 2, none⟩ = some (.string n.name)
  c3 : w.cell? ⟨b, o + 3, none⟩ = some (.int .i64 n.up)
  c4 : w.cell? ⟨b, o + 4, none⟩ = some (.int .i64 n.to)
  c5 : w.cell? ⟨b, o + 5, none⟩ = some (SlV r.ca n.cases.length r.cc)
  c6 : w.cell? ⟨b, o + 6, none⟩ = some (.int .i64 n.els)
  c7 : w.cell? ⟨b, o + 7, none⟩ = some (SlV r.ba n.branches.length r.bc)
  c8 : w.cell? ⟨b, o + 8, none⟩ = some (.int .i64 n.after)
  c9 : w.cell? ⟨b, o + 9, none⟩ = some (.int .i64 n.late)
theorem NodCells.below {w w' : World} {b o : Nat} {n : Nod} {r : Raw} (h : NodCells w b o n r) (hb : Below w.heap.size w w') : NodCells w' b o n r := by
  have k := fun (x : Nat) => hb.cell (p := ⟨b, x, none⟩) (lt_of_cell h.c0)
  exact ⟨(k _).trans h.c0, (k _).trans h.c1, (k _).trans h.c2, (k _).trans h.c3, (k _).trans h.c4, (k _).trans h.c5, (k _).trans h.c6, (k _).trans h.c7, (k _).trans h.c8, (k _).trans h.c9⟩
/-- A model's nodes as they lie. -/
structure ModIn (w : World) (a : Option Addr) (ns : List Nod) (rs : Nat → Raw) : Prop where
  cells : ∀ i, i < ns.length → ∃ b o, a = some ⟨b, o, none⟩ ∧ NodCells w b (o + i * 10) (nd ns i) (rs i)
  node : ∀ i, i < ns.length → NodIn w (nd ns i) (rs i)
  sz : ∀ i, i < ns.length → NodSz (nd ns i)
  len : ns.length ≤ 140737488355328
theorem ModIn.below {w w' : World} {a : Option Addr} {ns : List Nod} {rs : Nat → Raw} (h : ModIn w a ns rs) (hb : Below w.heap.size w w') : ModIn w' a ns rs :=
  ⟨fun i hi => by obtain ⟨b, o, e, hc⟩ := h.cells i hi; exact ⟨b, o, e, hc.below hb⟩, fun i hi => (h.node i hi).below hb, h.sz, h.len⟩
abbrev modV (id : ByteArray) (a : Option Addr) (n cap : Nat) : Value := .agg #[.string id, SlV a n cap]
def upF (ns : List Nod) (i : Nat) : Int := (nd ns i).up
open FerryM in
theorem A_mem {ns : List Nod} {j : Nat} (h : Ahead (upF ns) (j + 1)) (h0 : 0 ≤ upF ns j) (s : Nat) : s ∈ A (upF ns) j ↔ s = (upF ns j).toNat ∨ s ∈ A (upF ns) (upF ns j).toNat := by
  rw [A_eq _ h, if_neg (by omega)]; simp
open FerryM in
theorem A_none {ns : List Nod} {j : Nat} (h : Ahead (upF ns) (j + 1)) (h0 : upF ns j < 0) (s : Nat) : ¬ s ∈ A (upF ns) j := by
  rw [A_eq _ h, if_pos h0]; simp
open FerryM in
set_option maxHeartbeats 400000 in
theorem inside_any (id : ByteArray) (a : Option Addr) (cap : Nat) (ns : List Nod) (rs : Nat → Raw) (i s : Nat) (w : World) (hm : ModIn w a ns rs) (hi : i < ns.length) (ha : Ahead (upF ns) (i + 1)) :
    Calls Tryz.prog 201 #[modV id a ns.length cap, .int .i64 i, .int .i64 s] w fun e w' => e = .returned (.bool (decide (s ∈ A (upF ns) i))) ∧ Below w.heap.size w w' := by
  have hl := hm.len
  obtain ⟨b, o, rfl, hc0⟩ := hm.cells i hi
  have hcell : ∀ j, j < ns.length → w.cell? ⟨b, o + j * 10 + 3, none⟩ = some (.int .i64 (upF ns j)) := by
    intro j hj
    obtain ⟨b', o', e, hc⟩ := hm.cells j hj
    cases e; exact hc.c3
  obtain ⟨n, hn⟩ : ∃ n, ns.length = n := ⟨_, rfl⟩
  rw [hn] at hi hcell hl
  unfold modV
  simp only [SlV, hn]
  have hci := hcell i hi
  have hbw : b < w.heap.size := lt_of_cell hci
  clear hc0 hm hn
  have HC : Hid (∀ j, j < n → w.cell? ⟨b, o + j * 10 + 3, none⟩ = some (.int .i64 (upF ns j))) := hcell
  have HA : Hid (Ahead (upF ns) (i + 1)) := ha
  clear hcell ha
  have hib : (i : Int) < n := by omega
  go_enter Tryz.func201, Tryz.ntmps201
  go_wp2
  go_loop [7] (fun u => ∃ j : Nat, j ≤ i ∧ u = .int .i64 (upF ns j) ∧ (s ∈ A (upF ns) i ↔ s ∈ A (upF ns) j)) (fun u => (intOf u + 1).toNat)
  case atStart => exact ⟨i, Nat.le_refl _, rfl, Iff.rfl⟩
  case round =>
    obtain ⟨j, hj, rfl, hiff⟩ := hrel
    have HI : Hid (s ∈ A (upF ns) i ↔ s ∈ A (upF ns) j) := hiff
    clear hiff hci
    have HAj : Hid (Ahead (upF ns) (j + 1)) := fun t ht => HA.out t (by omega)
    have hup := HAj.out j (by omega)
    obtain ⟨u, hu⟩ : ∃ u, upF ns j = u := ⟨_, rfl⟩
    have HU : Hid (upF ns j = u) := hu
    rw [hu] at hup ⊢
    clear hu
    by_cases h0 : 0 ≤ u
    · obtain ⟨v, rfl⟩ : ∃ v : Nat, u = v := ⟨u.toNat, by omega⟩
      have hcv := HC.out v (by omega)
      have hvb : (v : Int) < n := by omega
      have hv2 := HA.out v (by omega)
      go_wp2
      · go_ret
        exact ⟨ret_bool' (by
          rename_i h _
          symm; rw [decide_eq_true_iff, HI.out, A_mem HAj.out (by rw [HU.out]; omega), HU.out]
          left; simp at h; omega), b1 _ _⟩
      · rename_i h
        refine ⟨⟨v, by omega, rfl, ?_⟩, by simp [intOf]; omega⟩
        rw [HI.out, A_mem HAj.out (by rw [HU.out]; omega), HU.out]
        simp at h
        constructor
        · rintro (e | e)
          · omega
          · exact e
        · exact .inr
    · go_wp2
      go_ret
      exact ⟨ret_bool' (by symm; rw [decide_eq_false_iff_not, HI.out]; exact A_none HAj.out (by rw [HU.out]; omega) s), b1 _ _⟩
end Go.Proofs.YtjkpbpgeedihhaaGreatDoor
namespace Go.Proofs.YtjkpbpgeedihhaaGreatDoor
open Go.RowKit
open M
def kdF (ns : List Nod) (i : Nat) : Int := (nd ns i).kind
/-- How many of the first m nodes are of a kind and stand in s. -/
def cnt (ns : List Nod) (k s : Int) : Nat → Nat
  | 0 => 0
  | m + 1 => cnt ns k s m + if upF ns m = s ∧ kdF ns m = k then 1 else 0
theorem cnt_le (ns : List Nod) (k s : Int) : ∀ m, cnt ns k s m ≤ m
  | 0 => Nat.le_refl _
  | m + 1 => by have := cnt_le ns k s m; unfold cnt; split <;> omega
theorem cnt_yes {ns : List Nod} {k s : Int} {m : Nat} (h1 : upF ns m = s) (h2 : kdF ns m = k) : cnt ns k s (m + 1) = cnt ns k s m + 1 := by
  show cnt ns k s m + _ = _; rw [if_pos ⟨h1, h2⟩]
theorem cnt_no {ns : List Nod} {k s : Int} {m : Nat} (h : ¬ (upF ns m = s ∧ kdF ns m = k)) : cnt ns k s (m + 1) = cnt ns k s m := by
  show cnt ns k s m + _ = _; rw [if_neg h]; omega
/-- The scope s is as it must be (no sub: none). -/
def scOk (ns : List Nod) (s : Int) : Bool := (decide (0 ≤ s) && decide (kdF ns s.toNat ≠ 6)) || (cnt ns 1 s ns.length == 1 && decide (1 ≤ cnt ns 7 s ns.length))
def scopesTo (ns : List Nod) (k : Nat) : Bool := decide (∀ t, t < k → scOk ns ((t : Int) - 1) = true)
theorem scopesTo_next {ns : List Nod} {k : Nat} (h : scopesTo ns k = true) (h2 : scOk ns ((k : Int) - 1) = true) : scopesTo ns (k + 1) = true := by
  simp only [scopesTo, decide_eq_true_eq] at h ⊢
  intro t ht
  by_cases e : t = k
  · subst e; exact h2
  · exact h t (by omega)
theorem scopesTo_not {ns : List Nod} {k m : Nat} (hk : k < m) (h2 : scOk ns ((k : Int) - 1) = false) : scopesTo ns m = false := by
  simp only [scopesTo, decide_eq_false_iff_not]
  intro h; rw [h k hk] at h2; cases h2
set_option maxHeartbeats 1000000 in
set_option maxRecDepth 100000 in
theorem rightScopes_pos (id : ByteArray) (b o cap : Nat) (ns : List Nod) (rs : Nat → Raw) (w : World) (hm : ModIn w (some ⟨b, o, none⟩) ns rs) (hpos : 0 < ns.length) :
    Calls Tryz.prog 121 #[modV id (some ⟨b, o, none⟩) ns.length cap] w fun e w' => e = .returned (.bool (scopesTo ns (ns.length + 1))) ∧ Below w.heap.size w w' := by
  have hl := hm.len
  have hc : ∀ j, j < ns.length → w.cell? ⟨b, o + j * 10 + 3, none⟩ = some (.int .i64 (upF ns j)) ∧ w.cell? ⟨b, o + j * 10, none⟩ = some (.int .i64 (kdF ns j)) := by
    intro j hj
    obtain ⟨b', o', e, h⟩ := hm.cells j hj
    cases e; exact ⟨h.c3, h.c0⟩
  have hbw : b < w.heap.size := lt_of_cell (hc 0 hpos).1
  obtain ⟨n, hn⟩ : ∃ n, ns.length = n := ⟨_, rfl⟩
  have HN : Hid (ns.length = n) := hn
  rw [hn] at hc hl hpos
  unfold modV
  simp only [SlV, hn]
  have HC : Hid (∀ j, j < n → w.cell? ⟨b, o + j * 10 + 3, none⟩ = some (.int .i64 (upF ns j)) ∧ w.cell? ⟨b, o + j * 10, none⟩ = some (.int .i64 (kdF ns j))) := hc
  clear hc hm hn
  go_enter Tryz.func121, Tryz.ntmps121
  go_wp2
  go_loop [3] (fun s => ∃ k : Nat, k ≤ n + 1 ∧ s = .int .i64 ((k : Int) - 1) ∧ scopesTo ns k = true) (fun s => (n - intOf s).toNat)
  case atStart => exact ⟨0, by omega, rfl, by simp [scopesTo]⟩
  case round =>
    obtain ⟨k, hk, rfl, hsc⟩ := hrel
    have HS : Hid (scopesTo ns k = true) := hsc
    clear hsc
    by_cases hlt : k < n + 1
    · cases k with
      | zero =>
        go_wp2
        go_loop [4, 5, 6] (fun st en i => ∃ m : Nat, m ≤ n ∧ i = .int .i64 m ∧ st = .int .i64 (cnt ns 1 (-1) m : Nat) ∧ en = .int .i64 (cnt ns 7 (-1) m : Nat)) (fun _ _ i => n - (intOf i).toNat)
        case atStart => exact ⟨0, by omega, rfl, rfl, rfl⟩
        case round =>
          obtain ⟨m, hmn, rfl, rfl, rfl⟩ := hrel
          have hc1 := cnt_le ns 1 (-1) m
          have hc7 := cnt_le ns 7 (-1) m
          by_cases hlm : m < n
          · obtain ⟨hcm3, hcm0⟩ := HC.out m hlm
            have hmb : (m : Int) < n := by omega
            go_wp2
            all_goals
              refine ⟨⟨m + 1, by omega, by go_num, ?_, ?_⟩, by simp [intOf]; omega⟩
              · first
                | (rw [cnt_yes (by simp_all) (by simp_all)]; go_num)
                | rw [cnt_no (by simp_all; done)]
                | rw [cnt_no (by simp_all; omega)]
              · first
                | (rw [cnt_yes (by simp_all) (by simp_all)]; go_num)
                | rw [cnt_no (by simp_all; done)]
                | rw [cnt_no (by simp_all; omega)]
          · obtain rfl : m = n := by omega
            go_wp2
            all_goals first
              | (go_ret; exact ⟨ret_bool' (by rw [scopesTo_not (k := 0) (by omega) (by unfold scOk; rw [HN.out]; first | done | (simp_all; done) | (simp_all; omega))]), b1 _ _⟩)
              | (refine ⟨⟨0 + 1, by omega, by go_num, scopesTo_next HS.out (by unfold scOk; rw [HN.out]; first | done | (simp_all; done) | (simp_all; omega))⟩, by first | (simp [intOf]; done) | (simp [intOf]; omega)⟩)
      | succ k =>
        have hck := HC.out k (by omega)
        obtain ⟨_, hck0⟩ := hck
        have e1 : ((k + 1 : Nat) : Int) - 1 = k := by omega
        have E1 : Hid (((k + 1 : Nat) : Int) - 1 = k) := e1
        rw [e1]
        clear e1
        have hkb : (k : Int) < n := by omega
        by_cases hk6 : kdF ns k = 6
        · have hk6' : (kdF ns k == 6) = true := by simp [hk6]
          go_wp2
          go_loop [4, 5, 6] (fun st en i => ∃ m : Nat, m ≤ n ∧ i = .int .i64 m ∧ st = .int .i64 (cnt ns 1 (k : Int) m : Nat) ∧ en = .int .i64 (cnt ns 7 (k : Int) m : Nat)) (fun _ _ i => n - (intOf i).toNat)
          case atStart => exact ⟨0, by omega, rfl, rfl, rfl⟩
          case round =>
            obtain ⟨m, hmn, rfl, rfl, rfl⟩ := hrel
            have hc1 := cnt_le ns 1 (k : Int) m
            have hc7 := cnt_le ns 7 (k : Int) m
            by_cases hlm : m < n
            · obtain ⟨hcm3, hcm0⟩ := HC.out m hlm
              have hmb : (m : Int) < n := by omega
              go_wp2
              all_goals
                refine ⟨⟨m + 1, by omega, by go_num, ?_, ?_⟩, by simp [intOf]; omega⟩
                · first
                  | (rw [cnt_yes (by simp_all) (by simp_all)]; go_num)
                  | rw [cnt_no (by simp_all; done)]
                  | rw [cnt_no (by simp_all; omega)]
                · first
                  | (rw [cnt_yes (by simp_all) (by simp_all)]; go_num)
                  | rw [cnt_no (by simp_all; done)]
                  | rw [cnt_no (by simp_all; omega)]
            · obtain rfl : m = n := by omega
              go_wp2
              all_goals first
                | (go_ret; exact ⟨ret_bool' (by rw [scopesTo_not (k := (k + 1)) (by omega) (by unfold scOk; rw [HN.out]; rw [E1.out]; simp_all; omega)]), b1 _ _⟩)
                | (refine ⟨⟨(k + 1) + 1, by omega, by go_num, scopesTo_next HS.out (by unfold scOk; rw [HN.out]; rw [E1.out]; simp_all; omega)⟩, by simp [intOf]; omega⟩)
        · have hk6' : (kdF ns k == 6) = false := by simp [hk6]
          go_wp2
          refine ⟨⟨(k + 1) + 1, by omega, by go_num, scopesTo_next HS.out (by unfold scOk; rw [E1.out]; simp_all)⟩, by simp [intOf]; omega⟩
    · go_wp2
      go_ret
      exact ⟨ret_bool' (by rw [show n + 1 = k by omega, HS.out]), b1 _ _⟩
end Go.Proofs.YtjkpbpgeedihhaaGreatDoor
namespace Go.Proofs.YtjkpbpgeedihhaaGreatDoor
open Go.RowKit
open M FerryM
def subF (ns : List Nod) (i : Nat) : Bool := decide (kdF ns i = 6)
/-- How many of the first m numbers stand in a list. -/
def cntA (l : List Nat) : Nat → Nat
  | 0 => 0
  | m + 1 => cntA l m + if m ∈ l then 1 else 0
theorem cntA_cons {x : Nat} {r : List Nat} (hx : x ∉ r) : ∀ m, cntA (x :: r) m = cntA r m + if x < m then 1 else 0
  | 0 => rfl
  | m + 1 => by
    unfold cntA
    rw [cntA_cons hx m]
    by_cases e : m = x
    · subst e; simp [hx]
    · by_cases hm : m ∈ r
      · simp [hm]; split <;> split <;> omega
      · simp [hm, e]; split <;> split <;> omega
theorem cntA_nil : ∀ m, cntA [] m = 0
  | 0 => rfl
  | m + 1 => by unfold cntA; rw [cntA_nil m]; simp
theorem cntA_len (ns : List Nod) : ∀ (k i : Nat), i ≤ k → Ahead (upF ns) (i + 1) → ∀ m, i ≤ m → cntA (A (upF ns) i) m = (A (upF ns) i).length
  | k, i, hk, h, m, hm => by
    rw [A_eq _ h]
    have hi := h i (by omega)
    split
    · rw [cntA_nil]; rfl
    · rename_i h0
      have hs := A_lt (upF ns) (upF ns i).toNat (upF ns i).toNat (Nat.le_refl _) (fun j hj => h j (by omega))
      rw [cntA_cons (fun hh => by have := hs _ hh; omega), if_pos (by omega)]
      cases k with
      | zero => omega
      | succ k => rw [cntA_len ns k (upF ns i).toNat (by omega) (fun j hj => h j (by omega)) m (by omega)]; rfl
theorem cntA_le (l : List Nat) : ∀ m, cntA l m ≤ m
  | 0 => Nat.le_refl _
  | m + 1 => by have := cntA_le l m; unfold cntA; split <;> omega
/-- What the reference asks of the first k nodes. -/
def AskedTo (ns : List Nod) (k : Nat) : Prop := ∀ t, t < k → Asked (upF ns) (subF ns) ns.length t
theorem upsB_false {ns : List Nod} {t : Nat} (ht : t < ns.length) (h : ¬ Asked (upF ns) (subF ns) ns.length t) : false = (dB (AskedTo ns ns.length) (Classical.propDecidable _)) := by
  symm; exact (@decide_eq_false_iff_not _ (Classical.propDecidable _)).2 fun hh => h (hh t ht)
theorem upsB_true {ns : List Nod} (h : AskedTo ns ns.length) : true = (dB (AskedTo ns ns.length) (Classical.propDecidable _)) := by
  symm; exact (@decide_eq_true_iff _ (Classical.propDecidable _)).2 h
theorem ahead_of_asked {ns : List Nod} {k : Nat} (h : AskedTo ns k) : Ahead (upF ns) k := fun j hj => (h j hj).1.2.1
theorem AskedTo.next {ns : List Nod} {k : Nat} (h : AskedTo ns k) (h2 : Asked (upF ns) (subF ns) ns.length k) : AskedTo ns (k + 1) := by
  intro t ht
  by_cases e : t = k
  · subst e; exact h2
  · exact h t (by omega)
/-- The first m subs ahead of node i hold none behind it that does not hold it. -/
def Shut (ns : List Nod) (i m : Nat) : Prop := ∀ s, s < m → subF ns s = true → s ∉ A (upF ns) i → ∀ k, i < k → k < ns.length → upF ns k ≠ s
/-- None of the nodes between i and q stands in s. -/
def Free (ns : List Nod) (i s q : Nat) : Prop := ∀ k, i < k → k < q → upF ns k ≠ s
theorem drewN_zero (w : World) : w.drewN 0 = w := rfl
set_option maxHeartbeats 2000000 in
set_option maxRecDepth 100000 in
theorem rightUps_pos (id : ByteArray) (b o cap : Nat) (ns : List Nod) (rs : Nat → Raw) (w : World) (hm : ModIn w (some ⟨b, o, none⟩) ns rs) (hpos : 0 < ns.length) :
    Calls Tryz.prog 119 #[modV id (some ⟨b, o, none⟩) ns.length cap] w fun e w' => e = .returned (.bool ((dB (AskedTo ns ns.length) (Classical.propDecidable _)))) ∧ Below w.heap.size w w' := by
  have hl := hm.len
  obtain ⟨n, hn⟩ : ∃ n, ns.length = n := ⟨_, rfl⟩
  have HN : Hid (ns.length = n) := hn
  have HM : Hid (ModIn w (some ⟨b, o, none⟩) ns rs) := hm
  have hc : ∀ W, Below w.heap.size w W → ∀ j, j < n → W.cell? ⟨b, o + j * 10 + 3, none⟩ = some (.int .i64 (upF ns j)) ∧ W.cell? ⟨b, o + j * 10, none⟩ = some (.int .i64 (kdF ns j)) := by
    intro W hW j hj
    obtain ⟨b', o', e, h⟩ := (hm.below hW).cells j (by omega)
    cases e; exact ⟨h.c3, h.c0⟩
  have HC : Hid (∀ W, Below w.heap.size w W → ∀ j, j < n → W.cell? ⟨b, o + j * 10 + 3, none⟩ = some (.int .i64 (upF ns j)) ∧ W.cell? ⟨b, o + j * 10, none⟩ = some (.int .i64 (kdF ns j))) := hc
  rw [hn] at hl hpos
  unfold modV
  simp only [SlV, hn, Option.map_some]
  clear hc hm hn
  obtain ⟨W1, hW1⟩ : ∃ W1, w.alloc (Obj.cells #[.string id, .slice (some ⟨b, o, none⟩) n cap] 25) = W1 := ⟨_, rfl⟩
  have HB1 : Hid (Below w.heap.size w W1) := by rw [← hW1]; exact b1 _ _
  have hs1 : W1.heap.size = w.heap.size + 1 := by rw [← hW1]; simp
  have HS1 : Hid (W1.heap.size = w.heap.size + 1) := hs1
  clear hs1
  have HX : Hid (∀ W, Below W1.heap.size W1 W → W.cell? ⟨w.heap.size, 0, none⟩ = some (.string id) ∧ W.cell? ⟨w.heap.size, 1, none⟩ = some (.slice (some ⟨b, o, none⟩) n cap)) := by
    intro W hW
    have e0 := hW.cell (p := ⟨w.heap.size, 0, none⟩) (by show w.heap.size < _; rw [HS1.out]; omega)
    have e1 := hW.cell (p := ⟨w.heap.size, 1, none⟩) (by show w.heap.size < _; rw [HS1.out]; omega)
    rw [e0, e1, ← hW1]
    exact ⟨by simp [go_sem], by simp [go_sem]⟩
  go_enter Tryz.func119, Tryz.ntmps119
  go_wp2
  clear hW1
  go_loopw [3] (fun i wr => ∃ k : Nat, k ≤ n ∧ i = .int .i64 k ∧ Below W1.heap.size W1 wr ∧ AskedTo ns k) (fun i _ => n - (intOf i).toNat)
  case atStart => exact ⟨0, by omega, rfl, Below.refl _ _, fun t ht => by omega⟩
  case round =>
    obtain ⟨k, hk, rfl, hbw, hask⟩ := hrel
    have HA : Hid (AskedTo ns k) := hask
    have HBW : Hid (Below W1.heap.size W1 wr) := hbw
    have HBw : Hid (Below w.heap.size w wr) := HB1.out.trans (hbw.mono (by rw [HS1.out]; omega))
    clear hask hbw
    obtain ⟨hx0, hx1⟩ := HX.out wr HBW.out
    by_cases hlt : k < n
    · obtain ⟨hck3, hck0⟩ := HC.out wr HBw.out k hlt
      have hkb : (k : Int) < n := by omega
      obtain ⟨u, hu⟩ : ∃ u, upF ns k = u := ⟨_, rfl⟩
      have HU : Hid (upF ns k = u) := hu
      rw [hu] at hck3
      clear hu
      by_cases hbad : u < -1 ∨ (k : Int) ≤ u
      · go_wp2
        all_goals go_ret
        all_goals exact ⟨ret_bool' (upsB_false (t := k) (by rw [HN.out]; exact hlt) (fun h => by have := h.1; rw [HU.out] at this; omega)), HBw.out⟩
      · have HAh : Hid (Ahead (upF ns) (k + 1)) := by
          intro j hj
          by_cases e : j < k
          · exact ahead_of_asked HA.out j e
          · obtain rfl : j = k := by omega
            rw [HU.out]; omega
        have HIN : Hid (∀ W (m : Nat), Below w.heap.size w W → Calls Tryz.prog 201 #[.agg #[.string id, .slice (some ⟨b, o, none⟩) n cap], .int .i64 k, .int .i64 m] W fun e w' => e = .returned (.bool (decide (m ∈ A (upF ns) k))) ∧ Below W.heap.size W w') := by
          intro W m hW
          have := inside_any id (some ⟨b, o, none⟩) cap ns rs k m W (HM.out.below hW) (by rw [HN.out]; exact hlt) HAh.out
          rw [HN.out] at this
          exact this
        by_cases h0 : 0 ≤ u
        · obtain ⟨v, rfl⟩ : ∃ v : Nat, u = v := ⟨u.toNat, by omega⟩
          obtain ⟨_, hcv0⟩ := HC.out wr HBw.out v (by omega)
          have hvb : (v : Int) < n := by omega
          by_cases hv6 : kdF ns v = 6
          · rw [hv6] at hcv0
            have HV6 : Hid (kdF ns v = 6) := hv6
            clear hv6
            have hdk : decide (k ≤ v) = false := by rw [decide_eq_false_iff_not]; omega
            have hdv : decide ((v : Int) < -1) = false := by rw [decide_eq_false_iff_not]; omega
            have hvk : (v : Int) < k := by omega
            clear hbad h0
            have hv0 : -1 ≤ (v : Int) := by omega
            go_wp2
            go_loopw [5, 6] (fun d s wr2 => ∃ m : Nat, m ≤ k ∧ s = .int .i64 m ∧ d = .int .i64 (cntA (A (upF ns) k) m : Nat) ∧ Below W1.heap.size W1 wr2 ∧ Shut ns k m) (fun _ s _ => k - (intOf s).toNat)
            case atStart => exact ⟨0, by omega, rfl, rfl, HBW.out, fun s hs => by omega⟩
            case round =>
              clear hx0 hx1 hck3 hck0
              obtain ⟨m, hmk, rfl, rfl, hbw2, hshut⟩ := hrel
              have HSh : Hid (Shut ns k m) := hshut
              have HB2 : Hid (Below W1.heap.size W1 wr) := hbw2
              have HBw2 : Hid (Below w.heap.size w wr) := HB1.out.trans (hbw2.mono (by rw [HS1.out]; omega))
              clear hshut hbw2
              obtain ⟨hx0, hx1⟩ := HX.out wr HB2.out
              have hcl := cntA_le (A (upF ns) k) m
              by_cases hlm : m < k
              · have hcall := HIN.out wr m HBw2.out
                cases hin : decide (m ∈ A (upF ns) k)
                · rw [hin] at hcall
                  have HNo : Hid (m ∉ A (upF ns) k) := (of_decide_eq_false hin : m ∉ A (upF ns) k)
                  have HCn : Hid (cntA (A (upF ns) k) (m + 1) = cntA (A (upF ns) k) m) := by show cntA _ m + _ = _; rw [if_neg HNo.out]; omega
                  clear hin
                  have HN2 : Hid (∀ w3, Below wr.heap.size wr w3 → Below W1.heap.size W1 w3) := fun w3 h => HB2.out.trans (h.mono HB2.out.size)
                  have HN3 : Hid (∀ w3, Below wr.heap.size wr w3 → Below w.heap.size w w3) := fun w3 h => HBw2.out.trans (h.mono HBw2.out.size)
                  by_cases hm6 : kdF ns m = 6
                  · go_wp2_with (go_at_call 201; go_must (refine hcall.mono ?_; rintro e w3 ⟨rfl, hb3⟩; obtain ⟨hx0', hx1'⟩ := HX.out w3 (HN2.out w3 hb3); obtain ⟨hcm3, hcm0⟩ := HC.out w3 (HN3.out w3 hb3) m (by omega)))
                    go_loop [8] (fun q => ∃ q' : Nat, k + 1 ≤ q' ∧ q' ≤ n ∧ q = .int .i64 q' ∧ Free ns k m q') (fun q => n - (intOf q).toNat)
                    case atStart => exact ⟨k + 1, Nat.le_refl _, by omega, by go_num, fun t h1 h2 => by omega⟩
                    case round =>
                      obtain ⟨q, hq1, hq2, rfl, hfree⟩ := hrel
                      have HFr : Hid (Free ns k m q) := hfree
                      clear hfree
                      by_cases hlq : q < n
                      · obtain ⟨hcq3, _⟩ := HC.out w3 (HN3.out w3 hb3) q hlq
                        have hqb : (q : Int) < n := by omega
                        go_wp2
                        · rename_i hqm _
                          go_ret
                          exact ⟨ret_bool' (upsB_false (t := k) (by rw [HN.out]; exact hlt) (fun h => h.2.1 m hlm (by simp [subF, hm6]) HNo.out q (by omega) (by rw [HN.out]; exact hlq) (by simpa using hqm))), HN3.out _ hb3⟩
                        · rename_i hqm
                          refine ⟨⟨q + 1, by omega, by omega, by go_num, fun t h1 h2 => ?_⟩, by simp [intOf]; omega⟩
                          by_cases e : t = q
                          · subst e; simpa using hqm
                          · exact HFr.out t h1 (by omega)
                      · have HShn : Hid (Shut ns k (m + 1)) := fun s hs h1 h2 => by
                          by_cases e : s = m
                          · subst e; exact fun t h3 h4 => HFr.out t h3 (by rw [HN.out] at h4; omega)
                          · exact HSh.out s (by omega) h1 h2
                        go_wp2
                        first | (exact ⟨⟨m + 1, by omega, by go_num, by rw [HCn.out], HN2.out _ hb3, HShn.out⟩, by simp [intOf]; omega⟩) | (exact ⟨⟨_, ⟨m + 1, by omega, by go_num, by rw [HCn.out], HN2.out _ hb3, HShn.out⟩, rfl⟩, by simp [intOf]; omega⟩) | (exact ⟨⟨_, _, ⟨m + 1, by omega, by go_num, by rw [HCn.out], HN2.out _ hb3, HShn.out⟩, rfl, rfl⟩, by simp [intOf]; omega⟩) | (exact ⟨⟨_, _, _, ⟨m + 1, by omega, by go_num, by rw [HCn.out], HN2.out _ hb3, HShn.out⟩, rfl, rfl, rfl⟩, by simp [intOf]; omega⟩) | (exact ⟨⟨_, _, _, _, ⟨m + 1, by omega, by go_num, by rw [HCn.out], HN2.out _ hb3, HShn.out⟩, rfl, rfl, rfl, rfl⟩, by simp [intOf]; omega⟩) | (exact ⟨⟨_, _, _, _, _, ⟨m + 1, by omega, by go_num, by rw [HCn.out], HN2.out _ hb3, HShn.out⟩, rfl, rfl, rfl, rfl, rfl⟩, by simp [intOf]; omega⟩) | (exact ⟨⟨_, _, _, _, _, _, ⟨m + 1, by omega, by go_num, by rw [HCn.out], HN2.out _ hb3, HShn.out⟩, rfl, rfl, rfl, rfl, rfl, rfl⟩, by simp [intOf]; omega⟩)
                  · have HShn : Hid (Shut ns k (m + 1)) := fun s hs h1 h2 => by
                      by_cases e : s = m
                      · subst e; simp [subF, hm6] at h1
                      · exact HSh.out s (by omega) h1 h2
                    go_wp2_with (go_at_call 201; go_must (refine hcall.mono ?_; rintro e w3 ⟨rfl, hb3⟩; obtain ⟨hx0', hx1'⟩ := HX.out w3 (HN2.out w3 hb3); obtain ⟨hcm3, hcm0⟩ := HC.out w3 (HN3.out w3 hb3) m (by omega)))
                    first | (exact ⟨⟨m + 1, by omega, by go_num, by rw [HCn.out], HN2.out _ hb3, HShn.out⟩, by simp [intOf]; omega⟩) | (exact ⟨⟨_, ⟨m + 1, by omega, by go_num, by rw [HCn.out], HN2.out _ hb3, HShn.out⟩, rfl⟩, by simp [intOf]; omega⟩) | (exact ⟨⟨_, _, ⟨m + 1, by omega, by go_num, by rw [HCn.out], HN2.out _ hb3, HShn.out⟩, rfl, rfl⟩, by simp [intOf]; omega⟩) | (exact ⟨⟨_, _, _, ⟨m + 1, by omega, by go_num, by rw [HCn.out], HN2.out _ hb3, HShn.out⟩, rfl, rfl, rfl⟩, by simp [intOf]; omega⟩) | (exact ⟨⟨_, _, _, _, ⟨m + 1, by omega, by go_num, by rw [HCn.out], HN2.out _ hb3, HShn.out⟩, rfl, rfl, rfl, rfl⟩, by simp [intOf]; omega⟩) | (exact ⟨⟨_, _, _, _, _, ⟨m + 1, by omega, by go_num, by rw [HCn.out], HN2.out _ hb3, HShn.out⟩, rfl, rfl, rfl, rfl, rfl⟩, by simp [intOf]; omega⟩) | (exact ⟨⟨_, _, _, _, _, _, ⟨m + 1, by omega, by go_num, by rw [HCn.out], HN2.out _ hb3, HShn.out⟩, rfl, rfl, rfl, rfl, rfl, rfl⟩, by simp [intOf]; omega⟩)
                · rw [hin] at hcall
                  have HYes : Hid (m ∈ A (upF ns) k) := (of_decide_eq_true hin : m ∈ A (upF ns) k)
                  have HCn : Hid (cntA (A (upF ns) k) (m + 1) = cntA (A (upF ns) k) m + 1) := by show cntA _ m + _ = _; rw [if_pos HYes.out]
                  have HShn : Hid (Shut ns k (m + 1)) := fun s hs h1 h2 => by
                    by_cases e : s = m
                    · subst e; exact absurd HYes.out h2
                    · exact HSh.out s (by omega) h1 h2
                  clear hin
                  go_wp2_with (go_at_call 201; go_must (refine hcall.mono ?_; rintro e w3 ⟨rfl, hb3⟩; obtain ⟨hx0', hx1'⟩ := HX.out w3 (HB2.out.trans (hb3.mono HB2.out.size)); obtain ⟨hcm3, hcm0⟩ := HC.out w3 (HBw2.out.trans (hb3.mono HBw2.out.size)) m (by omega)))
                  all_goals first | (exact ⟨⟨m + 1, by omega, by go_num, by rw [HCn.out]; go_num, HB2.out.trans (hb3.mono HB2.out.size), HShn.out⟩, by simp [intOf]; omega⟩) | (exact ⟨⟨_, ⟨m + 1, by omega, by go_num, by rw [HCn.out]; go_num, HB2.out.trans (hb3.mono HB2.out.size), HShn.out⟩, rfl⟩, by simp [intOf]; omega⟩) | (exact ⟨⟨_, _, ⟨m + 1, by omega, by go_num, by rw [HCn.out]; go_num, HB2.out.trans (hb3.mono HB2.out.size), HShn.out⟩, rfl, rfl⟩, by simp [intOf]; omega⟩) | (exact ⟨⟨_, _, _, ⟨m + 1, by omega, by go_num, by rw [HCn.out]; go_num, HB2.out.trans (hb3.mono HB2.out.size), HShn.out⟩, rfl, rfl, rfl⟩, by simp [intOf]; omega⟩) | (exact ⟨⟨_, _, _, _, ⟨m + 1, by omega, by go_num, by rw [HCn.out]; go_num, HB2.out.trans (hb3.mono HB2.out.size), HShn.out⟩, rfl, rfl, rfl, rfl⟩, by simp [intOf]; omega⟩) | (exact ⟨⟨_, _, _, _, _, ⟨m + 1, by omega, by go_num, by rw [HCn.out]; go_num, HB2.out.trans (hb3.mono HB2.out.size), HShn.out⟩, rfl, rfl, rfl, rfl, rfl⟩, by simp [intOf]; omega⟩) | (exact ⟨⟨_, _, _, _, _, _, ⟨m + 1, by omega, by go_num, by rw [HCn.out]; go_num, HB2.out.trans (hb3.mono HB2.out.size), HShn.out⟩, rfl, rfl, rfl, rfl, rfl, rfl⟩, by simp [intOf]; omega⟩)
              · have HMK : Hid (m = k) := (by omega : m = k)
                have HLn : Hid (cntA (A (upF ns) k) m = (A (upF ns) k).length) := cntA_len ns k k (Nat.le_refl _) HAh.out m (by rw [HMK.out]; omega)
                have HSk : Hid (Shut ns k k) := by have := HSh.out; rw [HMK.out] at this; exact this
                go_wp2
                · go_ret
                  exact ⟨ret_bool' (upsB_false (t := k) (by rw [HN.out]; exact hlt) (fun h => by have := h.2.2; rw [← HLn.out] at this; omega)), HBw2.out⟩
                · first | (exact ⟨⟨k + 1, by omega, by go_num, HB2.out, HA.out.next ⟨⟨by rw [HU.out]; omega, by rw [HU.out]; omega, fun _ => by rw [HU.out]; simp [subF, HV6.out]⟩, HSk.out, by rw [← HLn.out]; omega⟩⟩, by simp [intOf]; omega⟩) | (exact ⟨⟨_, ⟨k + 1, by omega, by go_num, HB2.out, HA.out.next ⟨⟨by rw [HU.out]; omega, by rw [HU.out]; omega, fun _ => by rw [HU.out]; simp [subF, HV6.out]⟩, HSk.out, by rw [← HLn.out]; omega⟩⟩, rfl⟩, by simp [intOf]; omega⟩) | (exact ⟨⟨_, _, ⟨k + 1, by omega, by go_num, HB2.out, HA.out.next ⟨⟨by rw [HU.out]; omega, by rw [HU.out]; omega, fun _ => by rw [HU.out]; simp [subF, HV6.out]⟩, HSk.out, by rw [← HLn.out]; omega⟩⟩, rfl, rfl⟩, by simp [intOf]; omega⟩) | (exact ⟨⟨_, _, _, ⟨k + 1, by omega, by go_num, HB2.out, HA.out.next ⟨⟨by rw [HU.out]; omega, by rw [HU.out]; omega, fun _ => by rw [HU.out]; simp [subF, HV6.out]⟩, HSk.out, by rw [← HLn.out]; omega⟩⟩, rfl, rfl, rfl⟩, by simp [intOf]; omega⟩) | (exact ⟨⟨_, _, _, _, ⟨k + 1, by omega, by go_num, HB2.out, HA.out.next ⟨⟨by rw [HU.out]; omega, by rw [HU.out]; omega, fun _ => by rw [HU.out]; simp [subF, HV6.out]⟩, HSk.out, by rw [← HLn.out]; omega⟩⟩, rfl, rfl, rfl, rfl⟩, by simp [intOf]; omega⟩) | (exact ⟨⟨_, _, _, _, _, ⟨k + 1, by omega, by go_num, HB2.out, HA.out.next ⟨⟨by rw [HU.out]; omega, by rw [HU.out]; omega, fun _ => by rw [HU.out]; simp [subF, HV6.out]⟩, HSk.out, by rw [← HLn.out]; omega⟩⟩, rfl, rfl, rfl, rfl, rfl⟩, by simp [intOf]; omega⟩) | (exact ⟨⟨_, _, _, _, _, _, ⟨k + 1, by omega, by go_num, HB2.out, HA.out.next ⟨⟨by rw [HU.out]; omega, by rw [HU.out]; omega, fun _ => by rw [HU.out]; simp [subF, HV6.out]⟩, HSk.out, by rw [← HLn.out]; omega⟩⟩, rfl, rfl, rfl, rfl, rfl, rfl⟩, by simp [intOf]; omega⟩)
          · have hv6' : (kdF ns v != 6) = true := by simp [hv6]
            go_wp2
            all_goals first | (exfalso; simp_all; done) | go_ret
            exact ⟨ret_bool' (upsB_false (t := k) (by rw [HN.out]; exact hlt) (fun h => by have := h.1.2.2; rw [HU.out] at this; simp [subF, hv6] at this)), HBw.out⟩
        · obtain rfl : u = -1 := by omega
          go_wp2
          go_loopw [5, 6] (fun d s wr2 => ∃ m : Nat, m ≤ k ∧ s = .int .i64 m ∧ d = .int .i64 (cntA (A (upF ns) k) m : Nat) ∧ Below W1.heap.size W1 wr2 ∧ Shut ns k m) (fun _ s _ => k - (intOf s).toNat)
          case atStart => exact ⟨0, by omega, rfl, rfl, HBW.out, fun s hs => by omega⟩
          case round =>
            clear hx0 hx1 hck3 hck0
            obtain ⟨m, hmk, rfl, rfl, hbw2, hshut⟩ := hrel
            have HSh : Hid (Shut ns k m) := hshut
            have HB2 : Hid (Below W1.heap.size W1 wr) := hbw2
            have HBw2 : Hid (Below w.heap.size w wr) := HB1.out.trans (hbw2.mono (by rw [HS1.out]; omega))
            clear hshut hbw2
            obtain ⟨hx0, hx1⟩ := HX.out wr HB2.out
            have hcl := cntA_le (A (upF ns) k) m
            by_cases hlm : m < k
            · have hcall := HIN.out wr m HBw2.out
              cases hin : decide (m ∈ A (upF ns) k)
              · rw [hin] at hcall
                have HNo : Hid (m ∉ A (upF ns) k) := (of_decide_eq_false hin : m ∉ A (upF ns) k)
                have HCn : Hid (cntA (A (upF ns) k) (m + 1) = cntA (A (upF ns) k) m) := by show cntA _ m + _ = _; rw [if_neg HNo.out]; omega
                clear hin
                have HN2 : Hid (∀ w3, Below wr.heap.size wr w3 → Below W1.heap.size W1 w3) := fun w3 h => HB2.out.trans (h.mono HB2.out.size)
                have HN3 : Hid (∀ w3, Below wr.heap.size wr w3 → Below w.heap.size w w3) := fun w3 h => HBw2.out.trans (h.mono HBw2.out.size)
                by_cases hm6 : kdF ns m = 6
                · go_wp2_with (go_at_call 201; go_must (refine hcall.mono ?_; rintro e w3 ⟨rfl, hb3⟩; obtain ⟨hx0', hx1'⟩ := HX.out w3 (HN2.out w3 hb3); obtain ⟨hcm3, hcm0⟩ := HC.out w3 (HN3.out w3 hb3) m (by omega)))
                  go_loop [8] (fun q => ∃ q' : Nat, k + 1 ≤ q' ∧ q' ≤ n ∧ q = .int .i64 q' ∧ Free ns k m q') (fun q => n - (intOf q).toNat)
                  case atStart => exact ⟨k + 1, Nat.le_refl _, by omega, by go_num, fun t h1 h2 => by omega⟩
                  case round =>
                    obtain ⟨q, hq1, hq2, rfl, hfree⟩ := hrel
                    have HFr : Hid (Free ns k m q) := hfree
                    clear hfree
                    by_cases hlq : q < n
                    · obtain ⟨hcq3, _⟩ := HC.out w3 (HN3.out w3 hb3) q hlq
                      have hqb : (q : Int) < n := by omega
                      go_wp2
                      · rename_i hqm _
                        go_ret
                        exact ⟨ret_bool' (upsB_false (t := k) (by rw [HN.out]; exact hlt) (fun h => h.2.1 m hlm (by simp [subF, hm6]) HNo.out q (by omega) (by rw [HN.out]; exact hlq) (by simpa using hqm))), HN3.out _ hb3⟩
                      · rename_i hqm
                        refine ⟨⟨q + 1, by omega, by omega, by go_num, fun t h1 h2 => ?_⟩, by simp [intOf]; omega⟩
                        by_cases e : t = q
                        · subst e; simpa using hqm
                        · exact HFr.out t h1 (by omega)
                    · have HShn : Hid (Shut ns k (m + 1)) := fun s hs h1 h2 => by
                        by_cases e : s = m
                        · subst e; exact fun t h3 h4 => HFr.out t h3 (by rw [HN.out] at h4; omega)
                        · exact HSh.out s (by omega) h1 h2
                      go_wp2
                      first | (exact ⟨⟨m + 1, by omega, by go_num, by rw [HCn.out], HN2.out _ hb3, HShn.out⟩, by simp [intOf]; omega⟩) | (exact ⟨⟨_, ⟨m + 1, by omega, by go_num, by rw [HCn.out], HN2.out _ hb3, HShn.out⟩, rfl⟩, by simp [intOf]; omega⟩) | (exact ⟨⟨_, _, ⟨m + 1, by omega, by go_num, by rw [HCn.out], HN2.out _ hb3, HShn.out⟩, rfl, rfl⟩, by simp [intOf]; omega⟩) | (exact ⟨⟨_, _, _, ⟨m + 1, by omega, by go_num, by rw [HCn.out], HN2.out _ hb3, HShn.out⟩, rfl, rfl, rfl⟩, by simp [intOf]; omega⟩) | (exact ⟨⟨_, _, _, _, ⟨m + 1, by omega, by go_num, by rw [HCn.out], HN2.out _ hb3, HShn.out⟩, rfl, rfl, rfl, rfl⟩, by simp [intOf]; omega⟩) | (exact ⟨⟨_, _, _, _, _, ⟨m + 1, by omega, by go_num, by rw [HCn.out], HN2.out _ hb3, HShn.out⟩, rfl, rfl, rfl, rfl, rfl⟩, by simp [intOf]; omega⟩) | (exact ⟨⟨_, _, _, _, _, _, ⟨m + 1, by omega, by go_num, by rw [HCn.out], HN2.out _ hb3, HShn.out⟩, rfl, rfl, rfl, rfl, rfl, rfl⟩, by simp [intOf]; omega⟩)
                · have HShn : Hid (Shut ns k (m + 1)) := fun s hs h1 h2 => by
                    by_cases e : s = m
                    · subst e; simp [subF, hm6] at h1
                    · exact HSh.out s (by omega) h1 h2
                  go_wp2_with (go_at_call 201; go_must (refine hcall.mono ?_; rintro e w3 ⟨rfl, hb3⟩; obtain ⟨hx0', hx1'⟩ := HX.out w3 (HN2.out w3 hb3); obtain ⟨hcm3, hcm0⟩ := HC.out w3 (HN3.out w3 hb3) m (by omega)))
                  first | (exact ⟨⟨m + 1, by omega, by go_num, by rw [HCn.out], HN2.out _ hb3, HShn.out⟩, by simp [intOf]; omega⟩) | (exact ⟨⟨_, ⟨m + 1, by omega, by go_num, by rw [HCn.out], HN2.out _ hb3, HShn.out⟩, rfl⟩, by simp [intOf]; omega⟩) | (exact ⟨⟨_, _, ⟨m + 1, by omega, by go_num, by rw [HCn.out], HN2.out _ hb3, HShn.out⟩, rfl, rfl⟩, by simp [intOf]; omega⟩) | (exact ⟨⟨_, _, _, ⟨m + 1, by omega, by go_num, by rw [HCn.out], HN2.out _ hb3, HShn.out⟩, rfl, rfl, rfl⟩, by simp [intOf]; omega⟩) | (exact ⟨⟨_, _, _, _, ⟨m + 1, by omega, by go_num, by rw [HCn.out], HN2.out _ hb3, HShn.out⟩, rfl, rfl, rfl, rfl⟩, by simp [intOf]; omega⟩) | (exact ⟨⟨_, _, _, _, _, ⟨m + 1, by omega, by go_num, by rw [HCn.out], HN2.out _ hb3, HShn.out⟩, rfl, rfl, rfl, rfl, rfl⟩, by simp [intOf]; omega⟩) | (exact ⟨⟨_, _, _, _, _, _, ⟨m + 1, by omega, by go_num, by rw [HCn.out], HN2.out _ hb3, HShn.out⟩, rfl, rfl, rfl, rfl, rfl, rfl⟩, by simp [intOf]; omega⟩)
              · rw [hin] at hcall
                have HYes : Hid (m ∈ A (upF ns) k) := (of_decide_eq_true hin : m ∈ A (upF ns) k)
                have HCn : Hid (cntA (A (upF ns) k) (m + 1) = cntA (A (upF ns) k) m + 1) := by show cntA _ m + _ = _; rw [if_pos HYes.out]
                have HShn : Hid (Shut ns k (m + 1)) := fun s hs h1 h2 => by
                  by_cases e : s = m
                  · subst e; exact absurd HYes.out h2
                  · exact HSh.out s (by omega) h1 h2
                clear hin
                go_wp2_with (go_at_call 201; go_must (refine hcall.mono ?_; rintro e w3 ⟨rfl, hb3⟩; obtain ⟨hx0', hx1'⟩ := HX.out w3 (HB2.out.trans (hb3.mono HB2.out.size)); obtain ⟨hcm3, hcm0⟩ := HC.out w3 (HBw2.out.trans (hb3.mono HBw2.out.size)) m (by omega)))
                all_goals first | (exact ⟨⟨m + 1, by omega, by go_num, by rw [HCn.out]; go_num, HB2.out.trans (hb3.mono HB2.out.size), HShn.out⟩, by simp [intOf]; omega⟩) | (exact ⟨⟨_, ⟨m + 1, by omega, by go_num, by rw [HCn.out]; go_num, HB2.out.trans (hb3.mono HB2.out.size), HShn.out⟩, rfl⟩, by simp [intOf]; omega⟩) | (exact ⟨⟨_, _, ⟨m + 1, by omega, by go_num, by rw [HCn.out]; go_num, HB2.out.trans (hb3.mono HB2.out.size), HShn.out⟩, rfl, rfl⟩, by simp [intOf]; omega⟩) | (exact ⟨⟨_, _, _, ⟨m + 1, by omega, by go_num, by rw [HCn.out]; go_num, HB2.out.trans (hb3.mono HB2.out.size), HShn.out⟩, rfl, rfl, rfl⟩, by simp [intOf]; omega⟩) | (exact ⟨⟨_, _, _, _, ⟨m + 1, by omega, by go_num, by rw [HCn.out]; go_num, HB2.out.trans (hb3.mono HB2.out.size), HShn.out⟩, rfl, rfl, rfl, rfl⟩, by simp [intOf]; omega⟩) | (exact ⟨⟨_, _, _, _, _, ⟨m + 1, by omega, by go_num, by rw [HCn.out]; go_num, HB2.out.trans (hb3.mono HB2.out.size), HShn.out⟩, rfl, rfl, rfl, rfl, rfl⟩, by simp [intOf]; omega⟩) | (exact ⟨⟨_, _, _, _, _, _, ⟨m + 1, by omega, by go_num, by rw [HCn.out]; go_num, HB2.out.trans (hb3.mono HB2.out.size), HShn.out⟩, rfl, rfl, rfl, rfl, rfl, rfl⟩, by simp [intOf]; omega⟩)
            · have HMK : Hid (m = k) := (by omega : m = k)
              have HLn : Hid (cntA (A (upF ns) k) m = (A (upF ns) k).length) := cntA_len ns k k (Nat.le_refl _) HAh.out m (by rw [HMK.out]; omega)
              have HSk : Hid (Shut ns k k) := by have := HSh.out; rw [HMK.out] at this; exact this
              go_wp2
              · go_ret
                exact ⟨ret_bool' (upsB_false (t := k) (by rw [HN.out]; exact hlt) (fun h => by have := h.2.2; rw [← HLn.out] at this; omega)), HBw2.out⟩
              · first | (exact ⟨⟨k + 1, by omega, by go_num, HB2.out, HA.out.next ⟨⟨by rw [HU.out]; omega, by rw [HU.out]; omega, fun h => by rw [HU.out] at h; omega⟩, HSk.out, by rw [← HLn.out]; omega⟩⟩, by simp [intOf]; omega⟩) | (exact ⟨⟨_, ⟨k + 1, by omega, by go_num, HB2.out, HA.out.next ⟨⟨by rw [HU.out]; omega, by rw [HU.out]; omega, fun h => by rw [HU.out] at h; omega⟩, HSk.out, by rw [← HLn.out]; omega⟩⟩, rfl⟩, by simp [intOf]; omega⟩) | (exact ⟨⟨_, _, ⟨k + 1, by omega, by go_num, HB2.out, HA.out.next ⟨⟨by rw [HU.out]; omega, by rw [HU.out]; omega, fun h => by rw [HU.out] at h; omega⟩, HSk.out, by rw [← HLn.out]; omega⟩⟩, rfl, rfl⟩, by simp [intOf]; omega⟩) | (exact ⟨⟨_, _, _, ⟨k + 1, by omega, by go_num, HB2.out, HA.out.next ⟨⟨by rw [HU.out]; omega, by rw [HU.out]; omega, fun h => by rw [HU.out] at h; omega⟩, HSk.out, by rw [← HLn.out]; omega⟩⟩, rfl, rfl, rfl⟩, by simp [intOf]; omega⟩) | (exact ⟨⟨_, _, _, _, ⟨k + 1, by omega, by go_num, HB2.out, HA.out.next ⟨⟨by rw [HU.out]; omega, by rw [HU.out]; omega, fun h => by rw [HU.out] at h; omega⟩, HSk.out, by rw [← HLn.out]; omega⟩⟩, rfl, rfl, rfl, rfl⟩, by simp [intOf]; omega⟩) | (exact ⟨⟨_, _, _, _, _, ⟨k + 1, by omega, by go_num, HB2.out, HA.out.next ⟨⟨by rw [HU.out]; omega, by rw [HU.out]; omega, fun h => by rw [HU.out] at h; omega⟩, HSk.out, by rw [← HLn.out]; omega⟩⟩, rfl, rfl, rfl, rfl, rfl⟩, by simp [intOf]; omega⟩) | (exact ⟨⟨_, _, _, _, _, _, ⟨k + 1, by omega, by go_num, HB2.out, HA.out.next ⟨⟨by rw [HU.out]; omega, by rw [HU.out]; omega, fun h => by rw [HU.out] at h; omega⟩, HSk.out, by rw [← HLn.out]; omega⟩⟩, rfl, rfl, rfl, rfl, rfl, rfl⟩, by simp [intOf]; omega⟩)
    · go_wp2
      go_ret
      exact ⟨ret_bool' (upsB_true (by rw [HN.out, show n = k by omega]; exact HA.out)), HBw.out⟩
end Go.Proofs.YtjkpbpgeedihhaaGreatDoor
