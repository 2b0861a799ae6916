import Derived.Test.YtjkpbpgeedihhaaGreatDoorC21
import Derived.Test.YtjkpbpgeedihhaaGreatDoorC17
set_option linter.all false
namespace Go.Proofs.YtjkpbpgeedihhaaGreatDoor
open Go.RowKit
open M
set_option maxHeartbeats 4000000 in
set_option maxRecDepth 100000 in
theorem fieldsOf_any (n : Nod) (r : Raw) (w : World) :
    Calls Tryz.prog 279 #[.agg (nodV n r)] w fun e w' => e = .returned (.int .u64 (fieldsF n : Nat)) ∧ Below w.heap.size w w' := by
  obtain ⟨kind, id, name, up, tt, cas, els, brs, after, late⟩ := n
  unfold nodV
  simp only [SlV]
  by_cases ha : after = 0
  · have d1 : (after != 0) = false := by simp [ha]
    go_enter Tryz.func279, Tryz.ntmps279
    go_wp2
    go_quiet (first | (go_at_call 350; exact Calls.quiet_of_same (having_any _ _ _)))
    go_wp2
    all_goals
      go_ret
      refine ⟨ret_int ?_, below_drewN (b1 _ _) _⟩
      simp_all [fieldsF, fld, timB]
      try decide
  · have d1 : (after != 0) = true := by simp [ha]
    go_enter Tryz.func279, Tryz.ntmps279
    go_wp2
    go_quiet (first | (go_at_call 350; exact Calls.quiet_of_same (having_any _ _ _)))
    go_wp2
    all_goals
      go_ret
      refine ⟨ret_int ?_, below_drewN (b1 _ _) _⟩
      simp_all [fieldsF, fld, timB]
      try decide
end Go.Proofs.YtjkpbpgeedihhaaGreatDoor
namespace Go.Proofs.YtjkpbpgeedihhaaGreatDoor
open Go.RowKit
open M
/-- A node in a block of its own. -/
structure NodBox (w : World) (b : Nat) (n : Nod) (r : Raw) : Prop where
  c0 : w.cell? ⟨b, 0, none⟩ = some (.int .i64 n.kind)
  c1 : w.cell? ⟨b, 1, none⟩ = some (.string n.id)
  c2 : w.cell? ⟨b, 2, none⟩ = some (.string n.name)
  c3 : w.cell? ⟨b, 3, none⟩ = some (.int .i64 n.up)
  c4 : w.cell? ⟨b, 4, none⟩ = some (.int .i64 n.to)
  c5 : w.cell? ⟨b, 5, none⟩ = some (SlV r.ca n.cases.length r.cc)
  c6 : w.cell? ⟨b, 6, none⟩ = some (.int .i64 n.els)
  c7 : w.cell? ⟨b, 7, none⟩ = some (SlV r.ba n.branches.length r.bc)
  c8 : w.cell? ⟨b, 8, none⟩ = some (.int .i64 n.after)
  c9 : w.cell? ⟨b, 9, none⟩ = some (.int .i64 n.late)
theorem NodBox.new (w : World) (n : Nod) (r : Raw) : NodBox (w.alloc (.cells (nodV n r) 87)) w.heap.size n r := by
  constructor <;> simp [go_sem, nodV]
theorem NodBox.below {w w' : World} {b : Nat} {n : Nod} {r : Raw} (h : NodBox w b n r) (hb : Below w.heap.size w w') : NodBox w' b n r := by
  have k := fun (x : Nat) => hb.cell (p := ⟨b, x, none⟩) (lt_of_cell h.c0)
  exact ⟨(k _).trans h.c0, (k _).trans h.c1, (k _).trans h.c2, (k _).trans h.c3, (k _).trans h.c4, (k _).trans h.c5, (k _).trans h.c6, (k _).trans h.c7, (k _).trans h.c8, (k _).trans h.c9⟩
theorem fld_32 : ∀ b1 b2 b3 b4 b5 b6 : Bool, (bits BinOp.and IntKind.u64 ((fld b1 b2 b3 b4 b5 b6 : Nat) : Int) 32 != 0) = b6 := by decide
theorem fields_32 (n : Nod) : (bits BinOp.and IntKind.u64 ((fieldsF n : Nat) : Int) 32 != 0) = timB n := fld_32 _ _ _ _ _ _
set_option maxHeartbeats 2000000 in
set_option maxRecDepth 100000 in
theorem boundsHold_any (n : Nod) (r : Raw) (w : World) (hn : NodIn w n r) (hz : NodSz n) (hL : Laid w) :
    Calls Tryz.prog 278 #[.agg (nodV n r)] w fun e w' => e = .returned (.bool (boundsB n)) ∧ Below w.heap.size w w' := by
  obtain ⟨W1, hW1⟩ : ∃ W1, w.alloc (.cells (nodV n r) 87) = W1 := ⟨_, rfl⟩
  have HB1 : Hid (Below w.heap.size w W1) := by rw [← hW1]; exact b1 _ _
  have HX : Hid (NodBox W1 w.heap.size n r) := by rw [← hW1]; exact NodBox.new w n r
  have HNi : Hid (NodIn W1 n r) := hn.below HB1.out
  have HLd : Hid (Laid W1) := hL.below HB1.out
  have HBit : Hid ((bits BinOp.and IntKind.u64 ((fieldsF n : Nat) : Int) 32 != 0) = timB n) := fields_32 n
  have hF := fieldsOf_any n r W1
  obtain ⟨F, hFF⟩ : ∃ F : Int, ((fieldsF n : Nat) : Int) = F := ⟨_, rfl⟩
  rw [hFF] at hF HBit
  have hV := fun W (hb : Below W1.heap.size W1 W) => isValue_any n.name W (by have := hz.name; unfold maxLen; omega) (HLd.out.below hb)
  have hC := fun W (hb : Below W1.heap.size W1 W) => casesFit_any r.ca r.cc n.cases W (HNi.out.cs.below hb) HNi.out.cl (HLd.out.below hb).ops
  have hbl := hn.bl
  unfold maxLen at hbl
  have HBo : Hid (boundsB n = (rightNameB n.name && (rightCasesB n.cases && (decide (n.branches.length ≠ 1) && (decide (n.branches.length ≤ 6) && (!timB n || (decide (1 ≤ n.after) && (decide (n.after ≤ 1000) && decide (n.late ≠ -1))))))))) := rfl
  clear hn hz hL hFF
  obtain ⟨kind, id, name, up, tt, cas, els, brs, after, late⟩ := n
  simp only [nodV] at hW1 hF ⊢
  simp only [SlV] at hW1 hF hC ⊢
  simp only at HBo hV
  obtain ⟨lb, hlb⟩ : ∃ lb, brs.length = lb := ⟨_, rfl⟩
  rw [hlb] at HBo hW1 hF hbl ⊢
  obtain ⟨bN, hbN⟩ : ∃ x, rightNameB name = x := ⟨_, rfl⟩
  obtain ⟨bC, hbC⟩ : ∃ x, rightCasesB cas = x := ⟨_, rfl⟩
  obtain ⟨bT, hbT⟩ : ∃ x, timB ⟨kind, id, name, up, tt, cas, els, brs, after, late⟩ = x := ⟨_, rfl⟩
  rw [hbN] at hV HBo
  rw [hbC] at hC HBo
  rw [hbT] at HBit HBo
  have hx := HX.out
  obtain ⟨c0, c1, c2, c3, c4, c5, c6, c7, c8, c9⟩ := hx
  simp only [SlV] at c0 c1 c2 c3 c4 c5 c6 c7 c8 c9
  rw [hlb] at c7
  have HLb : Hid (brs.length = lb) := hlb
  clear hlb hbN hbC hbT
  have hbit := HBit.out
  cases bT
  all_goals
    go_enter Tryz.func278, Tryz.ntmps278
    go_wp2_with fail
    refine hF.mono ?_
    rintro e w2 ⟨rfl, hb2⟩
    have HB2 : Hid (Below W1.heap.size W1 w2) := hb2
    have hx2 := HX.out.below hb2
    clear c0 c1 c2 c3 c4 c5 c6 c7 c8 c9 hb2 hF hW1
    obtain ⟨c0, c1, c2, c3, c4, c5, c6, c7, c8, c9⟩ := hx2
    simp only [SlV] at c0 c1 c2 c3 c4 c5 c6 c7 c8 c9
    rw [HLb.out] at c7
    go_wp2_with fail
    refine (hV _ HB2.out).mono ?_
    rintro e w3 ⟨rfl, hb3⟩
    have HB3 : Hid (Below W1.heap.size W1 w3) := HB2.out.trans (hb3.mono HB2.out.size)
    have hx3 := HX.out.below HB3.out
    clear c0 c1 c2 c3 c4 c5 c6 c7 c8 c9 hb3 hV
    obtain ⟨c0, c1, c2, c3, c4, c5, c6, c7, c8, c9⟩ := hx3
    simp only [SlV] at c0 c1 c2 c3 c4 c5 c6 c7 c8 c9
    rw [HLb.out] at c7
    cases bN
    · go_wp2_with fail
      go_ret
      exact ⟨ret_bool' (by rw [HBo.out]; rfl), HB1.out.trans (HB3.out.mono HB1.out.size)⟩
    · go_wp2_with fail
      refine (hC _ HB3.out).mono ?_
      rintro e w4 ⟨rfl, hb4⟩
      have HB4 : Hid (Below W1.heap.size W1 w4) := HB3.out.trans (hb4.mono HB3.out.size)
      have hx4 := HX.out.below HB4.out
      clear c0 c1 c2 c3 c4 c5 c6 c7 c8 c9 hb4 hC
      obtain ⟨c0, c1, c2, c3, c4, c5, c6, c7, c8, c9⟩ := hx4
      simp only [SlV] at c0 c1 c2 c3 c4 c5 c6 c7 c8 c9
      rw [HLb.out] at c7
      cases bC
      · go_wp2_with fail
        go_ret
        exact ⟨ret_bool' (by rw [HBo.out]; rfl), HB1.out.trans (HB4.out.mono HB1.out.size)⟩
      · go_wp2_with fail
        all_goals
          go_ret
          refine ⟨ret_bool' ?_, HB1.out.trans (HB4.out.mono HB1.out.size)⟩
          rw [HBo.out, Bool.eq_iff_iff]
          first | (simp_all; done) | (simp_all; omega)
end Go.Proofs.YtjkpbpgeedihhaaGreatDoor
