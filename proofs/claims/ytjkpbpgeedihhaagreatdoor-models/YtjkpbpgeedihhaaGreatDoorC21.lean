import Derived.Test.YtjkpbpgeedihhaaGreatDoorC14
import Derived.Test.YtjkpbpgeedihhaaGreatDoorC11
import Derived.Test.YtjkpbpgeedihhaaGreatDoorC13
set_option linter.all false
namespace Go.Proofs.YtjkpbpgeedihhaaGreatDoor
open Go.RowKit
open M Go.Sort
/-- The five marks, as they are laid. -/
structure MarksLaid (w : World) : Prop where
  c0 : w.cell? ⟨4, 0, none⟩ = some (.int .i32 60)
  c1 : w.cell? ⟨4, 1, none⟩ = some (.string ⟨#[38, 108, 116, 59]⟩)
  c2 : w.cell? ⟨4, 2, none⟩ = some (.int .i32 62)
  c3 : w.cell? ⟨4, 3, none⟩ = some (.string ⟨#[38, 103, 116, 59]⟩)
  c4 : w.cell? ⟨4, 4, none⟩ = some (.int .i32 38)
  c5 : w.cell? ⟨4, 5, none⟩ = some (.string ⟨#[38, 97, 109, 112, 59]⟩)
  c6 : w.cell? ⟨4, 6, none⟩ = some (.int .i32 34)
  c7 : w.cell? ⟨4, 7, none⟩ = some (.string ⟨#[38, 113, 117, 111, 116, 59]⟩)
  c8 : w.cell? ⟨4, 8, none⟩ = some (.int .i32 39)
  c9 : w.cell? ⟨4, 9, none⟩ = some (.string ⟨#[38, 97, 112, 111, 115, 59]⟩)
/-- What is laid ahead of the call. -/
structure Laid (w : World) : Prop where
  ops : OpsLaid w
  marks : MarksLaid w
  utf : Lib.Utf8Tabs 0 1 w
  pow : Lib.TabIs Tryz.prog w "internal/strconv.uint64pow10" .u64 Lib.pow10Tab
theorem MarksLaid.below {w w' : World} (h : MarksLaid w) (hb : Below w.heap.size w w') : MarksLaid w' := by
  have k := fun (x : Nat) => hb.cell (p := ⟨4, x, none⟩) (lt_of_cell h.c0)
  exact ⟨(k _).trans h.c0, (k _).trans h.c1, (k _).trans h.c2, (k _).trans h.c3, (k _).trans h.c4, (k _).trans h.c5, (k _).trans h.c6, (k _).trans h.c7, (k _).trans h.c8, (k _).trans h.c9⟩
theorem tab_on {P : Program} {w w' : World} {name : String} {k : IntKind} {zs : List Int} (h : Lib.TabIs P w name k zs) (hb : Below w.heap.size w w') : Lib.TabIs P w' name k zs := by
  unfold Lib.TabIs World.var? at *
  cases hg : P.globalNamed name with
  | none => simp [hg] at h
  | some g =>
    simp only [hg, Option.bind_some] at h ⊢
    have hlt : g < w.heap.size := by
      rcases Nat.lt_or_ge g w.heap.size with h' | h'
      · exact h'
      · rw [Array.getElem?_eq_none h'] at h; simp at h
    rw [hb.block g hlt]
    exact h
theorem Laid.below {w w' : World} (h : Laid w) (hb : Below w.heap.size w w') : Laid w' := by
  exact ⟨h.ops.below hb, h.marks.below hb, Utf8Tabs_below h.utf hb, tab_on h.pow hb⟩
theorem below_grow (w : World) (k : Nat) (os : Array Obj) : Below w.heap.size w (grow (w.drewN k) os) := by
  have hd := below_drewN (Below.refl w.heap.size w) k
  refine ⟨hd.os, hd.tape, hd.output, ?_, ?_⟩
  · have := hd.size; simp only [grow, Array.size_append]; omega
  · intro q hq
    simp only [grow]
    rw [Array.getElem?_append_left (Nat.lt_of_lt_of_le hq hd.size)]
    exact hd.block q hq
theorem validString_any (s : ByteArray) (w : World) (hs : s.size ≤ maxLen) (h : Laid w) :
    Calls Tryz.prog 158 #[.string s] w fun e w' => e = .returned (.bool (Lib.validD s.data.toList)) ∧ Below w.heap.size w w' :=
  Any.utf8_ValidString Tryz.laysValid s w hs h.utf
theorem itoa_any (n : Int) (w : World) (h0 : -9223372036854775808 ≤ n) (h1 : n ≤ 9223372036854775807) (h : Laid w) :
    Calls Tryz.prog 206 #[.int .i64 n] w fun e w' => e = .returned (.string (mkS (Lib.itoa n))) ∧ Below w.heap.size w w' :=
  (Tryz.strconv_Itoa n h0 h1 w h.pow).mono fun e w' ⟨he, k, os, hw⟩ => ⟨he, by rw [hw]; exact below_grow w k os⟩
set_option maxHeartbeats 1000000 in
theorem isValue_any (s : ByteArray) (w : World) (hs : s.size ≤ maxLen) (hL : Laid w) :
    Calls Tryz.prog 348 #[.string s] w fun e w' => e = .returned (.bool (rightNameB s)) ∧ Below w.heap.size w w' := by
  have hz : s.data.toList.length = s.size := rfl
  have hV := validString_any s w hs hL
  unfold maxLen at hs
  by_cases h40 : 40 < s.size
  · have d : decide (40 < s.size) = true := by simpa using h40
    go_enter Tryz.func348, Tryz.ntmps348
    go_wp2
    go_ret
    exact ⟨ret_bool' (by unfold rightNameB; simp; omega), Below.refl _ _⟩
  · have d : decide (40 < s.size) = false := by simpa using h40
    cases hv : Lib.validD s.data.toList with
    | false =>
      rw [hv] at hV
      go_enter Tryz.func348, Tryz.ntmps348
      go_wp2_with (go_at_call 158; go_must (refine hV.mono ?_; rintro e w1 ⟨rfl, hb⟩))
      go_ret
      exact ⟨ret_bool' (by unfold rightNameB; rw [hv]; simp), hb⟩
    | true =>
      rw [hv] at hV
      have HV : Hid (Lib.validD s.data.toList = true) := hv
      clear hv
      go_enter Tryz.func348, Tryz.ntmps348
      go_wp2_with (go_at_call 158; go_must (refine hV.mono ?_; rintro e w1 ⟨rfl, hb⟩))
      have HB : Hid (Below w.heap.size w w1) := hb
      clear hb d hV
      go_loopw [4] (fun _ wr => ∃ p : Nat, p ≤ s.size ∧ wr = w1.iter s p ∧ allTo hiCh s.data.toList p = true ∧ vFrom s p = true) (fun _ wr => s.size - wr.iterPos w1.heap.size)
      case atStart => exact ⟨0, Nat.zero_le _, rfl, rfl, HV.out⟩
      case round =>
        obtain ⟨p, hp, rfl, hall, hvf⟩ := hrel
        have HT : Hid (allTo hiCh s.data.toList p = true) := hall
        have HF : Hid (vFrom s p = true) := hvf
        clear hall hvf
        by_cases hlt : p < s.size
        · have hnx : ∀ ty, (Instr.next (.pointer (some ⟨w1.heap.size, 0, none⟩)) true ty).run Tryz.prog (w1.iter s p) = _ := fun ty => run_next_any w1 s p ty hlt
          have HR : Hid (RuneAt s p) := rune_at s p hlt HF.out
          obtain ⟨r, hr⟩ : ∃ r, (Utf8.decode s p).1 = r := ⟨_, rfl⟩
          obtain ⟨d, hd⟩ : ∃ d, (Utf8.decode s p).2 = d := ⟨_, rfl⟩
          have HRr : Hid ((Utf8.decode s p).1 = r ∧ (Utf8.decode s p).2 = d) := ⟨hr, hd⟩
          rw [hr, hd] at hnx
          clear hr hd
          go_wp2
          · rename_i hh
            go_ret
            exact ⟨ret_bool' (by unfold rightNameB; rw [hi_not hlt HR.out (by rw [HRr.out.1]; (try simp at hh); omega)]; rfl), HB.out.trans ((b1 _ _).mono HB.out.size)⟩
          · rename_i hh
            have h1 := HR.out.le
            have h2 := HR.out.pos
            have h3 := hi_rune hlt HR.out (by rw [HRr.out.1]; (try simp at hh); omega) HT.out
            have h4 := HR.out.next
            rw [HRr.out.2] at h1 h2 h3 h4
            refine ⟨⟨p + d, h1, rfl, h3, h4⟩, ?_⟩
            simp only [World.iterPos_iter]; omega
        · have hnx : ∀ ty, (Instr.next (.pointer (some ⟨w1.heap.size, 0, none⟩)) true ty).run Tryz.prog (w1.iter s p) = _ := fun ty => run_next_end w1 s p ty hlt
          go_wp2
          go_ret
          exact ⟨ret_bool' (by unfold rightNameB; rw [allTo_end (by rw [hz]; omega) HT.out, HV.out]; simp; omega), HB.out.trans ((b1 _ _).mono HB.out.size)⟩
end Go.Proofs.YtjkpbpgeedihhaaGreatDoor
