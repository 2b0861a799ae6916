import Derived.Test.YtjkpbpgeedihhaaGreatDoorC26
import Derived.Laws.Runes
set_option linter.all false
namespace Go.Proofs.YtjkpbpgeedihhaaGreatDoor
open Go.RowKit
open M
def mkC : Nat → Int
  | 0 => 60
  | 1 => 62
  | 2 => 38
  | 3 => 34
  | 4 => 39
  | _ => 0
theorem wrL_no {c : Int} (h : ∀ t, t < 5 → mkC t ≠ c) : wrL c = (Utf8.encode c).data.toList := by
  have h0 := h 0 (by omega)
  have h1 := h 1 (by omega)
  have h2 := h 2 (by omega)
  have h3 := h 3 (by omega)
  have h4 := h 4 (by omega)
  simp only [mkC] at h0 h1 h2 h3 h4
  unfold wrL
  rw [if_neg (Ne.symm h0), if_neg (Ne.symm h1), if_neg (Ne.symm h2), if_neg (Ne.symm h3), if_neg (Ne.symm h4)]
abbrev marksA : Array Value := #[.int .i32 60, .string ⟨#[38, 108, 116, 59]⟩, .int .i32 62, .string ⟨#[38, 103, 116, 59]⟩, .int .i32 38, .string ⟨#[38, 97, 109, 112, 59]⟩, .int .i32 34, .string ⟨#[38, 113, 117, 111, 116, 59]⟩, .int .i32 39, .string ⟨#[38, 97, 112, 111, 115, 59]⟩]
theorem mark_ix0 (W : World) : (Instr.index 493 (.agg marksA) (.int .i64 0)).run Tryz.prog W = .ok (.agg #[.int .i32 60, .string ⟨#[38, 108, 116, 59]⟩]) W := by
  simp [Instr.index, part, run_underlying Tryz.underlying493, asIntOf, Tryz.isAgg492, Tryz.sizeOf492]
theorem mark_ix1 (W : World) : (Instr.index 493 (.agg marksA) (.int .i64 1)).run Tryz.prog W = .ok (.agg #[.int .i32 62, .string ⟨#[38, 103, 116, 59]⟩]) W := by
  simp [Instr.index, part, run_underlying Tryz.underlying493, asIntOf, Tryz.isAgg492, Tryz.sizeOf492]
theorem mark_ix2 (W : World) : (Instr.index 493 (.agg marksA) (.int .i64 2)).run Tryz.prog W = .ok (.agg #[.int .i32 38, .string ⟨#[38, 97, 109, 112, 59]⟩]) W := by
  simp [Instr.index, part, run_underlying Tryz.underlying493, asIntOf, Tryz.isAgg492, Tryz.sizeOf492]
theorem mark_ix3 (W : World) : (Instr.index 493 (.agg marksA) (.int .i64 3)).run Tryz.prog W = .ok (.agg #[.int .i32 34, .string ⟨#[38, 113, 117, 111, 116, 59]⟩]) W := by
  simp [Instr.index, part, run_underlying Tryz.underlying493, asIntOf, Tryz.isAgg492, Tryz.sizeOf492]
theorem mark_ix4 (W : World) : (Instr.index 493 (.agg marksA) (.int .i64 4)).run Tryz.prog W = .ok (.agg #[.int .i32 39, .string ⟨#[38, 97, 112, 111, 115, 59]⟩]) W := by
  simp [Instr.index, part, run_underlying Tryz.underlying493, asIntOf, Tryz.isAgg492, Tryz.sizeOf492]
set_option maxHeartbeats 2000000 in
set_option maxRecDepth 100000 in
theorem written_any (c : Int) (w : World) (hL : Laid w) :
    Calls Tryz.prog 355 #[.int .i32 c] w fun e w' => e = .returned (.string (mkS (wrL c))) ∧ Below w.heap.size w w' := by
  obtain ⟨h0, h1, h2, h3, h4, h5, h6, h7, h8, h9⟩ := hL.marks
  clear hL
  go_enter Tryz.func355, Tryz.ntmps355
  go_wp2_with fail
  clear h0 h1 h2 h3 h4 h5 h6 h7 h8 h9
  go_loopw [6] (fun i wr => ∃ j : Nat, j ≤ 5 ∧ i = .int .i64 j ∧ Below w.heap.size w wr ∧ ∀ t, t < j → mkC t ≠ c) (fun i _ => 5 - (intOf i).toNat)
  case atStart => exact ⟨0, by omega, rfl, Below.refl _ _, fun t ht => by omega⟩
  case round =>
    obtain ⟨j, hj, rfl, hbw, hno⟩ := hrel
    have HNo : Hid (∀ t, t < j → mkC t ≠ c) := hno
    have HB : Hid (Below w.heap.size w wr) := hbw
    clear hbw hno
    by_cases hlt : j < 5
    · rcases (by omega : j = 0 ∨ j = 1 ∨ j = 2 ∨ j = 3 ∨ j = 4) with rfl | rfl | rfl | rfl | rfl
      · have hx := mark_ix0
        unfold marksA at hx
        by_cases hc : (60 : Int) = c
        · subst hc
          go_wp2_with fail
          go_ret
          exact ⟨rfl, HB.out.alloc HB.out.size _⟩
        · have d : ((60 : Int) == c) = false := by simp [hc]
          have HNx : Hid (∀ t, t < 0 + 1 → mkC t ≠ c) := fun t ht => if e : t = 0 then (by subst e; exact hc) else HNo.out t (by omega)
          clear hc
          go_wp2_with fail
          exact ⟨⟨0 + 1, by omega, by go_num, HB.out.alloc HB.out.size _, HNx.out⟩, by simp [intOf]⟩
      · have hx := mark_ix1
        unfold marksA at hx
        by_cases hc : (62 : Int) = c
        · subst hc
          go_wp2_with fail
          go_ret
          exact ⟨rfl, HB.out.alloc HB.out.size _⟩
        · have d : ((62 : Int) == c) = false := by simp [hc]
          have HNx : Hid (∀ t, t < 1 + 1 → mkC t ≠ c) := fun t ht => if e : t = 1 then (by subst e; exact hc) else HNo.out t (by omega)
          clear hc
          go_wp2_with fail
          exact ⟨⟨1 + 1, by omega, by go_num, HB.out.alloc HB.out.size _, HNx.out⟩, by simp [intOf]⟩
      · have hx := mark_ix2
        unfold marksA at hx
        by_cases hc : (38 : Int) = c
        · subst hc
          go_wp2_with fail
          go_ret
          exact ⟨rfl, HB.out.alloc HB.out.size _⟩
        · have d : ((38 : Int) == c) = false := by simp [hc]
          have HNx : Hid (∀ t, t < 2 + 1 → mkC t ≠ c) := fun t ht => if e : t = 2 then (by subst e; exact hc) else HNo.out t (by omega)
          clear hc
          go_wp2_with fail
          exact ⟨⟨2 + 1, by omega, by go_num, HB.out.alloc HB.out.size _, HNx.out⟩, by simp [intOf]⟩
      · have hx := mark_ix3
        unfold marksA at hx
        by_cases hc : (34 : Int) = c
        · subst hc
          go_wp2_with fail
          go_ret
          exact ⟨rfl, HB.out.alloc HB.out.size _⟩
        · have d : ((34 : Int) == c) = false := by simp [hc]
          have HNx : Hid (∀ t, t < 3 + 1 → mkC t ≠ c) := fun t ht => if e : t = 3 then (by subst e; exact hc) else HNo.out t (by omega)
          clear hc
          go_wp2_with fail
          exact ⟨⟨3 + 1, by omega, by go_num, HB.out.alloc HB.out.size _, HNx.out⟩, by simp [intOf]⟩
      · have hx := mark_ix4
        unfold marksA at hx
        by_cases hc : (39 : Int) = c
        · subst hc
          go_wp2_with fail
          go_ret
          exact ⟨rfl, HB.out.alloc HB.out.size _⟩
        · have d : ((39 : Int) == c) = false := by simp [hc]
          have HNx : Hid (∀ t, t < 4 + 1 → mkC t ≠ c) := fun t ht => if e : t = 4 then (by subst e; exact hc) else HNo.out t (by omega)
          clear hc
          go_wp2_with fail
          exact ⟨⟨4 + 1, by omega, by go_num, HB.out.alloc HB.out.size _, HNx.out⟩, by simp [intOf]⟩
    · obtain rfl : j = 5 := by omega
      go_wp2_with fail
      go_ret
      exact ⟨ret_str (by rw [wrL_no HNo.out]; exact (mkS_of _).symm), HB.out⟩
end Go.Proofs.YtjkpbpgeedihhaaGreatDoor
namespace Go.Proofs.YtjkpbpgeedihhaaGreatDoor
open Go.RowKit
open M
abbrev BF (B b : Nat) (l : List UInt8) (W : World) : Prop := Lib.IsBuilderF 323 5 B b (Lib.byteCells l) W
theorem bf_below {B b : Nat} {l : List UInt8} {W W' : World} (h : BF B b l W) (hb : Below W.heap.size W W') : BF B b l W' := by
  have go : ∀ p, Lib.BuilderAtF 323 5 B b p (Lib.byteCells l) W → Lib.BuilderAtF 323 5 B b p (Lib.byteCells l) W' := fun p h => by
    have hlt := h.lt
    obtain ⟨hB, v, hv, hown, hne⟩ := h
    exact ⟨hB, v, (hb.block b hlt).trans hv, hown.kept (row := none) ⟨hb.os, hb.tape, hb.output, hb.size, fun k hk _ => hb.block k hk⟩ (Classical.em _), hne⟩
  exact h.elim (fun x => .inl (go _ x)) (fun x => .inr (go _ x))
theorem bc_app (a b : List UInt8) : Lib.byteCells a ++ Lib.byteCells b = Lib.byteCells (a ++ b) := by simp [Lib.byteCells]
theorem bc_len (a : List UInt8) : (Lib.byteCells a).length = a.length := by simp [Lib.byteCells]
theorem bf_fresh (w : World) : BF w.heap.size w.heap.size [] (w.alloc (.cells #[.pointer none, .slice none 0 0] 323)) := Lib.IsBuilderF.of (Lib.fresh_isBuilder 323 5 w)
/-- WriteString, over bytes. -/
theorem ws_any (B b : Nat) (l : List UInt8) (s : ByteArray) (w : World) (h : BF B b l w) (hlen : l.length + s.size ≤ 140737488355328) (hBw : B ≤ w.heap.size) :
    Calls Tryz.prog 354 #[.pointer (some ⟨b, 0, none⟩), .string s] w fun e w' => e = .returned (.tuple #[.int .i64 s.size, .nilIface]) ∧ BF B b (l ++ s.data.toList) w' ∧ Below B w w' ∧ Lib.OthersKept 5 (some b) w w' :=
  (writeString_k B b (Lib.byteCells l) s w h (by rw [bc_len]; exact hlen) hBw).mono fun e w' ⟨he, hB, hb, ho⟩ => ⟨he, by
    rw [Lib.strCells_eq, bc_app] at hB
    exact Or.inr hB, hb, ho⟩
theorem bf_lt {B b : Nat} {l : List UInt8} {W : World} (h : BF B b l W) : b < W.heap.size := h.elim (fun x => x.lt) (fun x => x.lt)
theorem kept_below {b : Nat} {w w' : World} (h : Below w.heap.size w w') : Lib.OthersKept 5 (some b) w w' := fun k o hk _ _ => by
  rw [h.block k (lt_of_block hk)]; exact hk
set_option maxHeartbeats 4000000 in
set_option maxRecDepth 100000 in
theorem escaped_any (s : ByteArray) (w : World) (hL : Laid w) (hv : Lib.validD s.data.toList = true) (hs : s.size ≤ 40) :
    Calls Tryz.prog 292 #[.string s] w fun e w' => e = .returned (.string (mkS (escTo s s.size))) ∧ Below w.heap.size w w' := by
  have HL : Hid (Laid w) := hL
  have HEl : Hid (∀ p, p ≤ s.size → (escTo s p).length ≤ 240) := fun p hp => by have := escTo_len s p hp; omega
  have HV : Hid (vFrom s 0 = true) := hv
  clear hL hv
  obtain ⟨W2, hW2⟩ : ∃ W, (w.alloc (.cells #[.pointer none, .slice none 0 0] 323)).iter s 0 = W := ⟨_, rfl⟩
  have HS : Hid (BF w.heap.size w.heap.size (escTo s 0) W2 ∧ W2.heap[w.heap.size + 1]? = some (.stringIter s 0) ∧ Below w.heap.size w W2) := by
    rw [← hW2]
    refine ⟨(bf_fresh w).alloc _, ?_, ((Below.refl _ w).alloc (Nat.le_refl _) _).alloc (by simp) _⟩
    have := World.iter_heap (w.alloc (.cells #[.pointer none, .slice none 0 0] 323)) s 0
    simpa using this
  go_enter Tryz.func292, Tryz.ntmps292
  go_wp2_with fail
  clear hW2
  go_loopw [5] (fun _ wr => ∃ p : Nat, p ≤ s.size ∧ BF w.heap.size w.heap.size (escTo s p) wr ∧ wr.heap[w.heap.size + 1]? = some (.stringIter s p) ∧ Below w.heap.size w wr ∧ vFrom s p = true) (fun _ wr => s.size - wr.iterPos (w.heap.size + 1))
  case atStart => exact ⟨0, Nat.zero_le _, HS.out.1, HS.out.2.1, HS.out.2.2, HV.out⟩
  case round =>
    obtain ⟨p, hp, hI, hit, hbw, hvp⟩ := hrel
    have HVp : Hid (vFrom s p = true) := hvp
    have HBw : Hid (Below w.heap.size w wr) := hbw
    have HI : Hid (BF w.heap.size w.heap.size (escTo s p) wr) := hI
    have HIt : Hid (wr.heap[w.heap.size + 1]? = some (.stringIter s p)) := hit
    clear hI hbw hvp
    have hsz : w.heap.size + 1 < wr.heap.size := (Array.getElem?_eq_some_iff.1 hit).1
    by_cases hlt : p < s.size
    · have hnx : ∀ ty, (Instr.next (.pointer (some ⟨w.heap.size + 1, 0, none⟩)) true ty).run Tryz.prog wr = _ := fun ty => Lib.run_next_any_at wr (w.heap.size + 1) s p ty hit hlt
      have hR := rune_at s p hlt HVp.out
      have HEs : Hid (escTo s (p + (Utf8.decode s p).2) = escTo s p ++ wrL ((Utf8.decode s p).1 : Int)) := esc_rune hlt hR
      have HNx : Hid (vFrom s (p + (Utf8.decode s p).2) = true) := hR.next
      have h1 := hR.le
      have h2 := hR.pos
      have HLe := HEl.out _ h1
      obtain ⟨r, hr⟩ : ∃ r, (Utf8.decode s p).1 = r := ⟨_, rfl⟩
      obtain ⟨d, hd⟩ : ∃ d, (Utf8.decode s p).2 = d := ⟨_, rfl⟩
      rw [hr, hd] at hnx
      rw [hr, hd] at HEs
      rw [hd] at HNx h1 h2 HLe
      clear hr hd hR
      obtain ⟨W3, hW3⟩ : ∃ W, wr.iterAt (w.heap.size + 1) s (p + d) = W := ⟨_, rfl⟩
      have HI3 : Hid (BF w.heap.size w.heap.size (escTo s p) W3) := by rw [← hW3]; exact HI.out.iterAt HIt.out (p + d)
      have HIt3 : Hid (W3.heap[w.heap.size + 1]? = some (.stringIter s (p + d))) := by rw [← hW3]; exact Lib.iterAt_heap wr (w.heap.size + 1) s p (p + d) HIt.out
      have HB3 : Hid (Below w.heap.size w W3) := by rw [← hW3]; exact Lib.below_iterAt HBw.out (by omega) s (p + d)
      rw [hW3] at hnx
      clear hW3 hit
      have hwr := written_any (r : Int) W3 (HL.out.below HB3.out)
      obtain ⟨T, hT⟩ : ∃ T, wrL (r : Int) = T := ⟨_, rfl⟩
      rw [hT] at hwr
      rw [hT] at HEs
      clear hT
      go_wp2_with fail
      refine hwr.mono ?_
      rintro e w4 ⟨rfl, hb4⟩
      have HI4 : Hid (BF w.heap.size w.heap.size (escTo s p) w4) := bf_below HI3.out hb4
      have HIt4 : Hid (w4.heap[w.heap.size + 1]? = some (.stringIter s (p + d))) := (hb4.block _ (lt_of_block HIt3.out)).trans HIt3.out
      have HB4 : Hid (Below w.heap.size w w4) := HB3.out.trans (hb4.mono HB3.out.size)
      have hws := ws_any w.heap.size w.heap.size (escTo s p) (mkS T) w4 HI4.out (by have h3 := HEs.out; rw [mkS_size]; rw [h3, List.length_append] at HLe; omega) HB4.out.size
      clear hwr hb4
      go_wp2_with fail
      refine hws.mono ?_
      rintro e w5 ⟨rfl, h5, hb5, ho5⟩
      have HI5 : Hid (BF w.heap.size w.heap.size (escTo s (p + d)) w5) := by rw [HEs.out]; exact h5
      have HIt5 : Hid (w5.heap[w.heap.size + 1]? = some (.stringIter s (p + d))) := ho5.iter HIt4.out (by omega)
      have HB5 : Hid (Below w.heap.size w w5) := HB4.out.trans hb5
      clear hws h5 hb5 ho5
      go_wp2_with fail
      refine ⟨⟨p + d, h1, HI5.out, HIt5.out, HB5.out, HNx.out⟩, ?_⟩
      simp only [World.iterPos, HIt5.out, HIt.out]
      omega
    · obtain rfl : p = s.size := by omega
      have hnx : ∀ ty, (Instr.next (.pointer (some ⟨w.heap.size + 1, 0, none⟩)) true ty).run Tryz.prog wr = _ := fun ty => Lib.run_next_end_at wr (w.heap.size + 1) s s.size ty hit hlt
      have hst := Tryz.Builder_String_any_k w.heap.size w.heap.size (escTo s s.size) wr HI.out HBw.out.size
      go_wp2_with fail
      refine hst.mono ?_
      rintro e w5 ⟨rfl, _, hb5, _⟩
      go_wp2_with fail
      go_ret
      exact ⟨rfl, HBw.out.trans hb5⟩
def catB (l : List ByteArray) : List UInt8 := l.flatMap fun s => s.data.toList
theorem catB_take (l : List ByteArray) (k : Nat) (h : k < l.length) : catB (l.take (k + 1)) = catB (l.take k) ++ (l.getD k ⟨#[]⟩).data.toList := by
  rw [take_getD_succ ⟨#[]⟩ l k h]; simp [catB]
theorem catB_le (l : List ByteArray) (k : Nat) : (catB (l.take k)).length ≤ (catB l).length := by
  have : catB l = catB (l.take k) ++ catB (l.drop k) := by
    unfold catB; rw [← List.flatMap_append, List.take_append_drop]
  rw [this, List.length_append]; omega
set_option maxHeartbeats 4000000 in
set_option maxRecDepth 100000 in
theorem put_any (B b : Nat) (l0 : List UInt8) (p c : Nat) (l : List ByteArray) (w : World) (hI : BF B b l0 w) (hp : lstIs w p 9 (l.map Value.string)) (hlen : l0.length + (catB l).length ≤ 140737488355328) (hl : l.length ≤ 8) (hBw : B ≤ w.heap.size) :
    Calls Tryz.prog 291 #[.pointer (some ⟨b, 0, none⟩), .slice (some ⟨p, 0, none⟩) l.length c] w fun e w' => e = .returned (.tuple #[]) ∧ BF B b (l0 ++ catB l) w' ∧ Below B w w' ∧ Lib.OthersKept 5 (some b) w w' := by
  obtain ⟨n, hn⟩ : ∃ n, l.length = n := ⟨_, rfl⟩
  have HN : Hid (l.length = n) := hn
  have hpb : p ≠ b := by
    intro e
    subst e
    unfold lstIs at hp
    rcases hI with h | h
    · obtain ⟨_, v, hb, _⟩ := h
      rw [hp] at hb; simp at hb
    · obtain ⟨_, v, hb, _⟩ := h
      rw [hp] at hb; simp at hb
  have HP : Hid (lstIs w p 9 (l.map Value.string) ∧ p ≠ b) := ⟨hp, hpb⟩
  have HI0 : Hid (BF B b l0 w) := hI
  have HLn : Hid (l0.length + (catB l).length ≤ 140737488355328) := hlen
  rw [hn]
  rw [hn] at hl
  clear hn hp hpb hI hlen
  have HSz : Hid (B ≤ w.heap.size) := hBw
  clear hBw
  go_enter Tryz.func291, Tryz.ntmps291
  go_wp2_with fail
  go_loopw [8] (fun i wr => ∃ k : Nat, k ≤ n ∧ i = .int .i64 k ∧ BF B b (l0 ++ catB (l.take k)) wr ∧ Below B w wr ∧ Lib.OthersKept 5 (some b) w wr) (fun i _ => n - (intOf i).toNat)
  case atStart => exact ⟨0, by omega, rfl, by simpa [catB] using HI0.out, Below.refl _ _, Lib.OthersKept.refl _ _ _⟩
  case round =>
    obtain ⟨k, hk, rfl, hI, hb, ho⟩ := hrel
    have HI : Hid (BF B b (l0 ++ catB (l.take k)) wr) := hI
    have HB : Hid (Below B w wr) := hb
    have HO : Hid (Lib.OthersKept 5 (some b) w wr) := ho
    clear hI hb ho
    by_cases hlt : k < n
    · have hpl : lstIs wr p 9 (l.map Value.string) := HO.out p _ HP.out.1 (fun e => HP.out.2 (Option.some.inj e)) (fun c fz e => by cases e)
      obtain ⟨s, hs⟩ : ∃ s, l.getD k ⟨#[]⟩ = s := ⟨_, rfl⟩
      have hc : wr.cell? ⟨p, k, none⟩ = some (.string s) := hpl.cell (by rw [List.getElem?_map, List.getElem?_eq_getElem (by rw [HN.out]; exact hlt), ← hs, List.getD_eq_getElem?_getD, List.getElem?_eq_getElem (by rw [HN.out]; exact hlt)]; rfl)
      have ht := catB_take l k (by rw [HN.out]; exact hlt)
      rw [hs] at ht
      have HT : Hid (catB (l.take (k + 1)) = catB (l.take k) ++ s.data.toList) := ht
      have hle := catB_le l (k + 1)
      have hz : s.data.toList.length = s.size := rfl
      have hws := ws_any B b (l0 ++ catB (l.take k)) s wr HI.out (by have := HLn.out; rw [ht] at hle; simp only [List.length_append] at hle ⊢; omega) (Nat.le_trans HSz.out HB.out.size)
      have hkb : (k : Int) < n := by omega
      clear ht hs hle hz hpl
      go_wp2_with fail
      refine hws.mono ?_
      rintro e w2 ⟨rfl, h2, hb2, ho2⟩
      have HI2 : Hid (BF B b (l0 ++ catB (l.take (k + 1))) w2) := by rw [HT.out, ← List.append_assoc]; exact h2
      have HB2 : Hid (Below B w w2) := HB.out.trans hb2
      have HO2 : Hid (Lib.OthersKept 5 (some b) w w2) := HO.out.trans ho2
      clear hws h2 hb2 ho2
      go_wp2_with fail
      exact ⟨⟨k + 1, by omega, by go_num, HI2.out, HB2.out, HO2.out⟩, by simp [intOf]; omega⟩
    · have HIe : Hid (BF B b (l0 ++ catB l) wr) := by have h := HI.out; rw [List.take_of_length_le (by rw [HN.out]; omega)] at h; exact h
      go_wp2_with fail
      go_end0
      exact ⟨rfl, HIe.out, HB.out, HO.out⟩
end Go.Proofs.YtjkpbpgeedihhaaGreatDoor
namespace Go.Proofs.YtjkpbpgeedihhaaGreatDoor
open Go.RowKit
open M
/-- The same blocks. -/
def Keeps (W0 X : World) (FP : Nat → Prop) : Prop := ∀ k, FP k → X.heap[k]? = W0.heap[k]?
/-- What is written for an element is this: wherever it is written, while its blocks stand. Z: the world in which the call began. -/
structure WritesAt (Z W0 : World) (FP : Nat → Prop) (v : Value) (T : List UInt8) : Prop where
  lt : ∀ k, FP k → k < W0.heap.size
  run : ∀ (B b : Nat) (l0 : List UInt8) (X : World), Z.heap.size ≤ B → (∀ k, FP k → k < B) → Below Z.heap.size Z X → Keeps W0 X FP → B ≤ X.heap.size → BF B b l0 X → l0.length + T.length ≤ 140737488355328 →
    Calls Tryz.prog 208 #[v, .pointer (some ⟨b, 0, none⟩)] X fun e w' => e = .returned (.tuple #[]) ∧ BF B b (l0 ++ T) w' ∧ Below B X w' ∧ Lib.OthersKept 5 (some b) X w'
theorem Keeps.trans {W0 W1 X : World} {FP : Nat → Prop} (h : Keeps W0 W1 FP) (g : Keeps W1 X FP) : Keeps W0 X FP := fun k hk => (g k hk).trans (h k hk)
theorem Keeps.below {W X : World} {FP : Nat → Prop} (hlt : ∀ k, FP k → k < W.heap.size) (hb : Below W.heap.size W X) : Keeps W X FP := fun k hk => hb.block k (hlt k hk)
theorem WritesAt.keep {Z W0 W1 : World} {FP : Nat → Prop} {v : Value} {T : List UInt8} (h : WritesAt Z W0 FP v T) (hk : Keeps W0 W1 FP) (hs : W0.heap.size ≤ W1.heap.size) : WritesAt Z W1 FP v T :=
  ⟨fun k h1 => Nat.lt_of_lt_of_le (h.lt k h1) hs, fun B b l0 X h1 h2 h3 h4 h5 h6 h7 => h.run B b l0 X h1 h2 h3 (hk.trans h4) h5 h6 h7⟩
theorem WritesAt.below {Z W0 W1 : World} {FP : Nat → Prop} {v : Value} {T : List UInt8} (h : WritesAt Z W0 FP v T) (hb : Below W0.heap.size W0 W1) : WritesAt Z W1 FP v T := h.keep (Keeps.below h.lt hb) hb.size
theorem cell_same {W X : World} {b o : Nat} {v : Value} (e : X.heap[b]? = W.heap[b]?) (h : W.cell? ⟨b, o, none⟩ = some v) : X.cell? ⟨b, o, none⟩ = some v := (World.cell?_of_block (a := ⟨b, o, none⟩) e).trans h
abbrev AttP := ByteArray × ByteArray
def noA : AttP := (⟨#[]⟩, ⟨#[]⟩)
def AttsIn (W : World) (FP : Nat → Prop) (A : Option Addr) (l : List AttP) : Prop := ∀ i, i < l.length → ∃ b o, A = some ⟨b, o, none⟩ ∧ FP b ∧ W.cell? ⟨b, o + i * 2, none⟩ = some (.string (l.getD i noA).1) ∧ W.cell? ⟨b, o + i * 2 + 1, none⟩ = some (.string (l.getD i noA).2)
def AttOk (p : AttP) : Prop := Lib.validD p.2.data.toList = true ∧ p.2.size ≤ 40
structure EltC (Z W : World) (FP : Nat → Prop) (b o : Nat) (T : List UInt8) : Prop where
  ex : ∃ nm A1 n1 c1 A2 n2 c2 FPi, W.cell? ⟨b, o, none⟩ = some (.string nm) ∧ W.cell? ⟨b, o + 1, none⟩ = some (.slice A1 n1 c1) ∧ W.cell? ⟨b, o + 2, none⟩ = some (.slice A2 n2 c2) ∧ (∀ k, FPi k → FP k) ∧ WritesAt Z W FPi (.agg #[.string nm, .slice A1 n1 c1, .slice A2 n2 c2]) T
def ElsIn (Z W : World) (FP : Nat → Prop) (A : Option Addr) (Ts : List (List UInt8)) : Prop := ∀ i, i < Ts.length → ∃ b o, A = some ⟨b, o, none⟩ ∧ FP b ∧ EltC Z W FP b (o + i * 3) (Ts.getD i [])
def attT (p : AttP) : List UInt8 := quotedL p.1.data.toList (escTo p.2 p.2.size)
def attsT (l : List AttP) : List UInt8 := l.flatMap attT
/-- The text of an element. -/
def eltT (nm : ByteArray) (l : List AttP) (Ts : List (List UInt8)) : List UInt8 :=
  ([60] ++ nm.data.toList ++ attsT l) ++ (if Ts.length = 0 then [47, 62] else ([62] ++ Ts.flatten) ++ ([60, 47] ++ nm.data.toList ++ [62]))
theorem attsT_take (l : List AttP) (k : Nat) (h : k < l.length) : attsT (l.take (k + 1)) = attsT (l.take k) ++ attT (l.getD k noA) := by
  rw [take_getD_succ noA l k h]; simp [attsT]
theorem attsT_le (l : List AttP) (k : Nat) : (attsT (l.take k)).length ≤ (attsT l).length := by
  have : attsT l = attsT (l.take k) ++ attsT (l.drop k) := by
    unfold attsT; rw [← List.flatMap_append, List.take_append_drop]
  rw [this, List.length_append]; omega
theorem flat_take (Ts : List (List UInt8)) (k : Nat) (h : k < Ts.length) : (Ts.take (k + 1)).flatten = (Ts.take k).flatten ++ Ts.getD k [] := by
  rw [take_getD_succ [] Ts k h]; simp
theorem flat_le (Ts : List (List UInt8)) (k : Nat) : ((Ts.take k).flatten).length ≤ Ts.flatten.length := by
  have : Ts.flatten = (Ts.take k).flatten ++ (Ts.drop k).flatten := by rw [← List.flatten_append, List.take_append_drop]
  rw [this, List.length_append]; omega
/-- The state of the writing: what has been written, and what stands. -/
structure Wr (B b : Nat) (W1 Y : World) (cur : List UInt8) : Prop where
  bf : BF B b cur Y
  bel : Below B W1 Y
  oth : Lib.OthersKept 5 (some b) W1 Y
theorem Wr.step {B b : Nat} {W1 Y Z : World} {cur cur' : List UInt8} (h : Wr B b W1 Y cur) (h1 : BF B b cur' Z) (h2 : Below B Y Z) (h3 : Lib.OthersKept 5 (some b) Y Z) : Wr B b W1 Z cur' := ⟨h1, h.bel.trans h2, h.oth.trans h3⟩
theorem Wr.on {B b : Nat} {W1 Y Z : World} {cur : List UInt8} (h : Wr B b W1 Y cur) (hb : Below Y.heap.size Y Z) (hs : B ≤ Y.heap.size) : Wr B b W1 Z cur := ⟨bf_below h.bf hb, h.bel.trans (hb.mono hs), h.oth.trans (kept_below hb)⟩
theorem Wr.lst {B b : Nat} {W1 Y : World} {cur : List UInt8} {q t : Nat} {l : List Value} (h : Wr B b W1 Y cur) (hl : lstIs W1 q t l) (hq : q ≠ b) (ht : t ≠ 5) : lstIs Y q t l :=
  h.oth q _ hl (fun e => hq (Option.some.inj e)) (fun c fz e => by simp at e; exact ht e.2.1)
/-- put of literal parts, at a state of the writing. -/
theorem Wr.put {B b : Nat} {W1 Y : World} {cur : List UInt8} (h : Wr B b W1 Y cur) (hs : B ≤ Y.heap.size) (l : List ByteArray) (hl : l.length ≤ 8) (hlen : cur.length + (catB l).length ≤ 140737488355328) :
    Calls Tryz.prog 291 #[.pointer (some ⟨b, 0, none⟩), .slice (some ⟨Y.heap.size, 0, none⟩) l.length l.length] (Y.alloc (.cells (l.map Value.string).toArray 9)) fun e w' => e = .returned (.tuple #[]) ∧ Wr B b W1 w' (cur ++ catB l) ∧ B ≤ w'.heap.size := by
  have h2 := h.on (b1 Y (.cells (l.map Value.string).toArray 9)) hs
  have hs2 : B ≤ (Y.alloc (.cells (l.map Value.string).toArray 9)).heap.size := by simp; omega
  refine (put_any B b cur Y.heap.size l.length l _ h2.bf (lstIs.new _ _ _) hlen hl hs2).mono ?_
  rintro e w' ⟨he, hb, hbel, ho⟩
  exact ⟨he, h2.step hb hbel ho, Nat.le_trans hs2 hbel.size⟩
theorem bf_ne {B b q t : Nat} {l0 : List UInt8} {X : World} {l : List Value} (h : BF B b l0 X) (hl : lstIs X q t l) (ht : t ≠ 323) : q ≠ b := by
  intro e
  subst e
  unfold lstIs at hl
  rcases h with h | h
  · obtain ⟨_, v, hb, _⟩ := h
    rw [hl] at hb; simp at hb; exact ht hb.2
  · obtain ⟨_, v, hb, _⟩ := h
    rw [hl] at hb; simp at hb; exact ht hb.2
end Go.Proofs.YtjkpbpgeedihhaaGreatDoor
namespace Go.Proofs.YtjkpbpgeedihhaaGreatDoor
open Go.RowKit
open M
set_option maxHeartbeats 4000000 in
set_option maxRecDepth 100000 in
theorem write_any (Z W0 : World) (FP : Nat → Prop) (nm : ByteArray) (l : List AttP) (Ts : List (List UInt8)) (Aa Aw : Option Addr) (ca cw : Nat) (hL : Laid Z) (hfp : ∀ k, FP k → k < W0.heap.size) (ha : AttsIn W0 FP Aa l) (hok : ∀ p ∈ l, AttOk p) (hw : ElsIn Z W0 FP Aw Ts) (hl : l.length ≤ 1000) (ht : Ts.length ≤ 1000) :
    WritesAt Z W0 FP (.agg #[.string nm, .slice Aa l.length ca, .slice Aw Ts.length cw]) (eltT nm l Ts) := by
  refine ⟨hfp, ?_⟩
  intro B b l0 X hB hFB hX hkp hs hbf hlen
  obtain ⟨na, hna⟩ : ∃ n, l.length = n := ⟨_, rfl⟩
  obtain ⟨nw, hnw⟩ : ∃ n, Ts.length = n := ⟨_, rfl⟩
  have HNa : Hid (l.length = na) := hna
  have HNw : Hid (Ts.length = nw) := hnw
  have HL : Hid (Laid Z) := hL
  have HAt : Hid (AttsIn W0 FP Aa l) := ha
  have HFB : Hid (∀ k, FP k → k < B) := hFB
  have HOk : Hid (∀ p ∈ l, AttOk p) := hok
  have HEl : Hid (ElsIn Z W0 FP Aw Ts) := hw
  have HBb : Hid (Z.heap.size ≤ B) := hB
  have HX0 : Hid (Below Z.heap.size Z X) := hX
  have HTx : Hid (eltT nm l Ts = ([60] ++ nm.data.toList ++ attsT l) ++ (if nw = 0 then [47, 62] else ([62] ++ Ts.flatten) ++ ([60, 47] ++ nm.data.toList ++ [62]))) := by rw [← hnw]; exact rfl
  have HLe : Hid (l0.length + (eltT nm l Ts).length ≤ 140737488355328) := hlen
  obtain ⟨W1, hW1⟩ : ∃ W, X.alloc (.cells #[.string nm, .slice Aa na ca, .slice Aw nw cw] 207) = W := ⟨_, rfl⟩
  have HB1 : Hid (Below X.heap.size X W1) := by rw [← hW1]; exact b1 _ _
  have HBx : Hid (lstIs W1 X.heap.size 207 [.string nm, .slice Aa na ca, .slice Aw nw cw]) := by rw [← hW1]; exact lstIs.new _ _ _
  have HW1 : Hid (Wr B b W1 W1 l0 ∧ B ≤ W1.heap.size) := ⟨⟨bf_below hbf HB1.out, Below.refl _ _, Lib.OthersKept.refl _ _ _⟩, Nat.le_trans hs HB1.out.size⟩
  have HNe : Hid (X.heap.size ≠ b) := bf_ne HW1.out.1.bf HBx.out (by decide)
  -- what is old stands on
  have HOld : Hid (∀ Y, Below B W1 Y → Below Z.heap.size Z Y) := fun Y hY => (HX0.out.trans (HB1.out.mono HX0.out.size)).trans (hY.mono HBb.out)
  have HKp : Hid (∀ Y, Below B W1 Y → Keeps W0 Y FP) := fun Y hY k hk => ((hY.block k (hFB k hk)).trans (HB1.out.block k (Nat.lt_of_lt_of_le (hFB k hk) hs))).trans (hkp k hk)
  have HEnd : Hid (∀ Y, Below B W1 Y → Lib.OthersKept 5 (some b) W1 Y → Below B X Y ∧ Lib.OthersKept 5 (some b) X Y) := fun Y h1 h2 => ⟨(HB1.out.mono hs).trans h1, (kept_below HB1.out).trans h2⟩
  rw [hna, hnw]
  rw [hna] at hl
  rw [hnw] at ht
  clear hna hnw hL ha hok hw hB hX hlen hbf hs hfp hFB hkp
  have hc0 := HBx.out.cell (i := 0) rfl
  have hput := HW1.out.1.put HW1.out.2 [⟨#[60]⟩, nm] (by simp) (by
    have h1 := HLe.out
    rw [HTx.out] at h1
    simp only [List.length_append, List.length_cons, List.length_nil] at h1
    simp [catB]; have h2 : nm.data.toList.length = nm.size := rfl; simp at h1; omega)
  go_enter Tryz.func208, Tryz.ntmps208
  go_wp2_with fail
  refine hput.mono ?_
  rintro e w2 ⟨rfl, hw2, hs2⟩
  have HW2 : Hid (Wr B b W1 w2 (l0 ++ ([60] ++ nm.data.toList)) ∧ B ≤ w2.heap.size) := ⟨by have h := hw2; simp [catB] at h; simpa using h, hs2⟩
  clear hput hw2 hs2 hc0 hW1
  have hl2 := HW2.out.1.lst HBx.out HNe.out (by decide)
  have c1 := hl2.cell (i := 1) rfl
  go_wp2_with fail
  clear hl2 c1
  go_loopw [16] (fun i wr => ∃ k : Nat, k ≤ na ∧ i = .int .i64 k ∧ Wr B b W1 wr (l0 ++ ([60] ++ nm.data.toList ++ attsT (l.take k))) ∧ B ≤ wr.heap.size) (fun i _ => na - (intOf i).toNat)
  case atStart => exact ⟨0, by omega, rfl, by simpa [attsT] using HW2.out.1, HW2.out.2⟩
  case round =>
    obtain ⟨k, hk, rfl, hwr, hsr⟩ := hrel
    have HWr : Hid (Wr B b W1 wr (l0 ++ ([60] ++ nm.data.toList ++ attsT (l.take k))) ∧ B ≤ wr.heap.size) := ⟨hwr, hsr⟩
    have HBr : Hid (Keeps W0 wr FP) := HKp.out wr hwr.bel
    clear hwr hsr
    by_cases hlt : k < na
    · obtain ⟨ab, ao, rfl, hab, a0', a1'⟩ := HAt.out k (by rw [HNa.out]; exact hlt)
      have a0 := cell_same (HBr.out ab hab) a0'
      have a1 := cell_same (HBr.out ab hab) a1'
      clear a0' a1' hab
      obtain ⟨p, hp⟩ : ∃ p, l.getD k noA = p := ⟨_, rfl⟩
      have hpk : AttOk p := HOk.out p (by rw [← hp, List.getD_eq_getElem?_getD, List.getElem?_eq_getElem (by rw [HNa.out]; exact hlt)]; exact List.getElem_mem _)
      have htk := attsT_take l k (by rw [HNa.out]; exact hlt)
      have hle := attsT_le l (k + 1)
      rw [hp] at a0 a1 htk
      obtain ⟨an, av⟩ := p
      have HTk : Hid (attsT (l.take (k + 1)) = attsT (l.take k) ++ attT (an, av)) := htk
      have HLk : Hid ((l0 ++ ([60] ++ nm.data.toList ++ attsT (l.take k))).length + (attT (an, av)).length ≤ 140737488355328) := by
        show _ ≤ _
        have h1 := HLe.out
        rw [HTx.out] at h1
        rw [htk] at hle
        simp only [List.length_append] at h1 hle ⊢
        omega
      have HEsc : Hid (attT (an, av) = catB [⟨#[32]⟩, an, ⟨#[61, 34]⟩, mkS (escTo av av.size), ⟨#[34]⟩]) := by
        show _ = _
        simp [attT, quotedL, catB, mkS]
      simp only at a0 a1
      have hkb : (k : Int) < na := by omega
      obtain ⟨W3, hW3⟩ : ∃ W, wr.alloc (.cells #[.string an, .string av] 236) = W := ⟨_, rfl⟩
      have HB3 : Hid (Below wr.heap.size wr W3) := by rw [← hW3]; exact b1 _ _
      have HL3 : Hid (lstIs W3 wr.heap.size 236 [.string an, .string av]) := by rw [← hW3]; exact lstIs.new _ _ _
      have HW3 : Hid (Wr B b W1 W3 (l0 ++ ([60] ++ nm.data.toList ++ attsT (l.take k))) ∧ B ≤ W3.heap.size) := ⟨HWr.out.1.on HB3.out HWr.out.2, Nat.le_trans HWr.out.2 HB3.out.size⟩
      have HN3 : Hid (wr.heap.size ≠ b) := bf_ne HW3.out.1.bf HL3.out (by decide)
      have hes := escaped_any av W3.drew ((HL.out.below (HOld.out W3 HW3.out.1.bel)).below (below_drewN (Below.refl _ _) 1)) hpk.1 hpk.2
      obtain ⟨C, hC⟩ : ∃ C, l0 ++ ([60] ++ nm.data.toList ++ attsT (l.take k)) = C := ⟨_, rfl⟩
      have HC : Hid (l0 ++ ([60] ++ nm.data.toList ++ attsT (l.take k)) = C) := hC
      rw [hC] at HW3 HLk
      clear htk hle hp hC hpk
      obtain ⟨E, hE⟩ : ∃ E, mkS (escTo av av.size) = E := ⟨_, rfl⟩
      rw [hE] at hes HEsc
      clear hE
      obtain ⟨AT, hAT⟩ : ∃ x, attT (an, av) = x := ⟨_, rfl⟩
      rw [hAT] at HEsc HLk HTk
      clear hAT
      have HesQ : Hid (Calls Tryz.prog 292 #[.string av] W3.drew fun e w' => e = .returned (.string E) ∧ Wr B b W1 w' C ∧ B ≤ w'.heap.size ∧ lstIs w' wr.heap.size 236 [.string an, .string av]) :=
        hes.mono fun e w' ⟨he, hb⟩ => ⟨he, HW3.out.1.on ((below_drewN (Below.refl _ _) 1).trans hb) HW3.out.2, Nat.le_trans HW3.out.2 hb.size, HL3.out.at (hb.block _ HL3.out.lt)⟩
      have HptQ : Hid (∀ Y, Wr B b W1 Y C → B ≤ Y.heap.size → lstIs Y wr.heap.size 236 [.string an, .string av] → Calls Tryz.prog 291 #[.pointer (some ⟨b, 0, none⟩), .slice (some ⟨Y.heap.size, 0, none⟩) 5 5] (Y.alloc (.cells #[.string ⟨#[32]⟩, .string an, .string ⟨#[61, 34]⟩, .string E, .string ⟨#[34]⟩] 9)) fun e w' => e = .returned (.tuple #[]) ∧ Wr B b W1 w' (C ++ AT) ∧ B ≤ w'.heap.size ∧ w'.cell? ⟨wr.heap.size, 0, none⟩ = some (.string an) ∧ w'.cell? ⟨wr.heap.size, 1, none⟩ = some (.string av)) := fun Y h1 h2 h3 => by
        refine (put_any B b C Y.heap.size 5 [⟨#[32]⟩, an, ⟨#[61, 34]⟩, E, ⟨#[34]⟩] (Y.alloc (.cells #[.string ⟨#[32]⟩, .string an, .string ⟨#[61, 34]⟩, .string E, .string ⟨#[34]⟩] 9)) (bf_below h1.bf (b1 _ _)) (lstIs.new _ _ _) (by rw [← HEsc.out]; exact HLk.out) (by simp) (by simp; omega)).mono ?_
        rintro e w' ⟨he, hb, hbel, ho⟩
        have h4 : lstIs w' wr.heap.size 236 [.string an, .string av] := ho wr.heap.size _ (h3.alloc _) (fun e => HN3.out (Option.some.inj e)) (fun c fz e => by simp at e)
        exact ⟨he, (h1.on (b1 _ _) h2).step (by rw [HEsc.out]; exact hb) hbel ho, Nat.le_trans h2 (by have := hbel.size; simp at this; omega), h4.cell rfl, h4.cell rfl⟩
      have HKS : Hid (∀ Y, lstIs Y wr.heap.size 236 [.string an, .string av] → Y.cell? ⟨wr.heap.size, 0, none⟩ = some (.string an) ∧ Y.cell? ⟨wr.heap.size, 1, none⟩ = some (.string av)) := fun Y h => ⟨h.cell rfl, h.cell rfl⟩
      have HL3d : Hid (lstIs W3.drew wr.heap.size 236 [.string an, .string av]) := HL3.out
      clear hes
      go_wp2_with fail
      clear hW3 a0 a1
      go_region_held3 (fun w' => w'.cell? ⟨wr.heap.size, 0, none⟩ = some (.string an) ∧ w'.cell? ⟨wr.heap.size, 1, none⟩ = some (.string av))
        ((first | exact HKS.out _ HL3d.out | exact HKS.out _ HL4.out | exact HKS.out _ (HL4.out.alloc _) | exact HS5.out | fail))
        ((first
          | (go_at_call 292; refine HesQ.out.mono ?_; rintro e w4 ⟨rfl, hw4, hs4, hl4⟩; have HW4 : Hid (Wr B b W1 w4 C ∧ B ≤ w4.heap.size) := ⟨hw4, hs4⟩; have HL4 : Hid (lstIs w4 wr.heap.size 236 [.string an, .string av]) := hl4; clear hw4 hs4 hl4)
          | (go_at_call 291; refine (HptQ.out w4 HW4.out.1 HW4.out.2 HL4.out).mono ?_; rintro e w5 ⟨rfl, hw5, hs5, hq0, hq1⟩; have HW5 : Hid (Wr B b W1 w5 (C ++ AT) ∧ B ≤ w5.heap.size) := ⟨hw5, hs5⟩; have HS5 : Hid (w5.cell? ⟨wr.heap.size, 0, none⟩ = some (.string an) ∧ w5.cell? ⟨wr.heap.size, 1, none⟩ = some (.string av)) := ⟨hq0, hq1⟩; clear hw5 hs5 hq0 hq1)
          | fail))
      all_goals (
        go_wp2_with fail
        exact ⟨⟨k + 1, by omega, by go_num, by rw [HTk.out]; have h := HW5.out.1; rw [← HC.out] at h; simpa using h, HW5.out.2⟩, by simp [intOf]; omega⟩)
    · have hwr := HWr.out.1
      rw [List.take_of_length_le (by rw [HNa.out]; omega)] at hwr
      obtain ⟨C, hC⟩ : ∃ C, l0 ++ ([60] ++ nm.data.toList ++ attsT l) = C := ⟨_, rfl⟩
      have HC : Hid (l0 ++ ([60] ++ nm.data.toList ++ attsT l) = C) := hC
      rw [hC] at hwr
      have HWC : Hid (Wr B b W1 wr C ∧ B ≤ wr.heap.size) := ⟨hwr, HWr.out.2⟩
      have HEq : Hid (∀ R : List UInt8, C ++ R = l0 ++ (([60] ++ nm.data.toList ++ attsT l) ++ R)) := fun R => by rw [← hC]; simp
      have hlq : C.length + (if nw = 0 then [47, 62] else ([62] ++ Ts.flatten) ++ ([60, 47] ++ nm.data.toList ++ [62])).length ≤ 140737488355328 := by
        have h1 := HLe.out
        rw [HTx.out] at h1
        rw [← hC]
        simp only [List.length_append] at h1 ⊢
        omega
      clear hwr HWr hC
      have hl3 := HWC.out.1.lst HBx.out HNe.out (by decide)
      have c2 := hl3.cell (i := 2) rfl
      by_cases h0 : nw = 0
      · subst h0
        rw [if_pos rfl] at hlq
        have HTe : Hid (eltT nm l Ts = ([60] ++ nm.data.toList ++ attsT l) ++ [47, 62]) := by rw [HTx.out, if_pos rfl]; exact rfl
        have hput := HWC.out.1.put HWC.out.2 [⟨#[47, 62]⟩] (by decide) (by simpa [catB] using hlq)
        go_wp2_with fail
        refine hput.mono ?_
        rintro e w5 ⟨rfl, hw5, hs5⟩
        have hf : Wr B b W1 w5 (C ++ [47, 62]) := by simpa [catB] using hw5
        have HF : Hid (Wr B b W1 w5 (C ++ [47, 62])) := hf
        clear hput hw5 hs5 hf
        go_wp2_with fail
        refine bodyPost_ret (results_none rfl _ _ _) rfl ?_
        exact ⟨rfl, by rw [HTe.out, ← HEq.out]; exact HF.out.bf, (HEnd.out _ HF.out.bel HF.out.oth).1, (HEnd.out _ HF.out.bel HF.out.oth).2⟩
      · have d0 : ((nw : Int) == 0) = false := by simp; omega
        rw [if_neg h0] at hlq
        have HTe : Hid (eltT nm l Ts = ([60] ++ nm.data.toList ++ attsT l) ++ (([62] ++ Ts.flatten) ++ ([60, 47] ++ nm.data.toList ++ [62]))) := by rw [HTx.out, if_neg h0]; exact rfl
        have HLq : Hid (C.length + (([62] ++ Ts.flatten) ++ ([60, 47] ++ nm.data.toList ++ [62])).length ≤ 140737488355328) := hlq
        have hput := HWC.out.1.put HWC.out.2 [⟨#[62]⟩] (by decide) (by simp only [List.length_append, List.length_cons, List.length_nil] at hlq; simp [catB]; omega)
        clear h0 hlq
        go_wp2_with fail
        refine hput.mono ?_
        rintro e w5 ⟨rfl, hw5, hs5⟩
        have HW5 : Hid (Wr B b W1 w5 (C ++ [62]) ∧ B ≤ w5.heap.size) := ⟨by simpa [catB] using hw5, hs5⟩
        clear hput hw5 hs5 c2 hl3
        have hl5 := HW5.out.1.lst HBx.out HNe.out (by decide)
        have c2 := hl5.cell (i := 2) rfl
        go_wp2_with fail
        clear hl5 c2
        go_loopw [42] (fun i wr => ∃ k : Nat, k ≤ nw ∧ i = .int .i64 k ∧ Wr B b W1 wr ((C ++ [62]) ++ (Ts.take k).flatten) ∧ B ≤ wr.heap.size) (fun i _ => nw - (intOf i).toNat)
        case atStart => exact ⟨0, by omega, rfl, by simpa using HW5.out.1, HW5.out.2⟩
        case round =>
          obtain ⟨k, hk, rfl, hwr, hsr⟩ := hrel
          have HWr : Hid (Wr B b W1 wr ((C ++ [62]) ++ (Ts.take k).flatten) ∧ B ≤ wr.heap.size) := ⟨hwr, hsr⟩
          have HBr : Hid (Keeps W0 wr FP) := HKp.out wr hwr.bel
          clear hwr hsr
          by_cases hlt : k < nw
          · obtain ⟨eb, eo, rfl, heb, hec⟩ := HEl.out k (by rw [HNw.out]; exact hlt)
            obtain ⟨en, A1, n1, c1', A2, n2, c2', FPi, e0', e1', e2', hfi, hwt⟩ := hec.ex
            have e0 := cell_same (HBr.out eb heb) e0'
            have e1 := cell_same (HBr.out eb heb) e1'
            have e2 := cell_same (HBr.out eb heb) e2'
            clear e0' e1' e2'
            obtain ⟨T, hT⟩ : ∃ T, Ts.getD k [] = T := ⟨_, rfl⟩
            have htk := flat_take Ts k (by rw [HNw.out]; exact hlt)
            have hle := flat_le Ts (k + 1)
            rw [hT] at htk hwt
            have HTk : Hid ((Ts.take (k + 1)).flatten = (Ts.take k).flatten ++ T) := htk
            have HLk : Hid (((C ++ [62]) ++ (Ts.take k).flatten).length + T.length ≤ 140737488355328) := by
              show _ ≤ _
              have h1 := HLq.out
              rw [htk] at hle
              simp only [List.length_append] at h1 hle ⊢
              omega
            have hkb : (k : Int) < nw := by omega
            obtain ⟨W6, hW6⟩ : ∃ W, wr.alloc (.cells #[.string en, .slice A1 n1 c1', .slice A2 n2 c2'] 207) = W := ⟨_, rfl⟩
            have HB6 : Hid (Below wr.heap.size wr W6) := by rw [← hW6]; exact b1 _ _
            have HL6 : Hid (lstIs W6 wr.heap.size 207 [.string en, .slice A1 n1 c1', .slice A2 n2 c2']) := by rw [← hW6]; exact lstIs.new _ _ _
            have HW6 : Hid (Wr B b W1 W6 ((C ++ [62]) ++ (Ts.take k).flatten) ∧ B ≤ W6.heap.size) := ⟨HWr.out.1.on HB6.out HWr.out.2, Nat.le_trans HWr.out.2 HB6.out.size⟩
            have f0 := HL6.out.cell (i := 0) rfl
            have f1 := HL6.out.cell (i := 1) rfl
            have f2 := HL6.out.cell (i := 2) rfl
            have hWt : Calls Tryz.prog 208 #[.agg #[.string en, .slice A1 n1 c1', .slice A2 n2 c2'], .pointer (some ⟨b, 0, none⟩)] W6 fun e w' => e = .returned (.tuple #[]) ∧ Wr B b W1 w' (((C ++ [62]) ++ (Ts.take k).flatten) ++ T) ∧ B ≤ w'.heap.size :=
              (hwt.run B b ((C ++ [62]) ++ (Ts.take k).flatten) W6 HBb.out (fun k hk => HFB.out k (hfi k hk)) (HOld.out W6 HW6.out.1.bel) (fun k hk => HKp.out W6 HW6.out.1.bel k (hfi k hk)) HW6.out.2 HW6.out.1.bf HLk.out).mono fun e w' ⟨he, hb, hbel, ho⟩ => ⟨he, HW6.out.1.step hb hbel ho, Nat.le_trans HW6.out.2 hbel.size⟩
            clear hT htk hle hwt hec hfi heb
            go_wp2_with fail
            refine hWt.mono ?_
            rintro e w7 ⟨rfl, hw7, hs7⟩
            have HW7 : Hid (Wr B b W1 w7 (((C ++ [62]) ++ (Ts.take k).flatten) ++ T) ∧ B ≤ w7.heap.size) := ⟨hw7, hs7⟩
            clear hWt hw7 hs7 f0 f1 f2 hW6 e0 e1 e2
            go_wp2_with fail
            exact ⟨⟨k + 1, by omega, by go_num, by rw [HTk.out, ← List.append_assoc]; exact HW7.out.1, HW7.out.2⟩, by simp [intOf]; omega⟩
          · have hwr := HWr.out.1
            rw [List.take_of_length_le (by rw [HNw.out]; omega)] at hwr
            have HWe : Hid (Wr B b W1 wr ((C ++ [62]) ++ Ts.flatten)) := hwr
            clear hwr
            have hl8 := HWe.out.lst HBx.out HNe.out (by decide)
            have c0 := hl8.cell (i := 0) rfl
            have hput := HWe.out.put HWr.out.2 [⟨#[60, 47]⟩, nm, ⟨#[62]⟩] (by simp) (by
              have h1 := HLq.out
              simp only [List.length_append, List.length_cons, List.length_nil] at h1 ⊢
              simp [catB]; have h2 : nm.data.toList.length = nm.size := rfl; simp at h1; omega)
            go_wp2_with fail
            refine hput.mono ?_
            rintro e w9 ⟨rfl, hw9, hs9⟩
            have hf : Wr B b W1 w9 (C ++ (([62] ++ Ts.flatten) ++ ([60, 47] ++ nm.data.toList ++ [62]))) := by simpa [catB] using hw9
            have HF : Hid (Wr B b W1 w9 (C ++ (([62] ++ Ts.flatten) ++ ([60, 47] ++ nm.data.toList ++ [62])))) := hf
            clear hput hw9 hs9 c0 hl8 hf
            go_wp2_with fail
            go_end0
            exact ⟨rfl, by rw [HTe.out, ← HEq.out]; exact HF.out.bf, (HEnd.out _ HF.out.bel HF.out.oth).1, (HEnd.out _ HF.out.bel HF.out.oth).2⟩
end Go.Proofs.YtjkpbpgeedihhaaGreatDoor
namespace Go.Proofs.YtjkpbpgeedihhaaGreatDoor
open Go.RowKit
open M
set_option maxHeartbeats 4000000 in
set_option maxRecDepth 100000 in
theorem text_any (Z W0 : World) (FP : Nat → Prop) (nm : ByteArray) (Aa Aw : Option Addr) (na ca nw cw : Nat) (T : List UInt8) (hw : WritesAt Z W0 FP (.agg #[.string nm, .slice Aa na ca, .slice Aw nw cw]) T) (hT : T.length ≤ 140737488355328) (X : World) (hX : Below W0.heap.size W0 X) (hZ : Below Z.heap.size Z X) :
    Calls Tryz.prog 126 #[.agg #[.string nm, .slice Aa na ca, .slice Aw nw cw]] X fun e w' => e = .returned (.string (mkS T)) ∧ Below X.heap.size X w' := by
  obtain ⟨W1, hW1⟩ : ∃ W, X.alloc (.cells #[.string nm, .slice Aa na ca, .slice Aw nw cw] 207) = W := ⟨_, rfl⟩
  have HB1 : Hid (Below X.heap.size X W1) := by rw [← hW1]; exact b1 _ _
  have HBx : Hid (lstIs W1 X.heap.size 207 [.string nm, .slice Aa na ca, .slice Aw nw cw]) := by rw [← hW1]; exact lstIs.new _ _ _
  obtain ⟨W2, hW2⟩ : ∃ W, W1.alloc (.cells #[.pointer none, .slice none 0 0] 323) = W := ⟨_, rfl⟩
  have HB2 : Hid (Below W1.heap.size W1 W2) := by rw [← hW2]; exact b1 _ _
  have HF : Hid (BF W1.heap.size W1.heap.size [] W2) := by rw [← hW2]; exact bf_fresh W1
  have hl2 := HBx.out.at (HB2.out.block _ HBx.out.lt)
  have c0 := hl2.cell (i := 0) rfl
  have c1 := hl2.cell (i := 1) rfl
  have c2 := hl2.cell (i := 2) rfl
  have hX2 : Below W0.heap.size W0 W2 := (hX.trans (HB1.out.mono hX.size)).trans (HB2.out.mono (Nat.le_trans hX.size HB1.out.size))
  have hcall := hw.run W1.heap.size W1.heap.size [] W2 (Nat.le_trans hZ.size HB1.out.size) (fun k hk => Nat.lt_of_lt_of_le (hw.lt k hk) (Nat.le_trans hX.size HB1.out.size)) ((hZ.trans (HB1.out.mono hZ.size)).trans (HB2.out.mono (Nat.le_trans hZ.size HB1.out.size))) (Keeps.below hw.lt hX2) HB2.out.size HF.out (by simpa using hT)
  clear hw hT hX hX2 hZ
  go_enter Tryz.func126, Tryz.ntmps126
  go_wp2_with fail
  refine hcall.mono ?_
  rintro e w3 ⟨rfl, hb3, hbel3, _⟩
  have hst := Tryz.Builder_String_any_k W1.heap.size W1.heap.size T w3 (by simpa using hb3) (Nat.le_trans HB2.out.size hbel3.size)
  have H3 : Hid (Below X.heap.size X w3) := HB1.out.trans ((HB2.out.trans hbel3).mono HB1.out.size)
  clear hcall c0 c1 c2 hl2 hW1 hW2 hb3
  go_wp2_with fail
  refine hst.mono ?_
  rintro e w4 ⟨rfl, _, hb4, _⟩
  go_wp2_with fail
  go_ret
  exact ⟨rfl, H3.out.trans (hb4.mono HB1.out.size)⟩
abbrev attV (n v : ByteArray) : Value := .agg #[.string n, .string v]
theorem results_cell1 {fn : Func} {p : Tmp} {ty : TypeId} (h : fn.results = #[.cell p ty]) (tmps : Array Value) (P : Program) (w : World) :
    (results fn tmps).run P w = ((asAddr (tmps.getD p undef)).run P w).andThen fun a w₁ => (loadVar ty a).run P w₁ := by
  simp only [results, h]
  simp [Sem.run_bind, Result.andThen]
set_option maxHeartbeats 4000000 in
set_option maxRecDepth 100000 in
theorem attr_any (n v : ByteArray) (w : World) :
    Calls Tryz.prog 124 #[.string n, .string v] w fun e w' => e = .returned (attV n v) ∧ Below w.heap.size w w' := by
  go_enter Tryz.func124, Tryz.ntmps124
  go_wp2_with fail
  refine bodyPost_ret (v := attV n v) ?_ rfl ?_
  · rw [results_cell1 rfl]
    go_simp
  · exact ⟨rfl, b1 _ _⟩
end Go.Proofs.YtjkpbpgeedihhaaGreatDoor
namespace Go.Proofs.YtjkpbpgeedihhaaGreatDoor
open Go.RowKit
open M
def attC (l : List AttP) : List Value := l.flatMap fun p => [.string p.1, .string p.2]
theorem attC_len : ∀ l : List AttP, (attC l).length = l.length * 2
  | [] => rfl
  | c :: r => by have := attC_len r; simp only [attC, List.flatMap_cons, List.length_append, List.length_cons] at this ⊢; rw [this]; simp; omega
theorem attC_app (a b : List AttP) : attC a ++ attC b = attC (a ++ b) := by simp [attC]
theorem attC_one (l : List AttP) : ∀ v ∈ attC l, v.oneCell' = true := by
  intro v hv
  simp only [attC, List.mem_flatMap] at hv
  obtain ⟨c, _, hc⟩ := hv
  simp at hc
  rcases hc with rfl | rfl <;> rfl
theorem attC_get : ∀ (l : List AttP) (i : Nat), i < l.length → (attC l)[i * 2]? = some (.string (l.getD i noA).1) ∧ (attC l)[i * 2 + 1]? = some (.string (l.getD i noA).2)
  | c :: r, 0, _ => by simp [attC]
  | c :: r, i + 1, hi => by
    obtain ⟨h1, h2⟩ := attC_get r i (by simpa using hi)
    have e1 : attC (c :: r) = [.string c.1, .string c.2] ++ attC r := by simp [attC]
    rw [e1, List.getElem?_append_right (by simp; omega), List.getElem?_append_right (by simp; omega)]
    simp only [List.length_cons, List.length_nil]
    rw [show (i + 1) * 2 - (0 + 1 + 1) = i * 2 by omega, show (i + 1) * 2 + 1 - (0 + 1 + 1) = i * 2 + 1 by omega, h1, h2]
    exact ⟨rfl, rfl⟩
theorem Tryz.info236 : (Tryz.prog.info? 236).map (fun i => (i.zero, i.size, i.bytes)) = some (some (.agg #[.string ⟨#[]⟩, .string ⟨#[]⟩]), 2, 32) := by kernel_rfl
/-- Attributes as they are handed in: none, or a block of their own. -/
def AttTail (W : World) (v : Value) (l : List AttP) : Prop := (v = .slice none 0 0 ∧ l = []) ∨ ∃ p c, v = .slice (some ⟨p, 0, none⟩) l.length c ∧ lstIs W p 236 (attC l)
theorem addr_add0 (b i : Nat) : (⟨b, 0, none⟩ : Addr).add i = ⟨b, i, none⟩ := by unfold Addr.add; split <;> simp_all
theorem own_atts {W : World} {FP : Nat → Prop} {B g n c : Nat} {l : List AttP} (h : W.ownsRow B 236 2 (.slice (some ⟨g, 0, none⟩) n c) n (attC l)) (hg : FP g) : AttsIn W FP (some ⟨g, 0, none⟩) l := fun i hi => by
  obtain ⟨h1, h2⟩ := attC_get l i hi
  have k := fun j v hv => h.cells (g := g) rfl j v hv
  have e1 := k _ _ h1
  have e2 := k _ _ h2
  rw [addr_add0] at e1 e2
  exact ⟨g, 0, rfl, hg, by simpa using e1, by simpa using e2⟩
theorem empty_own (W : World) (B : Nat) (hB : B ≤ W.heap.size) : (W.alloc (.cells #[] 236)).ownsRow B 236 2 (.slice (some ⟨W.heap.size, 0, none⟩) 0 0) 0 [] :=
  ⟨rfl, Or.inr ⟨W.heap.size, 0, #[], rfl, hB, heap_alloc_new _ _, Nat.le_refl _, by unfold maxLen; omega, rfl, rfl⟩⟩
set_option maxHeartbeats 4000000 in
set_option maxRecDepth 100000 in
theorem new_any (nm : ByteArray) (v : Value) (l : List AttP) (w : World) (hv : AttTail w v l) (hl : l.length ≤ 8) :
    Calls Tryz.prog 123 #[.string nm, v] w fun e w' => ∃ g c, e = .returned (.agg #[.string nm, .slice (some ⟨g, 0, none⟩) l.length c, .slice none 0 0]) ∧ w'.ownsRow (w.heap.size + 1) 236 2 (.slice (some ⟨g, 0, none⟩) l.length c) l.length (attC l) ∧ Below w.heap.size w w' := by
  obtain ⟨i0, hi, hz0, hz1, hz2⟩ := info_parts Tryz.info236
  obtain ⟨W1, hW1⟩ : ∃ W, w.alloc (.cells #[.string ⟨#[]⟩, .slice none 0 0, .slice none 0 0] 207) = W := ⟨_, rfl⟩
  have HB1 : Hid (Below w.heap.size w W1) := by rw [← hW1]; exact b1 _ _
  have hs1 : W1.heap.size = w.heap.size + 1 := by rw [← hW1]; simp
  have HR1 : Hid (lstIs W1 w.heap.size 207 [.string ⟨#[]⟩, .slice none 0 0, .slice none 0 0]) := by rw [← hW1]; exact lstIs.new _ _ _
  have HO1 : Hid ((W1.alloc (.cells #[] 236)).ownsRow (w.heap.size + 1) 236 2 (.slice (some ⟨W1.heap.size, 0, none⟩) 0 0) 0 []) := empty_own W1 _ (by omega)
  have HEnd : Hid (∀ (X : World) (V : Value), Below (w.heap.size + 1) W1 X → X.ownsRow (w.heap.size + 1) 236 2 V l.length (attC l) → lstIs X w.heap.size 207 [.string ⟨#[]⟩, .slice none 0 0, .slice none 0 0] ∧ ∀ (a0 a1 a2 : Value), (((X.setCell ⟨w.heap.size, 0, none⟩ a0).setCell ⟨w.heap.size, 1, none⟩ a1).setCell ⟨w.heap.size, 2, none⟩ a2).ownsRow (w.heap.size + 1) 236 2 V l.length (attC l) ∧ Below w.heap.size w (((X.setCell ⟨w.heap.size, 0, none⟩ a0).setCell ⟨w.heap.size, 1, none⟩ a1).setCell ⟨w.heap.size, 2, none⟩ a2)) := fun X V hb ho => by
    have hlx : lstIs X w.heap.size 207 [.string ⟨#[]⟩, .slice none 0 0, .slice none 0 0] := HR1.out.at (hb.block _ (by omega))
    refine ⟨hlx, fun a0 a1 a2 => ⟨?_, (((HB1.out.trans (hb.mono (by omega))).setCell (by simp) _).setCell (by simp) _).setCell (by simp) _⟩⟩
    have hne : ∀ q, V.ownBlock = some q → q ≠ w.heap.size := fun q e => by have := (ho.lt q e).1; omega
    exact ownsRow_setCell_other (ownsRow_setCell_other (ownsRow_setCell_other ho (fun e => hne _ e rfl) _) (fun e => hne _ e rfl) _) (fun e => hne _ e rfl) _
  have HS1 : Hid (W1.heap.size = w.heap.size + 1) := hs1
  clear hs1
  rcases hv with ⟨rfl, rfl⟩ | ⟨p, c, rfl, hp⟩
  · have hE := HEnd.out (W1.alloc (.cells #[] 236)) (.slice (some ⟨W1.heap.size, 0, none⟩) 0 0) ((Below.refl _ _).alloc (by rw [HS1.out]; omega) _) HO1.out
    obtain ⟨_, hrest⟩ := hE
    have HRs : Hid (∀ (a0 a1 a2 : Value), ((((W1.alloc (.cells #[] 236)).setCell ⟨w.heap.size, 0, none⟩ a0).setCell ⟨w.heap.size, 1, none⟩ a1).setCell ⟨w.heap.size, 2, none⟩ a2).ownsRow (w.heap.size + 1) 236 2 (.slice (some ⟨W1.heap.size, 0, none⟩) 0 0) 0 (attC []) ∧ Below w.heap.size w ((((W1.alloc (.cells #[] 236)).setCell ⟨w.heap.size, 0, none⟩ a0).setCell ⟨w.heap.size, 1, none⟩ a1).setCell ⟨w.heap.size, 2, none⟩ a2)) := hrest
    clear hrest
    have hl0 : lstIs (W1.alloc (.cells #[] 236)) w.heap.size 207 [.string ⟨#[]⟩, .slice none 0 0, .slice none 0 0] := HR1.out.alloc _
    obtain ⟨W2, hW2⟩ : ∃ W, W1.alloc (.cells #[] 236) = W := ⟨_, rfl⟩
    rw [hW2] at HRs hl0
    have r0 := hl0.cell (i := 0) rfl
    have r1 := hl0.cell (i := 1) rfl
    have r2 := hl0.cell (i := 2) rfl
    have f0 := hl0.free 0
    have f1 := hl0.free 1
    have f2 := hl0.free 2
    go_enter Tryz.func123, Tryz.ntmps123
    go_wp2_with fail
    refine bodyPost_ret (v := .agg #[.string nm, .slice (some ⟨W1.heap.size, 0, none⟩) 0 0, .slice none 0 0]) ?_ rfl ?_
    · rw [results_cell1 rfl]
      go_simp
    · exact ⟨W1.heap.size, 0, rfl, (HRs.out _ _ _).1, (HRs.out _ _ _).2⟩
  · have hp1 : lstIs W1 p 236 (attC l) := hp.at (HB1.out.block _ hp.lt)
    have HNw : Hid (∀ j u, (attC l)[j]? = some u → (W1.alloc (.cells #[] 236)).cell? ((⟨p, 0, none⟩ : Addr).add j) = some u) := fun j u hj => by rw [addr_add0]; exact (hp1.alloc _).cell hj
    clear hp hp1
    obtain ⟨m, hm⟩ : ∃ m, l.length = m := ⟨_, rfl⟩
    have HM : Hid (l.length = m) := hm
    have HAl : Hid ((attC l).length = m * 2) := by rw [← hm]; exact attC_len l
    rw [hm] at hl HEnd ⊢
    clear hm
    go_enter Tryz.func123, Tryz.ntmps123
    go_wp2_with (at_builtin; go_must (refine wpList_append_own _ rfl (.tmp 6) (.tmp 7) 204 rfl (w.heap.size + 1) 236 i0 (.agg #[.string ⟨#[]⟩, .string ⟨#[]⟩]) 2 32 Tryz.underlying204 hi hz0 hz1 hz2 rfl (by decide) _ _ _ rfl HO1.out ⟨p, 0, none⟩ m c (attC l) rfl HAl.out HNw.out (attC_one l) (by unfold maxLen; omega) (by omega) (by have := HS1.out; simp; omega) ?_))
    intro v1 w1 hown1 hg1 hnil
    have hb1' : Below (w.heap.size + 1) W1 w1 := ((Below.refl _ W1).alloc (by rw [HS1.out]; omega) _).grown hg1 (by have := HS1.out; simp; omega) (fun q e => (HO1.out.lt q e).1)
    obtain ⟨hlx, hrest⟩ := HEnd.out w1 v1 hb1' hown1
    have HRs : Hid (∀ (a0 a1 a2 : Value), (((w1.setCell ⟨w.heap.size, 0, none⟩ a0).setCell ⟨w.heap.size, 1, none⟩ a1).setCell ⟨w.heap.size, 2, none⟩ a2).ownsRow (w.heap.size + 1) 236 2 v1 m (attC l) ∧ Below w.heap.size w (((w1.setCell ⟨w.heap.size, 0, none⟩ a0).setCell ⟨w.heap.size, 1, none⟩ a1).setCell ⟨w.heap.size, 2, none⟩ a2)) := hrest
    obtain ⟨g, cc, rfl⟩ : ∃ g cc, v1 = .slice (some ⟨g, 0, none⟩) m cc := by
      rcases hown1 with ⟨_, ⟨e, _⟩ | ⟨g, c, cur, e, _⟩⟩
      · exact absurd e hnil
      · exact ⟨g, c, e⟩
    have r0 := hlx.cell (i := 0) rfl
    have r1 := hlx.cell (i := 1) rfl
    have r2 := hlx.cell (i := 2) rfl
    have f0 := hlx.free 0
    have f1 := hlx.free 1
    have f2 := hlx.free 2
    clear hown1 hg1 hnil hb1' hrest hlx hW1
    go_wp2_with fail
    refine bodyPost_ret (v := .agg #[.string nm, .slice (some ⟨g, 0, none⟩) m cc, .slice none 0 0]) ?_ rfl ?_
    · rw [results_cell1 rfl]
      go_simp
    · exact ⟨g, cc, rfl, (HRs.out _ _ _).1, (HRs.out _ _ _).2⟩
set_option maxHeartbeats 4000000 in
set_option maxRecDepth 100000 in
theorem wto_any (tb : Nat) (a : Option Addr) (cap : Nat) (ns : List Nod) (rs : Nat → Raw) (j : Nat) (w : World) (hm : ModIn w a ns rs) (hj : j < ns.length) :
    Calls Tryz.prog 207 #[chkV tb a ns.length cap, .int .i64 j] w fun e w' => e = .returned (attV ⟨#[116, 111]⟩ (nd ns j).id) ∧ Below w.heap.size w w' := by
  have hl := hm.len
  obtain ⟨b, o, rfl, hc⟩ := hm.cells j hj
  have hc1 := hc.c1
  have hbw : b < w.heap.size := lt_of_cell hc1
  obtain ⟨n, hn⟩ : ∃ n, ns.length = n := ⟨_, rfl⟩
  rw [hn] at hj hl
  unfold chkV tabV
  simp only [SlV, hn, Option.map_some]
  obtain ⟨id, hid⟩ : ∃ x, (nd ns j).id = x := ⟨_, rfl⟩
  rw [hid] at hc1 ⊢
  have hjb : (j : Int) < n := by omega
  clear hc hm hn hid
  obtain ⟨W1, hW1⟩ : ∃ W, (w.alloc (.cells #[.slice (some ⟨tb, 0, none⟩) 12 12, .slice (some ⟨b, o, none⟩) n cap] 234)).alloc (.cells #[.string ⟨#[]⟩, .string ⟨#[]⟩] 236) = W := ⟨_, rfl⟩
  have HB1 : Hid (Below w.heap.size w W1) := by rw [← hW1]; exact ((b1 _ _).alloc (by simp) _)
  have HR1 : Hid (lstIs W1 (w.heap.size + 1) 236 [.string ⟨#[]⟩, .string ⟨#[]⟩]) := by
    rw [← hW1]
    have := lstIs.new (w.alloc (.cells #[.slice (some ⟨tb, 0, none⟩) 12 12, .slice (some ⟨b, o, none⟩) n cap] 234)) [.string ⟨#[]⟩, .string ⟨#[]⟩] 236
    rw [show (w.alloc (.cells #[.slice (some ⟨tb, 0, none⟩) 12 12, .slice (some ⟨b, o, none⟩) n cap] 234)).heap.size = w.heap.size + 1 by simp] at this
    exact this
  have q1 : W1.cell? ⟨w.heap.size, 1, none⟩ = some (.slice (some ⟨b, o, none⟩) n cap) := by rw [← hW1]; simp [go_sem]
  have q2 : W1.cell? ⟨b, o + j * 10 + 1, none⟩ = some (.string id) := (HB1.out.cell (p := ⟨b, _, none⟩) hbw).trans hc1
  have hat := attr_any ⟨#[116, 111]⟩ id W1
  go_enter Tryz.func207, Tryz.ntmps207
  go_wp2_with fail
  refine hat.mono ?_
  rintro e w2 ⟨rfl, hb2⟩
  have HB2 : Hid (Below w.heap.size w w2) := HB1.out.trans (hb2.mono HB1.out.size)
  have hl2 := HR1.out.at (hb2.block _ HR1.out.lt)
  have r0 := hl2.cell (i := 0) rfl
  have r1 := hl2.cell (i := 1) rfl
  have f0 := hl2.free 0
  have f1 := hl2.free 1
  clear hat hb2 hW1 q1 q2 hl2
  go_wp2_with fail
  refine bodyPost_ret (v := attV ⟨#[116, 111]⟩ id) ?_ rfl ?_
  · rw [results_cell1 rfl]
    go_simp
  · exact ⟨rfl, (HB2.out.setCell (by simp) _).setCell (by simp) _⟩
end Go.Proofs.YtjkpbpgeedihhaaGreatDoor
