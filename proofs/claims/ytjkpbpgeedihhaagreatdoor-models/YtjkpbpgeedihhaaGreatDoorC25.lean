import Derived.Test.YtjkpbpgeedihhaaGreatDoorC24
import Derived.Deep.RegionHeld3
set_option linter.all false
namespace Go.Proofs.YtjkpbpgeedihhaaGreatDoor
open Go.RowKit
open M
theorem Own.on {B : Nat} {w W X : World} {v : Value} {l : List Int} (h : Own B w W v l) (hb : Below W.heap.size W X) : Own B w X v l :=
  ⟨own_below h.row hb, h.bel.trans (hb.mono h.sz), Nat.le_trans h.sz hb.size⟩
theorem lit_tail (W : World) (x : Int) (H : Nat) (hH : W.heap.size = H) : Tail (W.alloc (.cells #[.int .i64 x] 3)) (.slice (some ⟨H, 0, none⟩) 1 1) [x] := by
  subst hH
  refine Or.inr ⟨⟨W.heap.size, 0, none⟩, 1, rfl, fun i hi => ⟨W.heap.size, 0, rfl, ?_⟩⟩
  match i, hi with
  | 0, _ => simp [go_sem]
set_option maxHeartbeats 4000000 in
set_option maxRecDepth 100000 in
theorem timely_any (n : Nod) (r : Raw) (w : World) (hn : NodIn w n r) (hr : RawOk r) (hcl : n.cases.length ≤ 6) (hbl : n.branches.length ≤ 6) :
    Calls Tryz.prog 285 #[.agg (nodV n r)] w fun e w' => ∃ v, e = .returned v ∧ Own w.heap.size w w' v (timelyL n) := by
  obtain ⟨W1, hW1⟩ : ∃ W1, w.alloc (.cells (nodV n r) 87) = W1 := ⟨_, rfl⟩
  have HB1 : Hid (Below w.heap.size w W1) := by rw [← hW1]; exact b1 _ _
  have HS1 : Hid (w.heap.size ≤ W1.heap.size) := HB1.out.size
  have HX : Hid (NodBox W1 w.heap.size n r) := by rw [← hW1]; exact NodBox.new w n r
  have HNi : Hid (NodIn W1 n r) := hn.below HB1.out
  have HRw : Hid (RawOk r) := hr
  obtain ⟨TO, hTO⟩ : ∃ x, optL n.to = x := ⟨_, rfl⟩
  obtain ⟨EL, hEL⟩ : ∃ x, optL n.els = x := ⟨_, rfl⟩
  have HTi : Hid (timelyL n = TO ++ n.cases.map (·.to) ++ EL ++ n.branches) := by rw [← hTO, ← hEL]; exact rfl
  have HTO : Hid (optL n.to = TO ∧ TO.length ≤ 1) := ⟨hTO, by rw [← hTO]; exact optL_len _⟩
  have HEL : Hid (optL n.els = EL ∧ EL.length ≤ 1) := ⟨hEL, by rw [← hEL]; exact optL_len _⟩
  have hpres := present_one W1.heap.size 0 1 n.to (W1.alloc (.cells #[.int .i64 n.to] 3)) (by simp [go_sem])
  rw [hTO] at hpres
  have HPE : Hid (∀ X : World, Calls Tryz.prog 351 #[.slice (some ⟨X.heap.size, 0, none⟩) 1 1] (X.alloc (.cells #[.int .i64 n.els] 3)) fun e w' => ∃ v, e = .returned v ∧ Own (X.alloc (.cells #[.int .i64 n.els] 3)).heap.size (X.alloc (.cells #[.int .i64 n.els] 3)) w' v EL) := fun X => by rw [← hEL]; exact present_one X.heap.size 0 1 n.els (X.alloc (.cells #[.int .i64 n.els] 3)) (by simp [go_sem])
  clear hn hr hTO hEL
  obtain ⟨nc, hnc⟩ : ∃ x, n.cases.length = x := ⟨_, rfl⟩
  have HNC : Hid (n.cases.length = nc) := hnc
  obtain ⟨c0, c1, c2, c3, c4, c5, c6, c7, c8, c9⟩ := HX.out
  simp only [SlV] at c5 c7
  unfold nodV at hW1 ⊢
  simp only [SlV] at hW1 ⊢
  rw [hnc] at c5 hW1 hcl ⊢
  clear hnc
  go_enter Tryz.func285, Tryz.ntmps285
  go_wp2_with fail
  refine hpres.mono ?_
  rintro e w2 ⟨v1, rfl, hO⟩
  have HO : Hid (Own W1.heap.size W1 w2 v1 TO) := hO.here (by simp) (b1 _ _)
  clear hO hpres hW1 c0 c1 c2 c3 c4 c5 c6 c7 c8 c9
  obtain ⟨c0, c1, c2, c3, c4, c5, c6, c7, c8, c9⟩ := HX.out.below HO.out.bel
  simp only [SlV] at c5 c7
  rw [HNC.out] at c5
  go_wp2_with fail
  clear c0 c1 c2 c3 c4 c5 c6 c7 c8 c9
  go_loopw [3, 13] (fun v i wr => ∃ k : Nat, k ≤ nc ∧ i = .int .i64 k ∧ Own W1.heap.size W1 wr v (TO ++ (n.cases.take k).map (·.to))) (fun _ i _ => nc - (intOf i).toNat)
  case atStart => exact ⟨0, by omega, rfl, by have := HO.out; simpa using this⟩
  case round =>
    obtain ⟨k, hk, rfl, hO2⟩ := hrel
    have HO2 : Hid (Own W1.heap.size W1 wr u3 (TO ++ (n.cases.take k).map (·.to))) := hO2
    clear hO2
    by_cases hlt : k < nc
    · obtain ⟨cb, co, ec, d0, d1, d2, d3⟩ := (HNi.out.below HO2.out.bel).cs k (by rw [HNC.out]; exact hlt)
      rw [ec]
      try simp only [Option.map_some]
      obtain ⟨cc, hcc⟩ : ∃ x, n.cases.getD k Cas.zero = x := ⟨_, rfl⟩
      rw [hcc] at d0 d1 d2 d3
      have hkk : TO ++ (n.cases.take (k + 1)).map (·.to) = (TO ++ (n.cases.take k).map (·.to)) ++ [cc.to] := by
        rw [take_getD_succ Cas.zero _ k (by rw [HNC.out]; exact hlt), hcc]; simp
      have HKK : Hid (TO ++ (n.cases.take (k + 1)).map (·.to) = (TO ++ (n.cases.take k).map (·.to)) ++ [cc.to]) := hkk
      obtain ⟨L, hL⟩ : ∃ x, TO ++ (n.cases.take k).map (·.to) = x := ⟨_, rfl⟩
      have hLl : L.length ≤ 7 := by have := HNC.out; have := HTO.out.2; rw [← hL]; simp; omega
      rw [hL] at HO2 HKK
      clear hkk hL hcc ec
      have hkb : (k : Int) < nc := by omega
      go_wp2_with (at_builtin; go_must (refine wpList_append_tail rfl (.tmp 17) (.tmp 20) rfl W1.heap.size W1 _ _ rfl ((HO2.out.alloc _).alloc _) _ [cc.to] rfl (lit_tail _ _ _ (by simp)) (by simp; omega) ?_))
      intro v3 w3 hO3 _
      have HO3 : Hid (Own W1.heap.size W1 w3 v3 (L ++ [cc.to])) := hO3
      clear hO3 d0 d1 d2 d3
      go_wp2_with fail
      exact ⟨⟨k + 1, by omega, by go_num, by rw [HKK.out]; exact HO3.out⟩, by simp [intOf]; omega⟩
    · have hO2 := HO2.out
      rw [List.take_of_length_le (by rw [HNC.out]; omega)] at hO2
      obtain ⟨L, hL⟩ : ∃ x, TO ++ n.cases.map (·.to) = x := ⟨_, rfl⟩
      have hLl : L.length ≤ 7 := by have := HNC.out; have := HTO.out.2; rw [← hL]; simp; omega
      rw [hL] at hO2 HTi
      have HOL : Hid (Own W1.heap.size W1 wr u3 L) := hO2
      clear hO2 HO2 hL
      obtain ⟨c0, c1, c2, c3, c4, c5, c6, c7, c8, c9⟩ := HX.out.below HOL.out.bel
      simp only [SlV] at c5 c7
      have hpe := HPE.out wr
      have HEl := HEL.out.2
      go_wp2_with fail
      refine hpe.mono ?_
      rintro e w4 ⟨v4, rfl, hO4⟩
      have HO4 : Hid (Own wr.heap.size wr w4 v4 EL) := hO4.here (by simp) (b1 _ _)
      have HOL4 : Hid (Own W1.heap.size W1 w4 u3 L) := HOL.out.on HO4.out.bel
      clear hpe hO4 c0 c1 c2 c3 c4 c5 c6 c7 c8 c9
      go_wp2_with (at_builtin; go_must (refine wpList_append_tail rfl (.tmp 23) (.tmp 27) rfl W1.heap.size W1 _ _ rfl HOL4.out _ EL rfl HO4.out.tail (by omega) ?_))
      intro v5 w5 hO5 _
      have HO5 : Hid (Own W1.heap.size W1 w5 v5 (L ++ EL)) := hO5
      clear hO5
      obtain ⟨L2, hL2⟩ : ∃ x, L ++ EL = x := ⟨_, rfl⟩
      have hL2l : L2.length ≤ 8 := by rw [← hL2]; simp; omega
      rw [hL2] at HO5 HTi
      clear hL2
      obtain ⟨c0, c1, c2, c3, c4, c5, c6, c7, c8, c9⟩ := HX.out.below HO5.out.bel
      have HTl : Hid (Tail w5 (SlV r.ba n.branches.length r.bc) n.branches) := tail_raw (HNi.out.below HO5.out.bel).bs HRw.out.b
      obtain ⟨V7, hV7⟩ : ∃ V, SlV r.ba n.branches.length r.bc = V := ⟨_, rfl⟩
      rw [hV7] at c7 HTl
      simp only [SlV] at c5
      go_wp2_with (at_builtin; go_must (refine wpList_append_tail rfl (.tmp 29) (.tmp 31) rfl W1.heap.size W1 _ _ rfl HO5.out _ n.branches rfl HTl.out (by omega) ?_))
      intro v6 w6 hO6 _
      have HO6 : Hid (Own W1.heap.size W1 w6 v6 (L2 ++ n.branches)) := hO6
      clear hO6
      go_wp2_with fail
      go_ret
      exact ⟨_, rfl, by rw [HTi.out]; exact HO6.out.here HS1.out HB1.out⟩
end Go.Proofs.YtjkpbpgeedihhaaGreatDoor
namespace Go.Proofs.YtjkpbpgeedihhaaGreatDoor
open Go.RowKit
open M
theorem step_append_tail {W : World} {ops : Array Oper} {o : Oper} {a : Act} {K : Act → World → Prop} {Q : Exit → Act → World → Prop} {E : Prop} (hgd : o.guard = none) (s x : Operand)
    (ho : o.op = .call { callee := .builtin .append, args := #[s, x], argTypes := #[35, 35] }) (B : Nat) (w : World) (v : Value) (l : List Int) (hs : a.eval s = v) (hO : Own B w W v l)
    (v2 : Value) (m : List Int) (hx : a.eval x = v2) (h2 : Tail W v2 m) (hlen : l.length + m.length ≤ 1000)
    (h : ∀ v' w', Own B w w' v' (l ++ m) → K (a.put o.dst v') w') : if Region.wanted o (yielded ops a.tmps) = true then Oper.wp Tryz.prog o a W K Q else E := by
  have hw : Region.wanted o (yielded ops a.tmps) = true := by simp [Region.wanted, hgd]
  rw [if_pos hw]
  obtain ⟨i0, hi, hz0, hz1, hz2⟩ := info_parts Tryz.info3
  rcases h2 with ⟨rfl, rfl⟩ | ⟨A, c, rfl, hin⟩
  · have hrun := run_append_owned_none (P := Tryz.prog) (w := W) B 35 o.type 3 i0 1 Tryz.underlying35 hi v _ _ hO.row
    have hk := h v W (by rw [List.append_nil]; exact hO)
    unfold Oper.wp
    simp [execOp, ho, resolve, invoke, builtin, hs, hx, hrun, Result.andThen]
    exact hk
  · refine wp_append_own _ s x 35 ho B 3 i0 (.int .i64 0) 1 8 Tryz.underlying35 hi hz0 hz1 hz2 rfl (by decide) v _ _ hs hO.row A m.length c (iv m) hx (by simp [iv]) (ints_c1 hin) (ints_c2 m) (by unfold maxLen; omega) (by omega) hO.sz ?_
    intro v' w' hown hg _
    exact h v' w' (Own.step hO hown (by simp) (by rw [iv_app]) hg)
def BoxS (b : Nat) (n : Nod) (V5 V7 : Value) (w' : World) : Prop := w'.cell? ⟨b, 0, none⟩ = some (.int .i64 n.kind) ∧ w'.cell? ⟨b, 1, none⟩ = some (.string n.id) ∧ w'.cell? ⟨b, 2, none⟩ = some (.string n.name) ∧ w'.cell? ⟨b, 3, none⟩ = some (.int .i64 n.up) ∧ w'.cell? ⟨b, 4, none⟩ = some (.int .i64 n.to) ∧ w'.cell? ⟨b, 5, none⟩ = some V5 ∧ w'.cell? ⟨b, 6, none⟩ = some (.int .i64 n.els) ∧ w'.cell? ⟨b, 7, none⟩ = some V7 ∧ w'.cell? ⟨b, 8, none⟩ = some (.int .i64 n.after) ∧ w'.cell? ⟨b, 9, none⟩ = some (.int .i64 n.late)
set_option maxHeartbeats 4000000 in
set_option maxRecDepth 100000 in
theorem ways_all (n : Nod) (r : Raw) (w : World) (hn : NodIn w n r) (hr : RawOk r) (hcl : n.cases.length ≤ 6) (hbl : n.branches.length ≤ 6) :
    Calls Tryz.prog 280 #[.agg (nodV n r)] w fun e w' => ∃ v, e = .returned v ∧ Own w.heap.size w w' v (outL n) := by
  obtain ⟨W1, hW1⟩ : ∃ W1, w.alloc (.cells (nodV n r) 87) = W1 := ⟨_, rfl⟩
  have HB1 : Hid (Below w.heap.size w W1) := by rw [← hW1]; exact b1 _ _
  have HS1 : Hid (w.heap.size ≤ W1.heap.size) := HB1.out.size
  have HX : Hid (NodBox W1 w.heap.size n r) := by rw [← hW1]; exact NodBox.new w n r
  have HNi : Hid (NodIn W1 n r) := hn.below HB1.out
  have HTw : Hid (∀ X, Below W1.heap.size W1 X → Calls Tryz.prog 285 #[.agg (nodV n r)] X fun e w' => ∃ v, e = .returned v ∧ Own X.heap.size X w' v (timelyL n)) := fun X hX => timely_any n r X (HNi.out.below hX) hr hcl hbl
  have HPr : Hid (∀ (X Y : World) (g : Nat), Y.cell? ⟨g, 0, none⟩ = some (.int .i64 n.late) → Calls Tryz.prog 351 #[.slice (some ⟨g, 0, none⟩) 1 1] Y fun e w' => ∃ v, e = .returned v ∧ Own Y.heap.size Y w' v (optL n.late)) := fun X Y g h => present_one g 0 1 n.late Y h
  have hlo : (timelyL n).length + (optL n.late).length ≤ 1000 := by
    have h1 := optL_len n.to
    have h2 := optL_len n.els
    have h3 := optL_len n.late
    simp only [timelyL, List.length_append, List.length_map]
    omega
  have HOu : Hid (outL n = timelyL n ++ optL n.late) := rfl
  obtain ⟨TI, hTI⟩ : ∃ x, timelyL n = x := ⟨_, rfl⟩
  obtain ⟨LA, hLA⟩ : ∃ x, optL n.late = x := ⟨_, rfl⟩
  rw [hTI] at HTw hlo HOu
  rw [hLA] at HPr hlo HOu
  have HK : Hid (∀ X, Below W1.heap.size W1 X → BoxS w.heap.size n (SlV r.ca n.cases.length r.cc) (SlV r.ba n.branches.length r.bc) X) := fun X hX => by
    have := HX.out.below hX
    exact ⟨this.c0, this.c1, this.c2, this.c3, this.c4, this.c5, this.c6, this.c7, this.c8, this.c9⟩
  clear hn hr hcl hbl hTI hLA
  unfold nodV at hW1 HTw ⊢
  simp only [SlV] at hW1 HTw HK ⊢
  obtain ⟨A5, hA5⟩ : ∃ A, r.ca = A := ⟨_, rfl⟩
  obtain ⟨A7, hA7⟩ : ∃ A, r.ba = A := ⟨_, rfl⟩
  rw [hA5, hA7] at hW1 HTw HK ⊢
  clear hA5 hA7
  have hT1 : Hid (Calls Tryz.prog 285 #[.agg #[.int .i64 n.kind, .string n.id, .string n.name, .int .i64 n.up, .int .i64 n.to, .slice A5 n.cases.length r.cc, .int .i64 n.els, .slice A7 n.branches.length r.bc, .int .i64 n.after, .int .i64 n.late]] W1.drew fun e w' => ∃ v, e = .returned v ∧ Own W1.heap.size W1 w' v TI) :=
    (HTw.out W1.drew (below_drewN (Below.refl _ _) 1)).mono fun e w' ⟨v, he, hO⟩ => ⟨v, he, hO.here (Nat.le_refl _) (below_drewN (Below.refl _ _) 1)⟩
  have hT2 : Hid (Calls Tryz.prog 285 #[.agg #[.int .i64 n.kind, .string n.id, .string n.name, .int .i64 n.up, .int .i64 n.to, .slice A5 n.cases.length r.cc, .int .i64 n.els, .slice A7 n.branches.length r.bc, .int .i64 n.after, .int .i64 n.late]] (W1.alloc (.cells #[.int .i64 n.late] 3)).drew fun e w' => ∃ v, e = .returned v ∧ Own W1.heap.size W1 w' v TI ∧ w'.cell? ⟨W1.heap.size, 0, none⟩ = some (.int .i64 n.late)) :=
    (HTw.out (W1.alloc (.cells #[.int .i64 n.late] 3)).drew (below_drewN (b1 _ _) 1)).mono fun e w' ⟨v, he, hO⟩ => ⟨v, he, hO.here (show W1.heap.size ≤ (W1.alloc (.cells #[.int .i64 n.late] 3)).heap.size by simp) (below_drewN (b1 _ _) 1), (hO.bel.cell (p := ⟨W1.heap.size, 0, none⟩) (show W1.heap.size < (W1.alloc (.cells #[.int .i64 n.late] 3)).heap.size by simp)).trans (show (W1.alloc (.cells #[.int .i64 n.late] 3)).cell? ⟨W1.heap.size, 0, none⟩ = _ by simp [go_sem])⟩
  have hP1 : Hid (∀ X : World, Calls Tryz.prog 351 #[.slice (some ⟨X.heap.size, 0, none⟩) 1 1] (X.alloc (.cells #[.int .i64 n.late] 3)) fun e w' => ∃ v, e = .returned v ∧ Below X.heap.size X w' ∧ Tail w' v LA) := fun X =>
    (HPr.out X (X.alloc (.cells #[.int .i64 n.late] 3)) X.heap.size (by simp [go_sem])).mono fun e w' ⟨v, he, hO⟩ => ⟨v, he, (b1 _ _).trans (hO.bel.mono (by simp)), hO.tail⟩
  have hP2 : Hid (∀ X : World, X.cell? ⟨W1.heap.size, 0, none⟩ = some (.int .i64 n.late) → Calls Tryz.prog 351 #[.slice (some ⟨W1.heap.size, 0, none⟩) 1 1] X fun e w' => ∃ v, e = .returned v ∧ Below X.heap.size X w' ∧ Tail w' v LA) := fun X hX =>
    (HPr.out X X W1.heap.size hX).mono fun e w' ⟨v, he, hO⟩ => ⟨v, he, hO.bel, hO.tail⟩
  have hTq : Hid (∀ X, (X = W1.drew ∨ X = (W1.alloc (.cells #[.int .i64 n.late] 3)).drew) → Calls Tryz.prog 285 #[.agg #[.int .i64 n.kind, .string n.id, .string n.name, .int .i64 n.up, .int .i64 n.to, .slice A5 n.cases.length r.cc, .int .i64 n.els, .slice A7 n.branches.length r.bc, .int .i64 n.after, .int .i64 n.late]] X fun e w' => ∃ v, e = .returned v ∧ Own W1.heap.size W1 w' v TI ∧ (X = W1.drew ∨ w'.cell? ⟨W1.heap.size, 0, none⟩ = some (.int .i64 n.late))) := fun X hX => by
    rcases hX with rfl | rfl
    · exact hT1.out.mono fun e w' ⟨v, he, hO⟩ => ⟨v, he, hO, Or.inl rfl⟩
    · exact hT2.out.mono fun e w' ⟨v, he, hO, hc⟩ => ⟨v, he, hO, Or.inr hc⟩
  have hPq : Hid (∀ (X : World) (g : Nat), X.cell? ⟨g, 0, none⟩ = some (.int .i64 n.late) → Calls Tryz.prog 351 #[.slice (some ⟨g, 0, none⟩) 1 1] X fun e w' => ∃ v, e = .returned v ∧ Below X.heap.size X w' ∧ Tail w' v LA) := fun X g hX =>
    (HPr.out X X g hX).mono fun e w' ⟨v, he, hO⟩ => ⟨v, he, hO.bel, hO.tail⟩
  have hcA : Hid (∀ X : World, (X.alloc (.cells #[.int .i64 n.late] 3)).cell? ⟨X.heap.size, 0, none⟩ = some (.int .i64 n.late)) := fun X => by simp [go_sem]
  clear hT1 hT2 hP1 hP2
  clear HTw HPr
  go_enter Tryz.func280, Tryz.ntmps280
  go_wp2_with fail
  clear hW1
  have hkk := HK.out
  unfold BoxS at hkk
  have HKK : Hid (∀ X, Below W1.heap.size W1 X → Below W1.heap.size W1 X ∧ (X.cell? ⟨w.heap.size, 0, none⟩ = some (.int .i64 n.kind) ∧ X.cell? ⟨w.heap.size, 1, none⟩ = some (.string n.id) ∧ X.cell? ⟨w.heap.size, 2, none⟩ = some (.string n.name) ∧ X.cell? ⟨w.heap.size, 3, none⟩ = some (.int .i64 n.up) ∧ X.cell? ⟨w.heap.size, 4, none⟩ = some (.int .i64 n.to) ∧ X.cell? ⟨w.heap.size, 5, none⟩ = some (.slice A5 n.cases.length r.cc) ∧ X.cell? ⟨w.heap.size, 6, none⟩ = some (.int .i64 n.els) ∧ X.cell? ⟨w.heap.size, 7, none⟩ = some (.slice A7 n.branches.length r.bc) ∧ X.cell? ⟨w.heap.size, 8, none⟩ = some (.int .i64 n.after) ∧ X.cell? ⟨w.heap.size, 9, none⟩ = some (.int .i64 n.late))) := fun X hX => ⟨hX, hkk X hX⟩
  clear hkk
  go_region_held3 (fun w' => Below W1.heap.size W1 w' ∧ (w'.cell? ⟨w.heap.size, 0, none⟩ = some (.int .i64 n.kind) ∧ w'.cell? ⟨w.heap.size, 1, none⟩ = some (.string n.id) ∧ w'.cell? ⟨w.heap.size, 2, none⟩ = some (.string n.name) ∧ w'.cell? ⟨w.heap.size, 3, none⟩ = some (.int .i64 n.up) ∧ w'.cell? ⟨w.heap.size, 4, none⟩ = some (.int .i64 n.to) ∧ w'.cell? ⟨w.heap.size, 5, none⟩ = some (.slice A5 n.cases.length r.cc) ∧ w'.cell? ⟨w.heap.size, 6, none⟩ = some (.int .i64 n.els) ∧ w'.cell? ⟨w.heap.size, 7, none⟩ = some (.slice A7 n.branches.length r.bc) ∧ w'.cell? ⟨w.heap.size, 8, none⟩ = some (.int .i64 n.after) ∧ w'.cell? ⟨w.heap.size, 9, none⟩ = some (.int .i64 n.late)))
    ((refine HKK.out _ ?_; first | exact below_drewN (Below.refl _ _) 1 | exact below_drewN (b1 _ _) 1 | exact HO4.out.bel | exact HO3.out.bel | exact HO2.out.bel | exact HO2.out.bel.alloc HO2.out.sz _ | fail))
    ((first
      | (go_at_call 285; refine (hTq.out _ (by first | exact Or.inl rfl | exact Or.inr rfl)).mono ?_; rintro e w2 ⟨v2, rfl, hO2, hc2⟩; have HO2 : Hid (Own W1.heap.size W1 w2 v2 TI) := hO2; have HC2 : Hid (_ ∨ w2.cell? ⟨W1.heap.size, 0, none⟩ = some (.int .i64 n.late)) := hc2; clear hO2 hc2)
      | (go_at_call 351; refine (hPq.out _ _ (by first | exact hcA.out w2 | exact HC2.out.resolve_left (fun e => by have := congrArg (fun W : World => W.heap.size) e; simp at this))).mono ?_; rintro e w3 ⟨v3, rfl, hb3, ht3⟩; have HO3 : Hid (Own W1.heap.size W1 w3 v2 TI) := (by first | exact HO2.out.on hb3 | exact HO2.out.on ((b1 w2 _).trans (hb3.mono (by simp)))); have HT3 : Hid (Tail w3 v3 LA) := ht3; clear hb3 ht3)
      | (have hq := HT3.out; clear hq; refine step_append_tail (by rfl) (.tmp 4) (.tmp 8) (by rfl) W1.heap.size W1 _ _ (by rfl) HO3.out _ LA (by rfl) HT3.out hlo ?_; intro v4 w4 hO4; have HO4 : Hid (Own W1.heap.size W1 w4 v4 (TI ++ LA)) := hO4)
      | fail))
  all_goals (
    go_wp2_with fail
    go_ret
    exact ⟨_, rfl, by rw [HOu.out]; exact HO4.out.here HS1.out HB1.out⟩)
end Go.Proofs.YtjkpbpgeedihhaaGreatDoor
namespace Go.Proofs.YtjkpbpgeedihhaaGreatDoor
open Go.RowKit
open M FerryM
theorem lead_no {ns : List Nod} {k j m : Nat} (hk : k < m) (hj : j < (outL (nd ns k)).length) (h : ¬ WayOk ns k ((outL (nd ns k))[j]?.getD 0)) : (false = true) ↔ LeadTo ns m := ⟨fun h => (by cases h), fun hh => absurd (hh k hk j hj) h⟩
theorem LeadTo.next {ns : List Nod} {k : Nat} (h : LeadTo ns k) (h2 : WaysOk ns k (outL (nd ns k)) (outL (nd ns k)).length) : LeadTo ns (k + 1) := fun i hi => if e : i = k then (by subst e; exact h2) else h i (by omega)
set_option maxHeartbeats 4000000 in
set_option maxRecDepth 100000 in
theorem waysLead_any (tb : Nat) (a : Option Addr) (cap : Nat) (ns : List Nod) (rs : Nat → Raw) (w : World) (hm : ModIn w a ns rs) (hsh : Short ns rs) :
    Calls Tryz.prog 186 #[chkV tb a ns.length cap] w fun e w' => ∃ r, e = .returned (.bool r) ∧ (r = true ↔ LeadTo ns ns.length) ∧ Below w.heap.size w w' := by
  have hl := hm.len
  obtain ⟨n, hn⟩ : ∃ n, ns.length = n := ⟨_, rfl⟩
  have HN : Hid (ns.length = n) := hn
  have HMo : Hid (ModIn w a ns rs) := hm
  have HSh : Hid (Short ns rs) := hsh
  obtain ⟨A, hA⟩ : ∃ A, a = A := ⟨_, rfl⟩
  have HA : Hid (a = A) := hA
  unfold chkV tabV
  simp only [SlV]
  rw [hA, hn]
  rw [hn] at hl
  clear hm hn hA hsh
  obtain ⟨W1, hW1⟩ : ∃ W1, w.alloc (Obj.cells #[.slice (some ⟨tb, 0, none⟩) 12 12, .slice A n cap] 308) = W1 := ⟨_, rfl⟩
  have HB1 : Hid (Below w.heap.size w W1) := by rw [← hW1]; exact b1 _ _
  have HX : Hid (ChkBox W1 w.heap.size tb A n cap) := by rw [← hW1]; exact ChkBox.new _ _ _ _ _ _
  go_enter Tryz.func186, Tryz.ntmps186
  obtain ⟨x0, x1⟩ := HX.out
  go_wp2_with fail
  clear hW1 x0 x1
  go_loopw [10] (fun i wr => ∃ k : Nat, k ≤ n ∧ i = .int .i64 k ∧ Below W1.heap.size W1 wr ∧ LeadTo ns k) (fun i _ => n - (intOf i).toNat)
  case atStart => exact ⟨0, by omega, rfl, Below.refl _ _, fun i hi => by omega⟩
  case round =>
    obtain ⟨k, hk, rfl, hbw, hok⟩ := hrel
    have HLd : Hid (LeadTo ns k) := hok
    have HBW : Hid (Below W1.heap.size W1 wr) := hbw
    have HBw : Hid (Below w.heap.size w wr) := HB1.out.trans (hbw.mono HB1.out.size)
    clear hbw hok
    by_cases hlt : k < n
    · obtain ⟨b, o, ha, hcell⟩ := (HMo.out.below HBw.out).cells k (by rw [HN.out]; exact hlt)
      have hAa := HA.out
      rw [ha] at hAa
      try simp only [Option.map_some] at hAa
      subst hAa
      have HU : Hid (∀ W, Below w.heap.size w W → ∀ j, j < n → W.cell? ⟨b, o + j * 10 + 3, none⟩ = some (.int .i64 (upF ns j)) ∧ W.cell? ⟨b, o + j * 10, none⟩ = some (.int .i64 (kdF ns j))) := fun W hW j hj => by
        obtain ⟨b', o', e, h⟩ := (HMo.out.below hW).cells j (by rw [HN.out]; exact hj)
        rw [ha] at e
        cases e; exact ⟨h.c3, h.c0⟩
      have HNi : Hid (NodIn wr (nd ns k) (rs k)) := (HMo.out.below HBw.out).node k (by rw [HN.out]; exact hlt)
      have HUp : Hid (upF ns k = (nd ns k).up) := rfl
      have HOl : Hid ((nd ns k).cases.length ≤ 6 ∧ (nd ns k).branches.length ≤ 6 ∧ RawOk (rs k)) := ⟨HSh.out.c k (by rw [HN.out]; exact hlt), HSh.out.b k (by rw [HN.out]; exact hlt), HSh.out.r k (by rw [HN.out]; exact hlt)⟩
      obtain ⟨L, hL⟩ : ∃ L, outL (nd ns k) = L := ⟨_, rfl⟩
      have HLL : Hid (outL (nd ns k) = L) := hL
      obtain ⟨m, hm⟩ : ∃ m, L.length = m := ⟨_, rfl⟩
      have HM : Hid (L.length = m) := hm
      have hol : m ≤ 15 := by rw [← hm, ← hL]; exact outL_len HOl.out.1 HOl.out.2.1
      obtain ⟨nn, hnn⟩ : ∃ x, nd ns k = x := ⟨_, rfl⟩
      rw [hnn] at hcell HNi HOl hL HUp
      obtain ⟨rr, hrr⟩ : ∃ x, rs k = x := ⟨_, rfl⟩
      rw [hrr] at hcell HNi HOl
      obtain ⟨c0, c1, c2, c3, c4, c5, c6, c7, c8, c9⟩ := hcell
      simp only [SlV] at c5 c7
      have hkb : (k : Int) < n := by omega
      obtain ⟨W2, hW2⟩ : ∃ W2, wr.alloc (.cells (nodV nn rr) 87) = W2 := ⟨_, rfl⟩
      have HB2 : Hid (Below wr.heap.size wr W2) := by rw [← hW2]; exact b1 _ _
      have HX2 : Hid (NodBox W2 wr.heap.size nn rr) := by rw [← hW2]; exact NodBox.new _ _ _
      have HW2 : Hid (Below W1.heap.size W1 W2) := HBW.out.trans (HB2.out.mono HBW.out.size)
      obtain ⟨y0, y1, y2, y3, y4, y5, y6, y7, y8, y9⟩ := HX2.out
      simp only [SlV] at y5 y7
      have hcall := ways_all nn rr W2 (HNi.out.below HB2.out) HOl.out.2.2 HOl.out.1 HOl.out.2.1
      rw [hL] at hcall
      unfold nodV at hcall hW2
      simp only [SlV] at hcall hW2
      clear hnn hrr ha hL hm
      go_wp2_with fail
      refine hcall.mono ?_
      rintro e w3 ⟨v, rfl, hO⟩
      obtain ⟨a3, cap3, rfl, hints⟩ := hO.ints
      have HB3 : Hid (Below W1.heap.size W1 w3) := HW2.out.trans (hO.bel.mono HW2.out.size)
      have HB3w : Hid (Below w.heap.size w w3) := HB1.out.trans (HB3.out.mono HB1.out.size)
      have yu := (HX2.out.below hO.bel).c3
      rw [← HUp.out] at yu
      clear hcall hO hW2 c0 c1 c2 c3 c4 c5 c6 c7 c8 c9 y0 y1 y2 y3 y4 y5 y6 y7 y8 y9
      simp only [SlV]
      rw [HM.out]
      obtain ⟨x0, x1⟩ := HX.out.below HB3.out
      go_wp2_with fail
      go_loopw [17] (fun q wr => ∃ j d : Nat, j ≤ m ∧ q = .int .i64 j ∧ wr = w3.drewN d ∧ WaysOk ns k L j) (fun q _ => m - (intOf q).toNat)
      case atStart => exact ⟨0, 0, Nat.zero_le _, rfl, rfl, fun j hj => by omega⟩
      case round =>
        obtain ⟨j, d, hj, rfl, rfl, hok⟩ := hrel
        have HOk : Hid (WaysOk ns k L j) := hok
        clear hok
        by_cases hjm : j < m
        · obtain ⟨lb, lo, rfl, hcl⟩ := hints j (by rw [HM.out]; exact hjm)
          try simp only [Option.map_some]
          have hjb : (j : Int) < m := by omega
          obtain ⟨t, ht⟩ : ∃ t, L.getD j 0 = t := ⟨_, rfl⟩
          have HT : Hid (L[j]?.getD 0 = t) := ht
          rw [ht] at hcl
          clear ht
          by_cases h0 : 0 ≤ t
          · by_cases h1 : t < n
            · obtain ⟨v, rfl⟩ : ∃ v : Nat, t = v := ⟨t.toNat, by omega⟩
              obtain ⟨ut3, ut0⟩ := HU.out w3 HB3w.out v (by omega)
              have hd0 : decide ((v : Int) < 0) = false := by rw [decide_eq_false_iff_not]; omega
              have hdn : decide (n ≤ v) = false := by rw [decide_eq_false_iff_not]; omega
              obtain ⟨ua, hua⟩ : ∃ x, upF ns v = x := ⟨_, rfl⟩
              obtain ⟨ub, hub⟩ : ∃ x, upF ns k = x := ⟨_, rfl⟩
              obtain ⟨kv, hkv⟩ : ∃ x, kdF ns v = x := ⟨_, rfl⟩
              have HUa : Hid (upF ns v = ua) := hua
              have HUb : Hid (upF ns k = ub) := hub
              have HKv : Hid (kdF ns v = kv) := hkv
              rw [hua] at ut3
              rw [hub] at yu
              rw [hkv] at ut0
              clear hua hub hkv
              by_cases hu : ua = ub
              · have hu' : (ua != ub) = false := by simpa using hu
                have HUU : Hid (ua = ub) := hu
                clear hu
                by_cases hk1 : kv = 1
                · have hk1' : (kv == 1) = true := by simpa using hk1
                  have HK1 : Hid (kv = 1) := hk1
                  clear hk1
                  go_wp2_with fail
                  go_quiet (fail)
                  go_wp2_with fail
                  go_ret
                  exact ⟨_, rfl, lead_no (k := k) (j := j) hlt (by rw [HLL.out, HM.out]; exact hjm) (fun h => h.2.2.2 (by rw [HLL.out, HT.out]; simp [HKv.out, HK1.out])), below_drewN (below_drewN HB3w.out _) _⟩
                · have hk1' : (kv == 1) = false := by simpa using hk1
                  have HK1 : Hid (kv ≠ 1) := hk1
                  clear hk1
                  go_wp2_with fail
                  go_quiet (fail)
                  go_wp2_with fail
                  have HNx : Hid (WaysOk ns k L (j + 1)) := by
                    intro i hi
                    by_cases e : i < j
                    · exact HOk.out i e
                    · obtain rfl : i = j := by omega
                      rw [HT.out]
                      exact ⟨by omega, by rw [HN.out]; omega, by simp [HUa.out, HUb.out, HUU.out], by simp [HKv.out, HK1.out]⟩
                  exact ⟨⟨j + 1, d + nq, by omega, by go_num, rfl, HNx.out⟩, by simp [intOf]; omega⟩
              · have hu' : (ua != ub) = true := by simpa using hu
                have HUU : Hid (ua ≠ ub) := hu
                clear hu
                go_wp2_with fail
                go_quiet (fail)
                go_wp2_with fail
                go_ret
                exact ⟨_, rfl, lead_no (k := k) (j := j) hlt (by rw [HLL.out, HM.out]; exact hjm) (fun h => HUU.out (by have := h.2.2.1; rw [HLL.out, HT.out] at this; simpa [HUa.out, HUb.out] using this)), below_drewN (below_drewN HB3w.out _) _⟩
            · have hd0 : decide (t < 0) = false := by rw [decide_eq_false_iff_not]; omega
              have hdn : decide ((n : Int) ≤ t) = true := by rw [decide_eq_true_iff]; omega
              have HT1 : Hid (¬ t < n) := h1
              clear h0 h1
              go_wp2_with fail
              go_quiet (fail)
              go_wp2_with fail
              go_ret
              exact ⟨_, rfl, lead_no (k := k) (j := j) hlt (by rw [HLL.out, HM.out]; exact hjm) (fun h => by have h1 := h.2.1; rw [HLL.out, HT.out, HN.out] at h1; have h2 := HT1.out; omega), below_drewN (below_drewN HB3w.out _) _⟩
          · have hd0 : decide (t < 0) = true := by rw [decide_eq_true_iff]; omega
            have HT0 : Hid (¬ 0 ≤ t) := h0
            clear h0
            go_wp2_with fail
            go_quiet (fail)
            go_wp2_with fail
            go_ret
            exact ⟨_, rfl, lead_no (k := k) (j := j) hlt (by rw [HLL.out, HM.out]; exact hjm) (fun h => by have h1 := h.1; rw [HLL.out, HT.out] at h1; have h2 := HT0.out; omega), below_drewN (below_drewN HB3w.out _) _⟩
        · obtain rfl : j = m := by omega
          have HNx : Hid (LeadTo ns (k + 1)) := HLd.out.next (by rw [HLL.out, HM.out]; exact HOk.out)
          go_wp2_with fail
          exact ⟨⟨k + 1, by omega, by go_num, below_drewN HB3.out _, HNx.out⟩, by simp [intOf]; omega⟩
    · obtain rfl : k = n := by omega
      go_wp2_with fail
      go_ret
      exact ⟨_, rfl, ⟨fun _ => HLd.out, fun _ => rfl⟩, HBw.out⟩
end Go.Proofs.YtjkpbpgeedihhaaGreatDoor
namespace Go.Proofs.YtjkpbpgeedihhaaGreatDoor
open Go.RowKit
open M FerryM
theorem enough_no {ns : List Nod} {k m : Nat} (hk : k < m) (h : ¬ Enough ns k) : (false = true) ↔ EnoughTo ns m := ⟨fun h => (by cases h), fun hh => absurd (hh k hk) h⟩
theorem enough_iff (ns : List Nod) (i : Nat) : Enough ns i ↔ ¬ ((waysTo ns i ns.length : Int) < needF (kdF ns i)) := by
  unfold Enough needF
  by_cases h1 : kdF ns i = 1
  · rw [if_pos h1]; simp [h1]
  · rw [if_neg h1]
    by_cases h5 : kdF ns i = 5
    · rw [if_pos h5]; simp [h5]; omega
    · rw [if_neg h5]; simp [h1, h5]; omega
theorem ways_next {ns : List Nod} {k m : Nat} {L : List Int} (hL : outL (nd ns k) = L) (hm : L.length = m) (x : Int) : waysTo ns x (k + 1) = waysTo ns x k + cntL L x m := by
  show waysTo ns x k + cntL (outL (nd ns k)) x (outL (nd ns k)).length = _
  rw [hL, hm]
set_option maxHeartbeats 4000000 in
set_option maxRecDepth 100000 in
/-- How many of a list's places are this one. -/
theorem pcount_any (x : Int) (a : Option Addr) (L : List Int) (cap : Nat) (w : World) (hin : IntsIn w a L) (hlen : L.length ≤ 1000) :
    Calls Tryz.prog 310 #[SlV a L.length cap, .int .i64 x] w fun e w' => e = .returned (.int .i64 (cntL L x L.length : Nat)) ∧ w' = w := by
  obtain ⟨m, hm⟩ : ∃ m, L.length = m := ⟨_, rfl⟩
  have HM : Hid (L.length = m) := hm
  have HIn : Hid (IntsIn w a L) := hin
  simp only [SlV]
  rw [hm]
  rw [hm] at hlen
  clear hm hin
  obtain ⟨A, hA⟩ : ∃ A, a = A := ⟨_, rfl⟩
  have HA : Hid (a = A) := hA
  rw [hA]
  clear hA
  go_enter Tryz.func310, Tryz.ntmps310
  go_wp2_with fail
  go_loop [5, 10] (fun s i => ∃ k : Nat, k ≤ m ∧ i = .int .i64 k ∧ s = .int .i64 (cntL L x k : Nat)) (fun _ i => m - (intOf i).toNat)
  case atStart => exact ⟨0, by omega, rfl, rfl⟩
  case round =>
    obtain ⟨k, hk, rfl, rfl⟩ := hrel
    have hcl2 := cntL_le L x k
    by_cases hlt : k < m
    · obtain ⟨lb, lo, ea, hcl⟩ := HIn.out k (by rw [HM.out]; exact hlt)
      have hAa := HA.out
      rw [ea] at hAa
      try simp only [Option.map_some] at hAa
      subst hAa
      have hkb : (k : Int) < m := by omega
      obtain ⟨t, ht⟩ : ∃ t, L.getD k 0 = t := ⟨_, rfl⟩
      have HT : Hid (L[k]?.getD 0 = t) := ht
      rw [ht] at hcl
      clear ht
      by_cases he : t = x
      · have d : (t == x) = true := by simp [he]
        have HC : Hid (cntL L x (k + 1) = cntL L x k + 1) := cntL_yes (by rw [HT.out]; exact he)
        clear he
        go_wp2_with fail
        exact ⟨⟨k + 1, by omega, by go_num, by rw [HC.out]; go_num⟩, by simp [intOf]; omega⟩
      · have d : (t == x) = false := by simp [he]
        have HC : Hid (cntL L x (k + 1) = cntL L x k) := cntL_no (by rw [HT.out]; exact he)
        clear he
        go_wp2_with fail
        exact ⟨⟨k + 1, by omega, by go_num, by rw [HC.out]⟩, by simp [intOf]; omega⟩
    · obtain rfl : k = m := by omega
      go_wp2_with fail
      go_ret
      exact ⟨rfl, rfl⟩
set_option maxHeartbeats 4000000 in
set_option maxRecDepth 100000 in
/-- How many ways lead into a node. -/
theorem into_any (x : Int) (a : Option Addr) (cap : Nat) (ns : List Nod) (rs : Nat → Raw) (w : World) (hm : ModIn w a ns rs) (hsh : Short ns rs) (h24 : ns.length ≤ 24) :
    Calls Tryz.prog 259 #[SlV a ns.length cap, .int .i64 x] w fun e w' => e = .returned (.int .i64 (waysTo ns x ns.length : Nat)) ∧ Below w.heap.size w w' := by
  have HWl : Hid (∀ (k : Nat), k ≤ ns.length → waysTo ns x k ≤ 15 * k) := fun k hk => waysTo_le hsh x k hk
  obtain ⟨n, hn⟩ : ∃ n, ns.length = n := ⟨_, rfl⟩
  have HN : Hid (ns.length = n) := hn
  have HMo : Hid (ModIn w a ns rs) := hm
  have HSh : Hid (Short ns rs) := hsh
  obtain ⟨A, hA⟩ : ∃ A, a = A := ⟨_, rfl⟩
  have HA : Hid (a = A) := hA
  simp only [SlV]
  rw [hA, hn]
  rw [hn] at h24 HWl
  clear hm hn hA hsh
  go_enter Tryz.func259, Tryz.ntmps259
  go_wp2_with fail
  go_loopw [5, 10] (fun s i wr => ∃ k : Nat, k ≤ n ∧ i = .int .i64 k ∧ s = .int .i64 (waysTo ns x k : Nat) ∧ Below w.heap.size w wr) (fun _ i _ => n - (intOf i).toNat)
  case atStart => exact ⟨0, by omega, rfl, rfl, Below.refl _ _⟩
  case round =>
    obtain ⟨k, hk, rfl, rfl, hbw⟩ := hrel
    have HBw : Hid (Below w.heap.size w wr) := hbw
    clear hbw
    by_cases hlt : k < n
    · obtain ⟨b, o, ha, hcell⟩ := (HMo.out.below HBw.out).cells k (by rw [HN.out]; exact hlt)
      have hAa := HA.out
      rw [ha] at hAa
      try simp only [Option.map_some] at hAa
      subst hAa
      have HNi : Hid (NodIn wr (nd ns k) (rs k)) := (HMo.out.below HBw.out).node k (by rw [HN.out]; exact hlt)
      have HOl : Hid ((nd ns k).cases.length ≤ 6 ∧ (nd ns k).branches.length ≤ 6 ∧ RawOk (rs k)) := ⟨HSh.out.c k (by rw [HN.out]; exact hlt), HSh.out.b k (by rw [HN.out]; exact hlt), HSh.out.r k (by rw [HN.out]; exact hlt)⟩
      obtain ⟨L, hL⟩ : ∃ L, outL (nd ns k) = L := ⟨_, rfl⟩
      have HLL : Hid (outL (nd ns k) = L) := hL
      obtain ⟨m, hm⟩ : ∃ m, L.length = m := ⟨_, rfl⟩
      have HM : Hid (L.length = m) := hm
      have hol : m ≤ 15 := by rw [← hm, ← hL]; exact outL_len HOl.out.1 HOl.out.2.1
      obtain ⟨nn, hnn⟩ : ∃ x, nd ns k = x := ⟨_, rfl⟩
      rw [hnn] at hcell HNi HOl hL
      obtain ⟨rr, hrr⟩ : ∃ x, rs k = x := ⟨_, rfl⟩
      rw [hrr] at hcell HNi HOl
      obtain ⟨c0, c1, c2, c3, c4, c5, c6, c7, c8, c9⟩ := hcell
      simp only [SlV] at c5 c7
      have hkb : (k : Int) < n := by omega
      obtain ⟨W3, hW3⟩ : ∃ W3, wr.alloc (.cells (nodV nn rr) 87) = W3 := ⟨_, rfl⟩
      have HB3 : Hid (Below wr.heap.size wr W3) := by rw [← hW3]; exact b1 _ _
      have HX3 : Hid (NodBox W3 wr.heap.size nn rr) := by rw [← hW3]; exact NodBox.new _ _ _
      have HW3 : Hid (Below w.heap.size w W3) := HBw.out.trans (HB3.out.mono HBw.out.size)
      obtain ⟨y0, y1, y2, y3, y4, y5, y6, y7, y8, y9⟩ := HX3.out
      simp only [SlV] at y5 y7
      have hcall := ways_all nn rr W3 (HNi.out.below HB3.out) HOl.out.2.2 HOl.out.1 HOl.out.2.1
      rw [hL] at hcall
      unfold nodV at hcall hW3
      simp only [SlV] at hcall hW3
      obtain ⟨S, hS⟩ : ∃ S, waysTo ns x k = S := ⟨_, rfl⟩
      have HS : Hid (waysTo ns x k = S) := hS
      have hSb : S ≤ 360 := by have := HWl.out k hk; omega
      rw [hS]
      clear hnn hrr ha hL hm hS
      go_wp2_with fail
      refine hcall.mono ?_
      rintro e w4 ⟨v, rfl, hO⟩
      obtain ⟨a4, cap4, rfl, hints⟩ := hO.ints
      have HB4 : Hid (Below w.heap.size w w4) := HW3.out.trans (hO.bel.mono HW3.out.size)
      have hcnt := pcount_any x a4 L cap4 w4 hints (by rw [HM.out]; omega)
      have hCl := cntL_le L x m
      clear hcall hO hW3 c0 c1 c2 c3 c4 c5 c6 c7 c8 c9 y0 y1 y2 y3 y4 y5 y6 y7 y8 y9 hints
      simp only [SlV] at hcnt ⊢
      rw [HM.out] at hcnt ⊢
      obtain ⟨C, hC⟩ : ∃ C, cntL L x m = C := ⟨_, rfl⟩
      have HC : Hid (cntL L x m = C) := hC
      rw [hC] at hcnt hCl
      clear hC
      go_wp2_with fail
      refine hcnt.mono ?_
      rintro e w5 ⟨rfl, hw5⟩
      subst hw5
      clear hcnt
      go_wp2_with fail
      exact ⟨⟨k + 1, by omega, by go_num, by rw [ways_next HLL.out HM.out, HS.out, HC.out]; go_num, HB4.out⟩, by simp [intOf]; omega⟩
    · obtain rfl : k = n := by omega
      go_wp2_with fail
      go_ret
      exact ⟨rfl, HBw.out⟩
set_option maxHeartbeats 4000000 in
set_option maxRecDepth 100000 in
theorem entered_any (tb : Nat) (a : Option Addr) (cap : Nat) (ns : List Nod) (rs : Nat → Raw) (w : World) (hm : ModIn w a ns rs) (hsh : Short ns rs) (h24 : ns.length ≤ 24) (hld : LeadTo ns ns.length) :
    Calls Tryz.prog 188 #[chkV tb a ns.length cap] w fun e w' => ∃ r, e = .returned (.bool r) ∧ (r = true ↔ EnoughTo ns ns.length) ∧ Below w.heap.size w w' := by
  clear hld
  have HInto : Hid (∀ (x : Int) (X : World), Below w.heap.size w X → Calls Tryz.prog 259 #[SlV a ns.length cap, .int .i64 x] X fun e w' => e = .returned (.int .i64 (waysTo ns x ns.length : Nat)) ∧ Below X.heap.size X w') := fun x X hX => into_any x a cap ns rs X (hm.below hX) hsh h24
  obtain ⟨n, hn⟩ : ∃ n, ns.length = n := ⟨_, rfl⟩
  have HN : Hid (ns.length = n) := hn
  have HMo : Hid (ModIn w a ns rs) := hm
  obtain ⟨A, hA⟩ : ∃ A, a = A := ⟨_, rfl⟩
  have HA : Hid (a = A) := hA
  unfold chkV tabV
  simp only [SlV] at HInto ⊢
  rw [hA, hn] at HInto ⊢
  rw [hn] at h24
  clear hm hn hA hsh
  obtain ⟨W1, hW1⟩ : ∃ W1, w.alloc (Obj.cells #[.slice (some ⟨tb, 0, none⟩) 12 12, .slice A n cap] 308) = W1 := ⟨_, rfl⟩
  have HB1 : Hid (Below w.heap.size w W1) := by rw [← hW1]; exact b1 _ _
  have HX : Hid (ChkBox W1 w.heap.size tb A n cap) := by rw [← hW1]; exact ChkBox.new _ _ _ _ _ _
  go_enter Tryz.func188, Tryz.ntmps188
  obtain ⟨x0, x1⟩ := HX.out
  go_wp2_with fail
  clear hW1 x0 x1
  go_loopw [8] (fun i wr => ∃ k : Nat, k ≤ n ∧ i = .int .i64 k ∧ Below W1.heap.size W1 wr ∧ EnoughTo ns k) (fun i _ => n - (intOf i).toNat)
  case atStart => exact ⟨0, by omega, rfl, Below.refl _ _, fun i hi => by omega⟩
  case round =>
    obtain ⟨k, hk, rfl, hbw, hen⟩ := hrel
    have HEn : Hid (EnoughTo ns k) := hen
    have HBW : Hid (Below W1.heap.size W1 wr) := hbw
    have HBw : Hid (Below w.heap.size w wr) := HB1.out.trans (hbw.mono HB1.out.size)
    clear hbw hen
    by_cases hlt : k < n
    · obtain ⟨b, o, ha, hcell⟩ := (HMo.out.below HBw.out).cells k (by rw [HN.out]; exact hlt)
      have hAa := HA.out
      rw [ha] at hAa
      try simp only [Option.map_some] at hAa
      subst hAa
      have HKd : Hid (kdF ns k = (nd ns k).kind) := rfl
      obtain ⟨nn, hnn⟩ : ∃ x, nd ns k = x := ⟨_, rfl⟩
      rw [hnn] at hcell HKd
      obtain ⟨rr, hrr⟩ : ∃ x, rs k = x := ⟨_, rfl⟩
      rw [hrr] at hcell
      clear hnn hrr ha
      obtain ⟨c0, c1, c2, c3, c4, c5, c6, c7, c8, c9⟩ := hcell
      simp only [SlV] at c5 c7
      have hkb : (k : Int) < n := by omega
      obtain ⟨W3, hW3⟩ : ∃ W3, wr.alloc (.cells (nodV nn rr) 87) = W3 := ⟨_, rfl⟩
      have HB3 : Hid (Below wr.heap.size wr W3) := by rw [← hW3]; exact b1 _ _
      have HX3 : Hid (NodBox W3 wr.heap.size nn rr) := by rw [← hW3]; exact NodBox.new _ _ _
      have HW3 : Hid (Below W1.heap.size W1 W3) := HBW.out.trans (HB3.out.mono HBW.out.size)
      have HEq : Hid (Enough ns k ↔ ¬ ((waysTo ns k ns.length : Int) < needF (kdF ns k))) := enough_iff ns k
      rw [HN.out, HKd.out] at HEq
      obtain ⟨S, hS⟩ : ∃ S, waysTo ns k n = S := ⟨_, rfl⟩
      obtain ⟨T, hT⟩ : ∃ T, needF nn.kind = T := ⟨_, rfl⟩
      have hnd : Hid (∀ W, Calls Tryz.prog 282 #[.int .i64 nn.kind] W fun e w' => e = .returned (.int .i64 T) ∧ w' = W) := fun W => by rw [← hT]; exact need_any nn.kind W
      have hin : Hid (∀ X, Below W3.heap.size W3 X → Calls Tryz.prog 259 #[.slice (some ⟨b, o, none⟩) n cap, .int .i64 (k : Nat)] X fun e w' => e = .returned (.int .i64 (S : Nat)) ∧ Below W3.heap.size W3 w') := fun X hX => by
        have hw := HW3.out.trans (hX.mono HW3.out.size)
        have h := HInto.out k X (HB1.out.trans (hw.mono HB1.out.size))
        rw [hS] at h
        exact h.mono fun e w' ⟨he, hb⟩ => ⟨he, hX.trans (hb.mono hX.size)⟩
      rw [hS, hT] at HEq
      have HK : Hid (∀ X, Below W3.heap.size W3 X → Below W3.heap.size W3 X ∧ X.cell? ⟨w.heap.size, 1, none⟩ = some (.slice (some ⟨b, o, none⟩) n cap) ∧ X.cell? ⟨wr.heap.size, 0, none⟩ = some (.int .i64 nn.kind)) := fun X hX => ⟨hX, (HX.out.below (HW3.out.trans (hX.mono HW3.out.size))).c1, (HX3.out.below hX).c0⟩
      have y0 := HX3.out.c0
      obtain ⟨x0, x1⟩ := HX.out.below HW3.out
      simp only [nodV, SlV] at hW3
      clear hS hT
      by_cases hlt3 : (S : Int) < T
      · have d : decide ((S : Int) < T) = true := by simpa using hlt3
        have HNo : Hid ((false = true) ↔ EnoughTo ns n) := enough_no hlt (by rw [HEq.out]; exact fun h => h hlt3)
        clear hlt3
        go_wp2_with fail
        clear hW3 c0 c1 c2 c3 c4 c5 c6 c7 c8 c9
        go_region_held3 (fun X => Below W3.heap.size W3 X ∧ X.cell? ⟨w.heap.size, 1, none⟩ = some (.slice (some ⟨b, o, none⟩) n cap) ∧ X.cell? ⟨wr.heap.size, 0, none⟩ = some (.int .i64 nn.kind))
          ((refine HK.out _ ?_; first | exact below_drewN (Below.refl _ _) 1 | exact HB5.out | fail))
          ((first
            | (go_at_call 259; refine (hin.out _ (below_drewN (Below.refl _ _) 1)).mono ?_; rintro e w5 ⟨rfl, hb5⟩; have HB5 : Hid (Below W3.heap.size W3 w5) := hb5; clear hb5)
            | (go_at_call 282; refine (hnd.out _).mono ?_; rintro e w6 ⟨rfl, hw6⟩; subst hw6)
            | fail))
        all_goals (
          go_wp2_with fail
          go_ret
          exact ⟨_, rfl, HNo.out, HB1.out.trans ((HW3.out.trans (HB5.out.mono HW3.out.size)).mono HB1.out.size)⟩)
      · have d : decide ((S : Int) < T) = false := by simpa using hlt3
        have HNx : Hid (EnoughTo ns (k + 1)) := HEn.out.next (HEq.out.2 hlt3)
        clear hlt3
        go_wp2_with fail
        clear hW3 c0 c1 c2 c3 c4 c5 c6 c7 c8 c9
        go_region_held3 (fun X => Below W3.heap.size W3 X ∧ X.cell? ⟨w.heap.size, 1, none⟩ = some (.slice (some ⟨b, o, none⟩) n cap) ∧ X.cell? ⟨wr.heap.size, 0, none⟩ = some (.int .i64 nn.kind))
          ((refine HK.out _ ?_; first | exact below_drewN (Below.refl _ _) 1 | exact HB5.out | fail))
          ((first
            | (go_at_call 259; refine (hin.out _ (below_drewN (Below.refl _ _) 1)).mono ?_; rintro e w5 ⟨rfl, hb5⟩; have HB5 : Hid (Below W3.heap.size W3 w5) := hb5; clear hb5)
            | (go_at_call 282; refine (hnd.out _).mono ?_; rintro e w6 ⟨rfl, hw6⟩; subst hw6)
            | fail))
        all_goals (
          go_wp2_with fail
          exact ⟨⟨k + 1, by omega, by go_num, HW3.out.trans (HB5.out.mono HW3.out.size), HNx.out⟩, by simp [intOf]; omega⟩)
    · obtain rfl : k = n := by omega
      go_wp2_with fail
      go_ret
      exact ⟨_, rfl, ⟨fun _ => HEn.out, fun _ => rfl⟩, HBw.out⟩
end Go.Proofs.YtjkpbpgeedihhaaGreatDoor
namespace Go.Proofs.YtjkpbpgeedihhaaGreatDoor
open Go.RowKit
open M FerryM
theorem pass_goes {k : Int} (h : 1 ≤ k ∧ k ≤ 7) : tPass (idxK k) = goesB k := by
  rcases (by omega : k = 1 ∨ k = 2 ∨ k = 3 ∨ k = 4 ∨ k = 5 ∨ k = 6 ∨ k = 7) with rfl | rfl | rfl | rfl | rfl | rfl | rfl
  all_goals decide
theorem goes_not {k : Int} (h : ¬ (1 ≤ k ∧ k ≤ 7)) : goesB k = false := by unfold goesB; simp; omega
set_option maxHeartbeats 4000000 in
set_option maxRecDepth 100000 in
theorem passed_any (tb : Nat) (sb sc : Nat → Nat) (A : Option Addr) (n cap : Nat) (nn : Nod) (rr : Raw) (w : World) (hT : TabIn w tb sb sc) :
    Calls Tryz.prog 283 #[.agg #[tabV tb, .slice A n cap], .agg (nodV nn rr)] w fun e w' => e = .returned (.bool (goesB nn.kind)) ∧ Below w.heap.size w w' := by
  obtain ⟨W1, hW1⟩ : ∃ W1, w.alloc (Obj.cells #[.slice (some ⟨tb, 0, none⟩) 12 12, .slice A n cap] 308) = W1 := ⟨_, rfl⟩
  have HB1 : Hid (Below w.heap.size w W1) := by rw [← hW1]; exact b1 _ _
  have HX : Hid (ChkBox W1 w.heap.size tb A n cap) := by rw [← hW1]; exact ChkBox.new _ _ _ _ _ _
  obtain ⟨W2, hW2⟩ : ∃ W2, W1.alloc (.cells (nodV nn rr) 87) = W2 := ⟨_, rfl⟩
  have HB2 : Hid (Below W1.heap.size W1 W2) := by rw [← hW2]; exact b1 _ _
  have HX2 : Hid (NodBox W2 W1.heap.size nn rr) := by rw [← hW2]; exact NodBox.new _ _ _
  have Hw2 : Hid (Below w.heap.size w W2) := HB1.out.trans (HB2.out.mono HB1.out.size)
  have x0 := (HX.out.below HB2.out).c0
  have y0 := HX2.out.c0
  have hOf := ofKind_all tb sb sc nn.kind W2 (hT.below Hw2.out)
  have hlt := lt_of_cell HX.out.c0
  unfold nodV tabV at *
  simp only [SlV] at *
  clear hT
  go_enter Tryz.func283, Tryz.ntmps283
  go_wp2_with fail
  refine hOf.mono ?_
  rintro e w2 ⟨hcase, hb2⟩
  have HV : Hid (Below w.heap.size w w2) := Hw2.out.trans (hb2.mono Hw2.out.size)
  clear hOf hb2 hW1 hW2 x0 y0
  rcases hcase with ⟨h1, h7, rfl⟩ | ⟨hno, rfl⟩
  · have HP : Hid (tPass (idxK nn.kind) = goesB nn.kind) := pass_goes ⟨h1, h7⟩
    go_wp2_with fail
    go_ret
    exact ⟨ret_bool' HP.out, HV.out.alloc HV.out.size _⟩
  · have HP : Hid (goesB nn.kind = false) := goes_not hno
    go_wp2_with fail
    go_ret
    exact ⟨ret_bool' HP.out.symm, HV.out.alloc HV.out.size _⟩
def allC (L : List Int) (c : Nat → Bool) (k : Nat) : Bool := (L.take k).all fun t => c t.toNat
set_option maxHeartbeats 4000000 in
set_option maxRecDepth 100000 in
theorem allCalm_any (g n : Nat) (c : Nat → Bool) (a : Option Addr) (L : List Int) (cap : Nat) (w : World) (hrow : w.rowIs g 4 n (fun x => .bool (c x))) (hin : IntsIn w a L) (hL : ∀ t ∈ L, 0 ≤ t ∧ t < n) (hlen : L.length ≤ 1000) (hn : n ≤ 24) :
    Calls Tryz.prog 284 #[.slice (some ⟨g, 0, none⟩) n n, SlV a L.length cap] w fun e w' => e = .returned (.bool (L.all fun t => c t.toNat)) ∧ w' = w := by
  obtain ⟨m, hm⟩ : ∃ m, L.length = m := ⟨_, rfl⟩
  have HM : Hid (L.length = m) := hm
  have HRw : Hid (w.rowIs g 4 n (fun x => .bool (c x))) := hrow
  have HIn : Hid (IntsIn w a L) := hin
  have HLr : Hid (∀ t ∈ L, 0 ≤ t ∧ t < n) := hL
  simp only [SlV]
  rw [hm]
  rw [hm] at hlen
  clear hm hrow hin hL
  obtain ⟨A, hA⟩ : ∃ A, a = A := ⟨_, rfl⟩
  have HA : Hid (a = A) := hA
  rw [hA]
  clear hA
  go_enter Tryz.func284, Tryz.ntmps284
  go_wp2_with fail
  go_loop [9] (fun i => ∃ k : Nat, k ≤ m ∧ i = .int .i64 k ∧ allC L c k = true) (fun i => m - (intOf i).toNat)
  case atStart => exact ⟨0, by omega, rfl, rfl⟩
  case round =>
    obtain ⟨k, hk, rfl, hall⟩ := hrel
    have HAl : Hid (allC L c k = true) := hall
    clear hall
    by_cases hlt : k < m
    · obtain ⟨lb, lo, ea, hcl⟩ := HIn.out k (by rw [HM.out]; exact hlt)
      have hAa := HA.out
      rw [ea] at hAa
      try simp only [Option.map_some] at hAa
      subst hAa
      have hkb : (k : Int) < m := by omega
      obtain ⟨t, ht⟩ : ∃ t, L.getD k 0 = t := ⟨_, rfl⟩
      have hr := HLr.out t (by rw [← ht, List.getD_eq_getElem?_getD, List.getElem?_eq_getElem (by rw [HM.out]; exact hlt)]; simp)
      have HTk : Hid (L.take (k + 1) = L.take k ++ [t]) := by have := take_getD_succ 0 L k (by rw [HM.out]; exact hlt); rw [ht] at this; exact this
      have HTm : Hid (t ∈ L) := by rw [← ht, List.getD_eq_getElem?_getD, List.getElem?_eq_getElem (by rw [HM.out]; exact hlt)]; exact List.getElem_mem _
      rw [ht] at hcl
      clear ht
      obtain ⟨v, rfl⟩ : ∃ v : Nat, t = v := ⟨t.toNat, by omega⟩
      have hvn : v < n := by omega
      have rc := HRw.out.cell hvn
      cases hc : c v with
      | true =>
        rw [hc] at rc
        have HNx : Hid (allC L c (k + 1) = true) := by
          have : allC L c (k + 1) = true := by
            unfold allC
            rw [HTk.out, List.all_append]
            have h1 := HAl.out
            unfold allC at h1
            rw [h1]; simp [hc]
          exact this
        clear hc
        go_wp2_with fail
        exact ⟨⟨k + 1, by omega, by go_num, HNx.out⟩, by simp [intOf]; omega⟩
      | false =>
        rw [hc] at rc
        have HNo : Hid ((L.all fun t => c t.toNat) = false) := by
          have : (L.all fun t => c t.toNat) = false := by
            rw [List.all_eq_false]
            exact ⟨(v : Int), HTm.out, by simp [hc]⟩
          exact this
        clear hc
        go_wp2_with fail
        go_ret
        exact ⟨ret_bool' HNo.out.symm, rfl⟩
    · have HAll : Hid ((L.all fun t => c t.toNat) = true) := by
        have h1 := HAl.out
        unfold allC at h1
        rw [List.take_of_length_le (by rw [HM.out]; omega)] at h1
        exact h1
      go_wp2_with fail
      go_ret
      exact ⟨ret_bool' HAll.out.symm, rfl⟩
end Go.Proofs.YtjkpbpgeedihhaaGreatDoor
namespace Go.Proofs.YtjkpbpgeedihhaaGreatDoor
open Go.RowKit
open M FerryM
theorem calm_no {ns : List Nod} {k : Nat} (hk : k < ns.length) (h : passes (goF ns) (tmF ns) ns.length ns.length (fun _ => false) k = false) : (false = true) ↔ CalmTo ns := ⟨fun h => (by cases h), fun hh => (by rw [hh k hk] at h; cases h)⟩
theorem tm_all (ns : List Nod) (m : Nat) (c : Nat → Bool) : (tmF ns m).all c = (timelyL (nd ns m)).all fun t => c t.toNat := by
  unfold tmF; rw [List.all_map]; rfl
set_option maxHeartbeats 4000000 in
set_option maxRecDepth 100000 in
theorem roundless_any (tb : Nat) (sb sc : Nat → Nat) (a : Option Addr) (cap : Nat) (ns : List Nod) (rs : Nat → Raw) (w : World) (hm : ModIn w a ns rs) (hT : TabIn w tb sb sc) (hsh : Short ns rs) (h24 : ns.length ≤ 24) (hld : LeadTo ns ns.length) :
    Calls Tryz.prog 189 #[chkV tb a ns.length cap] w fun e w' => ∃ r, e = .returned (.bool r) ∧ (r = true ↔ CalmTo ns) ∧ Below w.heap.size w w' := by
  obtain ⟨n, hn⟩ : ∃ n, ns.length = n := ⟨_, rfl⟩
  have HN : Hid (ns.length = n) := hn
  have HMo : Hid (ModIn w a ns rs) := hm
  have HTb : Hid (TabIn w tb sb sc) := hT
  have HSh : Hid (Short ns rs) := hsh
  have HLd : Hid (LeadTo ns ns.length) := hld
  obtain ⟨A, hA⟩ : ∃ A, a = A := ⟨_, rfl⟩
  have HA : Hid (a = A) := hA
  unfold chkV tabV
  simp only [SlV]
  rw [hA, hn]
  rw [hn] at h24
  clear hm hn hA hsh hld hT
  obtain ⟨W1, hW1⟩ : ∃ W1, w.alloc (Obj.cells #[.slice (some ⟨tb, 0, none⟩) 12 12, .slice A n cap] 308) = W1 := ⟨_, rfl⟩
  have HB1 : Hid (Below w.heap.size w W1) := by rw [← hW1]; exact b1 _ _
  have HX : Hid (ChkBox W1 w.heap.size tb A n cap) := by rw [← hW1]; exact ChkBox.new _ _ _ _ _ _
  have hmk := run_make_row' (P := Tryz.prog) 318 4 (.bool false) 1 Tryz.underlying318 Tryz.info4 rfl .i64 .i64 n (by omega) (by omega)
  obtain ⟨W2, hW2⟩ : ∃ W, W1.alloc (.cells (madeCells #[.bool false] n) 4) = W := ⟨_, rfl⟩
  have HB2 : Hid (Below W1.heap.size W1 W2) := by rw [← hW2]; exact b1 _ _
  have HR2 : Hid (W2.rowIs W1.heap.size 4 n (fun _ => .bool false)) := by rw [← hW2]; exact World.rowIs_made _ _ _ _
  go_enter Tryz.func189, Tryz.ntmps189
  obtain ⟨x0, x1⟩ := HX.out
  have x2 := (HX.out.below HB2.out).c1
  go_wp2_with fail
  clear hW1 x0 x1 x2 hmk hW2
  go_loopw [15] (fun i wr => ∃ k : Nat, k ≤ n ∧ i = .int .i64 k ∧ Below W1.heap.size W1 wr ∧ wr.rowIs W1.heap.size 4 n (fun x => .bool (passes (goF ns) (tmF ns) n k (fun _ => false) x))) (fun i _ => n - (intOf i).toNat)
  case atStart => exact ⟨0, by omega, rfl, HB2.out, HR2.out⟩
  case round =>
    obtain ⟨k, hk, rfl, hbw, hrow⟩ := hrel
    have HRw : Hid (wr.rowIs W1.heap.size 4 n (fun x => .bool (passes (goF ns) (tmF ns) n k (fun _ => false) x))) := hrow
    have HBW : Hid (Below W1.heap.size W1 wr) := hbw
    clear hbw hrow
    by_cases hlt : k < n
    · obtain ⟨C, hC⟩ : ∃ C, passes (goF ns) (tmF ns) n k (fun _ => false) = C := ⟨_, rfl⟩
      have HPn : Hid (passes (goF ns) (tmF ns) n (k + 1) (fun _ => false) = pass (goF ns) (tmF ns) n C) := by rw [← hC]; exact rfl
      rw [hC] at HRw
      clear hC
      obtain ⟨x0, x1⟩ := HX.out.below HBW.out
      go_wp2_with fail
      clear x0 x1
      go_loopw [20] (fun q Y => ∃ m : Nat, m ≤ n ∧ q = .int .i64 m ∧ Below W1.heap.size W1 Y ∧ Y.rowIs W1.heap.size 4 n (fun x => .bool (pass (goF ns) (tmF ns) m C x))) (fun q _ => n - (intOf q).toNat)
      case atStart => exact ⟨0, by omega, rfl, HBW.out, HRw.out⟩
      case round =>
        obtain ⟨m, hm, rfl, hby, hrow⟩ := hrel
        have HRy : Hid (wr.rowIs W1.heap.size 4 n (fun x => .bool (pass (goF ns) (tmF ns) m C x))) := hrow
        have HBY : Hid (Below W1.heap.size W1 wr) := hby
        have HBy : Hid (Below w.heap.size w wr) := HB1.out.trans (hby.mono HB1.out.size)
        clear hby hrow
        by_cases hmn : m < n
        · obtain ⟨b, o, ha, hcell⟩ := (HMo.out.below HBy.out).cells m (by rw [HN.out]; exact hmn)
          have hAa := HA.out
          rw [ha] at hAa
          try simp only [Option.map_some] at hAa
          subst hAa
          have HNi : Hid (NodIn wr (nd ns m) (rs m)) := (HMo.out.below HBy.out).node m (by rw [HN.out]; exact hmn)
          have HOl : Hid ((nd ns m).cases.length ≤ 6 ∧ (nd ns m).branches.length ≤ 6 ∧ RawOk (rs m)) := ⟨HSh.out.c m (by rw [HN.out]; exact hmn), HSh.out.b m (by rw [HN.out]; exact hmn), HSh.out.r m (by rw [HN.out]; exact hmn)⟩
          have HTo : Hid (∀ t ∈ timelyL (nd ns m), 0 ≤ t ∧ t < n) := fun t ht => by
            have := timely_ok HLd.out (by rw [HN.out]; exact hmn) ht
            exact ⟨this.1, by have := this.2.1; rw [HN.out] at this; exact this⟩
          obtain ⟨c, hc⟩ : ∃ c, pass (goF ns) (tmF ns) m C = c := ⟨_, rfl⟩
          have HPm : Hid (pass (goF ns) (tmF ns) (m + 1) C = setAt c m (!goesB (nd ns m).kind || ((timelyL (nd ns m)).all fun t => c t.toNat))) := by
            rw [← tm_all, ← hc]; exact rfl
          rw [hc] at HRy
          clear hc
          obtain ⟨L, hL⟩ : ∃ L, timelyL (nd ns m) = L := ⟨_, rfl⟩
          have hLl : L.length ≤ 1000 := by
            rw [← hL]
            have h1 := optL_len (nd ns m).to
            have h2 := optL_len (nd ns m).els
            have h3 := HOl.out.1
            have h4 := HOl.out.2.1
            simp only [timelyL, List.length_append, List.length_map]
            omega
          rw [hL] at HPm HTo
          obtain ⟨nn, hnn⟩ : ∃ x, nd ns m = x := ⟨_, rfl⟩
          rw [hnn] at hcell HNi HOl hL HPm
          obtain ⟨rr, hrr⟩ : ∃ x, rs m = x := ⟨_, rfl⟩
          rw [hrr] at hcell HNi HOl
          obtain ⟨c0, c1, c2, c3, c4, c5, c6, c7, c8, c9⟩ := hcell
          simp only [SlV] at c5 c7
          have hmb : (m : Int) < n := by omega
          obtain ⟨W3, hW3⟩ : ∃ W3, wr.alloc (.cells (nodV nn rr) 87) = W3 := ⟨_, rfl⟩
          have HB3 : Hid (Below wr.heap.size wr W3) := by rw [← hW3]; exact b1 _ _
          have HX3 : Hid (NodBox W3 wr.heap.size nn rr) := by rw [← hW3]; exact NodBox.new _ _ _
          have HW3 : Hid (Below W1.heap.size W1 W3) := HBY.out.trans (HB3.out.mono HBY.out.size)
          have Hw3 : Hid (Below w.heap.size w W3) := HB1.out.trans (HW3.out.mono HB1.out.size)
          have HR3 : Hid (W3.rowIs W1.heap.size 4 n (fun x => .bool (c x))) := HRy.out.of_block (HB3.out.block _ HRy.out.lt)
          obtain ⟨y0, y1, y2, y3, y4, y5, y6, y7, y8, y9⟩ := HX3.out
          simp only [SlV] at y5 y7
          obtain ⟨x0, x1⟩ := HX.out.below HW3.out
          have hps := passed_any tb sb sc (some ⟨b, o, none⟩) n cap nn rr W3 (HTb.out.below Hw3.out)
          unfold nodV tabV at hps
          unfold nodV at hW3
          simp only [SlV] at hps hW3
          obtain ⟨G, hG⟩ : ∃ G, goesB nn.kind = G := ⟨_, rfl⟩
          rw [hG] at hps HPm
          clear hnn hrr ha hG
          go_wp2_with fail
          refine hps.mono ?_
          rintro e w4 ⟨rfl, hb4⟩
          have HB4 : Hid (Below W1.heap.size W1 w4) := HW3.out.trans (hb4.mono HW3.out.size)
          have HR4 : Hid (w4.rowIs W1.heap.size 4 n (fun x => .bool (c x))) := HR3.out.of_block (hb4.block _ HR3.out.lt)
          have HX4 : Hid (NodBox w4 wr.heap.size nn rr) := HX3.out.below hb4
          have HNi4 : Hid (NodIn w4 nn rr) := (HNi.out.below HB3.out).below hb4
          clear hps hb4 hW3 c0 c1 c2 c3 c4 c5 c6 c7 c8 c9 y0 y1 y2 y3 y4 y5 y6 y7 y8 y9 x0 x1
          cases G with
          | false =>
            have rc := HR4.out.cell hmn
            have rf := HR4.out.frozen m
            go_wp2_with fail
            refine ⟨⟨m + 1, by omega, by go_num, HB4.out.setCell (by simp) _, (HR4.out.set m (.bool true)).congr fun x hx => ?_⟩, by simp [intOf]; omega⟩
            rw [HPm.out]
            unfold setAt
            by_cases e : x = m
            · rw [if_pos e, if_pos e]; rfl
            · rw [if_neg e, if_neg e]
          | true =>
            obtain ⟨y0, y1, y2, y3, y4, y5, y6, y7, y8, y9⟩ := HX4.out
            simp only [SlV] at y5 y7
            have htw := timely_any nn rr w4 HNi4.out HOl.out.2.2 HOl.out.1 HOl.out.2.1
            rw [hL] at htw
            unfold nodV at htw
            simp only [SlV] at htw
            go_wp2_with fail
            refine htw.mono ?_
            rintro e w5 ⟨v, rfl, hO⟩
            obtain ⟨a5, cap5, rfl, hints⟩ := hO.ints
            have HB5 : Hid (Below W1.heap.size W1 w5) := HB4.out.trans (hO.bel.mono HB4.out.size)
            have HR5 : Hid (w5.rowIs W1.heap.size 4 n (fun x => .bool (c x))) := HR4.out.of_block (hO.bel.block _ HR4.out.lt)
            have hac := allCalm_any W1.heap.size n c a5 L cap5 w5 HR5.out hints HTo.out hLl h24
            clear htw hO hints y0 y1 y2 y3 y4 y5 y6 y7 y8 y9
            simp only [SlV] at hac ⊢
            obtain ⟨Z, hZ⟩ : ∃ Z, (L.all fun t => c t.toNat) = Z := ⟨_, rfl⟩
            rw [hZ] at hac HPm
            clear hZ
            have rc := HR5.out.cell hmn
            have rf := HR5.out.frozen m
            go_wp2_with (first | (go_at_call 284; go_must (refine hac.mono ?_; rintro e w6 ⟨rfl, rfl⟩)))
            refine ⟨⟨m + 1, by omega, by go_num, HB5.out.setCell (by simp) _, (HR5.out.set m (.bool Z)).congr fun x hx => ?_⟩, by simp [intOf]; omega⟩
            rw [HPm.out]
            unfold setAt
            by_cases e : x = m
            · rw [if_pos e, if_pos e]; rfl
            · rw [if_neg e, if_neg e]
        · obtain rfl : m = n := by omega
          have HRn : Hid (wr.rowIs W1.heap.size 4 m (fun x => .bool (passes (goF ns) (tmF ns) m (k + 1) (fun _ => false) x))) := by rw [HPn.out]; exact HRy.out
          go_wp2_with fail
          exact ⟨⟨k + 1, by omega, by go_num, HBY.out, HRn.out⟩, by simp [intOf]; omega⟩
    · obtain rfl : k = n := by omega
      have HBw : Hid (Below w.heap.size w wr) := HB1.out.trans (HBW.out.mono HB1.out.size)
      obtain ⟨C, hC⟩ : ∃ C, passes (goF ns) (tmF ns) k k (fun _ => false) = C := ⟨_, rfl⟩
      have HC : Hid (passes (goF ns) (tmF ns) k k (fun _ => false) = C) := hC
      rw [hC] at HRw
      clear hC
      go_wp2_with fail
      go_loop [42] (fun i => ∃ q : Nat, q ≤ k ∧ i = .int .i64 q ∧ ∀ x, x < q → C x = true) (fun i => k - (intOf i).toNat)
      case atStart => exact ⟨0, by omega, rfl, fun x hx => by omega⟩
      case round =>
        obtain ⟨q, hq, rfl, hall⟩ := hrel
        have HAl : Hid (∀ x, x < q → C x = true) := hall
        clear hall
        by_cases hqk : q < k
        · have rc := HRw.out.cell hqk
          have hqb : (q : Int) < k := by omega
          cases hv : C q with
          | true =>
            rw [hv] at rc
            have HNx : Hid (∀ x, x < q + 1 → C x = true) := fun x hx => if e : x = q then (by rw [e]; exact hv) else HAl.out x (by omega)
            clear hv
            go_wp2_with fail
            exact ⟨⟨q + 1, by omega, by go_num, HNx.out⟩, by simp [intOf]; omega⟩
          | false =>
            rw [hv] at rc
            have HNo : Hid (C q = false) := hv
            clear hv
            go_wp2_with fail
            go_ret
            exact Or.inl ⟨rfl, fun hc => Bool.false_ne_true ((calm_no (k := q) (by rw [HN.out]; exact hqk) (by rw [HN.out, HC.out]; exact HNo.out)).2 hc), HBw.out⟩
        · obtain rfl : q = k := by omega
          go_wp2_with fail
          go_ret
          exact Or.inr ⟨rfl, fun i hi => (by rw [HN.out] at hi ⊢; rw [HC.out]; exact HAl.out i hi), HBw.out⟩
end Go.Proofs.YtjkpbpgeedihhaaGreatDoor
namespace Go.Proofs.YtjkpbpgeedihhaaGreatDoor
open Go.RowKit
open M FerryM
def stI (st : List Nat) : List Int := st.reverse.map fun (x : Nat) => (x : Int)
theorem stI_len (st : List Nat) : (stI st).length = st.length := by simp [stI]
theorem stI_cons (x : Nat) (r : List Nat) : stI (x :: r) = stI r ++ [(x : Int)] := by simp [stI]
def lenV : Value → Nat
  | .slice _ n _ => n
  | _ => 0
theorem Own.drewN {B : Nat} {w W : World} {v : Value} {l : List Int} (h : Own B w W v l) (d : Nat) : Own B w (W.drewN d) v l := h.on (below_drewN (Below.refl _ _) d)
theorem Own.pop {B g m cap : Nat} {w W : World} {l : List Int} {x : Int} (h : Own B w W (.slice (some ⟨g, 0, none⟩) (m + 1) cap) (l ++ [x])) (hm : l.length = m) : Own B w W (.slice (some ⟨g, 0, none⟩) m cap) l := by
  refine ⟨?_, h.bel, h.sz⟩
  rcases h.row with ⟨h1, ⟨e, _⟩ | ⟨g', c', cur, e, hB, hg, hc, hM, hs, ht⟩⟩
  · cases e
  · simp only [Value.slice.injEq, Option.some.injEq, Addr.mk.injEq] at e
    obtain ⟨⟨rfl, _, _⟩, _, rfl⟩ := e
    refine ⟨by simp [iv], Or.inr ⟨g, cap, cur, by rw [hm], hB, hg, ?_, hM, hs, ?_⟩⟩
    · simp at hc; omega
    · have := congrArg (List.take l.length) ht
      rw [List.take_take] at this
      simp only [iv, List.map_append, List.length_append, List.length_cons, List.length_nil, Nat.mul_one] at this
      rw [Nat.min_eq_left (by omega), List.take_left' (by simp)] at this
      simpa [iv] using this
theorem Own.shape {B : Nat} {w W : World} {v : Value} {l : List Int} (h : Own B w W v l) : ∃ A cap, v = .slice A l.length cap := by
  rcases h.row with ⟨h1, ⟨rfl, h0⟩ | ⟨g', c', cur, rfl, _⟩⟩
  · exact ⟨none, 0, by rw [h0]⟩
  · exact ⟨_, c', rfl⟩
theorem Own.top {B : Nat} {w W : World} {v : Value} {l : List Int} {x : Int} (h : Own B w W v (l ++ [x])) : ∃ g cap, v = .slice (some ⟨g, 0, none⟩) (l.length + 1) cap ∧ W.cell? ⟨g, l.length, none⟩ = some (.int .i64 x) ∧ l.length + 1 ≤ cap := by
  rcases h.row with ⟨h1, ⟨_, h0⟩ | ⟨g, c, cur, e, _, hg, hc, _⟩⟩
  · simp at h0
  · refine ⟨g, c, by simpa using e, ?_, by simpa using hc⟩
    have hc := h.row.cells (g := g) (by rw [e]; rfl) l.length (.int .i64 x) (by simp [iv])
    have e2 : (⟨g, 0, none⟩ : Addr).add l.length = ⟨g, l.length, none⟩ := by unfold Addr.add; split <;> simp_all
    rw [e2] at hc
    exact hc
theorem nest_no {up : Nat → Int} {sub : Nat → Bool} {m i : Nat} {st p : List Nat} (hp : popTo (up i) st = p) (h : 4 < p.length ∨ (p = [] ∧ up i ≠ -1)) : nest up sub (m + 1) i st = false := by
  unfold nest; rw [hp, if_pos h]
theorem nest_yes {up : Nat → Int} {sub : Nat → Bool} {m i : Nat} {st p : List Nat} (hp : popTo (up i) st = p) (h : ¬ (4 < p.length ∨ (p = [] ∧ up i ≠ -1))) : nest up sub (m + 1) i st = nest up sub m (i + 1) (if sub i then i :: p else p) := by
  show (if 4 < (popTo (up i) st).length ∨ (popTo (up i) st = [] ∧ up i ≠ -1) then false else nest up sub m (i + 1) (if sub i then i :: popTo (up i) st else popTo (up i) st)) = _
  rw [hp, if_neg h]
set_option maxHeartbeats 4000000 in
set_option maxRecDepth 100000 in
theorem nested_any (tb : Nat) (a : Option Addr) (cap : Nat) (ns : List Nod) (rs : Nat → Raw) (w : World) (hm : ModIn w a ns rs) (h24 : ns.length ≤ 24) :
    Calls Tryz.prog 185 #[chkV tb a ns.length cap] w fun e w' => ∃ r, e = .returned (.bool r) ∧ (r = true ↔ nest (upF ns) (subF ns) ns.length 0 [] = true) ∧ Below w.heap.size w w' := by
  obtain ⟨n, hn⟩ : ∃ n, ns.length = n := ⟨_, rfl⟩
  have HN : Hid (ns.length = n) := hn
  have HMo : Hid (ModIn w a ns rs) := hm
  obtain ⟨A, hA⟩ : ∃ A, a = A := ⟨_, rfl⟩
  have HA : Hid (a = A) := hA
  unfold chkV tabV
  simp only [SlV]
  rw [hA, hn]
  rw [hn] at h24
  clear hm hn hA
  obtain ⟨T, hT⟩ : ∃ T, nest (upF ns) (subF ns) n 0 [] = T := ⟨_, rfl⟩
  have HT0 : Hid (nest (upF ns) (subF ns) (n - 0) 0 [] = T) := hT
  rw [hT]
  clear hT
  obtain ⟨W1, hW1⟩ : ∃ W1, w.alloc (Obj.cells #[.slice (some ⟨tb, 0, none⟩) 12 12, .slice A n cap] 308) = W1 := ⟨_, rfl⟩
  have HB1 : Hid (Below w.heap.size w W1) := by rw [← hW1]; exact b1 _ _
  have HX : Hid (ChkBox W1 w.heap.size tb A n cap) := by rw [← hW1]; exact ChkBox.new _ _ _ _ _ _
  have HO0 : Hid (Own W1.heap.size W1 W1 (.slice none 0 0) (stI [])) := Own.nil (Nat.le_refl _)
  go_enter Tryz.func185, Tryz.ntmps185
  obtain ⟨x0, x1⟩ := HX.out
  go_wp2_with fail
  clear hW1 x0 x1
  go_loopw [3, 9] (fun v i wr => ∃ (k : Nat) (st : List Nat), k ≤ n ∧ i = .int .i64 k ∧ Own W1.heap.size W1 wr v (stI st) ∧ st.length ≤ k ∧ nest (upF ns) (subF ns) (n - k) k st = T) (fun _ i _ => n - (intOf i).toNat)
  case atStart => exact ⟨0, [], by omega, rfl, HO0.out, by simp, HT0.out⟩
  case round =>
    obtain ⟨k, st, hk, rfl, hO, hst, hT⟩ := hrel
    have HTk : Hid (nest (upF ns) (subF ns) (n - k) k st = T) := hT
    have HOk : Hid (Own W1.heap.size W1 wr u3 (stI st)) := hO
    have HBw : Hid (Below w.heap.size w wr) := HB1.out.trans (hO.bel.mono HB1.out.size)
    clear hO hT
    by_cases hlt : k < n
    · obtain ⟨b, o, ha, hcell⟩ := (HMo.out.below HBw.out).cells k (by rw [HN.out]; exact hlt)
      have hAa := HA.out
      rw [ha] at hAa
      try simp only [Option.map_some] at hAa
      subst hAa
      have HUK : Hid (upF ns k = (nd ns k).up ∧ subF ns k = decide ((nd ns k).kind = 6)) := ⟨rfl, rfl⟩
      obtain ⟨nn, hnn⟩ : ∃ x, nd ns k = x := ⟨_, rfl⟩
      rw [hnn] at hcell HUK
      obtain ⟨rr, hrr⟩ : ∃ x, rs k = x := ⟨_, rfl⟩
      rw [hrr] at hcell
      clear hnn hrr ha
      obtain ⟨c0, c1, c2, c3, c4, c5, c6, c7, c8, c9⟩ := hcell
      simp only [SlV] at c5 c7
      have hkb : (k : Int) < n := by omega
      obtain ⟨W3, hW3⟩ : ∃ W3, wr.alloc (.cells (nodV nn rr) 87) = W3 := ⟨_, rfl⟩
      have HX3 : Hid (NodBox W3 wr.heap.size nn rr) := by rw [← hW3]; exact NodBox.new _ _ _
      have HO3 : Hid (Own W1.heap.size W1 W3 u3 (stI st)) := by rw [← hW3]; exact HOk.out.alloc _
      simp only [nodV, SlV] at hW3
      obtain ⟨m, hm⟩ : ∃ m, n - k = m + 1 := ⟨n - k - 1, by omega⟩
      have HM : Hid (n - k = m + 1 ∧ n - (k + 1) = m) := ⟨hm, by omega⟩
      clear hm
      go_wp2_with fail
      clear hW3 c0 c1 c2 c3 c4 c5 c6 c7 c8 c9
      have y0 := HX3.out.c0
      have y3 := HX3.out.c3
      obtain ⟨u, hu⟩ : ∃ x, nn.up = x := ⟨_, rfl⟩
      obtain ⟨kd, hkd⟩ : ∃ x, nn.kind = x := ⟨_, rfl⟩
      rw [hu] at y3 HUK
      rw [hkd] at y0 HUK
      clear hu hkd
      go_loopw [3] (fun v Y => ∃ (s2 : List Nat) (d : Nat), Y = W3.drewN d ∧ Own W1.heap.size W1 W3 v (stI s2) ∧ s2.length ≤ k ∧ popTo u s2 = popTo u st) (fun v _ => lenV v)
      case atStart => exact ⟨st, 0, rfl, HO3.out, hst, rfl⟩
      case round =>
        obtain ⟨s2, d, rfl, hO2, hs2, hpop⟩ := hrel
        have HPo : Hid (popTo u s2 = popTo u st) := hpop
        clear hpop
        have HEx : Hid (∀ p, popTo u s2 = p → popTo u st = p) := fun p hp => by rw [← HPo.out]; exact hp
        cases s2 with
        | nil =>
          have HOn : Hid (Own W1.heap.size W1 W3 u3 (stI [])) := hO2
          obtain ⟨A2, cap2, rfl⟩ := hO2.shape
          clear hO2
          have HPn : Hid (popTo (upF ns k) st = []) := by rw [HUK.out.1]; exact HEx.out [] rfl
          simp only [stI, List.reverse_nil, List.map_nil, List.length_nil]
          by_cases hu1 : u = -1
          · have d1 : (u != -1) = false := by simp [hu1]
            have HNx : Hid (nest (upF ns) (subF ns) (m + 1) k st = nest (upF ns) (subF ns) m (k + 1) (if subF ns k then [k] else [])) := nest_yes HPn.out (by rw [HUK.out.1]; simp [hu1])
            have HTm : Hid (nest (upF ns) (subF ns) m (k + 1) (if subF ns k then [k] else []) = T) := by rw [← HNx.out, ← HM.out.1]; exact HTk.out
            clear hu1
            by_cases h6 : kd = 6
            · have d6 : (kd == 6) = true := by simp [h6]
              have hS : subF ns k = true := by rw [HUK.out.2]; simp [h6]
              have HS : Hid (subF ns k = true) := hS
              clear h6 hS
              go_wp2_with fail
              go_quiet (fail)
              go_wp2_with (at_builtin; go_must (refine wpList_append_tail rfl (.tmp 49) (.tmp 51) rfl W1.heap.size W1 _ _ rfl ((HOn.out.alloc _).drewN _) _ [(k : Int)] rfl (Tail.below (lit_tail W3 k _ rfl) (below_drewN (Below.refl _ _) _)) (by simp [stI]) ?_))
              intro v5 w5 hO5 _
              have HO5 : Hid (Own W1.heap.size W1 w5 v5 (stI [k])) := hO5
              clear hO5
              go_wp2_with fail
              exact ⟨⟨k + 1, [k], by omega, by go_num, HO5.out, by simp, by have := HTm.out; rw [if_pos HS.out] at this; rw [HM.out.2]; exact this⟩, by simp [intOf]; omega⟩
            · have d6 : (kd == 6) = false := by simp [h6]
              have hS : subF ns k = false := by rw [HUK.out.2]; simp [h6]
              have HS : Hid (subF ns k = false) := hS
              clear h6 hS
              go_wp2_with fail
              go_quiet (fail)
              go_wp2_with fail
              exact ⟨⟨k + 1, [], by omega, by go_num, (HOn.out.drewN _), by simp, by have := HTm.out; rw [HS.out] at this; rw [HM.out.2]; exact this⟩, by simp [intOf]; omega⟩
          · have d1 : (u != -1) = true := by simp [hu1]
            have hTf : T = false := by
              rw [← HTk.out, HM.out.1]
              exact nest_no HPn.out (Or.inr ⟨rfl, by rw [HUK.out.1]; exact hu1⟩)
            have HTf : Hid (T = false) := hTf
            clear hu1 hTf
            go_wp2_with fail
            go_quiet (fail)
            go_wp2_with fail
            go_ret
            exact ⟨_, rfl, by rw [HTf.out], below_drewN (HB1.out.trans (HO3.out.bel.mono HB1.out.size)) _⟩
        | cons x r =>
          rw [stI_cons] at hO2
          have HOc : Hid (Own W1.heap.size W1 W3 u3 (stI r ++ [(x : Int)])) := hO2
          obtain ⟨g, cp, rfl, hcx, hcp⟩ := hO2.top
          rw [stI_len] at hcx hcp HOc ⊢
          obtain ⟨q, hq⟩ : ∃ q, r.length = q := ⟨_, rfl⟩
          rw [hq] at hcx hcp HOc ⊢
          have hq24 : q + 1 ≤ k := by rw [← hq]; simpa using hs2
          have HQ : Hid (r.length = q) := hq
          clear hO2 hq hs2
          have hqb : (q : Int) < (q : Int) + 1 := by omega
          by_cases hxu : (x : Int) = u
          · have dx : ((x : Int) != u) = false := by simp [hxu]
            have hpx : popTo u (x :: r) = x :: r := by unfold popTo; rw [if_pos hxu]
            have HPn : Hid (popTo (upF ns k) st = x :: r) := by rw [HUK.out.1]; exact HEx.out _ hpx
            clear hxu hpx
            by_cases h4 : 4 < q + 1
            · have d4 : decide ((4 : Int) < (q : Int) + 1) = true := by rw [decide_eq_true_iff]; omega
              have hTf : T = false := by
                rw [← HTk.out, HM.out.1]
                exact nest_no HPn.out (Or.inl (by simp; rw [HQ.out]; omega))
              have HTf : Hid (T = false) := hTf
              clear hTf h4
              go_wp2_with fail
              go_quiet (fail)
              go_wp2_with fail
              go_ret
              exact ⟨_, rfl, by rw [HTf.out], below_drewN (HB1.out.trans (HO3.out.bel.mono HB1.out.size)) _⟩
            · have d4 : decide ((4 : Int) < (q : Int) + 1) = false := by rw [decide_eq_false_iff_not]; omega
              have HNx : Hid (nest (upF ns) (subF ns) (m + 1) k st = nest (upF ns) (subF ns) m (k + 1) (if subF ns k then k :: x :: r else x :: r)) := nest_yes HPn.out (by
                rintro (hh | ⟨hh, _⟩)
                · simp at hh; rw [HQ.out] at hh; omega
                · cases hh)
              have HTm : Hid (nest (upF ns) (subF ns) m (k + 1) (if subF ns k then k :: x :: r else x :: r) = T) := by rw [← HNx.out, ← HM.out.1]; exact HTk.out
              clear h4
              by_cases h6 : kd = 6
              · have d6 : (kd == 6) = true := by simp [h6]
                have hS : subF ns k = true := by rw [HUK.out.2]; simp [h6]
                have HS : Hid (subF ns k = true) := hS
                clear h6 hS
                have hlen : (stI r ++ [(x : Int)]).length + [(k : Int)].length ≤ 1000 := by simp [stI_len]; rw [HQ.out]; omega
                have HLe : Hid ((stI r ++ [(x : Int)]).length + [(k : Int)].length ≤ 1000) := hlen
                clear hlen
                go_wp2_with fail
                go_quiet (fail)
                go_wp2_with (at_builtin; go_must (refine wpList_append_tail rfl (.tmp 49) (.tmp 51) rfl W1.heap.size W1 _ _ rfl ((HOc.out.alloc _).drewN _) _ [(k : Int)] rfl (Tail.below (lit_tail W3 k _ rfl) (below_drewN (Below.refl _ _) _)) HLe.out ?_))
                intro v5 w5 hO5 _
                have HO5 : Hid (Own W1.heap.size W1 w5 v5 (stI (k :: x :: r))) := by rw [stI_cons, stI_cons, List.append_assoc]; exact hO5
                clear hO5
                go_wp2_with fail
                exact ⟨⟨k + 1, k :: x :: r, by omega, by go_num, HO5.out, by simp; rw [HQ.out]; omega, by have := HTm.out; rw [if_pos HS.out] at this; rw [HM.out.2]; exact this⟩, by simp [intOf]; omega⟩
              · have d6 : (kd == 6) = false := by simp [h6]
                have hS : subF ns k = false := by rw [HUK.out.2]; simp [h6]
                have HS : Hid (subF ns k = false) := hS
                clear h6 hS
                go_wp2_with fail
                go_quiet (fail)
                go_wp2_with fail
                exact ⟨⟨k + 1, x :: r, by omega, by go_num, by rw [stI_cons]; exact HOc.out.drewN _, by simp; rw [HQ.out]; omega, by have := HTm.out; rw [HS.out] at this; rw [HM.out.2]; exact this⟩, by simp [intOf]; omega⟩
          · have dx : ((x : Int) != u) = true := by simp [hxu]
            have hpx : popTo u (x :: r) = popTo u r := by
              show (if (x : Int) = u then x :: r else popTo u r) = _
              rw [if_neg hxu]
            have HPr : Hid (popTo u r = popTo u st) := by rw [← hpx]; exact HPo.out
            have HOr : Hid (Own W1.heap.size W1 W3 (.slice (some ⟨g, 0, none⟩) q cp) (stI r)) := HOc.out.pop (by rw [stI_len]; exact HQ.out)
            clear hxu hpx
            go_wp2_with fail
            go_quiet (fail)
            go_wp2_with fail
            exact ⟨⟨r, d + nq, rfl, HOr.out, by rw [HQ.out]; omega, HPr.out⟩, by simp [lenV]⟩
    · obtain rfl : k = n := by omega
      have HTe : Hid (T = true) := by have h1 := HTk.out; rw [Nat.sub_self] at h1; exact h1.symm
      go_wp2_with fail
      go_ret
      exact ⟨_, rfl, ⟨fun _ => HTe.out, fun _ => rfl⟩, HBw.out⟩
end Go.Proofs.YtjkpbpgeedihhaaGreatDoor
