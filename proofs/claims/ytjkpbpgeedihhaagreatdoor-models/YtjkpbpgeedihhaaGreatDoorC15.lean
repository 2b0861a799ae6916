import Derived.Test.YtjkpbpgeedihhaaGreatDoorC12
import Derived.Laws.AppendOwnNone
import Derived.Test.YtjkpbpgeedihhaaGreatDoorC07
set_option linter.all false
namespace Go.Proofs.YtjkpbpgeedihhaaGreatDoor
open Go.RowKit
open M
theorem Tryz.info3 : (Tryz.prog.info? 3).map (fun i => (i.zero, i.size, i.bytes)) = some (some (.int .i64 0), 1, 8) := by kernel_rfl
def iv (l : List Int) : List Value := l.map (Value.int .i64)
/-- A list of ints that the call has made: it owns its row; nothing below B has turned. -/
structure Own (B : Nat) (w W : World) (v : Value) (l : List Int) : Prop where
  row : W.ownsRow B 3 1 v l.length (iv l)
  bel : Below B w W
  sz : B ≤ W.heap.size
theorem Own.nil {B : Nat} {w : World} (h : B ≤ w.heap.size) : Own B w w (.slice none 0 0) [] := ⟨World.ownsRow_nil _ _ _ _, Below.refl _ _, h⟩
theorem iv_app (a b : List Int) : iv a ++ iv b = iv (a ++ b) := by simp [iv]
theorem iv_len (a : List Int) : (iv a).length = a.length := by simp [iv]
/-- Behind an append. -/
theorem Own.step {B : Nat} {w W w1 : World} {v v' : Value} {l m : List Int} {N : Nat} {xs : List Value} (h : Own B w W v l) (hown : w1.ownsRow B 3 1 v' N xs) (hN : N = (l ++ m).length) (hxs : xs = iv (l ++ m)) (hg : W.grownBy w1 v.ownBlock) : Own B w w1 v' (l ++ m) := by
  subst hN hxs
  exact ⟨hown, h.bel.grown hg h.sz (fun k hk => (h.row.lt k hk).1), Nat.le_trans h.sz hg.size⟩
theorem Own.alloc {B : Nat} {w W : World} {v : Value} {l : List Int} (h : Own B w W v l) (o : Obj) : Own B w (W.alloc o) v l :=
  ⟨h.row.alloc o, h.bel.alloc h.sz o, by have := h.sz; simp; omega⟩
def optL (x : Int) : List Int := if x = -1 then [] else [x]
def timelyL (n : Nod) : List Int := optL n.to ++ n.cases.map (·.to) ++ optL n.els ++ n.branches
def outL (n : Nod) : List Int := timelyL n ++ optL n.late
theorem one_c1 (W : World) (x : Int) : ∀ j u, ([.int .i64 x] : List Value)[j]? = some u → (W.alloc (.cells #[.int .i64 x] 3)).cell? ((⟨W.heap.size, 0, none⟩ : Addr).add j) = some u := by
  intro j u hj
  match j, hj with
  | 0, hj => simp at hj; subst hj; simp [Addr.add, go_sem]
theorem one_c2 (x : Int) : ∀ u ∈ ([.int .i64 x] : List Value), u.oneCell' = true := by intro u hu; simp at hu; subst hu; rfl
theorem ints_c1 {W : World} {A : Addr} {l : List Int} (h : IntsIn W (some A) l) : ∀ j u, (iv l)[j]? = some u → W.cell? (A.add j) = some u := by
  intro j u hj
  have hjl : j < l.length := by
    have := (List.getElem?_eq_some_iff.1 hj).1
    simpa [iv] using this
  obtain ⟨b, o, e, hc⟩ := h j hjl
  cases e
  have : (⟨b, o, none⟩ : Addr).add j = ⟨b, o + j, none⟩ := by unfold Addr.add; split <;> simp_all
  rw [this, hc]
  simp [iv, List.getElem?_eq_getElem hjl] at hj
  rw [← hj]; simp [List.getD, List.getElem?_eq_getElem hjl]
theorem ints_c2 (l : List Int) : ∀ u ∈ iv l, u.oneCell' = true := by
  intro u hu; simp [iv] at hu; obtain ⟨x, _, rfl⟩ := hu; rfl
theorem optL_no : optL (-1) = [] := rfl
theorem optL_yes {x : Int} (h : x ≠ -1) : optL x = [x] := by unfold optL; rw [if_neg h]
set_option maxHeartbeats 2000000 in
set_option maxRecDepth 100000 in
theorem out_tttt (n : Nod) (r : Raw) (w : World) (hn : NodIn w n r) (hcl : n.cases.length ≤ 6) (hbl : n.branches.length ≤ 6) (h1 : n.to ≠ -1) (h2 : n.els ≠ -1) (h3 : n.late ≠ -1) (bA : Addr) (h4 : r.ba = some bA) :
    Calls Tryz.prog 202 #[.agg (nodV n r)] w fun e w' => ∃ v, e = .returned v ∧ ∃ W1, Below w.heap.size w W1 ∧ W1.heap.size = w.heap.size + 1 ∧ Own W1.heap.size W1 w' v (outL n) := by
  obtain ⟨i0, hi, hz0, hz1, hz2⟩ := info_parts Tryz.info3
  have ho : outL n = ([n.to] ++ n.cases.map (·.to) ++ [n.els] ++ n.branches) ++ [n.late] := by
    unfold outL timelyL
    rw [optL_yes h1, optL_yes h2, optL_yes h3]
  obtain ⟨OUT, hOUT⟩ : ∃ l, outL n = l := ⟨_, rfl⟩
  have HO : Hid (OUT = ([n.to] ++ n.cases.map (·.to) ++ [n.els] ++ n.branches) ++ [n.late]) := by rw [← hOUT]; exact ho
  rw [hOUT]
  clear hOUT ho
  have HNd : Hid (NodIn w n r) := hn
  unfold nodV
  rw [h4]
  obtain ⟨nc, hnc⟩ : ∃ k, n.cases.length = k := ⟨_, rfl⟩
  obtain ⟨nb, hnb⟩ : ∃ k, n.branches.length = k := ⟨_, rfl⟩
  have HNC : Hid (n.cases.length = nc) := hnc
  have HNB : Hid (n.branches.length = nb) := hnb
  rw [hnc, hnb]
  rw [hnc] at hcl
  rw [hnb] at hbl
  skip
  clear hnc hnb hn
  have HR4 : Hid (r.ba = some bA) := h4
  clear h4
  simp only [SlV, Option.map_some]
  obtain ⟨V5, hV5⟩ : ∃ V, Value.slice r.ca nc r.cc = V := ⟨_, rfl⟩
  have HV5 : Hid (Value.slice r.ca nc r.cc = V5) := hV5
  rw [hV5]
  clear hV5
  obtain ⟨W1, hW1⟩ : ∃ W1, w.alloc (Obj.cells #[.int .i64 n.kind, .string n.id, .string n.name, .int .i64 n.up, .int .i64 n.to, V5, .int .i64 n.els, .slice (some bA) nb r.bc, .int .i64 n.after, .int .i64 n.late] 87) = W1 := ⟨_, rfl⟩
  have HB1 : Hid (Below w.heap.size w W1) := by rw [← hW1]; exact b1 _ _
  have hs1 : W1.heap.size = w.heap.size + 1 := by rw [← hW1]; simp
  have HS1 : Hid (W1.heap.size = w.heap.size + 1) := hs1
  have hx : ∀ W, Below W1.heap.size W1 W → W.cell? ⟨w.heap.size, 4, none⟩ = some (.int .i64 n.to) ∧ W.cell? ⟨w.heap.size, 5, none⟩ = some V5 ∧ W.cell? ⟨w.heap.size, 6, none⟩ = some (.int .i64 n.els) ∧ W.cell? ⟨w.heap.size, 7, none⟩ = some (.slice (some bA) nb r.bc) ∧ W.cell? ⟨w.heap.size, 9, none⟩ = some (.int .i64 n.late) := by
    intro W hW
    have k := fun (x : Nat) => hW.cell (p := ⟨w.heap.size, x, none⟩) (by show w.heap.size < _; omega)
    rw [k, k, k, k, k, ← hW1]
    exact ⟨by simp [go_sem], by simp [go_sem], by simp [go_sem], by simp [go_sem], by simp [go_sem]⟩
  have HC : Hid (∀ W, Below W1.heap.size W1 W → NodIn W n r) := fun W hW => (HNd.out.below HB1.out).below hW
  have HX : Hid (∀ W, Below W1.heap.size W1 W → W.cell? ⟨w.heap.size, 4, none⟩ = some (.int .i64 n.to) ∧ W.cell? ⟨w.heap.size, 5, none⟩ = some V5 ∧ W.cell? ⟨w.heap.size, 6, none⟩ = some (.int .i64 n.els) ∧ W.cell? ⟨w.heap.size, 7, none⟩ = some (.slice (some bA) nb r.bc) ∧ W.cell? ⟨w.heap.size, 9, none⟩ = some (.int .i64 n.late)) := hx
  clear hx
  have hown : Own W1.heap.size W1 W1 (.slice none 0 0) [] := Own.nil (Nat.le_refl _)
  obtain ⟨x4, x5, x6, x7, x9⟩ := HX.out W1 (Below.refl _ _)
  have h1' : (n.to == -1) = false := by simpa using h1
  have h2' : (n.els == -1) = false := by simpa using h2
  have h3' : (n.late == -1) = false := by simpa using h3
  clear hs1 h1 h2 h3
  go_enter Tryz.func202, Tryz.ntmps202
  go_wp2_with (at_builtin; go_must (refine wpList_append_own _ rfl (.tmp 8) (.tmp 11) 35 rfl W1.heap.size 3 i0 (.int .i64 0) 1 8 Tryz.underlying35 hi hz0 hz1 hz2 rfl (by decide) _ _ _ rfl (hown.row.alloc _) ⟨W1.heap.size, 0, none⟩ 1 1 [.int .i64 n.to] rfl rfl (one_c1 _ _) (one_c2 _) (by simp [maxLen]) (by simp) (by have := hown.sz; simp <;> omega) ?_))
  intro v1 w1 hown1 hg1 _
  have hO : Own W1.heap.size W1 w1 v1 ([] ++ [n.to]) := Own.step (hown.alloc _) hown1 rfl rfl hg1
  clear hown1 hg1 hown x4 x5 x6 x7 x9 hW1
  obtain ⟨x4, x5, x6, x7, x9⟩ := HX.out w1 hO.bel
  go_wp2_with fail
  go_loopw [3, 4] (fun v i wr => ∃ k : Nat, k ≤ nc ∧ i = .int .i64 k ∧ Own W1.heap.size W1 wr v ([n.to] ++ (n.cases.take k).map (·.to))) (fun _ i _ => nc - (intOf i).toNat)
  case atStart => exact ⟨0, Nat.zero_le _, rfl, by simpa using hO⟩
  case round =>
    clear hO x4 x5 x6 x7 x9
    obtain ⟨k, hk, hi4, hO⟩ := hrel
    subst hi4
    obtain ⟨x4, x5, x6, x7, x9⟩ := HX.out wr hO.bel
    by_cases hlt : k < nc
    · obtain ⟨cb, co, ec, c0, c1, c2, c3⟩ := (HC.out wr hO.bel).cs k (by rw [HNC.out]; exact hlt)
      have hV5' := HV5.out
      rw [ec] at hV5'
      try simp only [Option.map_some] at hV5'
      rw [← hV5'] at x5
      clear hV5'
      obtain ⟨X, hX⟩ : ∃ X, (n.cases.getD k .zero).to = X := ⟨_, rfl⟩
      have HXk : Hid ((n.cases.take (k + 1)).map (·.to) = (n.cases.take k).map (·.to) ++ [X]) := by
        show List.map _ _ = _
        rw [take_getD_succ Cas.zero _ k (by rw [HNC.out]; exact hlt), ← hX]; simp
      rw [hX] at c3
      have hlen : ([n.to] ++ (n.cases.take k).map (·.to)).length ≤ 7 := by have := HNC.out; simp; omega
      obtain ⟨l, hl⟩ : ∃ l, [n.to] ++ (n.cases.take k).map (·.to) = l := ⟨_, rfl⟩
      have HLL : Hid ([n.to] ++ (n.cases.take (k + 1)).map (·.to) = l ++ [X]) := by
        show _ ++ _ = _
        rw [HXk.out, ← hl]; simp
      rw [hl] at hO hlen
      clear hl hX c0 c1 c2
      have hkb : (k : Int) < nc := by omega
      go_wp2_with (at_builtin; go_must (refine wpList_append_own _ rfl (.tmp 20) (.tmp 27) 35 rfl W1.heap.size 3 i0 (.int .i64 0) 1 8 Tryz.underlying35 hi hz0 hz1 hz2 rfl (by decide) _ _ _ rfl (hO.row.alloc _) ⟨wr.heap.size, 0, none⟩ 1 1 [.int .i64 X] rfl rfl (one_c1 _ _) (one_c2 _) (by unfold maxLen; omega) (by omega) (by have := hO.sz; simp <;> omega) ?_))
      intro v1 w1 hown1 hg1 _
      have hO1 : Own W1.heap.size W1 w1 v1 (l ++ [X]) := Own.step (hO.alloc _) hown1 (by simp) (by simp [iv]) hg1
      clear hown1 hg1 hO x4 x5 x6 x7 x9 c3
      go_wp2_with fail
      exact ⟨⟨k + 1, by omega, by go_num, by rw [HLL.out]; exact hO1⟩, by simp [intOf]; omega⟩
    · obtain ⟨l, hl⟩ : ∃ l, [n.to] ++ n.cases.map (·.to) = l := ⟨_, rfl⟩
      have HLE : Hid ([n.to] ++ n.cases.map (·.to) = l) := hl
      have hlen : l.length ≤ 7 := by have := HNC.out; rw [← hl]; simp; omega
      rw [List.take_of_length_le (by rw [HNC.out]; omega), hl] at hO
      clear hl
      rw [← HV5.out] at x5
      go_wp2_with (at_builtin; go_must (refine wpList_append_own _ rfl (.tmp 32) (.tmp 35) 35 rfl W1.heap.size 3 i0 (.int .i64 0) 1 8 Tryz.underlying35 hi hz0 hz1 hz2 rfl (by decide) _ _ _ rfl (hO.row.alloc _) ⟨wr.heap.size, 0, none⟩ 1 1 [.int .i64 n.els] rfl rfl (one_c1 _ _) (one_c2 _) (by unfold maxLen; omega) (by omega) (by have := hO.sz; simp <;> omega) ?_))
      intro v2 w2 hown2 hg2 _
      have hO2 : Own W1.heap.size W1 w2 v2 (l ++ [n.els]) := Own.step (hO.alloc _) hown2 (by simp) (by simp [iv]) hg2
      clear hown2 hg2 hO x4 x5 x6 x7 x9
      obtain ⟨x4, x5, x6, x7, x9⟩ := HX.out w2 hO2.bel
      obtain ⟨l2, hl2⟩ : ∃ l2, l ++ [n.els] = l2 := ⟨_, rfl⟩
      have HL2 : Hid (l ++ [n.els] = l2) := hl2
      have hlen2 : l2.length ≤ 8 := by rw [← hl2]; simp; omega
      rw [hl2] at hO2
      clear hl2
      have HI : Hid (IntsIn w2 (some bA) n.branches) := by have := (HC.out w2 hO2.bel).bs; rw [HR4.out] at this; exact this
      go_wp2_with (at_builtin; go_must (refine wpList_append_own _ rfl (.tmp 37) (.tmp 39) 35 rfl W1.heap.size 3 i0 (.int .i64 0) 1 8 Tryz.underlying35 hi hz0 hz1 hz2 rfl (by decide) _ _ _ rfl hO2.row bA nb r.bc (iv n.branches) rfl (by rw [iv_len, HNB.out, Nat.mul_one]) (ints_c1 HI.out) (ints_c2 _) (by unfold maxLen; omega) (by omega) hO2.sz ?_))
      intro v3 w3 hown3 hg3 _
      have hO3 : Own W1.heap.size W1 w3 v3 (l2 ++ n.branches) := Own.step hO2 hown3 (by simp [HNB.out]) (by simp [iv]) hg3
      clear hown3 hg3 hO2 x4 x5 x6 x7 x9
      obtain ⟨x4, x5, x6, x7, x9⟩ := HX.out w3 hO3.bel
      obtain ⟨l3, hl3⟩ : ∃ l3, l2 ++ n.branches = l3 := ⟨_, rfl⟩
      have HL3 : Hid (l2 ++ n.branches = l3) := hl3
      have hlen3 : l3.length ≤ 14 := by have := HNB.out; rw [← hl3]; simp; omega
      rw [hl3] at hO3
      clear hl3
      go_wp2_with (at_builtin; go_must (refine wpList_append_own _ rfl (.tmp 44) (.tmp 47) 35 rfl W1.heap.size 3 i0 (.int .i64 0) 1 8 Tryz.underlying35 hi hz0 hz1 hz2 rfl (by decide) _ _ _ rfl (hO3.row.alloc _) ⟨w3.heap.size, 0, none⟩ 1 1 [.int .i64 n.late] rfl rfl (one_c1 _ _) (one_c2 _) (by unfold maxLen; omega) (by omega) (by have := hO3.sz; simp <;> omega) ?_))
      intro v4 w4 hown4 hg4 _
      have hO4 : Own W1.heap.size W1 w4 v4 (l3 ++ [n.late]) := Own.step (hO3.alloc _) hown4 (by simp) (by simp [iv]) hg4
      clear hown4 hg4 hO3
      go_wp2_with fail
      go_ret
      exact ⟨_, rfl, W1, HB1.out, HS1.out, by rw [HO.out, HLE.out, HL2.out, HL3.out]; exact hO4⟩
set_option maxHeartbeats 2000000 in
set_option maxRecDepth 100000 in
theorem out_tttn (n : Nod) (r : Raw) (w : World) (hn : NodIn w n r) (hcl : n.cases.length ≤ 6) (hbl : n.branches.length ≤ 6) (h1 : n.to ≠ -1) (h2 : n.els ≠ -1) (h3 : n.late ≠ -1) (h4 : r.ba = none ∧ r.bc = 0 ∧ n.branches = []) :
    Calls Tryz.prog 202 #[.agg (nodV n r)] w fun e w' => ∃ v, e = .returned v ∧ ∃ W1, Below w.heap.size w W1 ∧ W1.heap.size = w.heap.size + 1 ∧ Own W1.heap.size W1 w' v (outL n) := by
  obtain ⟨i0, hi, hz0, hz1, hz2⟩ := info_parts Tryz.info3
  have ho : outL n = ([n.to] ++ n.cases.map (·.to) ++ [n.els] ++ n.branches) ++ [n.late] := by
    unfold outL timelyL
    rw [optL_yes h1, optL_yes h2, optL_yes h3]
  obtain ⟨OUT, hOUT⟩ : ∃ l, outL n = l := ⟨_, rfl⟩
  have HO : Hid (OUT = ([n.to] ++ n.cases.map (·.to) ++ [n.els] ++ n.branches) ++ [n.late]) := by rw [← hOUT]; exact ho
  rw [hOUT]
  clear hOUT ho
  have HNd : Hid (NodIn w n r) := hn
  unfold nodV
  obtain ⟨h4, h5, h6⟩ := h4
  rw [h4, h5]
  obtain ⟨nc, hnc⟩ : ∃ k, n.cases.length = k := ⟨_, rfl⟩
  obtain ⟨nb, hnb⟩ : ∃ k, n.branches.length = k := ⟨_, rfl⟩
  have HNC : Hid (n.cases.length = nc) := hnc
  have HNB : Hid (n.branches.length = nb) := hnb
  rw [hnc, hnb]
  rw [hnc] at hcl
  rw [hnb] at hbl
  have hnb0 : nb = 0 := by rw [← hnb, h6]; rfl
  subst hnb0
  clear hnc hnb hn
  have HR4 : Hid (r.ba = none) := h4
  clear h4
  simp only [SlV, Option.map_none]
  obtain ⟨V5, hV5⟩ : ∃ V, Value.slice r.ca nc r.cc = V := ⟨_, rfl⟩
  have HV5 : Hid (Value.slice r.ca nc r.cc = V5) := hV5
  rw [hV5]
  clear hV5
  obtain ⟨W1, hW1⟩ : ∃ W1, w.alloc (Obj.cells #[.int .i64 n.kind, .string n.id, .string n.name, .int .i64 n.up, .int .i64 n.to, V5, .int .i64 n.els, .slice none 0 0, .int .i64 n.after, .int .i64 n.late] 87) = W1 := ⟨_, rfl⟩
  have HB1 : Hid (Below w.heap.size w W1) := by rw [← hW1]; exact b1 _ _
  have hs1 : W1.heap.size = w.heap.size + 1 := by rw [← hW1]; simp
  have HS1 : Hid (W1.heap.size = w.heap.size + 1) := hs1
  have hx : ∀ W, Below W1.heap.size W1 W → W.cell? ⟨w.heap.size, 4, none⟩ = some (.int .i64 n.to) ∧ W.cell? ⟨w.heap.size, 5, none⟩ = some V5 ∧ W.cell? ⟨w.heap.size, 6, none⟩ = some (.int .i64 n.els) ∧ W.cell? ⟨w.heap.size, 7, none⟩ = some (.slice none 0 0) ∧ W.cell? ⟨w.heap.size, 9, none⟩ = some (.int .i64 n.late) := by
    intro W hW
    have k := fun (x : Nat) => hW.cell (p := ⟨w.heap.size, x, none⟩) (by show w.heap.size < _; omega)
    rw [k, k, k, k, k, ← hW1]
    exact ⟨by simp [go_sem], by simp [go_sem], by simp [go_sem], by simp [go_sem], by simp [go_sem]⟩
  have HC : Hid (∀ W, Below W1.heap.size W1 W → NodIn W n r) := fun W hW => (HNd.out.below HB1.out).below hW
  have HX : Hid (∀ W, Below W1.heap.size W1 W → W.cell? ⟨w.heap.size, 4, none⟩ = some (.int .i64 n.to) ∧ W.cell? ⟨w.heap.size, 5, none⟩ = some V5 ∧ W.cell? ⟨w.heap.size, 6, none⟩ = some (.int .i64 n.els) ∧ W.cell? ⟨w.heap.size, 7, none⟩ = some (.slice none 0 0) ∧ W.cell? ⟨w.heap.size, 9, none⟩ = some (.int .i64 n.late)) := hx
  clear hx
  have hown : Own W1.heap.size W1 W1 (.slice none 0 0) [] := Own.nil (Nat.le_refl _)
  obtain ⟨x4, x5, x6, x7, x9⟩ := HX.out W1 (Below.refl _ _)
  have h1' : (n.to == -1) = false := by simpa using h1
  have h2' : (n.els == -1) = false := by simpa using h2
  have h3' : (n.late == -1) = false := by simpa using h3
  clear hs1 h1 h2 h3
  go_enter Tryz.func202, Tryz.ntmps202
  go_wp2_with (at_builtin; go_must (refine wpList_append_own _ rfl (.tmp 8) (.tmp 11) 35 rfl W1.heap.size 3 i0 (.int .i64 0) 1 8 Tryz.underlying35 hi hz0 hz1 hz2 rfl (by decide) _ _ _ rfl (hown.row.alloc _) ⟨W1.heap.size, 0, none⟩ 1 1 [.int .i64 n.to] rfl rfl (one_c1 _ _) (one_c2 _) (by simp [maxLen]) (by simp) (by have := hown.sz; simp <;> omega) ?_))
  intro v1 w1 hown1 hg1 _
  have hO : Own W1.heap.size W1 w1 v1 ([] ++ [n.to]) := Own.step (hown.alloc _) hown1 rfl rfl hg1
  clear hown1 hg1 hown x4 x5 x6 x7 x9 hW1
  obtain ⟨x4, x5, x6, x7, x9⟩ := HX.out w1 hO.bel
  go_wp2_with fail
  go_loopw [3, 4] (fun v i wr => ∃ k : Nat, k ≤ nc ∧ i = .int .i64 k ∧ Own W1.heap.size W1 wr v ([n.to] ++ (n.cases.take k).map (·.to))) (fun _ i _ => nc - (intOf i).toNat)
  case atStart => exact ⟨0, Nat.zero_le _, rfl, by simpa using hO⟩
  case round =>
    clear hO x4 x5 x6 x7 x9
    obtain ⟨k, hk, hi4, hO⟩ := hrel
    subst hi4
    obtain ⟨x4, x5, x6, x7, x9⟩ := HX.out wr hO.bel
    by_cases hlt : k < nc
    · obtain ⟨cb, co, ec, c0, c1, c2, c3⟩ := (HC.out wr hO.bel).cs k (by rw [HNC.out]; exact hlt)
      have hV5' := HV5.out
      rw [ec] at hV5'
      try simp only [Option.map_some] at hV5'
      rw [← hV5'] at x5
      clear hV5'
      obtain ⟨X, hX⟩ : ∃ X, (n.cases.getD k .zero).to = X := ⟨_, rfl⟩
      have HXk : Hid ((n.cases.take (k + 1)).map (·.to) = (n.cases.take k).map (·.to) ++ [X]) := by
        show List.map _ _ = _
        rw [take_getD_succ Cas.zero _ k (by rw [HNC.out]; exact hlt), ← hX]; simp
      rw [hX] at c3
      have hlen : ([n.to] ++ (n.cases.take k).map (·.to)).length ≤ 7 := by have := HNC.out; simp; omega
      obtain ⟨l, hl⟩ : ∃ l, [n.to] ++ (n.cases.take k).map (·.to) = l := ⟨_, rfl⟩
      have HLL : Hid ([n.to] ++ (n.cases.take (k + 1)).map (·.to) = l ++ [X]) := by
        show _ ++ _ = _
        rw [HXk.out, ← hl]; simp
      rw [hl] at hO hlen
      clear hl hX c0 c1 c2
      have hkb : (k : Int) < nc := by omega
      go_wp2_with (at_builtin; go_must (refine wpList_append_own _ rfl (.tmp 20) (.tmp 27) 35 rfl W1.heap.size 3 i0 (.int .i64 0) 1 8 Tryz.underlying35 hi hz0 hz1 hz2 rfl (by decide) _ _ _ rfl (hO.row.alloc _) ⟨wr.heap.size, 0, none⟩ 1 1 [.int .i64 X] rfl rfl (one_c1 _ _) (one_c2 _) (by unfold maxLen; omega) (by omega) (by have := hO.sz; simp <;> omega) ?_))
      intro v1 w1 hown1 hg1 _
      have hO1 : Own W1.heap.size W1 w1 v1 (l ++ [X]) := Own.step (hO.alloc _) hown1 (by simp) (by simp [iv]) hg1
      clear hown1 hg1 hO x4 x5 x6 x7 x9 c3
      go_wp2_with fail
      exact ⟨⟨k + 1, by omega, by go_num, by rw [HLL.out]; exact hO1⟩, by simp [intOf]; omega⟩
    · obtain ⟨l, hl⟩ : ∃ l, [n.to] ++ n.cases.map (·.to) = l := ⟨_, rfl⟩
      have HLE : Hid ([n.to] ++ n.cases.map (·.to) = l) := hl
      have hlen : l.length ≤ 7 := by have := HNC.out; rw [← hl]; simp; omega
      rw [List.take_of_length_le (by rw [HNC.out]; omega), hl] at hO
      clear hl
      rw [← HV5.out] at x5
      go_wp2_with (at_builtin; go_must (refine wpList_append_own _ rfl (.tmp 32) (.tmp 35) 35 rfl W1.heap.size 3 i0 (.int .i64 0) 1 8 Tryz.underlying35 hi hz0 hz1 hz2 rfl (by decide) _ _ _ rfl (hO.row.alloc _) ⟨wr.heap.size, 0, none⟩ 1 1 [.int .i64 n.els] rfl rfl (one_c1 _ _) (one_c2 _) (by unfold maxLen; omega) (by omega) (by have := hO.sz; simp <;> omega) ?_))
      intro v2 w2 hown2 hg2 _
      have hO2 : Own W1.heap.size W1 w2 v2 (l ++ [n.els]) := Own.step (hO.alloc _) hown2 (by simp) (by simp [iv]) hg2
      clear hown2 hg2 hO x4 x5 x6 x7 x9
      obtain ⟨x4, x5, x6, x7, x9⟩ := HX.out w2 hO2.bel
      obtain ⟨l2, hl2⟩ : ∃ l2, l ++ [n.els] = l2 := ⟨_, rfl⟩
      have HL2 : Hid (l ++ [n.els] = l2) := hl2
      have hlen2 : l2.length ≤ 8 := by rw [← hl2]; simp; omega
      rw [hl2] at hO2
      clear hl2
      have HI : Hid (IntsIn w2 none n.branches) := by have := (HC.out w2 hO2.bel).bs; rw [HR4.out] at this; exact this
      have eb : n.branches = [] := by
        cases hbr : n.branches with
        | nil => rfl
        | cons y t => obtain ⟨_, _, e, _⟩ := HI.out 0 (by rw [hbr]; simp); cases e
      have hO3 := hO2
      have el : l2 = l2 ++ n.branches := by rw [eb]; simp
      rw [el] at hO3
      clear el eb
      obtain ⟨l3, hl3⟩ : ∃ l3, l2 ++ n.branches = l3 := ⟨_, rfl⟩
      have HL3 : Hid (l2 ++ n.branches = l3) := hl3
      have hlen3 : l3.length ≤ 14 := by have := HNB.out; rw [← hl3]; simp; omega
      rw [hl3] at hO3
      clear hl3
      go_wp2_with (first | (at_builtin; refine wpList_append_own_none rfl (.tmp 37) (.tmp 39) 35 rfl W1.heap.size 3 i0 1 Tryz.underlying35 hi _ _ _ rfl hO3.row rfl ?_) | (at_builtin; (refine wpList_append_own _ rfl (.tmp 44) (.tmp 47) 35 rfl W1.heap.size 3 i0 (.int .i64 0) 1 8 Tryz.underlying35 hi hz0 hz1 hz2 rfl (by decide) _ _ _ rfl (hO3.row.alloc _) ⟨w2.heap.size, 0, none⟩ 1 1 [.int .i64 n.late] rfl rfl (one_c1 _ _) (one_c2 _) (by unfold maxLen; omega) (by omega) (by have := hO3.sz; simp <;> omega) ?_)))
      intro v4 w4 hown4 hg4 _
      have hO4 : Own W1.heap.size W1 w4 v4 (l3 ++ [n.late]) := Own.step (hO3.alloc _) hown4 (by simp) (by simp [iv]) hg4
      clear hown4 hg4 hO3
      go_wp2_with fail
      go_ret
      exact ⟨_, rfl, W1, HB1.out, HS1.out, by rw [HO.out, HLE.out, HL2.out, HL3.out]; exact hO4⟩
set_option maxHeartbeats 2000000 in
set_option maxRecDepth 100000 in
theorem out_ttnt (n : Nod) (r : Raw) (w : World) (hn : NodIn w n r) (hcl : n.cases.length ≤ 6) (hbl : n.branches.length ≤ 6) (h1 : n.to ≠ -1) (h2 : n.els ≠ -1) (h3 : n.late = -1) (bA : Addr) (h4 : r.ba = some bA) :
    Calls Tryz.prog 202 #[.agg (nodV n r)] w fun e w' => ∃ v, e = .returned v ∧ ∃ W1, Below w.heap.size w W1 ∧ W1.heap.size = w.heap.size + 1 ∧ Own W1.heap.size W1 w' v (outL n) := by
  obtain ⟨i0, hi, hz0, hz1, hz2⟩ := info_parts Tryz.info3
  have ho : outL n = ([n.to] ++ n.cases.map (·.to) ++ [n.els] ++ n.branches) ++ [] := by
    unfold outL timelyL
    rw [optL_yes h1, optL_yes h2, h3, optL_no]
  obtain ⟨OUT, hOUT⟩ : ∃ l, outL n = l := ⟨_, rfl⟩
  have HO : Hid (OUT = ([n.to] ++ n.cases.map (·.to) ++ [n.els] ++ n.branches) ++ []) := by rw [← hOUT]; exact ho
  rw [hOUT]
  clear hOUT ho
  have HNd : Hid (NodIn w n r) := hn
  unfold nodV
  rw [h4]
  obtain ⟨nc, hnc⟩ : ∃ k, n.cases.length = k := ⟨_, rfl⟩
  obtain ⟨nb, hnb⟩ : ∃ k, n.branches.length = k := ⟨_, rfl⟩
  have HNC : Hid (n.cases.length = nc) := hnc
  have HNB : Hid (n.branches.length = nb) := hnb
  rw [hnc, hnb]
  rw [hnc] at hcl
  rw [hnb] at hbl
  skip
  clear hnc hnb hn
  have HR4 : Hid (r.ba = some bA) := h4
  clear h4
  simp only [SlV, Option.map_some]
  obtain ⟨V5, hV5⟩ : ∃ V, Value.slice r.ca nc r.cc = V := ⟨_, rfl⟩
  have HV5 : Hid (Value.slice r.ca nc r.cc = V5) := hV5
  rw [hV5]
  clear hV5
  obtain ⟨W1, hW1⟩ : ∃ W1, w.alloc (Obj.cells #[.int .i64 n.kind, .string n.id, .string n.name, .int .i64 n.up, .int .i64 n.to, V5, .int .i64 n.els, .slice (some bA) nb r.bc, .int .i64 n.after, .int .i64 n.late] 87) = W1 := ⟨_, rfl⟩
  have HB1 : Hid (Below w.heap.size w W1) := by rw [← hW1]; exact b1 _ _
  have hs1 : W1.heap.size = w.heap.size + 1 := by rw [← hW1]; simp
  have HS1 : Hid (W1.heap.size = w.heap.size + 1) := hs1
  have hx : ∀ W, Below W1.heap.size W1 W → W.cell? ⟨w.heap.size, 4, none⟩ = some (.int .i64 n.to) ∧ W.cell? ⟨w.heap.size, 5, none⟩ = some V5 ∧ W.cell? ⟨w.heap.size, 6, none⟩ = some (.int .i64 n.els) ∧ W.cell? ⟨w.heap.size, 7, none⟩ = some (.slice (some bA) nb r.bc) ∧ W.cell? ⟨w.heap.size, 9, none⟩ = some (.int .i64 n.late) := by
    intro W hW
    have k := fun (x : Nat) => hW.cell (p := ⟨w.heap.size, x, none⟩) (by show w.heap.size < _; omega)
    rw [k, k, k, k, k, ← hW1]
    exact ⟨by simp [go_sem], by simp [go_sem], by simp [go_sem], by simp [go_sem], by simp [go_sem]⟩
  have HC : Hid (∀ W, Below W1.heap.size W1 W → NodIn W n r) := fun W hW => (HNd.out.below HB1.out).below hW
  rw [h3] at hx hW1 ⊢
  have HX : Hid (∀ W, Below W1.heap.size W1 W → W.cell? ⟨w.heap.size, 4, none⟩ = some (.int .i64 n.to) ∧ W.cell? ⟨w.heap.size, 5, none⟩ = some V5 ∧ W.cell? ⟨w.heap.size, 6, none⟩ = some (.int .i64 n.els) ∧ W.cell? ⟨w.heap.size, 7, none⟩ = some (.slice (some bA) nb r.bc) ∧ W.cell? ⟨w.heap.size, 9, none⟩ = some (.int .i64 (-1))) := hx
  clear hx
  have hown : Own W1.heap.size W1 W1 (.slice none 0 0) [] := Own.nil (Nat.le_refl _)
  obtain ⟨x4, x5, x6, x7, x9⟩ := HX.out W1 (Below.refl _ _)
  have h1' : (n.to == -1) = false := by simpa using h1
  have h2' : (n.els == -1) = false := by simpa using h2
  clear hs1 h1 h2 h3
  go_enter Tryz.func202, Tryz.ntmps202
  go_wp2_with (at_builtin; go_must (refine wpList_append_own _ rfl (.tmp 8) (.tmp 11) 35 rfl W1.heap.size 3 i0 (.int .i64 0) 1 8 Tryz.underlying35 hi hz0 hz1 hz2 rfl (by decide) _ _ _ rfl (hown.row.alloc _) ⟨W1.heap.size, 0, none⟩ 1 1 [.int .i64 n.to] rfl rfl (one_c1 _ _) (one_c2 _) (by simp [maxLen]) (by simp) (by have := hown.sz; simp <;> omega) ?_))
  intro v1 w1 hown1 hg1 _
  have hO : Own W1.heap.size W1 w1 v1 ([] ++ [n.to]) := Own.step (hown.alloc _) hown1 rfl rfl hg1
  clear hown1 hg1 hown x4 x5 x6 x7 x9 hW1
  obtain ⟨x4, x5, x6, x7, x9⟩ := HX.out w1 hO.bel
  go_wp2_with fail
  go_loopw [3, 4] (fun v i wr => ∃ k : Nat, k ≤ nc ∧ i = .int .i64 k ∧ Own W1.heap.size W1 wr v ([n.to] ++ (n.cases.take k).map (·.to))) (fun _ i _ => nc - (intOf i).toNat)
  case atStart => exact ⟨0, Nat.zero_le _, rfl, by simpa using hO⟩
  case round =>
    clear hO x4 x5 x6 x7 x9
    obtain ⟨k, hk, hi4, hO⟩ := hrel
    subst hi4
    obtain ⟨x4, x5, x6, x7, x9⟩ := HX.out wr hO.bel
    by_cases hlt : k < nc
    · obtain ⟨cb, co, ec, c0, c1, c2, c3⟩ := (HC.out wr hO.bel).cs k (by rw [HNC.out]; exact hlt)
      have hV5' := HV5.out
      rw [ec] at hV5'
      try simp only [Option.map_some] at hV5'
      rw [← hV5'] at x5
      clear hV5'
      obtain ⟨X, hX⟩ : ∃ X, (n.cases.getD k .zero).to = X := ⟨_, rfl⟩
      have HXk : Hid ((n.cases.take (k + 1)).map (·.to) = (n.cases.take k).map (·.to) ++ [X]) := by
        show List.map _ _ = _
        rw [take_getD_succ Cas.zero _ k (by rw [HNC.out]; exact hlt), ← hX]; simp
      rw [hX] at c3
      have hlen : ([n.to] ++ (n.cases.take k).map (·.to)).length ≤ 7 := by have := HNC.out; simp; omega
      obtain ⟨l, hl⟩ : ∃ l, [n.to] ++ (n.cases.take k).map (·.to) = l := ⟨_, rfl⟩
      have HLL : Hid ([n.to] ++ (n.cases.take (k + 1)).map (·.to) = l ++ [X]) := by
        show _ ++ _ = _
        rw [HXk.out, ← hl]; simp
      rw [hl] at hO hlen
      clear hl hX c0 c1 c2
      have hkb : (k : Int) < nc := by omega
      go_wp2_with (at_builtin; go_must (refine wpList_append_own _ rfl (.tmp 20) (.tmp 27) 35 rfl W1.heap.size 3 i0 (.int .i64 0) 1 8 Tryz.underlying35 hi hz0 hz1 hz2 rfl (by decide) _ _ _ rfl (hO.row.alloc _) ⟨wr.heap.size, 0, none⟩ 1 1 [.int .i64 X] rfl rfl (one_c1 _ _) (one_c2 _) (by unfold maxLen; omega) (by omega) (by have := hO.sz; simp <;> omega) ?_))
      intro v1 w1 hown1 hg1 _
      have hO1 : Own W1.heap.size W1 w1 v1 (l ++ [X]) := Own.step (hO.alloc _) hown1 (by simp) (by simp [iv]) hg1
      clear hown1 hg1 hO x4 x5 x6 x7 x9 c3
      go_wp2_with fail
      exact ⟨⟨k + 1, by omega, by go_num, by rw [HLL.out]; exact hO1⟩, by simp [intOf]; omega⟩
    · obtain ⟨l, hl⟩ : ∃ l, [n.to] ++ n.cases.map (·.to) = l := ⟨_, rfl⟩
      have HLE : Hid ([n.to] ++ n.cases.map (·.to) = l) := hl
      have hlen : l.length ≤ 7 := by have := HNC.out; rw [← hl]; simp; omega
      rw [List.take_of_length_le (by rw [HNC.out]; omega), hl] at hO
      clear hl
      rw [← HV5.out] at x5
      go_wp2_with (at_builtin; go_must (refine wpList_append_own _ rfl (.tmp 32) (.tmp 35) 35 rfl W1.heap.size 3 i0 (.int .i64 0) 1 8 Tryz.underlying35 hi hz0 hz1 hz2 rfl (by decide) _ _ _ rfl (hO.row.alloc _) ⟨wr.heap.size, 0, none⟩ 1 1 [.int .i64 n.els] rfl rfl (one_c1 _ _) (one_c2 _) (by unfold maxLen; omega) (by omega) (by have := hO.sz; simp <;> omega) ?_))
      intro v2 w2 hown2 hg2 _
      have hO2 : Own W1.heap.size W1 w2 v2 (l ++ [n.els]) := Own.step (hO.alloc _) hown2 (by simp) (by simp [iv]) hg2
      clear hown2 hg2 hO x4 x5 x6 x7 x9
      obtain ⟨x4, x5, x6, x7, x9⟩ := HX.out w2 hO2.bel
      obtain ⟨l2, hl2⟩ : ∃ l2, l ++ [n.els] = l2 := ⟨_, rfl⟩
      have HL2 : Hid (l ++ [n.els] = l2) := hl2
      have hlen2 : l2.length ≤ 8 := by rw [← hl2]; simp; omega
      rw [hl2] at hO2
      clear hl2
      have HI : Hid (IntsIn w2 (some bA) n.branches) := by have := (HC.out w2 hO2.bel).bs; rw [HR4.out] at this; exact this
      go_wp2_with (at_builtin; go_must (refine wpList_append_own _ rfl (.tmp 37) (.tmp 39) 35 rfl W1.heap.size 3 i0 (.int .i64 0) 1 8 Tryz.underlying35 hi hz0 hz1 hz2 rfl (by decide) _ _ _ rfl hO2.row bA nb r.bc (iv n.branches) rfl (by rw [iv_len, HNB.out, Nat.mul_one]) (ints_c1 HI.out) (ints_c2 _) (by unfold maxLen; omega) (by omega) hO2.sz ?_))
      intro v3 w3 hown3 hg3 _
      have hO3 : Own W1.heap.size W1 w3 v3 (l2 ++ n.branches) := Own.step hO2 hown3 (by simp [HNB.out]) (by simp [iv]) hg3
      clear hown3 hg3 hO2 x4 x5 x6 x7 x9
      obtain ⟨x4, x5, x6, x7, x9⟩ := HX.out w3 hO3.bel
      obtain ⟨l3, hl3⟩ : ∃ l3, l2 ++ n.branches = l3 := ⟨_, rfl⟩
      have HL3 : Hid (l2 ++ n.branches = l3) := hl3
      have hlen3 : l3.length ≤ 14 := by have := HNB.out; rw [← hl3]; simp; omega
      rw [hl3] at hO3
      clear hl3
      go_wp2_with fail
      go_ret
      exact ⟨_, rfl, W1, HB1.out, HS1.out, by rw [HO.out, HLE.out, HL2.out, HL3.out, List.append_nil]; exact hO3⟩
set_option maxHeartbeats 2000000 in
set_option maxRecDepth 100000 in
theorem out_ttnn (n : Nod) (r : Raw) (w : World) (hn : NodIn w n r) (hcl : n.cases.length ≤ 6) (hbl : n.branches.length ≤ 6) (h1 : n.to ≠ -1) (h2 : n.els ≠ -1) (h3 : n.late = -1) (h4 : r.ba = none ∧ r.bc = 0 ∧ n.branches = []) :
    Calls Tryz.prog 202 #[.agg (nodV n r)] w fun e w' => ∃ v, e = .returned v ∧ ∃ W1, Below w.heap.size w W1 ∧ W1.heap.size = w.heap.size + 1 ∧ Own W1.heap.size W1 w' v (outL n) := by
  obtain ⟨i0, hi, hz0, hz1, hz2⟩ := info_parts Tryz.info3
  have ho : outL n = ([n.to] ++ n.cases.map (·.to) ++ [n.els] ++ n.branches) ++ [] := by
    unfold outL timelyL
    rw [optL_yes h1, optL_yes h2, h3, optL_no]
  obtain ⟨OUT, hOUT⟩ : ∃ l, outL n = l := ⟨_, rfl⟩
  have HO : Hid (OUT = ([n.to] ++ n.cases.map (·.to) ++ [n.els] ++ n.branches) ++ []) := by rw [← hOUT]; exact ho
  rw [hOUT]
  clear hOUT ho
  have HNd : Hid (NodIn w n r) := hn
  unfold nodV
  obtain ⟨h4, h5, h6⟩ := h4
  rw [h4, h5]
  obtain ⟨nc, hnc⟩ : ∃ k, n.cases.length = k := ⟨_, rfl⟩
  obtain ⟨nb, hnb⟩ : ∃ k, n.branches.length = k := ⟨_, rfl⟩
  have HNC : Hid (n.cases.length = nc) := hnc
  have HNB : Hid (n.branches.length = nb) := hnb
  rw [hnc, hnb]
  rw [hnc] at hcl
  rw [hnb] at hbl
  have hnb0 : nb = 0 := by rw [← hnb, h6]; rfl
  subst hnb0
  clear hnc hnb hn
  have HR4 : Hid (r.ba = none) := h4
  clear h4
  simp only [SlV, Option.map_none]
  obtain ⟨V5, hV5⟩ : ∃ V, Value.slice r.ca nc r.cc = V := ⟨_, rfl⟩
  have HV5 : Hid (Value.slice r.ca nc r.cc = V5) := hV5
  rw [hV5]
  clear hV5
  obtain ⟨W1, hW1⟩ : ∃ W1, w.alloc (Obj.cells #[.int .i64 n.kind, .string n.id, .string n.name, .int .i64 n.up, .int .i64 n.to, V5, .int .i64 n.els, .slice none 0 0, .int .i64 n.after, .int .i64 n.late] 87) = W1 := ⟨_, rfl⟩
  have HB1 : Hid (Below w.heap.size w W1) := by rw [← hW1]; exact b1 _ _
  have hs1 : W1.heap.size = w.heap.size + 1 := by rw [← hW1]; simp
  have HS1 : Hid (W1.heap.size = w.heap.size + 1) := hs1
  have hx : ∀ W, Below W1.heap.size W1 W → W.cell? ⟨w.heap.size, 4, none⟩ = some (.int .i64 n.to) ∧ W.cell? ⟨w.heap.size, 5, none⟩ = some V5 ∧ W.cell? ⟨w.heap.size, 6, none⟩ = some (.int .i64 n.els) ∧ W.cell? ⟨w.heap.size, 7, none⟩ = some (.slice none 0 0) ∧ W.cell? ⟨w.heap.size, 9, none⟩ = some (.int .i64 n.late) := by
    intro W hW
    have k := fun (x : Nat) => hW.cell (p := ⟨w.heap.size, x, none⟩) (by show w.heap.size < _; omega)
    rw [k, k, k, k, k, ← hW1]
    exact ⟨by simp [go_sem], by simp [go_sem], by simp [go_sem], by simp [go_sem], by simp [go_sem]⟩
  have HC : Hid (∀ W, Below W1.heap.size W1 W → NodIn W n r) := fun W hW => (HNd.out.below HB1.out).below hW
  rw [h3] at hx hW1 ⊢
  have HX : Hid (∀ W, Below W1.heap.size W1 W → W.cell? ⟨w.heap.size, 4, none⟩ = some (.int .i64 n.to) ∧ W.cell? ⟨w.heap.size, 5, none⟩ = some V5 ∧ W.cell? ⟨w.heap.size, 6, none⟩ = some (.int .i64 n.els) ∧ W.cell? ⟨w.heap.size, 7, none⟩ = some (.slice none 0 0) ∧ W.cell? ⟨w.heap.size, 9, none⟩ = some (.int .i64 (-1))) := hx
  clear hx
  have hown : Own W1.heap.size W1 W1 (.slice none 0 0) [] := Own.nil (Nat.le_refl _)
  obtain ⟨x4, x5, x6, x7, x9⟩ := HX.out W1 (Below.refl _ _)
  have h1' : (n.to == -1) = false := by simpa using h1
  have h2' : (n.els == -1) = false := by simpa using h2
  clear hs1 h1 h2 h3
  go_enter Tryz.func202, Tryz.ntmps202
  go_wp2_with (at_builtin; go_must (refine wpList_append_own _ rfl (.tmp 8) (.tmp 11) 35 rfl W1.heap.size 3 i0 (.int .i64 0) 1 8 Tryz.underlying35 hi hz0 hz1 hz2 rfl (by decide) _ _ _ rfl (hown.row.alloc _) ⟨W1.heap.size, 0, none⟩ 1 1 [.int .i64 n.to] rfl rfl (one_c1 _ _) (one_c2 _) (by simp [maxLen]) (by simp) (by have := hown.sz; simp <;> omega) ?_))
  intro v1 w1 hown1 hg1 _
  have hO : Own W1.heap.size W1 w1 v1 ([] ++ [n.to]) := Own.step (hown.alloc _) hown1 rfl rfl hg1
  clear hown1 hg1 hown x4 x5 x6 x7 x9 hW1
  obtain ⟨x4, x5, x6, x7, x9⟩ := HX.out w1 hO.bel
  go_wp2_with fail
  go_loopw [3, 4] (fun v i wr => ∃ k : Nat, k ≤ nc ∧ i = .int .i64 k ∧ Own W1.heap.size W1 wr v ([n.to] ++ (n.cases.take k).map (·.to))) (fun _ i _ => nc - (intOf i).toNat)
  case atStart => exact ⟨0, Nat.zero_le _, rfl, by simpa using hO⟩
  case round =>
    clear hO x4 x5 x6 x7 x9
    obtain ⟨k, hk, hi4, hO⟩ := hrel
    subst hi4
    obtain ⟨x4, x5, x6, x7, x9⟩ := HX.out wr hO.bel
    by_cases hlt : k < nc
    · obtain ⟨cb, co, ec, c0, c1, c2, c3⟩ := (HC.out wr hO.bel).cs k (by rw [HNC.out]; exact hlt)
      have hV5' := HV5.out
      rw [ec] at hV5'
      try simp only [Option.map_some] at hV5'
      rw [← hV5'] at x5
      clear hV5'
      obtain ⟨X, hX⟩ : ∃ X, (n.cases.getD k .zero).to = X := ⟨_, rfl⟩
      have HXk : Hid ((n.cases.take (k + 1)).map (·.to) = (n.cases.take k).map (·.to) ++ [X]) := by
        show List.map _ _ = _
        rw [take_getD_succ Cas.zero _ k (by rw [HNC.out]; exact hlt), ← hX]; simp
      rw [hX] at c3
      have hlen : ([n.to] ++ (n.cases.take k).map (·.to)).length ≤ 7 := by have := HNC.out; simp; omega
      obtain ⟨l, hl⟩ : ∃ l, [n.to] ++ (n.cases.take k).map (·.to) = l := ⟨_, rfl⟩
      have HLL : Hid ([n.to] ++ (n.cases.take (k + 1)).map (·.to) = l ++ [X]) := by
        show _ ++ _ = _
        rw [HXk.out, ← hl]; simp
      rw [hl] at hO hlen
      clear hl hX c0 c1 c2
      have hkb : (k : Int) < nc := by omega
      go_wp2_with (at_builtin; go_must (refine wpList_append_own _ rfl (.tmp 20) (.tmp 27) 35 rfl W1.heap.size 3 i0 (.int .i64 0) 1 8 Tryz.underlying35 hi hz0 hz1 hz2 rfl (by decide) _ _ _ rfl (hO.row.alloc _) ⟨wr.heap.size, 0, none⟩ 1 1 [.int .i64 X] rfl rfl (one_c1 _ _) (one_c2 _) (by unfold maxLen; omega) (by omega) (by have := hO.sz; simp <;> omega) ?_))
      intro v1 w1 hown1 hg1 _
      have hO1 : Own W1.heap.size W1 w1 v1 (l ++ [X]) := Own.step (hO.alloc _) hown1 (by simp) (by simp [iv]) hg1
      clear hown1 hg1 hO x4 x5 x6 x7 x9 c3
      go_wp2_with fail
      exact ⟨⟨k + 1, by omega, by go_num, by rw [HLL.out]; exact hO1⟩, by simp [intOf]; omega⟩
    · obtain ⟨l, hl⟩ : ∃ l, [n.to] ++ n.cases.map (·.to) = l := ⟨_, rfl⟩
      have HLE : Hid ([n.to] ++ n.cases.map (·.to) = l) := hl
      have hlen : l.length ≤ 7 := by have := HNC.out; rw [← hl]; simp; omega
      rw [List.take_of_length_le (by rw [HNC.out]; omega), hl] at hO
      clear hl
      rw [← HV5.out] at x5
      go_wp2_with (at_builtin; go_must (refine wpList_append_own _ rfl (.tmp 32) (.tmp 35) 35 rfl W1.heap.size 3 i0 (.int .i64 0) 1 8 Tryz.underlying35 hi hz0 hz1 hz2 rfl (by decide) _ _ _ rfl (hO.row.alloc _) ⟨wr.heap.size, 0, none⟩ 1 1 [.int .i64 n.els] rfl rfl (one_c1 _ _) (one_c2 _) (by unfold maxLen; omega) (by omega) (by have := hO.sz; simp <;> omega) ?_))
      intro v2 w2 hown2 hg2 _
      have hO2 : Own W1.heap.size W1 w2 v2 (l ++ [n.els]) := Own.step (hO.alloc _) hown2 (by simp) (by simp [iv]) hg2
      clear hown2 hg2 hO x4 x5 x6 x7 x9
      obtain ⟨x4, x5, x6, x7, x9⟩ := HX.out w2 hO2.bel
      obtain ⟨l2, hl2⟩ : ∃ l2, l ++ [n.els] = l2 := ⟨_, rfl⟩
      have HL2 : Hid (l ++ [n.els] = l2) := hl2
      have hlen2 : l2.length ≤ 8 := by rw [← hl2]; simp; omega
      rw [hl2] at hO2
      clear hl2
      have HI : Hid (IntsIn w2 none n.branches) := by have := (HC.out w2 hO2.bel).bs; rw [HR4.out] at this; exact this
      have eb : n.branches = [] := by
        cases hbr : n.branches with
        | nil => rfl
        | cons y t => obtain ⟨_, _, e, _⟩ := HI.out 0 (by rw [hbr]; simp); cases e
      have hO3 := hO2
      have el : l2 = l2 ++ n.branches := by rw [eb]; simp
      rw [el] at hO3
      clear el eb
      obtain ⟨l3, hl3⟩ : ∃ l3, l2 ++ n.branches = l3 := ⟨_, rfl⟩
      have HL3 : Hid (l2 ++ n.branches = l3) := hl3
      have hlen3 : l3.length ≤ 14 := by have := HNB.out; rw [← hl3]; simp; omega
      rw [hl3] at hO3
      clear hl3
      go_wp2_with (at_builtin; refine wpList_append_own_none rfl (.tmp 37) (.tmp 39) 35 rfl W1.heap.size 3 i0 1 Tryz.underlying35 hi _ _ _ rfl hO3.row rfl ?_)
      go_ret
      exact ⟨_, rfl, W1, HB1.out, HS1.out, by rw [HO.out, HLE.out, HL2.out, HL3.out, List.append_nil]; exact hO3⟩
set_option maxHeartbeats 2000000 in
set_option maxRecDepth 100000 in
theorem out_tntt (n : Nod) (r : Raw) (w : World) (hn : NodIn w n r) (hcl : n.cases.length ≤ 6) (hbl : n.branches.length ≤ 6) (h1 : n.to ≠ -1) (h2 : n.els = -1) (h3 : n.late ≠ -1) (bA : Addr) (h4 : r.ba = some bA) :
    Calls Tryz.prog 202 #[.agg (nodV n r)] w fun e w' => ∃ v, e = .returned v ∧ ∃ W1, Below w.heap.size w W1 ∧ W1.heap.size = w.heap.size + 1 ∧ Own W1.heap.size W1 w' v (outL n) := by
  obtain ⟨i0, hi, hz0, hz1, hz2⟩ := info_parts Tryz.info3
  have ho : outL n = ([n.to] ++ n.cases.map (·.to) ++ [] ++ n.branches) ++ [n.late] := by
    unfold outL timelyL
    rw [optL_yes h1, h2, optL_no, optL_yes h3]
  obtain ⟨OUT, hOUT⟩ : ∃ l, outL n = l := ⟨_, rfl⟩
  have HO : Hid (OUT = ([n.to] ++ n.cases.map (·.to) ++ [] ++ n.branches) ++ [n.late]) := by rw [← hOUT]; exact ho
  rw [hOUT]
  clear hOUT ho
  have HNd : Hid (NodIn w n r) := hn
  unfold nodV
  rw [h4]
  obtain ⟨nc, hnc⟩ : ∃ k, n.cases.length = k := ⟨_, rfl⟩
  obtain ⟨nb, hnb⟩ : ∃ k, n.branches.length = k := ⟨_, rfl⟩
  have HNC : Hid (n.cases.length = nc) := hnc
  have HNB : Hid (n.branches.length = nb) := hnb
  rw [hnc, hnb]
  rw [hnc] at hcl
  rw [hnb] at hbl
  skip
  clear hnc hnb hn
  have HR4 : Hid (r.ba = some bA) := h4
  clear h4
  simp only [SlV, Option.map_some]
  obtain ⟨V5, hV5⟩ : ∃ V, Value.slice r.ca nc r.cc = V := ⟨_, rfl⟩
  have HV5 : Hid (Value.slice r.ca nc r.cc = V5) := hV5
  rw [hV5]
  clear hV5
  obtain ⟨W1, hW1⟩ : ∃ W1, w.alloc (Obj.cells #[.int .i64 n.kind, .string n.id, .string n.name, .int .i64 n.up, .int .i64 n.to, V5, .int .i64 n.els, .slice (some bA) nb r.bc, .int .i64 n.after, .int .i64 n.late] 87) = W1 := ⟨_, rfl⟩
  have HB1 : Hid (Below w.heap.size w W1) := by rw [← hW1]; exact b1 _ _
  have hs1 : W1.heap.size = w.heap.size + 1 := by rw [← hW1]; simp
  have HS1 : Hid (W1.heap.size = w.heap.size + 1) := hs1
  have hx : ∀ W, Below W1.heap.size W1 W → W.cell? ⟨w.heap.size, 4, none⟩ = some (.int .i64 n.to) ∧ W.cell? ⟨w.heap.size, 5, none⟩ = some V5 ∧ W.cell? ⟨w.heap.size, 6, none⟩ = some (.int .i64 n.els) ∧ W.cell? ⟨w.heap.size, 7, none⟩ = some (.slice (some bA) nb r.bc) ∧ W.cell? ⟨w.heap.size, 9, none⟩ = some (.int .i64 n.late) := by
    intro W hW
    have k := fun (x : Nat) => hW.cell (p := ⟨w.heap.size, x, none⟩) (by show w.heap.size < _; omega)
    rw [k, k, k, k, k, ← hW1]
    exact ⟨by simp [go_sem], by simp [go_sem], by simp [go_sem], by simp [go_sem], by simp [go_sem]⟩
  have HC : Hid (∀ W, Below W1.heap.size W1 W → NodIn W n r) := fun W hW => (HNd.out.below HB1.out).below hW
  rw [h2] at hx hW1 ⊢
  have HX : Hid (∀ W, Below W1.heap.size W1 W → W.cell? ⟨w.heap.size, 4, none⟩ = some (.int .i64 n.to) ∧ W.cell? ⟨w.heap.size, 5, none⟩ = some V5 ∧ W.cell? ⟨w.heap.size, 6, none⟩ = some (.int .i64 (-1)) ∧ W.cell? ⟨w.heap.size, 7, none⟩ = some (.slice (some bA) nb r.bc) ∧ W.cell? ⟨w.heap.size, 9, none⟩ = some (.int .i64 n.late)) := hx
  clear hx
  have hown : Own W1.heap.size W1 W1 (.slice none 0 0) [] := Own.nil (Nat.le_refl _)
  obtain ⟨x4, x5, x6, x7, x9⟩ := HX.out W1 (Below.refl _ _)
  have h1' : (n.to == -1) = false := by simpa using h1
  have h3' : (n.late == -1) = false := by simpa using h3
  clear hs1 h1 h2 h3
  go_enter Tryz.func202, Tryz.ntmps202
  go_wp2_with (at_builtin; go_must (refine wpList_append_own _ rfl (.tmp 8) (.tmp 11) 35 rfl W1.heap.size 3 i0 (.int .i64 0) 1 8 Tryz.underlying35 hi hz0 hz1 hz2 rfl (by decide) _ _ _ rfl (hown.row.alloc _) ⟨W1.heap.size, 0, none⟩ 1 1 [.int .i64 n.to] rfl rfl (one_c1 _ _) (one_c2 _) (by simp [maxLen]) (by simp) (by have := hown.sz; simp <;> omega) ?_))
  intro v1 w1 hown1 hg1 _
  have hO : Own W1.heap.size W1 w1 v1 ([] ++ [n.to]) := Own.step (hown.alloc _) hown1 rfl rfl hg1
  clear hown1 hg1 hown x4 x5 x6 x7 x9 hW1
  obtain ⟨x4, x5, x6, x7, x9⟩ := HX.out w1 hO.bel
  go_wp2_with fail
  go_loopw [3, 4] (fun v i wr => ∃ k : Nat, k ≤ nc ∧ i = .int .i64 k ∧ Own W1.heap.size W1 wr v ([n.to] ++ (n.cases.take k).map (·.to))) (fun _ i _ => nc - (intOf i).toNat)
  case atStart => exact ⟨0, Nat.zero_le _, rfl, by simpa using hO⟩
  case round =>
    clear hO x4 x5 x6 x7 x9
    obtain ⟨k, hk, hi4, hO⟩ := hrel
    subst hi4
    obtain ⟨x4, x5, x6, x7, x9⟩ := HX.out wr hO.bel
    by_cases hlt : k < nc
    · obtain ⟨cb, co, ec, c0, c1, c2, c3⟩ := (HC.out wr hO.bel).cs k (by rw [HNC.out]; exact hlt)
      have hV5' := HV5.out
      rw [ec] at hV5'
      try simp only [Option.map_some] at hV5'
      rw [← hV5'] at x5
      clear hV5'
      obtain ⟨X, hX⟩ : ∃ X, (n.cases.getD k .zero).to = X := ⟨_, rfl⟩
      have HXk : Hid ((n.cases.take (k + 1)).map (·.to) = (n.cases.take k).map (·.to) ++ [X]) := by
        show List.map _ _ = _
        rw [take_getD_succ Cas.zero _ k (by rw [HNC.out]; exact hlt), ← hX]; simp
      rw [hX] at c3
      have hlen : ([n.to] ++ (n.cases.take k).map (·.to)).length ≤ 7 := by have := HNC.out; simp; omega
      obtain ⟨l, hl⟩ : ∃ l, [n.to] ++ (n.cases.take k).map (·.to) = l := ⟨_, rfl⟩
      have HLL : Hid ([n.to] ++ (n.cases.take (k + 1)).map (·.to) = l ++ [X]) := by
        show _ ++ _ = _
        rw [HXk.out, ← hl]; simp
      rw [hl] at hO hlen
      clear hl hX c0 c1 c2
      have hkb : (k : Int) < nc := by omega
      go_wp2_with (at_builtin; go_must (refine wpList_append_own _ rfl (.tmp 20) (.tmp 27) 35 rfl W1.heap.size 3 i0 (.int .i64 0) 1 8 Tryz.underlying35 hi hz0 hz1 hz2 rfl (by decide) _ _ _ rfl (hO.row.alloc _) ⟨wr.heap.size, 0, none⟩ 1 1 [.int .i64 X] rfl rfl (one_c1 _ _) (one_c2 _) (by unfold maxLen; omega) (by omega) (by have := hO.sz; simp <;> omega) ?_))
      intro v1 w1 hown1 hg1 _
      have hO1 : Own W1.heap.size W1 w1 v1 (l ++ [X]) := Own.step (hO.alloc _) hown1 (by simp) (by simp [iv]) hg1
      clear hown1 hg1 hO x4 x5 x6 x7 x9 c3
      go_wp2_with fail
      exact ⟨⟨k + 1, by omega, by go_num, by rw [HLL.out]; exact hO1⟩, by simp [intOf]; omega⟩
    · obtain ⟨l, hl⟩ : ∃ l, [n.to] ++ n.cases.map (·.to) = l := ⟨_, rfl⟩
      have HLE : Hid ([n.to] ++ n.cases.map (·.to) = l) := hl
      have hlen : l.length ≤ 7 := by have := HNC.out; rw [← hl]; simp; omega
      rw [List.take_of_length_le (by rw [HNC.out]; omega), hl] at hO
      clear hl
      rw [← HV5.out] at x5
      have hO2 := hO
      clear hO
      obtain ⟨l2, hl2⟩ : ∃ l2, l ++ ([] : List Int) = l2 := ⟨_, rfl⟩
      have HL2 : Hid (l ++ [] = l2) := hl2
      have hlen2 : l2.length ≤ 8 := by rw [← hl2]; simp; omega
      rw [show l = l2 by rw [← hl2]; simp] at hO2
      clear hl2
      have HI : Hid (IntsIn wr (some bA) n.branches) := by have := (HC.out wr hO2.bel).bs; rw [HR4.out] at this; exact this
      go_wp2_with (at_builtin; go_must (refine wpList_append_own _ rfl (.tmp 37) (.tmp 39) 35 rfl W1.heap.size 3 i0 (.int .i64 0) 1 8 Tryz.underlying35 hi hz0 hz1 hz2 rfl (by decide) _ _ _ rfl hO2.row bA nb r.bc (iv n.branches) rfl (by rw [iv_len, HNB.out, Nat.mul_one]) (ints_c1 HI.out) (ints_c2 _) (by unfold maxLen; omega) (by omega) hO2.sz ?_))
      intro v3 w3 hown3 hg3 _
      have hO3 : Own W1.heap.size W1 w3 v3 (l2 ++ n.branches) := Own.step hO2 hown3 (by simp [HNB.out]) (by simp [iv]) hg3
      clear hown3 hg3 hO2 x4 x5 x6 x7 x9
      obtain ⟨x4, x5, x6, x7, x9⟩ := HX.out w3 hO3.bel
      obtain ⟨l3, hl3⟩ : ∃ l3, l2 ++ n.branches = l3 := ⟨_, rfl⟩
      have HL3 : Hid (l2 ++ n.branches = l3) := hl3
      have hlen3 : l3.length ≤ 14 := by have := HNB.out; rw [← hl3]; simp; omega
      rw [hl3] at hO3
      clear hl3
      go_wp2_with (at_builtin; go_must (refine wpList_append_own _ rfl (.tmp 44) (.tmp 47) 35 rfl W1.heap.size 3 i0 (.int .i64 0) 1 8 Tryz.underlying35 hi hz0 hz1 hz2 rfl (by decide) _ _ _ rfl (hO3.row.alloc _) ⟨w3.heap.size, 0, none⟩ 1 1 [.int .i64 n.late] rfl rfl (one_c1 _ _) (one_c2 _) (by unfold maxLen; omega) (by omega) (by have := hO3.sz; simp <;> omega) ?_))
      intro v4 w4 hown4 hg4 _
      have hO4 : Own W1.heap.size W1 w4 v4 (l3 ++ [n.late]) := Own.step (hO3.alloc _) hown4 (by simp) (by simp [iv]) hg4
      clear hown4 hg4 hO3
      go_wp2_with fail
      go_ret
      exact ⟨_, rfl, W1, HB1.out, HS1.out, by rw [HO.out, HLE.out, HL2.out, HL3.out]; exact hO4⟩
set_option maxHeartbeats 2000000 in
set_option maxRecDepth 100000 in
theorem out_tntn (n : Nod) (r : Raw) (w : World) (hn : NodIn w n r) (hcl : n.cases.length ≤ 6) (hbl : n.branches.length ≤ 6) (h1 : n.to ≠ -1) (h2 : n.els = -1) (h3 : n.late ≠ -1) (h4 : r.ba = none ∧ r.bc = 0 ∧ n.branches = []) :
    Calls Tryz.prog 202 #[.agg (nodV n r)] w fun e w' => ∃ v, e = .returned v ∧ ∃ W1, Below w.heap.size w W1 ∧ W1.heap.size = w.heap.size + 1 ∧ Own W1.heap.size W1 w' v (outL n) := by
  obtain ⟨i0, hi, hz0, hz1, hz2⟩ := info_parts Tryz.info3
  have ho : outL n = ([n.to] ++ n.cases.map (·.to) ++ [] ++ n.branches) ++ [n.late] := by
    unfold outL timelyL
    rw [optL_yes h1, h2, optL_no, optL_yes h3]
  obtain ⟨OUT, hOUT⟩ : ∃ l, outL n = l := ⟨_, rfl⟩
  have HO : Hid (OUT = ([n.to] ++ n.cases.map (·.to) ++ [] ++ n.branches) ++ [n.late]) := by rw [← hOUT]; exact ho
  rw [hOUT]
  clear hOUT ho
  have HNd : Hid (NodIn w n r) := hn
  unfold nodV
  obtain ⟨h4, h5, h6⟩ := h4
  rw [h4, h5]
  obtain ⟨nc, hnc⟩ : ∃ k, n.cases.length = k := ⟨_, rfl⟩
  obtain ⟨nb, hnb⟩ : ∃ k, n.branches.length = k := ⟨_, rfl⟩
  have HNC : Hid (n.cases.length = nc) := hnc
  have HNB : Hid (n.branches.length = nb) := hnb
  rw [hnc, hnb]
  rw [hnc] at hcl
  rw [hnb] at hbl
  have hnb0 : nb = 0 := by rw [← hnb, h6]; rfl
  subst hnb0
  clear hnc hnb hn
  have HR4 : Hid (r.ba = none) := h4
  clear h4
  simp only [SlV, Option.map_none]
  obtain ⟨V5, hV5⟩ : ∃ V, Value.slice r.ca nc r.cc = V := ⟨_, rfl⟩
  have HV5 : Hid (Value.slice r.ca nc r.cc = V5) := hV5
  rw [hV5]
  clear hV5
  obtain ⟨W1, hW1⟩ : ∃ W1, w.alloc (Obj.cells #[.int .i64 n.kind, .string n.id, .string n.name, .int .i64 n.up, .int .i64 n.to, V5, .int .i64 n.els, .slice none 0 0, .int .i64 n.after, .int .i64 n.late] 87) = W1 := ⟨_, rfl⟩
  have HB1 : Hid (Below w.heap.size w W1) := by rw [← hW1]; exact b1 _ _
  have hs1 : W1.heap.size = w.heap.size + 1 := by rw [← hW1]; simp
  have HS1 : Hid (W1.heap.size = w.heap.size + 1) := hs1
  have hx : ∀ W, Below W1.heap.size W1 W → W.cell? ⟨w.heap.size, 4, none⟩ = some (.int .i64 n.to) ∧ W.cell? ⟨w.heap.size, 5, none⟩ = some V5 ∧ W.cell? ⟨w.heap.size, 6, none⟩ = some (.int .i64 n.els) ∧ W.cell? ⟨w.heap.size, 7, none⟩ = some (.slice none 0 0) ∧ W.cell? ⟨w.heap.size, 9, none⟩ = some (.int .i64 n.late) := by
    intro W hW
    have k := fun (x : Nat) => hW.cell (p := ⟨w.heap.size, x, none⟩) (by show w.heap.size < _; omega)
    rw [k, k, k, k, k, ← hW1]
    exact ⟨by simp [go_sem], by simp [go_sem], by simp [go_sem], by simp [go_sem], by simp [go_sem]⟩
  have HC : Hid (∀ W, Below W1.heap.size W1 W → NodIn W n r) := fun W hW => (HNd.out.below HB1.out).below hW
  rw [h2] at hx hW1 ⊢
  have HX : Hid (∀ W, Below W1.heap.size W1 W → W.cell? ⟨w.heap.size, 4, none⟩ = some (.int .i64 n.to) ∧ W.cell? ⟨w.heap.size, 5, none⟩ = some V5 ∧ W.cell? ⟨w.heap.size, 6, none⟩ = some (.int .i64 (-1)) ∧ W.cell? ⟨w.heap.size, 7, none⟩ = some (.slice none 0 0) ∧ W.cell? ⟨w.heap.size, 9, none⟩ = some (.int .i64 n.late)) := hx
  clear hx
  have hown : Own W1.heap.size W1 W1 (.slice none 0 0) [] := Own.nil (Nat.le_refl _)
  obtain ⟨x4, x5, x6, x7, x9⟩ := HX.out W1 (Below.refl _ _)
  have h1' : (n.to == -1) = false := by simpa using h1
  have h3' : (n.late == -1) = false := by simpa using h3
  clear hs1 h1 h2 h3
  go_enter Tryz.func202, Tryz.ntmps202
  go_wp2_with (at_builtin; go_must (refine wpList_append_own _ rfl (.tmp 8) (.tmp 11) 35 rfl W1.heap.size 3 i0 (.int .i64 0) 1 8 Tryz.underlying35 hi hz0 hz1 hz2 rfl (by decide) _ _ _ rfl (hown.row.alloc _) ⟨W1.heap.size, 0, none⟩ 1 1 [.int .i64 n.to] rfl rfl (one_c1 _ _) (one_c2 _) (by simp [maxLen]) (by simp) (by have := hown.sz; simp <;> omega) ?_))
  intro v1 w1 hown1 hg1 _
  have hO : Own W1.heap.size W1 w1 v1 ([] ++ [n.to]) := Own.step (hown.alloc _) hown1 rfl rfl hg1
  clear hown1 hg1 hown x4 x5 x6 x7 x9 hW1
  obtain ⟨x4, x5, x6, x7, x9⟩ := HX.out w1 hO.bel
  go_wp2_with fail
  go_loopw [3, 4] (fun v i wr => ∃ k : Nat, k ≤ nc ∧ i = .int .i64 k ∧ Own W1.heap.size W1 wr v ([n.to] ++ (n.cases.take k).map (·.to))) (fun _ i _ => nc - (intOf i).toNat)
  case atStart => exact ⟨0, Nat.zero_le _, rfl, by simpa using hO⟩
  case round =>
    clear hO x4 x5 x6 x7 x9
    obtain ⟨k, hk, hi4, hO⟩ := hrel
    subst hi4
    obtain ⟨x4, x5, x6, x7, x9⟩ := HX.out wr hO.bel
    by_cases hlt : k < nc
    · obtain ⟨cb, co, ec, c0, c1, c2, c3⟩ := (HC.out wr hO.bel).cs k (by rw [HNC.out]; exact hlt)
      have hV5' := HV5.out
      rw [ec] at hV5'
      try simp only [Option.map_some] at hV5'
      rw [← hV5'] at x5
      clear hV5'
      obtain ⟨X, hX⟩ : ∃ X, (n.cases.getD k .zero).to = X := ⟨_, rfl⟩
      have HXk : Hid ((n.cases.take (k + 1)).map (·.to) = (n.cases.take k).map (·.to) ++ [X]) := by
        show List.map _ _ = _
        rw [take_getD_succ Cas.zero _ k (by rw [HNC.out]; exact hlt), ← hX]; simp
      rw [hX] at c3
      have hlen : ([n.to] ++ (n.cases.take k).map (·.to)).length ≤ 7 := by have := HNC.out; simp; omega
      obtain ⟨l, hl⟩ : ∃ l, [n.to] ++ (n.cases.take k).map (·.to) = l := ⟨_, rfl⟩
      have HLL : Hid ([n.to] ++ (n.cases.take (k + 1)).map (·.to) = l ++ [X]) := by
        show _ ++ _ = _
        rw [HXk.out, ← hl]; simp
      rw [hl] at hO hlen
      clear hl hX c0 c1 c2
      have hkb : (k : Int) < nc := by omega
      go_wp2_with (at_builtin; go_must (refine wpList_append_own _ rfl (.tmp 20) (.tmp 27) 35 rfl W1.heap.size 3 i0 (.int .i64 0) 1 8 Tryz.underlying35 hi hz0 hz1 hz2 rfl (by decide) _ _ _ rfl (hO.row.alloc _) ⟨wr.heap.size, 0, none⟩ 1 1 [.int .i64 X] rfl rfl (one_c1 _ _) (one_c2 _) (by unfold maxLen; omega) (by omega) (by have := hO.sz; simp <;> omega) ?_))
      intro v1 w1 hown1 hg1 _
      have hO1 : Own W1.heap.size W1 w1 v1 (l ++ [X]) := Own.step (hO.alloc _) hown1 (by simp) (by simp [iv]) hg1
      clear hown1 hg1 hO x4 x5 x6 x7 x9 c3
      go_wp2_with fail
      exact ⟨⟨k + 1, by omega, by go_num, by rw [HLL.out]; exact hO1⟩, by simp [intOf]; omega⟩
    · obtain ⟨l, hl⟩ : ∃ l, [n.to] ++ n.cases.map (·.to) = l := ⟨_, rfl⟩
      have HLE : Hid ([n.to] ++ n.cases.map (·.to) = l) := hl
      have hlen : l.length ≤ 7 := by have := HNC.out; rw [← hl]; simp; omega
      rw [List.take_of_length_le (by rw [HNC.out]; omega), hl] at hO
      clear hl
      rw [← HV5.out] at x5
      have hO2 := hO
      clear hO
      obtain ⟨l2, hl2⟩ : ∃ l2, l ++ ([] : List Int) = l2 := ⟨_, rfl⟩
      have HL2 : Hid (l ++ [] = l2) := hl2
      have hlen2 : l2.length ≤ 8 := by rw [← hl2]; simp; omega
      rw [show l = l2 by rw [← hl2]; simp] at hO2
      clear hl2
      have HI : Hid (IntsIn wr none n.branches) := by have := (HC.out wr hO2.bel).bs; rw [HR4.out] at this; exact this
      have eb : n.branches = [] := by
        cases hbr : n.branches with
        | nil => rfl
        | cons y t => obtain ⟨_, _, e, _⟩ := HI.out 0 (by rw [hbr]; simp); cases e
      have hO3 := hO2
      have el : l2 = l2 ++ n.branches := by rw [eb]; simp
      rw [el] at hO3
      clear el eb
      obtain ⟨l3, hl3⟩ : ∃ l3, l2 ++ n.branches = l3 := ⟨_, rfl⟩
      have HL3 : Hid (l2 ++ n.branches = l3) := hl3
      have hlen3 : l3.length ≤ 14 := by have := HNB.out; rw [← hl3]; simp; omega
      rw [hl3] at hO3
      clear hl3
      go_wp2_with (first | (at_builtin; refine wpList_append_own_none rfl (.tmp 37) (.tmp 39) 35 rfl W1.heap.size 3 i0 1 Tryz.underlying35 hi _ _ _ rfl hO3.row rfl ?_) | (at_builtin; (refine wpList_append_own _ rfl (.tmp 44) (.tmp 47) 35 rfl W1.heap.size 3 i0 (.int .i64 0) 1 8 Tryz.underlying35 hi hz0 hz1 hz2 rfl (by decide) _ _ _ rfl (hO3.row.alloc _) ⟨wr.heap.size, 0, none⟩ 1 1 [.int .i64 n.late] rfl rfl (one_c1 _ _) (one_c2 _) (by unfold maxLen; omega) (by omega) (by have := hO3.sz; simp <;> omega) ?_)))
      intro v4 w4 hown4 hg4 _
      have hO4 : Own W1.heap.size W1 w4 v4 (l3 ++ [n.late]) := Own.step (hO3.alloc _) hown4 (by simp) (by simp [iv]) hg4
      clear hown4 hg4 hO3
      go_wp2_with fail
      go_ret
      exact ⟨_, rfl, W1, HB1.out, HS1.out, by rw [HO.out, HLE.out, HL2.out, HL3.out]; exact hO4⟩
set_option maxHeartbeats 2000000 in
set_option maxRecDepth 100000 in
theorem out_tnnt (n : Nod) (r : Raw) (w : World) (hn : NodIn w n r) (hcl : n.cases.length ≤ 6) (hbl : n.branches.length ≤ 6) (h1 : n.to ≠ -1) (h2 : n.els = -1) (h3 : n.late = -1) (bA : Addr) (h4 : r.ba = some bA) :
    Calls Tryz.prog 202 #[.agg (nodV n r)] w fun e w' => ∃ v, e = .returned v ∧ ∃ W1, Below w.heap.size w W1 ∧ W1.heap.size = w.heap.size + 1 ∧ Own W1.heap.size W1 w' v (outL n) := by
  obtain ⟨i0, hi, hz0, hz1, hz2⟩ := info_parts Tryz.info3
  have ho : outL n = ([n.to] ++ n.cases.map (·.to) ++ [] ++ n.branches) ++ [] := by
    unfold outL timelyL
    rw [optL_yes h1, h2, optL_no, h3, optL_no]
  obtain ⟨OUT, hOUT⟩ : ∃ l, outL n = l := ⟨_, rfl⟩
  have HO : Hid (OUT = ([n.to] ++ n.cases.map (·.to) ++ [] ++ n.branches) ++ []) := by rw [← hOUT]; exact ho
  rw [hOUT]
  clear hOUT ho
  have HNd : Hid (NodIn w n r) := hn
  unfold nodV
  rw [h4]
  obtain ⟨nc, hnc⟩ : ∃ k, n.cases.length = k := ⟨_, rfl⟩
  obtain ⟨nb, hnb⟩ : ∃ k, n.branches.length = k := ⟨_, rfl⟩
  have HNC : Hid (n.cases.length = nc) := hnc
  have HNB : Hid (n.branches.length = nb) := hnb
  rw [hnc, hnb]
  rw [hnc] at hcl
  rw [hnb] at hbl
  skip
  clear hnc hnb hn
  have HR4 : Hid (r.ba = some bA) := h4
  clear h4
  simp only [SlV, Option.map_some]
  obtain ⟨V5, hV5⟩ : ∃ V, Value.slice r.ca nc r.cc = V := ⟨_, rfl⟩
  have HV5 : Hid (Value.slice r.ca nc r.cc = V5) := hV5
  rw [hV5]
  clear hV5
  obtain ⟨W1, hW1⟩ : ∃ W1, w.alloc (Obj.cells #[.int .i64 n.kind, .string n.id, .string n.name, .int .i64 n.up, .int .i64 n.to, V5, .int .i64 n.els, .slice (some bA) nb r.bc, .int .i64 n.after, .int .i64 n.late] 87) = W1 := ⟨_, rfl⟩
  have HB1 : Hid (Below w.heap.size w W1) := by rw [← hW1]; exact b1 _ _
  have hs1 : W1.heap.size = w.heap.size + 1 := by rw [← hW1]; simp
  have HS1 : Hid (W1.heap.size = w.heap.size + 1) := hs1
  have hx : ∀ W, Below W1.heap.size W1 W → W.cell? ⟨w.heap.size, 4, none⟩ = some (.int .i64 n.to) ∧ W.cell? ⟨w.heap.size, 5, none⟩ = some V5 ∧ W.cell? ⟨w.heap.size, 6, none⟩ = some (.int .i64 n.els) ∧ W.cell? ⟨w.heap.size, 7, none⟩ = some (.slice (some bA) nb r.bc) ∧ W.cell? ⟨w.heap.size, 9, none⟩ = some (.int .i64 n.late) := by
    intro W hW
    have k := fun (x : Nat) => hW.cell (p := ⟨w.heap.size, x, none⟩) (by show w.heap.size < _; omega)
    rw [k, k, k, k, k, ← hW1]
    exact ⟨by simp [go_sem], by simp [go_sem], by simp [go_sem], by simp [go_sem], by simp [go_sem]⟩
  have HC : Hid (∀ W, Below W1.heap.size W1 W → NodIn W n r) := fun W hW => (HNd.out.below HB1.out).below hW
  rw [h2] at hx hW1 ⊢
  rw [h3] at hx hW1 ⊢
  have HX : Hid (∀ W, Below W1.heap.size W1 W → W.cell? ⟨w.heap.size, 4, none⟩ = some (.int .i64 n.to) ∧ W.cell? ⟨w.heap.size, 5, none⟩ = some V5 ∧ W.cell? ⟨w.heap.size, 6, none⟩ = some (.int .i64 (-1)) ∧ W.cell? ⟨w.heap.size, 7, none⟩ = some (.slice (some bA) nb r.bc) ∧ W.cell? ⟨w.heap.size, 9, none⟩ = some (.int .i64 (-1))) := hx
  clear hx
  have hown : Own W1.heap.size W1 W1 (.slice none 0 0) [] := Own.nil (Nat.le_refl _)
  obtain ⟨x4, x5, x6, x7, x9⟩ := HX.out W1 (Below.refl _ _)
  have h1' : (n.to == -1) = false := by simpa using h1
  clear hs1 h1 h2 h3
  go_enter Tryz.func202, Tryz.ntmps202
  go_wp2_with (at_builtin; go_must (refine wpList_append_own _ rfl (.tmp 8) (.tmp 11) 35 rfl W1.heap.size 3 i0 (.int .i64 0) 1 8 Tryz.underlying35 hi hz0 hz1 hz2 rfl (by decide) _ _ _ rfl (hown.row.alloc _) ⟨W1.heap.size, 0, none⟩ 1 1 [.int .i64 n.to] rfl rfl (one_c1 _ _) (one_c2 _) (by simp [maxLen]) (by simp) (by have := hown.sz; simp <;> omega) ?_))
  intro v1 w1 hown1 hg1 _
  have hO : Own W1.heap.size W1 w1 v1 ([] ++ [n.to]) := Own.step (hown.alloc _) hown1 rfl rfl hg1
  clear hown1 hg1 hown x4 x5 x6 x7 x9 hW1
  obtain ⟨x4, x5, x6, x7, x9⟩ := HX.out w1 hO.bel
  go_wp2_with fail
  go_loopw [3, 4] (fun v i wr => ∃ k : Nat, k ≤ nc ∧ i = .int .i64 k ∧ Own W1.heap.size W1 wr v ([n.to] ++ (n.cases.take k).map (·.to))) (fun _ i _ => nc - (intOf i).toNat)
  case atStart => exact ⟨0, Nat.zero_le _, rfl, by simpa using hO⟩
  case round =>
    clear hO x4 x5 x6 x7 x9
    obtain ⟨k, hk, hi4, hO⟩ := hrel
    subst hi4
    obtain ⟨x4, x5, x6, x7, x9⟩ := HX.out wr hO.bel
    by_cases hlt : k < nc
    · obtain ⟨cb, co, ec, c0, c1, c2, c3⟩ := (HC.out wr hO.bel).cs k (by rw [HNC.out]; exact hlt)
      have hV5' := HV5.out
      rw [ec] at hV5'
      try simp only [Option.map_some] at hV5'
      rw [← hV5'] at x5
      clear hV5'
      obtain ⟨X, hX⟩ : ∃ X, (n.cases.getD k .zero).to = X := ⟨_, rfl⟩
      have HXk : Hid ((n.cases.take (k + 1)).map (·.to) = (n.cases.take k).map (·.to) ++ [X]) := by
        show List.map _ _ = _
        rw [take_getD_succ Cas.zero _ k (by rw [HNC.out]; exact hlt), ← hX]; simp
      rw [hX] at c3
      have hlen : ([n.to] ++ (n.cases.take k).map (·.to)).length ≤ 7 := by have := HNC.out; simp; omega
      obtain ⟨l, hl⟩ : ∃ l, [n.to] ++ (n.cases.take k).map (·.to) = l := ⟨_, rfl⟩
      have HLL : Hid ([n.to] ++ (n.cases.take (k + 1)).map (·.to) = l ++ [X]) := by
        show _ ++ _ = _
        rw [HXk.out, ← hl]; simp
      rw [hl] at hO hlen
      clear hl hX c0 c1 c2
      have hkb : (k : Int) < nc := by omega
      go_wp2_with (at_builtin; go_must (refine wpList_append_own _ rfl (.tmp 20) (.tmp 27) 35 rfl W1.heap.size 3 i0 (.int .i64 0) 1 8 Tryz.underlying35 hi hz0 hz1 hz2 rfl (by decide) _ _ _ rfl (hO.row.alloc _) ⟨wr.heap.size, 0, none⟩ 1 1 [.int .i64 X] rfl rfl (one_c1 _ _) (one_c2 _) (by unfold maxLen; omega) (by omega) (by have := hO.sz; simp <;> omega) ?_))
      intro v1 w1 hown1 hg1 _
      have hO1 : Own W1.heap.size W1 w1 v1 (l ++ [X]) := Own.step (hO.alloc _) hown1 (by simp) (by simp [iv]) hg1
      clear hown1 hg1 hO x4 x5 x6 x7 x9 c3
      go_wp2_with fail
      exact ⟨⟨k + 1, by omega, by go_num, by rw [HLL.out]; exact hO1⟩, by simp [intOf]; omega⟩
    · obtain ⟨l, hl⟩ : ∃ l, [n.to] ++ n.cases.map (·.to) = l := ⟨_, rfl⟩
      have HLE : Hid ([n.to] ++ n.cases.map (·.to) = l) := hl
      have hlen : l.length ≤ 7 := by have := HNC.out; rw [← hl]; simp; omega
      rw [List.take_of_length_le (by rw [HNC.out]; omega), hl] at hO
      clear hl
      rw [← HV5.out] at x5
      have hO2 := hO
      clear hO
      obtain ⟨l2, hl2⟩ : ∃ l2, l ++ ([] : List Int) = l2 := ⟨_, rfl⟩
      have HL2 : Hid (l ++ [] = l2) := hl2
      have hlen2 : l2.length ≤ 8 := by rw [← hl2]; simp; omega
      rw [show l = l2 by rw [← hl2]; simp] at hO2
      clear hl2
      have HI : Hid (IntsIn wr (some bA) n.branches) := by have := (HC.out wr hO2.bel).bs; rw [HR4.out] at this; exact this
      go_wp2_with (at_builtin; go_must (refine wpList_append_own _ rfl (.tmp 37) (.tmp 39) 35 rfl W1.heap.size 3 i0 (.int .i64 0) 1 8 Tryz.underlying35 hi hz0 hz1 hz2 rfl (by decide) _ _ _ rfl hO2.row bA nb r.bc (iv n.branches) rfl (by rw [iv_len, HNB.out, Nat.mul_one]) (ints_c1 HI.out) (ints_c2 _) (by unfold maxLen; omega) (by omega) hO2.sz ?_))
      intro v3 w3 hown3 hg3 _
      have hO3 : Own W1.heap.size W1 w3 v3 (l2 ++ n.branches) := Own.step hO2 hown3 (by simp [HNB.out]) (by simp [iv]) hg3
      clear hown3 hg3 hO2 x4 x5 x6 x7 x9
      obtain ⟨x4, x5, x6, x7, x9⟩ := HX.out w3 hO3.bel
      obtain ⟨l3, hl3⟩ : ∃ l3, l2 ++ n.branches = l3 := ⟨_, rfl⟩
      have HL3 : Hid (l2 ++ n.branches = l3) := hl3
      have hlen3 : l3.length ≤ 14 := by have := HNB.out; rw [← hl3]; simp; omega
      rw [hl3] at hO3
      clear hl3
      go_wp2_with fail
      go_ret
      exact ⟨_, rfl, W1, HB1.out, HS1.out, by rw [HO.out, HLE.out, HL2.out, HL3.out, List.append_nil]; exact hO3⟩
set_option maxHeartbeats 2000000 in
set_option maxRecDepth 100000 in
theorem out_tnnn (n : Nod) (r : Raw) (w : World) (hn : NodIn w n r) (hcl : n.cases.length ≤ 6) (hbl : n.branches.length ≤ 6) (h1 : n.to ≠ -1) (h2 : n.els = -1) (h3 : n.late = -1) (h4 : r.ba = none ∧ r.bc = 0 ∧ n.branches = []) :
    Calls Tryz.prog 202 #[.agg (nodV n r)] w fun e w' => ∃ v, e = .returned v ∧ ∃ W1, Below w.heap.size w W1 ∧ W1.heap.size = w.heap.size + 1 ∧ Own W1.heap.size W1 w' v (outL n) := by
  obtain ⟨i0, hi, hz0, hz1, hz2⟩ := info_parts Tryz.info3
  have ho : outL n = ([n.to] ++ n.cases.map (·.to) ++ [] ++ n.branches) ++ [] := by
    unfold outL timelyL
    rw [optL_yes h1, h2, optL_no, h3, optL_no]
  obtain ⟨OUT, hOUT⟩ : ∃ l, outL n = l := ⟨_, rfl⟩
  have HO : Hid (OUT = ([n.to] ++ n.cases.map (·.to) ++ [] ++ n.branches) ++ []) := by rw [← hOUT]; exact ho
  rw [hOUT]
  clear hOUT ho
  have HNd : Hid (NodIn w n r) := hn
  unfold nodV
  obtain ⟨h4, h5, h6⟩ := h4
  rw [h4, h5]
  obtain ⟨nc, hnc⟩ : ∃ k, n.cases.length = k := ⟨_, rfl⟩
  obtain ⟨nb, hnb⟩ : ∃ k, n.branches.length = k := ⟨_, rfl⟩
  have HNC : Hid (n.cases.length = nc) := hnc
  have HNB : Hid (n.branches.length = nb) := hnb
  rw [hnc, hnb]
  rw [hnc] at hcl
  rw [hnb] at hbl
  have hnb0 : nb = 0 := by rw [← hnb, h6]; rfl
  subst hnb0
  clear hnc hnb hn
  have HR4 : Hid (r.ba = none) := h4
  clear h4
  simp only [SlV, Option.map_none]
  obtain ⟨V5, hV5⟩ : ∃ V, Value.slice r.ca nc r.cc = V := ⟨_, rfl⟩
  have HV5 : Hid (Value.slice r.ca nc r.cc = V5) := hV5
  rw [hV5]
  clear hV5
  obtain ⟨W1, hW1⟩ : ∃ W1, w.alloc (Obj.cells #[.int .i64 n.kind, .string n.id, .string n.name, .int .i64 n.up, .int .i64 n.to, V5, .int .i64 n.els, .slice none 0 0, .int .i64 n.after, .int .i64 n.late] 87) = W1 := ⟨_, rfl⟩
  have HB1 : Hid (Below w.heap.size w W1) := by rw [← hW1]; exact b1 _ _
  have hs1 : W1.heap.size = w.heap.size + 1 := by rw [← hW1]; simp
  have HS1 : Hid (W1.heap.size = w.heap.size + 1) := hs1
  have hx : ∀ W, Below W1.heap.size W1 W → W.cell? ⟨w.heap.size, 4, none⟩ = some (.int .i64 n.to) ∧ W.cell? ⟨w.heap.size, 5, none⟩ = some V5 ∧ W.cell? ⟨w.heap.size, 6, none⟩ = some (.int .i64 n.els) ∧ W.cell? ⟨w.heap.size, 7, none⟩ = some (.slice none 0 0) ∧ W.cell? ⟨w.heap.size, 9, none⟩ = some (.int .i64 n.late) := by
    intro W hW
    have k := fun (x : Nat) => hW.cell (p := ⟨w.heap.size, x, none⟩) (by show w.heap.size < _; omega)
    rw [k, k, k, k, k, ← hW1]
    exact ⟨by simp [go_sem], by simp [go_sem], by simp [go_sem], by simp [go_sem], by simp [go_sem]⟩
  have HC : Hid (∀ W, Below W1.heap.size W1 W → NodIn W n r) := fun W hW => (HNd.out.below HB1.out).below hW
  rw [h2] at hx hW1 ⊢
  rw [h3] at hx hW1 ⊢
  have HX : Hid (∀ W, Below W1.heap.size W1 W → W.cell? ⟨w.heap.size, 4, none⟩ = some (.int .i64 n.to) ∧ W.cell? ⟨w.heap.size, 5, none⟩ = some V5 ∧ W.cell? ⟨w.heap.size, 6, none⟩ = some (.int .i64 (-1)) ∧ W.cell? ⟨w.heap.size, 7, none⟩ = some (.slice none 0 0) ∧ W.cell? ⟨w.heap.size, 9, none⟩ = some (.int .i64 (-1))) := hx
  clear hx
  have hown : Own W1.heap.size W1 W1 (.slice none 0 0) [] := Own.nil (Nat.le_refl _)
  obtain ⟨x4, x5, x6, x7, x9⟩ := HX.out W1 (Below.refl _ _)
  have h1' : (n.to == -1) = false := by simpa using h1
  clear hs1 h1 h2 h3
  go_enter Tryz.func202, Tryz.ntmps202
  go_wp2_with (at_builtin; go_must (refine wpList_append_own _ rfl (.tmp 8) (.tmp 11) 35 rfl W1.heap.size 3 i0 (.int .i64 0) 1 8 Tryz.underlying35 hi hz0 hz1 hz2 rfl (by decide) _ _ _ rfl (hown.row.alloc _) ⟨W1.heap.size, 0, none⟩ 1 1 [.int .i64 n.to] rfl rfl (one_c1 _ _) (one_c2 _) (by simp [maxLen]) (by simp) (by have := hown.sz; simp <;> omega) ?_))
  intro v1 w1 hown1 hg1 _
  have hO : Own W1.heap.size W1 w1 v1 ([] ++ [n.to]) := Own.step (hown.alloc _) hown1 rfl rfl hg1
  clear hown1 hg1 hown x4 x5 x6 x7 x9 hW1
  obtain ⟨x4, x5, x6, x7, x9⟩ := HX.out w1 hO.bel
  go_wp2_with fail
  go_loopw [3, 4] (fun v i wr => ∃ k : Nat, k ≤ nc ∧ i = .int .i64 k ∧ Own W1.heap.size W1 wr v ([n.to] ++ (n.cases.take k).map (·.to))) (fun _ i _ => nc - (intOf i).toNat)
  case atStart => exact ⟨0, Nat.zero_le _, rfl, by simpa using hO⟩
  case round =>
    clear hO x4 x5 x6 x7 x9
    obtain ⟨k, hk, hi4, hO⟩ := hrel
    subst hi4
    obtain ⟨x4, x5, x6, x7, x9⟩ := HX.out wr hO.bel
    by_cases hlt : k < nc
    · obtain ⟨cb, co, ec, c0, c1, c2, c3⟩ := (HC.out wr hO.bel).cs k (by rw [HNC.out]; exact hlt)
      have hV5' := HV5.out
      rw [ec] at hV5'
      try simp only [Option.map_some] at hV5'
      rw [← hV5'] at x5
      clear hV5'
      obtain ⟨X, hX⟩ : ∃ X, (n.cases.getD k .zero).to = X := ⟨_, rfl⟩
      have HXk : Hid ((n.cases.take (k + 1)).map (·.to) = (n.cases.take k).map (·.to) ++ [X]) := by
        show List.map _ _ = _
        rw [take_getD_succ Cas.zero _ k (by rw [HNC.out]; exact hlt), ← hX]; simp
      rw [hX] at c3
      have hlen : ([n.to] ++ (n.cases.take k).map (·.to)).length ≤ 7 := by have := HNC.out; simp; omega
      obtain ⟨l, hl⟩ : ∃ l, [n.to] ++ (n.cases.take k).map (·.to) = l := ⟨_, rfl⟩
      have HLL : Hid ([n.to] ++ (n.cases.take (k + 1)).map (·.to) = l ++ [X]) := by
        show _ ++ _ = _
        rw [HXk.out, ← hl]; simp
      rw [hl] at hO hlen
      clear hl hX c0 c1 c2
      have hkb : (k : Int) < nc := by omega
      go_wp2_with (at_builtin; go_must (refine wpList_append_own _ rfl (.tmp 20) (.tmp 27) 35 rfl W1.heap.size 3 i0 (.int .i64 0) 1 8 Tryz.underlying35 hi hz0 hz1 hz2 rfl (by decide) _ _ _ rfl (hO.row.alloc _) ⟨wr.heap.size, 0, none⟩ 1 1 [.int .i64 X] rfl rfl (one_c1 _ _) (one_c2 _) (by unfold maxLen; omega) (by omega) (by have := hO.sz; simp <;> omega) ?_))
      intro v1 w1 hown1 hg1 _
      have hO1 : Own W1.heap.size W1 w1 v1 (l ++ [X]) := Own.step (hO.alloc _) hown1 (by simp) (by simp [iv]) hg1
      clear hown1 hg1 hO x4 x5 x6 x7 x9 c3
      go_wp2_with fail
      exact ⟨⟨k + 1, by omega, by go_num, by rw [HLL.out]; exact hO1⟩, by simp [intOf]; omega⟩
    · obtain ⟨l, hl⟩ : ∃ l, [n.to] ++ n.cases.map (·.to) = l := ⟨_, rfl⟩
      have HLE : Hid ([n.to] ++ n.cases.map (·.to) = l) := hl
      have hlen : l.length ≤ 7 := by have := HNC.out; rw [← hl]; simp; omega
      rw [List.take_of_length_le (by rw [HNC.out]; omega), hl] at hO
      clear hl
      rw [← HV5.out] at x5
      have hO2 := hO
      clear hO
      obtain ⟨l2, hl2⟩ : ∃ l2, l ++ ([] : List Int) = l2 := ⟨_, rfl⟩
      have HL2 : Hid (l ++ [] = l2) := hl2
      have hlen2 : l2.length ≤ 8 := by rw [← hl2]; simp; omega
      rw [show l = l2 by rw [← hl2]; simp] at hO2
      clear hl2
      have HI : Hid (IntsIn wr none n.branches) := by have := (HC.out wr hO2.bel).bs; rw [HR4.out] at this; exact this
      have eb : n.branches = [] := by
        cases hbr : n.branches with
        | nil => rfl
        | cons y t => obtain ⟨_, _, e, _⟩ := HI.out 0 (by rw [hbr]; simp); cases e
      have hO3 := hO2
      have el : l2 = l2 ++ n.branches := by rw [eb]; simp
      rw [el] at hO3
      clear el eb
      obtain ⟨l3, hl3⟩ : ∃ l3, l2 ++ n.branches = l3 := ⟨_, rfl⟩
      have HL3 : Hid (l2 ++ n.branches = l3) := hl3
      have hlen3 : l3.length ≤ 14 := by have := HNB.out; rw [← hl3]; simp; omega
      rw [hl3] at hO3
      clear hl3
      go_wp2_with (at_builtin; refine wpList_append_own_none rfl (.tmp 37) (.tmp 39) 35 rfl W1.heap.size 3 i0 1 Tryz.underlying35 hi _ _ _ rfl hO3.row rfl ?_)
      go_ret
      exact ⟨_, rfl, W1, HB1.out, HS1.out, by rw [HO.out, HLE.out, HL2.out, HL3.out, List.append_nil]; exact hO3⟩
set_option maxHeartbeats 2000000 in
set_option maxRecDepth 100000 in
theorem out_nttt (n : Nod) (r : Raw) (w : World) (hn : NodIn w n r) (hcl : n.cases.length ≤ 6) (hbl : n.branches.length ≤ 6) (h1 : n.to = -1) (h2 : n.els ≠ -1) (h3 : n.late ≠ -1) (bA : Addr) (h4 : r.ba = some bA) :
    Calls Tryz.prog 202 #[.agg (nodV n r)] w fun e w' => ∃ v, e = .returned v ∧ ∃ W1, Below w.heap.size w W1 ∧ W1.heap.size = w.heap.size + 1 ∧ Own W1.heap.size W1 w' v (outL n) := by
  obtain ⟨i0, hi, hz0, hz1, hz2⟩ := info_parts Tryz.info3
  have ho : outL n = (([] : List Int) ++ n.cases.map (·.to) ++ [n.els] ++ n.branches) ++ [n.late] := by
    unfold outL timelyL
    rw [h1, optL_no, optL_yes h2, optL_yes h3]
  obtain ⟨OUT, hOUT⟩ : ∃ l, outL n = l := ⟨_, rfl⟩
  have HO : Hid (OUT = (([] : List Int) ++ n.cases.map (·.to) ++ [n.els] ++ n.branches) ++ [n.late]) := by rw [← hOUT]; exact ho
  rw [hOUT]
  clear hOUT ho
  have HNd : Hid (NodIn w n r) := hn
  unfold nodV
  rw [h4]
  obtain ⟨nc, hnc⟩ : ∃ k, n.cases.length = k := ⟨_, rfl⟩
  obtain ⟨nb, hnb⟩ : ∃ k, n.branches.length = k := ⟨_, rfl⟩
  have HNC : Hid (n.cases.length = nc) := hnc
  have HNB : Hid (n.branches.length = nb) := hnb
  rw [hnc, hnb]
  rw [hnc] at hcl
  rw [hnb] at hbl
  skip
  clear hnc hnb hn
  have HR4 : Hid (r.ba = some bA) := h4
  clear h4
  simp only [SlV, Option.map_some]
  obtain ⟨V5, hV5⟩ : ∃ V, Value.slice r.ca nc r.cc = V := ⟨_, rfl⟩
  have HV5 : Hid (Value.slice r.ca nc r.cc = V5) := hV5
  rw [hV5]
  clear hV5
  obtain ⟨W1, hW1⟩ : ∃ W1, w.alloc (Obj.cells #[.int .i64 n.kind, .string n.id, .string n.name, .int .i64 n.up, .int .i64 n.to, V5, .int .i64 n.els, .slice (some bA) nb r.bc, .int .i64 n.after, .int .i64 n.late] 87) = W1 := ⟨_, rfl⟩
  have HB1 : Hid (Below w.heap.size w W1) := by rw [← hW1]; exact b1 _ _
  have hs1 : W1.heap.size = w.heap.size + 1 := by rw [← hW1]; simp
  have HS1 : Hid (W1.heap.size = w.heap.size + 1) := hs1
  have hx : ∀ W, Below W1.heap.size W1 W → W.cell? ⟨w.heap.size, 4, none⟩ = some (.int .i64 n.to) ∧ W.cell? ⟨w.heap.size, 5, none⟩ = some V5 ∧ W.cell? ⟨w.heap.size, 6, none⟩ = some (.int .i64 n.els) ∧ W.cell? ⟨w.heap.size, 7, none⟩ = some (.slice (some bA) nb r.bc) ∧ W.cell? ⟨w.heap.size, 9, none⟩ = some (.int .i64 n.late) := by
    intro W hW
    have k := fun (x : Nat) => hW.cell (p := ⟨w.heap.size, x, none⟩) (by show w.heap.size < _; omega)
    rw [k, k, k, k, k, ← hW1]
    exact ⟨by simp [go_sem], by simp [go_sem], by simp [go_sem], by simp [go_sem], by simp [go_sem]⟩
  have HC : Hid (∀ W, Below W1.heap.size W1 W → NodIn W n r) := fun W hW => (HNd.out.below HB1.out).below hW
  rw [h1] at hx hW1 ⊢
  have HX : Hid (∀ W, Below W1.heap.size W1 W → W.cell? ⟨w.heap.size, 4, none⟩ = some (.int .i64 (-1)) ∧ W.cell? ⟨w.heap.size, 5, none⟩ = some V5 ∧ W.cell? ⟨w.heap.size, 6, none⟩ = some (.int .i64 n.els) ∧ W.cell? ⟨w.heap.size, 7, none⟩ = some (.slice (some bA) nb r.bc) ∧ W.cell? ⟨w.heap.size, 9, none⟩ = some (.int .i64 n.late)) := hx
  clear hx
  have hown : Own W1.heap.size W1 W1 (.slice none 0 0) [] := Own.nil (Nat.le_refl _)
  obtain ⟨x4, x5, x6, x7, x9⟩ := HX.out W1 (Below.refl _ _)
  have h2' : (n.els == -1) = false := by simpa using h2
  have h3' : (n.late == -1) = false := by simpa using h3
  clear hs1 h1 h2 h3
  go_enter Tryz.func202, Tryz.ntmps202
  have hO := hown
  clear hown
  go_wp2_with fail
  clear hW1
  go_loopw [3, 4] (fun v i wr => ∃ k : Nat, k ≤ nc ∧ i = .int .i64 k ∧ Own W1.heap.size W1 wr v (([] : List Int) ++ (n.cases.take k).map (·.to))) (fun _ i _ => nc - (intOf i).toNat)
  case atStart => exact ⟨0, Nat.zero_le _, rfl, by simpa using hO⟩
  case round =>
    clear hO x4 x5 x6 x7 x9
    obtain ⟨k, hk, hi4, hO⟩ := hrel
    subst hi4
    obtain ⟨x4, x5, x6, x7, x9⟩ := HX.out wr hO.bel
    by_cases hlt : k < nc
    · obtain ⟨cb, co, ec, c0, c1, c2, c3⟩ := (HC.out wr hO.bel).cs k (by rw [HNC.out]; exact hlt)
      have hV5' := HV5.out
      rw [ec] at hV5'
      try simp only [Option.map_some] at hV5'
      rw [← hV5'] at x5
      clear hV5'
      obtain ⟨X, hX⟩ : ∃ X, (n.cases.getD k .zero).to = X := ⟨_, rfl⟩
      have HXk : Hid ((n.cases.take (k + 1)).map (·.to) = (n.cases.take k).map (·.to) ++ [X]) := by
        show List.map _ _ = _
        rw [take_getD_succ Cas.zero _ k (by rw [HNC.out]; exact hlt), ← hX]; simp
      rw [hX] at c3
      have hlen : (([] : List Int) ++ (n.cases.take k).map (·.to)).length ≤ 7 := by have := HNC.out; simp; omega
      obtain ⟨l, hl⟩ : ∃ l, ([] : List Int) ++ (n.cases.take k).map (·.to) = l := ⟨_, rfl⟩
      have HLL : Hid (([] : List Int) ++ (n.cases.take (k + 1)).map (·.to) = l ++ [X]) := by
        show _ ++ _ = _
        rw [HXk.out, ← hl]; simp
      rw [hl] at hO hlen
      clear hl hX c0 c1 c2
      have hkb : (k : Int) < nc := by omega
      go_wp2_with (at_builtin; go_must (refine wpList_append_own _ rfl (.tmp 20) (.tmp 27) 35 rfl W1.heap.size 3 i0 (.int .i64 0) 1 8 Tryz.underlying35 hi hz0 hz1 hz2 rfl (by decide) _ _ _ rfl (hO.row.alloc _) ⟨wr.heap.size, 0, none⟩ 1 1 [.int .i64 X] rfl rfl (one_c1 _ _) (one_c2 _) (by unfold maxLen; omega) (by omega) (by have := hO.sz; simp <;> omega) ?_))
      intro v1 w1 hown1 hg1 _
      have hO1 : Own W1.heap.size W1 w1 v1 (l ++ [X]) := Own.step (hO.alloc _) hown1 (by simp) (by simp [iv]) hg1
      clear hown1 hg1 hO x4 x5 x6 x7 x9 c3
      go_wp2_with fail
      exact ⟨⟨k + 1, by omega, by go_num, by rw [HLL.out]; exact hO1⟩, by simp [intOf]; omega⟩
    · obtain ⟨l, hl⟩ : ∃ l, ([] : List Int) ++ n.cases.map (·.to) = l := ⟨_, rfl⟩
      have HLE : Hid (([] : List Int) ++ n.cases.map (·.to) = l) := hl
      have hlen : l.length ≤ 7 := by have := HNC.out; rw [← hl]; simp; omega
      rw [List.take_of_length_le (by rw [HNC.out]; omega), hl] at hO
      clear hl
      rw [← HV5.out] at x5
      go_wp2_with (at_builtin; go_must (refine wpList_append_own _ rfl (.tmp 32) (.tmp 35) 35 rfl W1.heap.size 3 i0 (.int .i64 0) 1 8 Tryz.underlying35 hi hz0 hz1 hz2 rfl (by decide) _ _ _ rfl (hO.row.alloc _) ⟨wr.heap.size, 0, none⟩ 1 1 [.int .i64 n.els] rfl rfl (one_c1 _ _) (one_c2 _) (by unfold maxLen; omega) (by omega) (by have := hO.sz; simp <;> omega) ?_))
      intro v2 w2 hown2 hg2 _
      have hO2 : Own W1.heap.size W1 w2 v2 (l ++ [n.els]) := Own.step (hO.alloc _) hown2 (by simp) (by simp [iv]) hg2
      clear hown2 hg2 hO x4 x5 x6 x7 x9
      obtain ⟨x4, x5, x6, x7, x9⟩ := HX.out w2 hO2.bel
      obtain ⟨l2, hl2⟩ : ∃ l2, l ++ [n.els] = l2 := ⟨_, rfl⟩
      have HL2 : Hid (l ++ [n.els] = l2) := hl2
      have hlen2 : l2.length ≤ 8 := by rw [← hl2]; simp; omega
      rw [hl2] at hO2
      clear hl2
      have HI : Hid (IntsIn w2 (some bA) n.branches) := by have := (HC.out w2 hO2.bel).bs; rw [HR4.out] at this; exact this
      go_wp2_with (at_builtin; go_must (refine wpList_append_own _ rfl (.tmp 37) (.tmp 39) 35 rfl W1.heap.size 3 i0 (.int .i64 0) 1 8 Tryz.underlying35 hi hz0 hz1 hz2 rfl (by decide) _ _ _ rfl hO2.row bA nb r.bc (iv n.branches) rfl (by rw [iv_len, HNB.out, Nat.mul_one]) (ints_c1 HI.out) (ints_c2 _) (by unfold maxLen; omega) (by omega) hO2.sz ?_))
      intro v3 w3 hown3 hg3 _
      have hO3 : Own W1.heap.size W1 w3 v3 (l2 ++ n.branches) := Own.step hO2 hown3 (by simp [HNB.out]) (by simp [iv]) hg3
      clear hown3 hg3 hO2 x4 x5 x6 x7 x9
      obtain ⟨x4, x5, x6, x7, x9⟩ := HX.out w3 hO3.bel
      obtain ⟨l3, hl3⟩ : ∃ l3, l2 ++ n.branches = l3 := ⟨_, rfl⟩
      have HL3 : Hid (l2 ++ n.branches = l3) := hl3
      have hlen3 : l3.length ≤ 14 := by have := HNB.out; rw [← hl3]; simp; omega
      rw [hl3] at hO3
      clear hl3
      go_wp2_with (at_builtin; go_must (refine wpList_append_own _ rfl (.tmp 44) (.tmp 47) 35 rfl W1.heap.size 3 i0 (.int .i64 0) 1 8 Tryz.underlying35 hi hz0 hz1 hz2 rfl (by decide) _ _ _ rfl (hO3.row.alloc _) ⟨w3.heap.size, 0, none⟩ 1 1 [.int .i64 n.late] rfl rfl (one_c1 _ _) (one_c2 _) (by unfold maxLen; omega) (by omega) (by have := hO3.sz; simp <;> omega) ?_))
      intro v4 w4 hown4 hg4 _
      have hO4 : Own W1.heap.size W1 w4 v4 (l3 ++ [n.late]) := Own.step (hO3.alloc _) hown4 (by simp) (by simp [iv]) hg4
      clear hown4 hg4 hO3
      go_wp2_with fail
      go_ret
      exact ⟨_, rfl, W1, HB1.out, HS1.out, by rw [HO.out, HLE.out, HL2.out, HL3.out]; exact hO4⟩
set_option maxHeartbeats 2000000 in
set_option maxRecDepth 100000 in
theorem out_nttn (n : Nod) (r : Raw) (w : World) (hn : NodIn w n r) (hcl : n.cases.length ≤ 6) (hbl : n.branches.length ≤ 6) (h1 : n.to = -1) (h2 : n.els ≠ -1) (h3 : n.late ≠ -1) (h4 : r.ba = none ∧ r.bc = 0 ∧ n.branches = []) :
    Calls Tryz.prog 202 #[.agg (nodV n r)] w fun e w' => ∃ v, e = .returned v ∧ ∃ W1, Below w.heap.size w W1 ∧ W1.heap.size = w.heap.size + 1 ∧ Own W1.heap.size W1 w' v (outL n) := by
  obtain ⟨i0, hi, hz0, hz1, hz2⟩ := info_parts Tryz.info3
  have ho : outL n = (([] : List Int) ++ n.cases.map (·.to) ++ [n.els] ++ n.branches) ++ [n.late] := by
    unfold outL timelyL
    rw [h1, optL_no, optL_yes h2, optL_yes h3]
  obtain ⟨OUT, hOUT⟩ : ∃ l, outL n = l := ⟨_, rfl⟩
  have HO : Hid (OUT = (([] : List Int) ++ n.cases.map (·.to) ++ [n.els] ++ n.branches) ++ [n.late]) := by rw [← hOUT]; exact ho
  rw [hOUT]
  clear hOUT ho
  have HNd : Hid (NodIn w n r) := hn
  unfold nodV
  obtain ⟨h4, h5, h6⟩ := h4
  rw [h4, h5]
  obtain ⟨nc, hnc⟩ : ∃ k, n.cases.length = k := ⟨_, rfl⟩
  obtain ⟨nb, hnb⟩ : ∃ k, n.branches.length = k := ⟨_, rfl⟩
  have HNC : Hid (n.cases.length = nc) := hnc
  have HNB : Hid (n.branches.length = nb) := hnb
  rw [hnc, hnb]
  rw [hnc] at hcl
  rw [hnb] at hbl
  have hnb0 : nb = 0 := by rw [← hnb, h6]; rfl
  subst hnb0
  clear hnc hnb hn
  have HR4 : Hid (r.ba = none) := h4
  clear h4
  simp only [SlV, Option.map_none]
  obtain ⟨V5, hV5⟩ : ∃ V, Value.slice r.ca nc r.cc = V := ⟨_, rfl⟩
  have HV5 : Hid (Value.slice r.ca nc r.cc = V5) := hV5
  rw [hV5]
  clear hV5
  obtain ⟨W1, hW1⟩ : ∃ W1, w.alloc (Obj.cells #[.int .i64 n.kind, .string n.id, .string n.name, .int .i64 n.up, .int .i64 n.to, V5, .int .i64 n.els, .slice none 0 0, .int .i64 n.after, .int .i64 n.late] 87) = W1 := ⟨_, rfl⟩
  have HB1 : Hid (Below w.heap.size w W1) := by rw [← hW1]; exact b1 _ _
  have hs1 : W1.heap.size = w.heap.size + 1 := by rw [← hW1]; simp
  have HS1 : Hid (W1.heap.size = w.heap.size + 1) := hs1
  have hx : ∀ W, Below W1.heap.size W1 W → W.cell? ⟨w.heap.size, 4, none⟩ = some (.int .i64 n.to) ∧ W.cell? ⟨w.heap.size, 5, none⟩ = some V5 ∧ W.cell? ⟨w.heap.size, 6, none⟩ = some (.int .i64 n.els) ∧ W.cell? ⟨w.heap.size, 7, none⟩ = some (.slice none 0 0) ∧ W.cell? ⟨w.heap.size, 9, none⟩ = some (.int .i64 n.late) := by
    intro W hW
    have k := fun (x : Nat) => hW.cell (p := ⟨w.heap.size, x, none⟩) (by show w.heap.size < _; omega)
    rw [k, k, k, k, k, ← hW1]
    exact ⟨by simp [go_sem], by simp [go_sem], by simp [go_sem], by simp [go_sem], by simp [go_sem]⟩
  have HC : Hid (∀ W, Below W1.heap.size W1 W → NodIn W n r) := fun W hW => (HNd.out.below HB1.out).below hW
  rw [h1] at hx hW1 ⊢
  have HX : Hid (∀ W, Below W1.heap.size W1 W → W.cell? ⟨w.heap.size, 4, none⟩ = some (.int .i64 (-1)) ∧ W.cell? ⟨w.heap.size, 5, none⟩ = some V5 ∧ W.cell? ⟨w.heap.size, 6, none⟩ = some (.int .i64 n.els) ∧ W.cell? ⟨w.heap.size, 7, none⟩ = some (.slice none 0 0) ∧ W.cell? ⟨w.heap.size, 9, none⟩ = some (.int .i64 n.late)) := hx
  clear hx
  have hown : Own W1.heap.size W1 W1 (.slice none 0 0) [] := Own.nil (Nat.le_refl _)
  obtain ⟨x4, x5, x6, x7, x9⟩ := HX.out W1 (Below.refl _ _)
  have h2' : (n.els == -1) = false := by simpa using h2
  have h3' : (n.late == -1) = false := by simpa using h3
  clear hs1 h1 h2 h3
  go_enter Tryz.func202, Tryz.ntmps202
  have hO := hown
  clear hown
  go_wp2_with fail
  clear hW1
  go_loopw [3, 4] (fun v i wr => ∃ k : Nat, k ≤ nc ∧ i = .int .i64 k ∧ Own W1.heap.size W1 wr v (([] : List Int) ++ (n.cases.take k).map (·.to))) (fun _ i _ => nc - (intOf i).toNat)
  case atStart => exact ⟨0, Nat.zero_le _, rfl, by simpa using hO⟩
  case round =>
    clear hO x4 x5 x6 x7 x9
    obtain ⟨k, hk, hi4, hO⟩ := hrel
    subst hi4
    obtain ⟨x4, x5, x6, x7, x9⟩ := HX.out wr hO.bel
    by_cases hlt : k < nc
    · obtain ⟨cb, co, ec, c0, c1, c2, c3⟩ := (HC.out wr hO.bel).cs k (by rw [HNC.out]; exact hlt)
      have hV5' := HV5.out
      rw [ec] at hV5'
      try simp only [Option.map_some] at hV5'
      rw [← hV5'] at x5
      clear hV5'
      obtain ⟨X, hX⟩ : ∃ X, (n.cases.getD k .zero).to = X := ⟨_, rfl⟩
      have HXk : Hid ((n.cases.take (k + 1)).map (·.to) = (n.cases.take k).map (·.to) ++ [X]) := by
        show List.map _ _ = _
        rw [take_getD_succ Cas.zero _ k (by rw [HNC.out]; exact hlt), ← hX]; simp
      rw [hX] at c3
      have hlen : (([] : List Int) ++ (n.cases.take k).map (·.to)).length ≤ 7 := by have := HNC.out; simp; omega
      obtain ⟨l, hl⟩ : ∃ l, ([] : List Int) ++ (n.cases.take k).map (·.to) = l := ⟨_, rfl⟩
      have HLL : Hid (([] : List Int) ++ (n.cases.take (k + 1)).map (·.to) = l ++ [X]) := by
        show _ ++ _ = _
        rw [HXk.out, ← hl]; simp
      rw [hl] at hO hlen
      clear hl hX c0 c1 c2
      have hkb : (k : Int) < nc := by omega
      go_wp2_with (at_builtin; go_must (refine wpList_append_own _ rfl (.tmp 20) (.tmp 27) 35 rfl W1.heap.size 3 i0 (.int .i64 0) 1 8 Tryz.underlying35 hi hz0 hz1 hz2 rfl (by decide) _ _ _ rfl (hO.row.alloc _) ⟨wr.heap.size, 0, none⟩ 1 1 [.int .i64 X] rfl rfl (one_c1 _ _) (one_c2 _) (by unfold maxLen; omega) (by omega) (by have := hO.sz; simp <;> omega) ?_))
      intro v1 w1 hown1 hg1 _
      have hO1 : Own W1.heap.size W1 w1 v1 (l ++ [X]) := Own.step (hO.alloc _) hown1 (by simp) (by simp [iv]) hg1
      clear hown1 hg1 hO x4 x5 x6 x7 x9 c3
      go_wp2_with fail
      exact ⟨⟨k + 1, by omega, by go_num, by rw [HLL.out]; exact hO1⟩, by simp [intOf]; omega⟩
    · obtain ⟨l, hl⟩ : ∃ l, ([] : List Int) ++ n.cases.map (·.to) = l := ⟨_, rfl⟩
      have HLE : Hid (([] : List Int) ++ n.cases.map (·.to) = l) := hl
      have hlen : l.length ≤ 7 := by have := HNC.out; rw [← hl]; simp; omega
      rw [List.take_of_length_le (by rw [HNC.out]; omega), hl] at hO
      clear hl
      rw [← HV5.out] at x5
      go_wp2_with (at_builtin; go_must (refine wpList_append_own _ rfl (.tmp 32) (.tmp 35) 35 rfl W1.heap.size 3 i0 (.int .i64 0) 1 8 Tryz.underlying35 hi hz0 hz1 hz2 rfl (by decide) _ _ _ rfl (hO.row.alloc _) ⟨wr.heap.size, 0, none⟩ 1 1 [.int .i64 n.els] rfl rfl (one_c1 _ _) (one_c2 _) (by unfold maxLen; omega) (by omega) (by have := hO.sz; simp <;> omega) ?_))
      intro v2 w2 hown2 hg2 _
      have hO2 : Own W1.heap.size W1 w2 v2 (l ++ [n.els]) := Own.step (hO.alloc _) hown2 (by simp) (by simp [iv]) hg2
      clear hown2 hg2 hO x4 x5 x6 x7 x9
      obtain ⟨x4, x5, x6, x7, x9⟩ := HX.out w2 hO2.bel
      obtain ⟨l2, hl2⟩ : ∃ l2, l ++ [n.els] = l2 := ⟨_, rfl⟩
      have HL2 : Hid (l ++ [n.els] = l2) := hl2
      have hlen2 : l2.length ≤ 8 := by rw [← hl2]; simp; omega
      rw [hl2] at hO2
      clear hl2
      have HI : Hid (IntsIn w2 none n.branches) := by have := (HC.out w2 hO2.bel).bs; rw [HR4.out] at this; exact this
      have eb : n.branches = [] := by
        cases hbr : n.branches with
        | nil => rfl
        | cons y t => obtain ⟨_, _, e, _⟩ := HI.out 0 (by rw [hbr]; simp); cases e
      have hO3 := hO2
      have el : l2 = l2 ++ n.branches := by rw [eb]; simp
      rw [el] at hO3
      clear el eb
      obtain ⟨l3, hl3⟩ : ∃ l3, l2 ++ n.branches = l3 := ⟨_, rfl⟩
      have HL3 : Hid (l2 ++ n.branches = l3) := hl3
      have hlen3 : l3.length ≤ 14 := by have := HNB.out; rw [← hl3]; simp; omega
      rw [hl3] at hO3
      clear hl3
      go_wp2_with (first | (at_builtin; refine wpList_append_own_none rfl (.tmp 37) (.tmp 39) 35 rfl W1.heap.size 3 i0 1 Tryz.underlying35 hi _ _ _ rfl hO3.row rfl ?_) | (at_builtin; (refine wpList_append_own _ rfl (.tmp 44) (.tmp 47) 35 rfl W1.heap.size 3 i0 (.int .i64 0) 1 8 Tryz.underlying35 hi hz0 hz1 hz2 rfl (by decide) _ _ _ rfl (hO3.row.alloc _) ⟨w2.heap.size, 0, none⟩ 1 1 [.int .i64 n.late] rfl rfl (one_c1 _ _) (one_c2 _) (by unfold maxLen; omega) (by omega) (by have := hO3.sz; simp <;> omega) ?_)))
      intro v4 w4 hown4 hg4 _
      have hO4 : Own W1.heap.size W1 w4 v4 (l3 ++ [n.late]) := Own.step (hO3.alloc _) hown4 (by simp) (by simp [iv]) hg4
      clear hown4 hg4 hO3
      go_wp2_with fail
      go_ret
      exact ⟨_, rfl, W1, HB1.out, HS1.out, by rw [HO.out, HLE.out, HL2.out, HL3.out]; exact hO4⟩
set_option maxHeartbeats 2000000 in
set_option maxRecDepth 100000 in
theorem out_ntnt (n : Nod) (r : Raw) (w : World) (hn : NodIn w n r) (hcl : n.cases.length ≤ 6) (hbl : n.branches.length ≤ 6) (h1 : n.to = -1) (h2 : n.els ≠ -1) (h3 : n.late = -1) (bA : Addr) (h4 : r.ba = some bA) :
    Calls Tryz.prog 202 #[.agg (nodV n r)] w fun e w' => ∃ v, e = .returned v ∧ ∃ W1, Below w.heap.size w W1 ∧ W1.heap.size = w.heap.size + 1 ∧ Own W1.heap.size W1 w' v (outL n) := by
  obtain ⟨i0, hi, hz0, hz1, hz2⟩ := info_parts Tryz.info3
  have ho : outL n = (([] : List Int) ++ n.cases.map (·.to) ++ [n.els] ++ n.branches) ++ [] := by
    unfold outL timelyL
    rw [h1, optL_no, optL_yes h2, h3, optL_no]
  obtain ⟨OUT, hOUT⟩ : ∃ l, outL n = l := ⟨_, rfl⟩
  have HO : Hid (OUT = (([] : List Int) ++ n.cases.map (·.to) ++ [n.els] ++ n.branches) ++ []) := by rw [← hOUT]; exact ho
  rw [hOUT]
  clear hOUT ho
  have HNd : Hid (NodIn w n r) := hn
  unfold nodV
  rw [h4]
  obtain ⟨nc, hnc⟩ : ∃ k, n.cases.length = k := ⟨_, rfl⟩
  obtain ⟨nb, hnb⟩ : ∃ k, n.branches.length = k := ⟨_, rfl⟩
  have HNC : Hid (n.cases.length = nc) := hnc
  have HNB : Hid (n.branches.length = nb) := hnb
  rw [hnc, hnb]
  rw [hnc] at hcl
  rw [hnb] at hbl
  skip
  clear hnc hnb hn
  have HR4 : Hid (r.ba = some bA) := h4
  clear h4
  simp only [SlV, Option.map_some]
  obtain ⟨V5, hV5⟩ : ∃ V, Value.slice r.ca nc r.cc = V := ⟨_, rfl⟩
  have HV5 : Hid (Value.slice r.ca nc r.cc = V5) := hV5
  rw [hV5]
  clear hV5
  obtain ⟨W1, hW1⟩ : ∃ W1, w.alloc (Obj.cells #[.int .i64 n.kind, .string n.id, .string n.name, .int .i64 n.up, .int .i64 n.to, V5, .int .i64 n.els, .slice (some bA) nb r.bc, .int .i64 n.after, .int .i64 n.late] 87) = W1 := ⟨_, rfl⟩
  have HB1 : Hid (Below w.heap.size w W1) := by rw [← hW1]; exact b1 _ _
  have hs1 : W1.heap.size = w.heap.size + 1 := by rw [← hW1]; simp
  have HS1 : Hid (W1.heap.size = w.heap.size + 1) := hs1
  have hx : ∀ W, Below W1.heap.size W1 W → W.cell? ⟨w.heap.size, 4, none⟩ = some (.int .i64 n.to) ∧ W.cell? ⟨w.heap.size, 5, none⟩ = some V5 ∧ W.cell? ⟨w.heap.size, 6, none⟩ = some (.int .i64 n.els) ∧ W.cell? ⟨w.heap.size, 7, none⟩ = some (.slice (some bA) nb r.bc) ∧ W.cell? ⟨w.heap.size, 9, none⟩ = some (.int .i64 n.late) := by
    intro W hW
    have k := fun (x : Nat) => hW.cell (p := ⟨w.heap.size, x, none⟩) (by show w.heap.size < _; omega)
    rw [k, k, k, k, k, ← hW1]
    exact ⟨by simp [go_sem], by simp [go_sem], by simp [go_sem], by simp [go_sem], by simp [go_sem]⟩
  have HC : Hid (∀ W, Below W1.heap.size W1 W → NodIn W n r) := fun W hW => (HNd.out.below HB1.out).below hW
  rw [h1] at hx hW1 ⊢
  rw [h3] at hx hW1 ⊢
  have HX : Hid (∀ W, Below W1.heap.size W1 W → W.cell? ⟨w.heap.size, 4, none⟩ = some (.int .i64 (-1)) ∧ W.cell? ⟨w.heap.size, 5, none⟩ = some V5 ∧ W.cell? ⟨w.heap.size, 6, none⟩ = some (.int .i64 n.els) ∧ W.cell? ⟨w.heap.size, 7, none⟩ = some (.slice (some bA) nb r.bc) ∧ W.cell? ⟨w.heap.size, 9, none⟩ = some (.int .i64 (-1))) := hx
  clear hx
  have hown : Own W1.heap.size W1 W1 (.slice none 0 0) [] := Own.nil (Nat.le_refl _)
  obtain ⟨x4, x5, x6, x7, x9⟩ := HX.out W1 (Below.refl _ _)
  have h2' : (n.els == -1) = false := by simpa using h2
  clear hs1 h1 h2 h3
  go_enter Tryz.func202, Tryz.ntmps202
  have hO := hown
  clear hown
  go_wp2_with fail
  clear hW1
  go_loopw [3, 4] (fun v i wr => ∃ k : Nat, k ≤ nc ∧ i = .int .i64 k ∧ Own W1.heap.size W1 wr v (([] : List Int) ++ (n.cases.take k).map (·.to))) (fun _ i _ => nc - (intOf i).toNat)
  case atStart => exact ⟨0, Nat.zero_le _, rfl, by simpa using hO⟩
  case round =>
    clear hO x4 x5 x6 x7 x9
    obtain ⟨k, hk, hi4, hO⟩ := hrel
    subst hi4
    obtain ⟨x4, x5, x6, x7, x9⟩ := HX.out wr hO.bel
    by_cases hlt : k < nc
    · obtain ⟨cb, co, ec, c0, c1, c2, c3⟩ := (HC.out wr hO.bel).cs k (by rw [HNC.out]; exact hlt)
      have hV5' := HV5.out
      rw [ec] at hV5'
      try simp only [Option.map_some] at hV5'
      rw [← hV5'] at x5
      clear hV5'
      obtain ⟨X, hX⟩ : ∃ X, (n.cases.getD k .zero).to = X := ⟨_, rfl⟩
      have HXk : Hid ((n.cases.take (k + 1)).map (·.to) = (n.cases.take k).map (·.to) ++ [X]) := by
        show List.map _ _ = _
        rw [take_getD_succ Cas.zero _ k (by rw [HNC.out]; exact hlt), ← hX]; simp
      rw [hX] at c3
      have hlen : (([] : List Int) ++ (n.cases.take k).map (·.to)).length ≤ 7 := by have := HNC.out; simp; omega
      obtain ⟨l, hl⟩ : ∃ l, ([] : List Int) ++ (n.cases.take k).map (·.to) = l := ⟨_, rfl⟩
      have HLL : Hid (([] : List Int) ++ (n.cases.take (k + 1)).map (·.to) = l ++ [X]) := by
        show _ ++ _ = _
        rw [HXk.out, ← hl]; simp
      rw [hl] at hO hlen
      clear hl hX c0 c1 c2
      have hkb : (k : Int) < nc := by omega
      go_wp2_with (at_builtin; go_must (refine wpList_append_own _ rfl (.tmp 20) (.tmp 27) 35 rfl W1.heap.size 3 i0 (.int .i64 0) 1 8 Tryz.underlying35 hi hz0 hz1 hz2 rfl (by decide) _ _ _ rfl (hO.row.alloc _) ⟨wr.heap.size, 0, none⟩ 1 1 [.int .i64 X] rfl rfl (one_c1 _ _) (one_c2 _) (by unfold maxLen; omega) (by omega) (by have := hO.sz; simp <;> omega) ?_))
      intro v1 w1 hown1 hg1 _
      have hO1 : Own W1.heap.size W1 w1 v1 (l ++ [X]) := Own.step (hO.alloc _) hown1 (by simp) (by simp [iv]) hg1
      clear hown1 hg1 hO x4 x5 x6 x7 x9 c3
      go_wp2_with fail
      exact ⟨⟨k + 1, by omega, by go_num, by rw [HLL.out]; exact hO1⟩, by simp [intOf]; omega⟩
    · obtain ⟨l, hl⟩ : ∃ l, ([] : List Int) ++ n.cases.map (·.to) = l := ⟨_, rfl⟩
      have HLE : Hid (([] : List Int) ++ n.cases.map (·.to) = l) := hl
      have hlen : l.length ≤ 7 := by have := HNC.out; rw [← hl]; simp; omega
      rw [List.take_of_length_le (by rw [HNC.out]; omega), hl] at hO
      clear hl
      rw [← HV5.out] at x5
      go_wp2_with (at_builtin; go_must (refine wpList_append_own _ rfl (.tmp 32) (.tmp 35) 35 rfl W1.heap.size 3 i0 (.int .i64 0) 1 8 Tryz.underlying35 hi hz0 hz1 hz2 rfl (by decide) _ _ _ rfl (hO.row.alloc _) ⟨wr.heap.size, 0, none⟩ 1 1 [.int .i64 n.els] rfl rfl (one_c1 _ _) (one_c2 _) (by unfold maxLen; omega) (by omega) (by have := hO.sz; simp <;> omega) ?_))
      intro v2 w2 hown2 hg2 _
      have hO2 : Own W1.heap.size W1 w2 v2 (l ++ [n.els]) := Own.step (hO.alloc _) hown2 (by simp) (by simp [iv]) hg2
      clear hown2 hg2 hO x4 x5 x6 x7 x9
      obtain ⟨x4, x5, x6, x7, x9⟩ := HX.out w2 hO2.bel
      obtain ⟨l2, hl2⟩ : ∃ l2, l ++ [n.els] = l2 := ⟨_, rfl⟩
      have HL2 : Hid (l ++ [n.els] = l2) := hl2
      have hlen2 : l2.length ≤ 8 := by rw [← hl2]; simp; omega
      rw [hl2] at hO2
      clear hl2
      have HI : Hid (IntsIn w2 (some bA) n.branches) := by have := (HC.out w2 hO2.bel).bs; rw [HR4.out] at this; exact this
      go_wp2_with (at_builtin; go_must (refine wpList_append_own _ rfl (.tmp 37) (.tmp 39) 35 rfl W1.heap.size 3 i0 (.int .i64 0) 1 8 Tryz.underlying35 hi hz0 hz1 hz2 rfl (by decide) _ _ _ rfl hO2.row bA nb r.bc (iv n.branches) rfl (by rw [iv_len, HNB.out, Nat.mul_one]) (ints_c1 HI.out) (ints_c2 _) (by unfold maxLen; omega) (by omega) hO2.sz ?_))
      intro v3 w3 hown3 hg3 _
      have hO3 : Own W1.heap.size W1 w3 v3 (l2 ++ n.branches) := Own.step hO2 hown3 (by simp [HNB.out]) (by simp [iv]) hg3
      clear hown3 hg3 hO2 x4 x5 x6 x7 x9
      obtain ⟨x4, x5, x6, x7, x9⟩ := HX.out w3 hO3.bel
      obtain ⟨l3, hl3⟩ : ∃ l3, l2 ++ n.branches = l3 := ⟨_, rfl⟩
      have HL3 : Hid (l2 ++ n.branches = l3) := hl3
      have hlen3 : l3.length ≤ 14 := by have := HNB.out; rw [← hl3]; simp; omega
      rw [hl3] at hO3
      clear hl3
      go_wp2_with fail
      go_ret
      exact ⟨_, rfl, W1, HB1.out, HS1.out, by rw [HO.out, HLE.out, HL2.out, HL3.out, List.append_nil]; exact hO3⟩
set_option maxHeartbeats 2000000 in
set_option maxRecDepth 100000 in
theorem out_ntnn (n : Nod) (r : Raw) (w : World) (hn : NodIn w n r) (hcl : n.cases.length ≤ 6) (hbl : n.branches.length ≤ 6) (h1 : n.to = -1) (h2 : n.els ≠ -1) (h3 : n.late = -1) (h4 : r.ba = none ∧ r.bc = 0 ∧ n.branches = []) :
    Calls Tryz.prog 202 #[.agg (nodV n r)] w fun e w' => ∃ v, e = .returned v ∧ ∃ W1, Below w.heap.size w W1 ∧ W1.heap.size = w.heap.size + 1 ∧ Own W1.heap.size W1 w' v (outL n) := by
  obtain ⟨i0, hi, hz0, hz1, hz2⟩ := info_parts Tryz.info3
  have ho : outL n = (([] : List Int) ++ n.cases.map (·.to) ++ [n.els] ++ n.branches) ++ [] := by
    unfold outL timelyL
    rw [h1, optL_no, optL_yes h2, h3, optL_no]
  obtain ⟨OUT, hOUT⟩ : ∃ l, outL n = l := ⟨_, rfl⟩
  have HO : Hid (OUT = (([] : List Int) ++ n.cases.map (·.to) ++ [n.els] ++ n.branches) ++ []) := by rw [← hOUT]; exact ho
  rw [hOUT]
  clear hOUT ho
  have HNd : Hid (NodIn w n r) := hn
  unfold nodV
  obtain ⟨h4, h5, h6⟩ := h4
  rw [h4, h5]
  obtain ⟨nc, hnc⟩ : ∃ k, n.cases.length = k := ⟨_, rfl⟩
  obtain ⟨nb, hnb⟩ : ∃ k, n.branches.length = k := ⟨_, rfl⟩
  have HNC : Hid (n.cases.length = nc) := hnc
  have HNB : Hid (n.branches.length = nb) := hnb
  rw [hnc, hnb]
  rw [hnc] at hcl
  rw [hnb] at hbl
  have hnb0 : nb = 0 := by rw [← hnb, h6]; rfl
  subst hnb0
  clear hnc hnb hn
  have HR4 : Hid (r.ba = none) := h4
  clear h4
  simp only [SlV, Option.map_none]
  obtain ⟨V5, hV5⟩ : ∃ V, Value.slice r.ca nc r.cc = V := ⟨_, rfl⟩
  have HV5 : Hid (Value.slice r.ca nc r.cc = V5) := hV5
  rw [hV5]
  clear hV5
  obtain ⟨W1, hW1⟩ : ∃ W1, w.alloc (Obj.cells #[.int .i64 n.kind, .string n.id, .string n.name, .int .i64 n.up, .int .i64 n.to, V5, .int .i64 n.els, .slice none 0 0, .int .i64 n.after, .int .i64 n.late] 87) = W1 := ⟨_, rfl⟩
  have HB1 : Hid (Below w.heap.size w W1) := by rw [← hW1]; exact b1 _ _
  have hs1 : W1.heap.size = w.heap.size + 1 := by rw [← hW1]; simp
  have HS1 : Hid (W1.heap.size = w.heap.size + 1) := hs1
  have hx : ∀ W, Below W1.heap.size W1 W → W.cell? ⟨w.heap.size, 4, none⟩ = some (.int .i64 n.to) ∧ W.cell? ⟨w.heap.size, 5, none⟩ = some V5 ∧ W.cell? ⟨w.heap.size, 6, none⟩ = some (.int .i64 n.els) ∧ W.cell? ⟨w.heap.size, 7, none⟩ = some (.slice none 0 0) ∧ W.cell? ⟨w.heap.size, 9, none⟩ = some (.int .i64 n.late) := by
    intro W hW
    have k := fun (x : Nat) => hW.cell (p := ⟨w.heap.size, x, none⟩) (by show w.heap.size < _; omega)
    rw [k, k, k, k, k, ← hW1]
    exact ⟨by simp [go_sem], by simp [go_sem], by simp [go_sem], by simp [go_sem], by simp [go_sem]⟩
  have HC : Hid (∀ W, Below W1.heap.size W1 W → NodIn W n r) := fun W hW => (HNd.out.below HB1.out).below hW
  rw [h1] at hx hW1 ⊢
  rw [h3] at hx hW1 ⊢
  have HX : Hid (∀ W, Below W1.heap.size W1 W → W.cell? ⟨w.heap.size, 4, none⟩ = some (.int .i64 (-1)) ∧ W.cell? ⟨w.heap.size, 5, none⟩ = some V5 ∧ W.cell? ⟨w.heap.size, 6, none⟩ = some (.int .i64 n.els) ∧ W.cell? ⟨w.heap.size, 7, none⟩ = some (.slice none 0 0) ∧ W.cell? ⟨w.heap.size, 9, none⟩ = some (.int .i64 (-1))) := hx
  clear hx
  have hown : Own W1.heap.size W1 W1 (.slice none 0 0) [] := Own.nil (Nat.le_refl _)
  obtain ⟨x4, x5, x6, x7, x9⟩ := HX.out W1 (Below.refl _ _)
  have h2' : (n.els == -1) = false := by simpa using h2
  clear hs1 h1 h2 h3
  go_enter Tryz.func202, Tryz.ntmps202
  have hO := hown
  clear hown
  go_wp2_with fail
  clear hW1
  go_loopw [3, 4] (fun v i wr => ∃ k : Nat, k ≤ nc ∧ i = .int .i64 k ∧ Own W1.heap.size W1 wr v (([] : List Int) ++ (n.cases.take k).map (·.to))) (fun _ i _ => nc - (intOf i).toNat)
  case atStart => exact ⟨0, Nat.zero_le _, rfl, by simpa using hO⟩
  case round =>
    clear hO x4 x5 x6 x7 x9
    obtain ⟨k, hk, hi4, hO⟩ := hrel
    subst hi4
    obtain ⟨x4, x5, x6, x7, x9⟩ := HX.out wr hO.bel
    by_cases hlt : k < nc
    · obtain ⟨cb, co, ec, c0, c1, c2, c3⟩ := (HC.out wr hO.bel).cs k (by rw [HNC.out]; exact hlt)
      have hV5' := HV5.out
      rw [ec] at hV5'
      try simp only [Option.map_some] at hV5'
      rw [← hV5'] at x5
      clear hV5'
      obtain ⟨X, hX⟩ : ∃ X, (n.cases.getD k .zero).to = X := ⟨_, rfl⟩
      have HXk : Hid ((n.cases.take (k + 1)).map (·.to) = (n.cases.take k).map (·.to) ++ [X]) := by
        show List.map _ _ = _
        rw [take_getD_succ Cas.zero _ k (by rw [HNC.out]; exact hlt), ← hX]; simp
      rw [hX] at c3
      have hlen : (([] : List Int) ++ (n.cases.take k).map (·.to)).length ≤ 7 := by have := HNC.out; simp; omega
      obtain ⟨l, hl⟩ : ∃ l, ([] : List Int) ++ (n.cases.take k).map (·.to) = l := ⟨_, rfl⟩
      have HLL : Hid (([] : List Int) ++ (n.cases.take (k + 1)).map (·.to) = l ++ [X]) := by
        show _ ++ _ = _
        rw [HXk.out, ← hl]; simp
      rw [hl] at hO hlen
      clear hl hX c0 c1 c2
      have hkb : (k : Int) < nc := by omega
      go_wp2_with (at_builtin; go_must (refine wpList_append_own _ rfl (.tmp 20) (.tmp 27) 35 rfl W1.heap.size 3 i0 (.int .i64 0) 1 8 Tryz.underlying35 hi hz0 hz1 hz2 rfl (by decide) _ _ _ rfl (hO.row.alloc _) ⟨wr.heap.size, 0, none⟩ 1 1 [.int .i64 X] rfl rfl (one_c1 _ _) (one_c2 _) (by unfold maxLen; omega) (by omega) (by have := hO.sz; simp <;> omega) ?_))
      intro v1 w1 hown1 hg1 _
      have hO1 : Own W1.heap.size W1 w1 v1 (l ++ [X]) := Own.step (hO.alloc _) hown1 (by simp) (by simp [iv]) hg1
      clear hown1 hg1 hO x4 x5 x6 x7 x9 c3
      go_wp2_with fail
      exact ⟨⟨k + 1, by omega, by go_num, by rw [HLL.out]; exact hO1⟩, by simp [intOf]; omega⟩
    · obtain ⟨l, hl⟩ : ∃ l, ([] : List Int) ++ n.cases.map (·.to) = l := ⟨_, rfl⟩
      have HLE : Hid (([] : List Int) ++ n.cases.map (·.to) = l) := hl
      have hlen : l.length ≤ 7 := by have := HNC.out; rw [← hl]; simp; omega
      rw [List.take_of_length_le (by rw [HNC.out]; omega), hl] at hO
      clear hl
      rw [← HV5.out] at x5
      go_wp2_with (at_builtin; go_must (refine wpList_append_own _ rfl (.tmp 32) (.tmp 35) 35 rfl W1.heap.size 3 i0 (.int .i64 0) 1 8 Tryz.underlying35 hi hz0 hz1 hz2 rfl (by decide) _ _ _ rfl (hO.row.alloc _) ⟨wr.heap.size, 0, none⟩ 1 1 [.int .i64 n.els] rfl rfl (one_c1 _ _) (one_c2 _) (by unfold maxLen; omega) (by omega) (by have := hO.sz; simp <;> omega) ?_))
      intro v2 w2 hown2 hg2 _
      have hO2 : Own W1.heap.size W1 w2 v2 (l ++ [n.els]) := Own.step (hO.alloc _) hown2 (by simp) (by simp [iv]) hg2
      clear hown2 hg2 hO x4 x5 x6 x7 x9
      obtain ⟨x4, x5, x6, x7, x9⟩ := HX.out w2 hO2.bel
      obtain ⟨l2, hl2⟩ : ∃ l2, l ++ [n.els] = l2 := ⟨_, rfl⟩
      have HL2 : Hid (l ++ [n.els] = l2) := hl2
      have hlen2 : l2.length ≤ 8 := by rw [← hl2]; simp; omega
      rw [hl2] at hO2
      clear hl2
      have HI : Hid (IntsIn w2 none n.branches) := by have := (HC.out w2 hO2.bel).bs; rw [HR4.out] at this; exact this
      have eb : n.branches = [] := by
        cases hbr : n.branches with
        | nil => rfl
        | cons y t => obtain ⟨_, _, e, _⟩ := HI.out 0 (by rw [hbr]; simp); cases e
      have hO3 := hO2
      have el : l2 = l2 ++ n.branches := by rw [eb]; simp
      rw [el] at hO3
      clear el eb
      obtain ⟨l3, hl3⟩ : ∃ l3, l2 ++ n.branches = l3 := ⟨_, rfl⟩
      have HL3 : Hid (l2 ++ n.branches = l3) := hl3
      have hlen3 : l3.length ≤ 14 := by have := HNB.out; rw [← hl3]; simp; omega
      rw [hl3] at hO3
      clear hl3
      go_wp2_with (at_builtin; refine wpList_append_own_none rfl (.tmp 37) (.tmp 39) 35 rfl W1.heap.size 3 i0 1 Tryz.underlying35 hi _ _ _ rfl hO3.row rfl ?_)
      go_ret
      exact ⟨_, rfl, W1, HB1.out, HS1.out, by rw [HO.out, HLE.out, HL2.out, HL3.out, List.append_nil]; exact hO3⟩
set_option maxHeartbeats 2000000 in
set_option maxRecDepth 100000 in
theorem out_nntt (n : Nod) (r : Raw) (w : World) (hn : NodIn w n r) (hcl : n.cases.length ≤ 6) (hbl : n.branches.length ≤ 6) (h1 : n.to = -1) (h2 : n.els = -1) (h3 : n.late ≠ -1) (bA : Addr) (h4 : r.ba = some bA) :
    Calls Tryz.prog 202 #[.agg (nodV n r)] w fun e w' => ∃ v, e = .returned v ∧ ∃ W1, Below w.heap.size w W1 ∧ W1.heap.size = w.heap.size + 1 ∧ Own W1.heap.size W1 w' v (outL n) := by
  obtain ⟨i0, hi, hz0, hz1, hz2⟩ := info_parts Tryz.info3
  have ho : outL n = (([] : List Int) ++ n.cases.map (·.to) ++ [] ++ n.branches) ++ [n.late] := by
    unfold outL timelyL
    rw [h1, optL_no, h2, optL_no, optL_yes h3]
  obtain ⟨OUT, hOUT⟩ : ∃ l, outL n = l := ⟨_, rfl⟩
  have HO : Hid (OUT = (([] : List Int) ++ n.cases.map (·.to) ++ [] ++ n.branches) ++ [n.late]) := by rw [← hOUT]; exact ho
  rw [hOUT]
  clear hOUT ho
  have HNd : Hid (NodIn w n r) := hn
  unfold nodV
  rw [h4]
  obtain ⟨nc, hnc⟩ : ∃ k, n.cases.length = k := ⟨_, rfl⟩
  obtain ⟨nb, hnb⟩ : ∃ k, n.branches.length = k := ⟨_, rfl⟩
  have HNC : Hid (n.cases.length = nc) := hnc
  have HNB : Hid (n.branches.length = nb) := hnb
  rw [hnc, hnb]
  rw [hnc] at hcl
  rw [hnb] at hbl
  skip
  clear hnc hnb hn
  have HR4 : Hid (r.ba = some bA) := h4
  clear h4
  simp only [SlV, Option.map_some]
  obtain ⟨V5, hV5⟩ : ∃ V, Value.slice r.ca nc r.cc = V := ⟨_, rfl⟩
  have HV5 : Hid (Value.slice r.ca nc r.cc = V5) := hV5
  rw [hV5]
  clear hV5
  obtain ⟨W1, hW1⟩ : ∃ W1, w.alloc (Obj.cells #[.int .i64 n.kind, .string n.id, .string n.name, .int .i64 n.up, .int .i64 n.to, V5, .int .i64 n.els, .slice (some bA) nb r.bc, .int .i64 n.after, .int .i64 n.late] 87) = W1 := ⟨_, rfl⟩
  have HB1 : Hid (Below w.heap.size w W1) := by rw [← hW1]; exact b1 _ _
  have hs1 : W1.heap.size = w.heap.size + 1 := by rw [← hW1]; simp
  have HS1 : Hid (W1.heap.size = w.heap.size + 1) := hs1
  have hx : ∀ W, Below W1.heap.size W1 W → W.cell? ⟨w.heap.size, 4, none⟩ = some (.int .i64 n.to) ∧ W.cell? ⟨w.heap.size, 5, none⟩ = some V5 ∧ W.cell? ⟨w.heap.size, 6, none⟩ = some (.int .i64 n.els) ∧ W.cell? ⟨w.heap.size, 7, none⟩ = some (.slice (some bA) nb r.bc) ∧ W.cell? ⟨w.heap.size, 9, none⟩ = some (.int .i64 n.late) := by
    intro W hW
    have k := fun (x : Nat) => hW.cell (p := ⟨w.heap.size, x, none⟩) (by show w.heap.size < _; omega)
    rw [k, k, k, k, k, ← hW1]
    exact ⟨by simp [go_sem], by simp [go_sem], by simp [go_sem], by simp [go_sem], by simp [go_sem]⟩
  have HC : Hid (∀ W, Below W1.heap.size W1 W → NodIn W n r) := fun W hW => (HNd.out.below HB1.out).below hW
  rw [h1] at hx hW1 ⊢
  rw [h2] at hx hW1 ⊢
  have HX : Hid (∀ W, Below W1.heap.size W1 W → W.cell? ⟨w.heap.size, 4, none⟩ = some (.int .i64 (-1)) ∧ W.cell? ⟨w.heap.size, 5, none⟩ = some V5 ∧ W.cell? ⟨w.heap.size, 6, none⟩ = some (.int .i64 (-1)) ∧ W.cell? ⟨w.heap.size, 7, none⟩ = some (.slice (some bA) nb r.bc) ∧ W.cell? ⟨w.heap.size, 9, none⟩ = some (.int .i64 n.late)) := hx
  clear hx
  have hown : Own W1.heap.size W1 W1 (.slice none 0 0) [] := Own.nil (Nat.le_refl _)
  obtain ⟨x4, x5, x6, x7, x9⟩ := HX.out W1 (Below.refl _ _)
  have h3' : (n.late == -1) = false := by simpa using h3
  clear hs1 h1 h2 h3
  go_enter Tryz.func202, Tryz.ntmps202
  have hO := hown
  clear hown
  go_wp2_with fail
  clear hW1
  go_loopw [3, 4] (fun v i wr => ∃ k : Nat, k ≤ nc ∧ i = .int .i64 k ∧ Own W1.heap.size W1 wr v (([] : List Int) ++ (n.cases.take k).map (·.to))) (fun _ i _ => nc - (intOf i).toNat)
  case atStart => exact ⟨0, Nat.zero_le _, rfl, by simpa using hO⟩
  case round =>
    clear hO x4 x5 x6 x7 x9
    obtain ⟨k, hk, hi4, hO⟩ := hrel
    subst hi4
    obtain ⟨x4, x5, x6, x7, x9⟩ := HX.out wr hO.bel
    by_cases hlt : k < nc
    · obtain ⟨cb, co, ec, c0, c1, c2, c3⟩ := (HC.out wr hO.bel).cs k (by rw [HNC.out]; exact hlt)
      have hV5' := HV5.out
      rw [ec] at hV5'
      try simp only [Option.map_some] at hV5'
      rw [← hV5'] at x5
      clear hV5'
      obtain ⟨X, hX⟩ : ∃ X, (n.cases.getD k .zero).to = X := ⟨_, rfl⟩
      have HXk : Hid ((n.cases.take (k + 1)).map (·.to) = (n.cases.take k).map (·.to) ++ [X]) := by
        show List.map _ _ = _
        rw [take_getD_succ Cas.zero _ k (by rw [HNC.out]; exact hlt), ← hX]; simp
      rw [hX] at c3
      have hlen : (([] : List Int) ++ (n.cases.take k).map (·.to)).length ≤ 7 := by have := HNC.out; simp; omega
      obtain ⟨l, hl⟩ : ∃ l, ([] : List Int) ++ (n.cases.take k).map (·.to) = l := ⟨_, rfl⟩
      have HLL : Hid (([] : List Int) ++ (n.cases.take (k + 1)).map (·.to) = l ++ [X]) := by
        show _ ++ _ = _
        rw [HXk.out, ← hl]; simp
      rw [hl] at hO hlen
      clear hl hX c0 c1 c2
      have hkb : (k : Int) < nc := by omega
      go_wp2_with (at_builtin; go_must (refine wpList_append_own _ rfl (.tmp 20) (.tmp 27) 35 rfl W1.heap.size 3 i0 (.int .i64 0) 1 8 Tryz.underlying35 hi hz0 hz1 hz2 rfl (by decide) _ _ _ rfl (hO.row.alloc _) ⟨wr.heap.size, 0, none⟩ 1 1 [.int .i64 X] rfl rfl (one_c1 _ _) (one_c2 _) (by unfold maxLen; omega) (by omega) (by have := hO.sz; simp <;> omega) ?_))
      intro v1 w1 hown1 hg1 _
      have hO1 : Own W1.heap.size W1 w1 v1 (l ++ [X]) := Own.step (hO.alloc _) hown1 (by simp) (by simp [iv]) hg1
      clear hown1 hg1 hO x4 x5 x6 x7 x9 c3
      go_wp2_with fail
      exact ⟨⟨k + 1, by omega, by go_num, by rw [HLL.out]; exact hO1⟩, by simp [intOf]; omega⟩
    · obtain ⟨l, hl⟩ : ∃ l, ([] : List Int) ++ n.cases.map (·.to) = l := ⟨_, rfl⟩
      have HLE : Hid (([] : List Int) ++ n.cases.map (·.to) = l) := hl
      have hlen : l.length ≤ 7 := by have := HNC.out; rw [← hl]; simp; omega
      rw [List.take_of_length_le (by rw [HNC.out]; omega), hl] at hO
      clear hl
      rw [← HV5.out] at x5
      have hO2 := hO
      clear hO
      obtain ⟨l2, hl2⟩ : ∃ l2, l ++ ([] : List Int) = l2 := ⟨_, rfl⟩
      have HL2 : Hid (l ++ [] = l2) := hl2
      have hlen2 : l2.length ≤ 8 := by rw [← hl2]; simp; omega
      rw [show l = l2 by rw [← hl2]; simp] at hO2
      clear hl2
      have HI : Hid (IntsIn wr (some bA) n.branches) := by have := (HC.out wr hO2.bel).bs; rw [HR4.out] at this; exact this
      go_wp2_with (at_builtin; go_must (refine wpList_append_own _ rfl (.tmp 37) (.tmp 39) 35 rfl W1.heap.size 3 i0 (.int .i64 0) 1 8 Tryz.underlying35 hi hz0 hz1 hz2 rfl (by decide) _ _ _ rfl hO2.row bA nb r.bc (iv n.branches) rfl (by rw [iv_len, HNB.out, Nat.mul_one]) (ints_c1 HI.out) (ints_c2 _) (by unfold maxLen; omega) (by omega) hO2.sz ?_))
      intro v3 w3 hown3 hg3 _
      have hO3 : Own W1.heap.size W1 w3 v3 (l2 ++ n.branches) := Own.step hO2 hown3 (by simp [HNB.out]) (by simp [iv]) hg3
      clear hown3 hg3 hO2 x4 x5 x6 x7 x9
      obtain ⟨x4, x5, x6, x7, x9⟩ := HX.out w3 hO3.bel
      obtain ⟨l3, hl3⟩ : ∃ l3, l2 ++ n.branches = l3 := ⟨_, rfl⟩
      have HL3 : Hid (l2 ++ n.branches = l3) := hl3
      have hlen3 : l3.length ≤ 14 := by have := HNB.out; rw [← hl3]; simp; omega
      rw [hl3] at hO3
      clear hl3
      go_wp2_with (at_builtin; go_must (refine wpList_append_own _ rfl (.tmp 44) (.tmp 47) 35 rfl W1.heap.size 3 i0 (.int .i64 0) 1 8 Tryz.underlying35 hi hz0 hz1 hz2 rfl (by decide) _ _ _ rfl (hO3.row.alloc _) ⟨w3.heap.size, 0, none⟩ 1 1 [.int .i64 n.late] rfl rfl (one_c1 _ _) (one_c2 _) (by unfold maxLen; omega) (by omega) (by have := hO3.sz; simp <;> omega) ?_))
      intro v4 w4 hown4 hg4 _
      have hO4 : Own W1.heap.size W1 w4 v4 (l3 ++ [n.late]) := Own.step (hO3.alloc _) hown4 (by simp) (by simp [iv]) hg4
      clear hown4 hg4 hO3
      go_wp2_with fail
      go_ret
      exact ⟨_, rfl, W1, HB1.out, HS1.out, by rw [HO.out, HLE.out, HL2.out, HL3.out]; exact hO4⟩
set_option maxHeartbeats 2000000 in
set_option maxRecDepth 100000 in
theorem out_nntn (n : Nod) (r : Raw) (w : World) (hn : NodIn w n r) (hcl : n.cases.length ≤ 6) (hbl : n.branches.length ≤ 6) (h1 : n.to = -1) (h2 : n.els = -1) (h3 : n.late ≠ -1) (h4 : r.ba = none ∧ r.bc = 0 ∧ n.branches = []) :
    Calls Tryz.prog 202 #[.agg (nodV n r)] w fun e w' => ∃ v, e = .returned v ∧ ∃ W1, Below w.heap.size w W1 ∧ W1.heap.size = w.heap.size + 1 ∧ Own W1.heap.size W1 w' v (outL n) := by
  obtain ⟨i0, hi, hz0, hz1, hz2⟩ := info_parts Tryz.info3
  have ho : outL n = (([] : List Int) ++ n.cases.map (·.to) ++ [] ++ n.branches) ++ [n.late] := by
    unfold outL timelyL
    rw [h1, optL_no, h2, optL_no, optL_yes h3]
  obtain ⟨OUT, hOUT⟩ : ∃ l, outL n = l := ⟨_, rfl⟩
  have HO : Hid (OUT = (([] : List Int) ++ n.cases.map (·.to) ++ [] ++ n.branches) ++ [n.late]) := by rw [← hOUT]; exact ho
  rw [hOUT]
  clear hOUT ho
  have HNd : Hid (NodIn w n r) := hn
  unfold nodV
  obtain ⟨h4, h5, h6⟩ := h4
  rw [h4, h5]
  obtain ⟨nc, hnc⟩ : ∃ k, n.cases.length = k := ⟨_, rfl⟩
  obtain ⟨nb, hnb⟩ : ∃ k, n.branches.length = k := ⟨_, rfl⟩
  have HNC : Hid (n.cases.length = nc) := hnc
  have HNB : Hid (n.branches.length = nb) := hnb
  rw [hnc, hnb]
  rw [hnc] at hcl
  rw [hnb] at hbl
  have hnb0 : nb = 0 := by rw [← hnb, h6]; rfl
  subst hnb0
  clear hnc hnb hn
  have HR4 : Hid (r.ba = none) := h4
  clear h4
  simp only [SlV, Option.map_none]
  obtain ⟨V5, hV5⟩ : ∃ V, Value.slice r.ca nc r.cc = V := ⟨_, rfl⟩
  have HV5 : Hid (Value.slice r.ca nc r.cc = V5) := hV5
  rw [hV5]
  clear hV5
  obtain ⟨W1, hW1⟩ : ∃ W1, w.alloc (Obj.cells #[.int .i64 n.kind, .string n.id, .string n.name, .int .i64 n.up, .int .i64 n.to, V5, .int .i64 n.els, .slice none 0 0, .int .i64 n.after, .int .i64 n.late] 87) = W1 := ⟨_, rfl⟩
  have HB1 : Hid (Below w.heap.size w W1) := by rw [← hW1]; exact b1 _ _
  have hs1 : W1.heap.size = w.heap.size + 1 := by rw [← hW1]; simp
  have HS1 : Hid (W1.heap.size = w.heap.size + 1) := hs1
  have hx : ∀ W, Below W1.heap.size W1 W → W.cell? ⟨w.heap.size, 4, none⟩ = some (.int .i64 n.to) ∧ W.cell? ⟨w.heap.size, 5, none⟩ = some V5 ∧ W.cell? ⟨w.heap.size, 6, none⟩ = some (.int .i64 n.els) ∧ W.cell? ⟨w.heap.size, 7, none⟩ = some (.slice none 0 0) ∧ W.cell? ⟨w.heap.size, 9, none⟩ = some (.int .i64 n.late) := by
    intro W hW
    have k := fun (x : Nat) => hW.cell (p := ⟨w.heap.size, x, none⟩) (by show w.heap.size < _; omega)
    rw [k, k, k, k, k, ← hW1]
    exact ⟨by simp [go_sem], by simp [go_sem], by simp [go_sem], by simp [go_sem], by simp [go_sem]⟩
  have HC : Hid (∀ W, Below W1.heap.size W1 W → NodIn W n r) := fun W hW => (HNd.out.below HB1.out).below hW
  rw [h1] at hx hW1 ⊢
  rw [h2] at hx hW1 ⊢
  have HX : Hid (∀ W, Below W1.heap.size W1 W → W.cell? ⟨w.heap.size, 4, none⟩ = some (.int .i64 (-1)) ∧ W.cell? ⟨w.heap.size, 5, none⟩ = some V5 ∧ W.cell? ⟨w.heap.size, 6, none⟩ = some (.int .i64 (-1)) ∧ W.cell? ⟨w.heap.size, 7, none⟩ = some (.slice none 0 0) ∧ W.cell? ⟨w.heap.size, 9, none⟩ = some (.int .i64 n.late)) := hx
  clear hx
  have hown : Own W1.heap.size W1 W1 (.slice none 0 0) [] := Own.nil (Nat.le_refl _)
  obtain ⟨x4, x5, x6, x7, x9⟩ := HX.out W1 (Below.refl _ _)
  have h3' : (n.late == -1) = false := by simpa using h3
  clear hs1 h1 h2 h3
  go_enter Tryz.func202, Tryz.ntmps202
  have hO := hown
  clear hown
  go_wp2_with fail
  clear hW1
  go_loopw [3, 4] (fun v i wr => ∃ k : Nat, k ≤ nc ∧ i = .int .i64 k ∧ Own W1.heap.size W1 wr v (([] : List Int) ++ (n.cases.take k).map (·.to))) (fun _ i _ => nc - (intOf i).toNat)
  case atStart => exact ⟨0, Nat.zero_le _, rfl, by simpa using hO⟩
  case round =>
    clear hO x4 x5 x6 x7 x9
    obtain ⟨k, hk, hi4, hO⟩ := hrel
    subst hi4
    obtain ⟨x4, x5, x6, x7, x9⟩ := HX.out wr hO.bel
    by_cases hlt : k < nc
    · obtain ⟨cb, co, ec, c0, c1, c2, c3⟩ := (HC.out wr hO.bel).cs k (by rw [HNC.out]; exact hlt)
      have hV5' := HV5.out
      rw [ec] at hV5'
      try simp only [Option.map_some] at hV5'
      rw [← hV5'] at x5
      clear hV5'
      obtain ⟨X, hX⟩ : ∃ X, (n.cases.getD k .zero).to = X := ⟨_, rfl⟩
      have HXk : Hid ((n.cases.take (k + 1)).map (·.to) = (n.cases.take k).map (·.to) ++ [X]) := by
        show List.map _ _ = _
        rw [take_getD_succ Cas.zero _ k (by rw [HNC.out]; exact hlt), ← hX]; simp
      rw [hX] at c3
      have hlen : (([] : List Int) ++ (n.cases.take k).map (·.to)).length ≤ 7 := by have := HNC.out; simp; omega
      obtain ⟨l, hl⟩ : ∃ l, ([] : List Int) ++ (n.cases.take k).map (·.to) = l := ⟨_, rfl⟩
      have HLL : Hid (([] : List Int) ++ (n.cases.take (k + 1)).map (·.to) = l ++ [X]) := by
        show _ ++ _ = _
        rw [HXk.out, ← hl]; simp
      rw [hl] at hO hlen
      clear hl hX c0 c1 c2
      have hkb : (k : Int) < nc := by omega
      go_wp2_with (at_builtin; go_must (refine wpList_append_own _ rfl (.tmp 20) (.tmp 27) 35 rfl W1.heap.size 3 i0 (.int .i64 0) 1 8 Tryz.underlying35 hi hz0 hz1 hz2 rfl (by decide) _ _ _ rfl (hO.row.alloc _) ⟨wr.heap.size, 0, none⟩ 1 1 [.int .i64 X] rfl rfl (one_c1 _ _) (one_c2 _) (by unfold maxLen; omega) (by omega) (by have := hO.sz; simp <;> omega) ?_))
      intro v1 w1 hown1 hg1 _
      have hO1 : Own W1.heap.size W1 w1 v1 (l ++ [X]) := Own.step (hO.alloc _) hown1 (by simp) (by simp [iv]) hg1
      clear hown1 hg1 hO x4 x5 x6 x7 x9 c3
      go_wp2_with fail
      exact ⟨⟨k + 1, by omega, by go_num, by rw [HLL.out]; exact hO1⟩, by simp [intOf]; omega⟩
    · obtain ⟨l, hl⟩ : ∃ l, ([] : List Int) ++ n.cases.map (·.to) = l := ⟨_, rfl⟩
      have HLE : Hid (([] : List Int) ++ n.cases.map (·.to) = l) := hl
      have hlen : l.length ≤ 7 := by have := HNC.out; rw [← hl]; simp; omega
      rw [List.take_of_length_le (by rw [HNC.out]; omega), hl] at hO
      clear hl
      rw [← HV5.out] at x5
      have hO2 := hO
      clear hO
      obtain ⟨l2, hl2⟩ : ∃ l2, l ++ ([] : List Int) = l2 := ⟨_, rfl⟩
      have HL2 : Hid (l ++ [] = l2) := hl2
      have hlen2 : l2.length ≤ 8 := by rw [← hl2]; simp; omega
      rw [show l = l2 by rw [← hl2]; simp] at hO2
      clear hl2
      have HI : Hid (IntsIn wr none n.branches) := by have := (HC.out wr hO2.bel).bs; rw [HR4.out] at this; exact this
      have eb : n.branches = [] := by
        cases hbr : n.branches with
        | nil => rfl
        | cons y t => obtain ⟨_, _, e, _⟩ := HI.out 0 (by rw [hbr]; simp); cases e
      have hO3 := hO2
      have el : l2 = l2 ++ n.branches := by rw [eb]; simp
      rw [el] at hO3
      clear el eb
      obtain ⟨l3, hl3⟩ : ∃ l3, l2 ++ n.branches = l3 := ⟨_, rfl⟩
      have HL3 : Hid (l2 ++ n.branches = l3) := hl3
      have hlen3 : l3.length ≤ 14 := by have := HNB.out; rw [← hl3]; simp; omega
      rw [hl3] at hO3
      clear hl3
      go_wp2_with (first | (at_builtin; refine wpList_append_own_none rfl (.tmp 37) (.tmp 39) 35 rfl W1.heap.size 3 i0 1 Tryz.underlying35 hi _ _ _ rfl hO3.row rfl ?_) | (at_builtin; (refine wpList_append_own _ rfl (.tmp 44) (.tmp 47) 35 rfl W1.heap.size 3 i0 (.int .i64 0) 1 8 Tryz.underlying35 hi hz0 hz1 hz2 rfl (by decide) _ _ _ rfl (hO3.row.alloc _) ⟨wr.heap.size, 0, none⟩ 1 1 [.int .i64 n.late] rfl rfl (one_c1 _ _) (one_c2 _) (by unfold maxLen; omega) (by omega) (by have := hO3.sz; simp <;> omega) ?_)))
      intro v4 w4 hown4 hg4 _
      have hO4 : Own W1.heap.size W1 w4 v4 (l3 ++ [n.late]) := Own.step (hO3.alloc _) hown4 (by simp) (by simp [iv]) hg4
      clear hown4 hg4 hO3
      go_wp2_with fail
      go_ret
      exact ⟨_, rfl, W1, HB1.out, HS1.out, by rw [HO.out, HLE.out, HL2.out, HL3.out]; exact hO4⟩
set_option maxHeartbeats 2000000 in
set_option maxRecDepth 100000 in
theorem out_nnnt (n : Nod) (r : Raw) (w : World) (hn : NodIn w n r) (hcl : n.cases.length ≤ 6) (hbl : n.branches.length ≤ 6) (h1 : n.to = -1) (h2 : n.els = -1) (h3 : n.late = -1) (bA : Addr) (h4 : r.ba = some bA) :
    Calls Tryz.prog 202 #[.agg (nodV n r)] w fun e w' => ∃ v, e = .returned v ∧ ∃ W1, Below w.heap.size w W1 ∧ W1.heap.size = w.heap.size + 1 ∧ Own W1.heap.size W1 w' v (outL n) := by
  obtain ⟨i0, hi, hz0, hz1, hz2⟩ := info_parts Tryz.info3
  have ho : outL n = (([] : List Int) ++ n.cases.map (·.to) ++ [] ++ n.branches) ++ [] := by
    unfold outL timelyL
    rw [h1, optL_no, h2, optL_no, h3, optL_no]
  obtain ⟨OUT, hOUT⟩ : ∃ l, outL n = l := ⟨_, rfl⟩
  have HO : Hid (OUT = (([] : List Int) ++ n.cases.map (·.to) ++ [] ++ n.branches) ++ []) := by rw [← hOUT]; exact ho
  rw [hOUT]
  clear hOUT ho
  have HNd : Hid (NodIn w n r) := hn
  unfold nodV
  rw [h4]
  obtain ⟨nc, hnc⟩ : ∃ k, n.cases.length = k := ⟨_, rfl⟩
  obtain ⟨nb, hnb⟩ : ∃ k, n.branches.length = k := ⟨_, rfl⟩
  have HNC : Hid (n.cases.length = nc) := hnc
  have HNB : Hid (n.branches.length = nb) := hnb
  rw [hnc, hnb]
  rw [hnc] at hcl
  rw [hnb] at hbl
  skip
  clear hnc hnb hn
  have HR4 : Hid (r.ba = some bA) := h4
  clear h4
  simp only [SlV, Option.map_some]
  obtain ⟨V5, hV5⟩ : ∃ V, Value.slice r.ca nc r.cc = V := ⟨_, rfl⟩
  have HV5 : Hid (Value.slice r.ca nc r.cc = V5) := hV5
  rw [hV5]
  clear hV5
  obtain ⟨W1, hW1⟩ : ∃ W1, w.alloc (Obj.cells #[.int .i64 n.kind, .string n.id, .string n.name, .int .i64 n.up, .int .i64 n.to, V5, .int .i64 n.els, .slice (some bA) nb r.bc, .int .i64 n.after, .int .i64 n.late] 87) = W1 := ⟨_, rfl⟩
  have HB1 : Hid (Below w.heap.size w W1) := by rw [← hW1]; exact b1 _ _
  have hs1 : W1.heap.size = w.heap.size + 1 := by rw [← hW1]; simp
  have HS1 : Hid (W1.heap.size = w.heap.size + 1) := hs1
  have hx : ∀ W, Below W1.heap.size W1 W → W.cell? ⟨w.heap.size, 4, none⟩ = some (.int .i64 n.to) ∧ W.cell? ⟨w.heap.size, 5, none⟩ = some V5 ∧ W.cell? ⟨w.heap.size, 6, none⟩ = some (.int .i64 n.els) ∧ W.cell? ⟨w.heap.size, 7, none⟩ = some (.slice (some bA) nb r.bc) ∧ W.cell? ⟨w.heap.size, 9, none⟩ = some (.int .i64 n.late) := by
    intro W hW
    have k := fun (x : Nat) => hW.cell (p := ⟨w.heap.size, x, none⟩) (by show w.heap.size < _; omega)
    rw [k, k, k, k, k, ← hW1]
    exact ⟨by simp [go_sem], by simp [go_sem], by simp [go_sem], by simp [go_sem], by simp [go_sem]⟩
  have HC : Hid (∀ W, Below W1.heap.size W1 W → NodIn W n r) := fun W hW => (HNd.out.below HB1.out).below hW
  rw [h1] at hx hW1 ⊢
  rw [h2] at hx hW1 ⊢
  rw [h3] at hx hW1 ⊢
  have HX : Hid (∀ W, Below W1.heap.size W1 W → W.cell? ⟨w.heap.size, 4, none⟩ = some (.int .i64 (-1)) ∧ W.cell? ⟨w.heap.size, 5, none⟩ = some V5 ∧ W.cell? ⟨w.heap.size, 6, none⟩ = some (.int .i64 (-1)) ∧ W.cell? ⟨w.heap.size, 7, none⟩ = some (.slice (some bA) nb r.bc) ∧ W.cell? ⟨w.heap.size, 9, none⟩ = some (.int .i64 (-1))) := hx
  clear hx
  have hown : Own W1.heap.size W1 W1 (.slice none 0 0) [] := Own.nil (Nat.le_refl _)
  obtain ⟨x4, x5, x6, x7, x9⟩ := HX.out W1 (Below.refl _ _)
  clear hs1 h1 h2 h3
  go_enter Tryz.func202, Tryz.ntmps202
  have hO := hown
  clear hown
  go_wp2_with fail
  clear hW1
  go_loopw [3, 4] (fun v i wr => ∃ k : Nat, k ≤ nc ∧ i = .int .i64 k ∧ Own W1.heap.size W1 wr v (([] : List Int) ++ (n.cases.take k).map (·.to))) (fun _ i _ => nc - (intOf i).toNat)
  case atStart => exact ⟨0, Nat.zero_le _, rfl, by simpa using hO⟩
  case round =>
    clear hO x4 x5 x6 x7 x9
    obtain ⟨k, hk, hi4, hO⟩ := hrel
    subst hi4
    obtain ⟨x4, x5, x6, x7, x9⟩ := HX.out wr hO.bel
    by_cases hlt : k < nc
    · obtain ⟨cb, co, ec, c0, c1, c2, c3⟩ := (HC.out wr hO.bel).cs k (by rw [HNC.out]; exact hlt)
      have hV5' := HV5.out
      rw [ec] at hV5'
      try simp only [Option.map_some] at hV5'
      rw [← hV5'] at x5
      clear hV5'
      obtain ⟨X, hX⟩ : ∃ X, (n.cases.getD k .zero).to = X := ⟨_, rfl⟩
      have HXk : Hid ((n.cases.take (k + 1)).map (·.to) = (n.cases.take k).map (·.to) ++ [X]) := by
        show List.map _ _ = _
        rw [take_getD_succ Cas.zero _ k (by rw [HNC.out]; exact hlt), ← hX]; simp
      rw [hX] at c3
      have hlen : (([] : List Int) ++ (n.cases.take k).map (·.to)).length ≤ 7 := by have := HNC.out; simp; omega
      obtain ⟨l, hl⟩ : ∃ l, ([] : List Int) ++ (n.cases.take k).map (·.to) = l := ⟨_, rfl⟩
      have HLL : Hid (([] : List Int) ++ (n.cases.take (k + 1)).map (·.to) = l ++ [X]) := by
        show _ ++ _ = _
        rw [HXk.out, ← hl]; simp
      rw [hl] at hO hlen
      clear hl hX c0 c1 c2
      have hkb : (k : Int) < nc := by omega
      go_wp2_with (at_builtin; go_must (refine wpList_append_own _ rfl (.tmp 20) (.tmp 27) 35 rfl W1.heap.size 3 i0 (.int .i64 0) 1 8 Tryz.underlying35 hi hz0 hz1 hz2 rfl (by decide) _ _ _ rfl (hO.row.alloc _) ⟨wr.heap.size, 0, none⟩ 1 1 [.int .i64 X] rfl rfl (one_c1 _ _) (one_c2 _) (by unfold maxLen; omega) (by omega) (by have := hO.sz; simp <;> omega) ?_))
      intro v1 w1 hown1 hg1 _
      have hO1 : Own W1.heap.size W1 w1 v1 (l ++ [X]) := Own.step (hO.alloc _) hown1 (by simp) (by simp [iv]) hg1
      clear hown1 hg1 hO x4 x5 x6 x7 x9 c3
      go_wp2_with fail
      exact ⟨⟨k + 1, by omega, by go_num, by rw [HLL.out]; exact hO1⟩, by simp [intOf]; omega⟩
    · obtain ⟨l, hl⟩ : ∃ l, ([] : List Int) ++ n.cases.map (·.to) = l := ⟨_, rfl⟩
      have HLE : Hid (([] : List Int) ++ n.cases.map (·.to) = l) := hl
      have hlen : l.length ≤ 7 := by have := HNC.out; rw [← hl]; simp; omega
      rw [List.take_of_length_le (by rw [HNC.out]; omega), hl] at hO
      clear hl
      rw [← HV5.out] at x5
      have hO2 := hO
      clear hO
      obtain ⟨l2, hl2⟩ : ∃ l2, l ++ ([] : List Int) = l2 := ⟨_, rfl⟩
      have HL2 : Hid (l ++ [] = l2) := hl2
      have hlen2 : l2.length ≤ 8 := by rw [← hl2]; simp; omega
      rw [show l = l2 by rw [← hl2]; simp] at hO2
      clear hl2
      have HI : Hid (IntsIn wr (some bA) n.branches) := by have := (HC.out wr hO2.bel).bs; rw [HR4.out] at this; exact this
      go_wp2_with (at_builtin; go_must (refine wpList_append_own _ rfl (.tmp 37) (.tmp 39) 35 rfl W1.heap.size 3 i0 (.int .i64 0) 1 8 Tryz.underlying35 hi hz0 hz1 hz2 rfl (by decide) _ _ _ rfl hO2.row bA nb r.bc (iv n.branches) rfl (by rw [iv_len, HNB.out, Nat.mul_one]) (ints_c1 HI.out) (ints_c2 _) (by unfold maxLen; omega) (by omega) hO2.sz ?_))
      intro v3 w3 hown3 hg3 _
      have hO3 : Own W1.heap.size W1 w3 v3 (l2 ++ n.branches) := Own.step hO2 hown3 (by simp [HNB.out]) (by simp [iv]) hg3
      clear hown3 hg3 hO2 x4 x5 x6 x7 x9
      obtain ⟨x4, x5, x6, x7, x9⟩ := HX.out w3 hO3.bel
      obtain ⟨l3, hl3⟩ : ∃ l3, l2 ++ n.branches = l3 := ⟨_, rfl⟩
      have HL3 : Hid (l2 ++ n.branches = l3) := hl3
      have hlen3 : l3.length ≤ 14 := by have := HNB.out; rw [← hl3]; simp; omega
      rw [hl3] at hO3
      clear hl3
      go_wp2_with fail
      go_ret
      exact ⟨_, rfl, W1, HB1.out, HS1.out, by rw [HO.out, HLE.out, HL2.out, HL3.out, List.append_nil]; exact hO3⟩
set_option maxHeartbeats 2000000 in
set_option maxRecDepth 100000 in
theorem out_nnnn (n : Nod) (r : Raw) (w : World) (hn : NodIn w n r) (hcl : n.cases.length ≤ 6) (hbl : n.branches.length ≤ 6) (h1 : n.to = -1) (h2 : n.els = -1) (h3 : n.late = -1) (h4 : r.ba = none ∧ r.bc = 0 ∧ n.branches = []) :
    Calls Tryz.prog 202 #[.agg (nodV n r)] w fun e w' => ∃ v, e = .returned v ∧ ∃ W1, Below w.heap.size w W1 ∧ W1.heap.size = w.heap.size + 1 ∧ Own W1.heap.size W1 w' v (outL n) := by
  obtain ⟨i0, hi, hz0, hz1, hz2⟩ := info_parts Tryz.info3
  have ho : outL n = (([] : List Int) ++ n.cases.map (·.to) ++ [] ++ n.branches) ++ [] := by
    unfold outL timelyL
    rw [h1, optL_no, h2, optL_no, h3, optL_no]
  obtain ⟨OUT, hOUT⟩ : ∃ l, outL n = l := ⟨_, rfl⟩
  have HO : Hid (OUT = (([] : List Int) ++ n.cases.map (·.to) ++ [] ++ n.branches) ++ []) := by rw [← hOUT]; exact ho
  rw [hOUT]
  clear hOUT ho
  have HNd : Hid (NodIn w n r) := hn
  unfold nodV
  obtain ⟨h4, h5, h6⟩ := h4
  rw [h4, h5]
  obtain ⟨nc, hnc⟩ : ∃ k, n.cases.length = k := ⟨_, rfl⟩
  obtain ⟨nb, hnb⟩ : ∃ k, n.branches.length = k := ⟨_, rfl⟩
  have HNC : Hid (n.cases.length = nc) := hnc
  have HNB : Hid (n.branches.length = nb) := hnb
  rw [hnc, hnb]
  rw [hnc] at hcl
  rw [hnb] at hbl
  have hnb0 : nb = 0 := by rw [← hnb, h6]; rfl
  subst hnb0
  clear hnc hnb hn
  have HR4 : Hid (r.ba = none) := h4
  clear h4
  simp only [SlV, Option.map_none]
  obtain ⟨V5, hV5⟩ : ∃ V, Value.slice r.ca nc r.cc = V := ⟨_, rfl⟩
  have HV5 : Hid (Value.slice r.ca nc r.cc = V5) := hV5
  rw [hV5]
  clear hV5
  obtain ⟨W1, hW1⟩ : ∃ W1, w.alloc (Obj.cells #[.int .i64 n.kind, .string n.id, .string n.name, .int .i64 n.up, .int .i64 n.to, V5, .int .i64 n.els, .slice none 0 0, .int .i64 n.after, .int .i64 n.late] 87) = W1 := ⟨_, rfl⟩
  have HB1 : Hid (Below w.heap.size w W1) := by rw [← hW1]; exact b1 _ _
  have hs1 : W1.heap.size = w.heap.size + 1 := by rw [← hW1]; simp
  have HS1 : Hid (W1.heap.size = w.heap.size + 1) := hs1
  have hx : ∀ W, Below W1.heap.size W1 W → W.cell? ⟨w.heap.size, 4, none⟩ = some (.int .i64 n.to) ∧ W.cell? ⟨w.heap.size, 5, none⟩ = some V5 ∧ W.cell? ⟨w.heap.size, 6, none⟩ = some (.int .i64 n.els) ∧ W.cell? ⟨w.heap.size, 7, none⟩ = some (.slice none 0 0) ∧ W.cell? ⟨w.heap.size, 9, none⟩ = some (.int .i64 n.late) := by
    intro W hW
    have k := fun (x : Nat) => hW.cell (p := ⟨w.heap.size, x, none⟩) (by show w.heap.size < _; omega)
    rw [k, k, k, k, k, ← hW1]
    exact ⟨by simp [go_sem], by simp [go_sem], by simp [go_sem], by simp [go_sem], by simp [go_sem]⟩
  have HC : Hid (∀ W, Below W1.heap.size W1 W → NodIn W n r) := fun W hW => (HNd.out.below HB1.out).below hW
  rw [h1] at hx hW1 ⊢
  rw [h2] at hx hW1 ⊢
  rw [h3] at hx hW1 ⊢
  have HX : Hid (∀ W, Below W1.heap.size W1 W → W.cell? ⟨w.heap.size, 4, none⟩ = some (.int .i64 (-1)) ∧ W.cell? ⟨w.heap.size, 5, none⟩ = some V5 ∧ W.cell? ⟨w.heap.size, 6, none⟩ = some (.int .i64 (-1)) ∧ W.cell? ⟨w.heap.size, 7, none⟩ = some (.slice none 0 0) ∧ W.cell? ⟨w.heap.size, 9, none⟩ = some (.int .i64 (-1))) := hx
  clear hx
  have hown : Own W1.heap.size W1 W1 (.slice none 0 0) [] := Own.nil (Nat.le_refl _)
  obtain ⟨x4, x5, x6, x7, x9⟩ := HX.out W1 (Below.refl _ _)
  clear hs1 h1 h2 h3
  go_enter Tryz.func202, Tryz.ntmps202
  have hO := hown
  clear hown
  go_wp2_with fail
  clear hW1
  go_loopw [3, 4] (fun v i wr => ∃ k : Nat, k ≤ nc ∧ i = .int .i64 k ∧ Own W1.heap.size W1 wr v (([] : List Int) ++ (n.cases.take k).map (·.to))) (fun _ i _ => nc - (intOf i).toNat)
  case atStart => exact ⟨0, Nat.zero_le _, rfl, by simpa using hO⟩
  case round =>
    clear hO x4 x5 x6 x7 x9
    obtain ⟨k, hk, hi4, hO⟩ := hrel
    subst hi4
    obtain ⟨x4, x5, x6, x7, x9⟩ := HX.out wr hO.bel
    by_cases hlt : k < nc
    · obtain ⟨cb, co, ec, c0, c1, c2, c3⟩ := (HC.out wr hO.bel).cs k (by rw [HNC.out]; exact hlt)
      have hV5' := HV5.out
      rw [ec] at hV5'
      try simp only [Option.map_some] at hV5'
      rw [← hV5'] at x5
      clear hV5'
      obtain ⟨X, hX⟩ : ∃ X, (n.cases.getD k .zero).to = X := ⟨_, rfl⟩
      have HXk : Hid ((n.cases.take (k + 1)).map (·.to) = (n.cases.take k).map (·.to) ++ [X]) := by
        show List.map _ _ = _
        rw [take_getD_succ Cas.zero _ k (by rw [HNC.out]; exact hlt), ← hX]; simp
      rw [hX] at c3
      have hlen : (([] : List Int) ++ (n.cases.take k).map (·.to)).length ≤ 7 := by have := HNC.out; simp; omega
      obtain ⟨l, hl⟩ : ∃ l, ([] : List Int) ++ (n.cases.take k).map (·.to) = l := ⟨_, rfl⟩
      have HLL : Hid (([] : List Int) ++ (n.cases.take (k + 1)).map (·.to) = l ++ [X]) := by
        show _ ++ _ = _
        rw [HXk.out, ← hl]; simp
      rw [hl] at hO hlen
      clear hl hX c0 c1 c2
      have hkb : (k : Int) < nc := by omega
      go_wp2_with (at_builtin; go_must (refine wpList_append_own _ rfl (.tmp 20) (.tmp 27) 35 rfl W1.heap.size 3 i0 (.int .i64 0) 1 8 Tryz.underlying35 hi hz0 hz1 hz2 rfl (by decide) _ _ _ rfl (hO.row.alloc _) ⟨wr.heap.size, 0, none⟩ 1 1 [.int .i64 X] rfl rfl (one_c1 _ _) (one_c2 _) (by unfold maxLen; omega) (by omega) (by have := hO.sz; simp <;> omega) ?_))
      intro v1 w1 hown1 hg1 _
      have hO1 : Own W1.heap.size W1 w1 v1 (l ++ [X]) := Own.step (hO.alloc _) hown1 (by simp) (by simp [iv]) hg1
      clear hown1 hg1 hO x4 x5 x6 x7 x9 c3
      go_wp2_with fail
      exact ⟨⟨k + 1, by omega, by go_num, by rw [HLL.out]; exact hO1⟩, by simp [intOf]; omega⟩
    · obtain ⟨l, hl⟩ : ∃ l, ([] : List Int) ++ n.cases.map (·.to) = l := ⟨_, rfl⟩
      have HLE : Hid (([] : List Int) ++ n.cases.map (·.to) = l) := hl
      have hlen : l.length ≤ 7 := by have := HNC.out; rw [← hl]; simp; omega
      rw [List.take_of_length_le (by rw [HNC.out]; omega), hl] at hO
      clear hl
      rw [← HV5.out] at x5
      have hO2 := hO
      clear hO
      obtain ⟨l2, hl2⟩ : ∃ l2, l ++ ([] : List Int) = l2 := ⟨_, rfl⟩
      have HL2 : Hid (l ++ [] = l2) := hl2
      have hlen2 : l2.length ≤ 8 := by rw [← hl2]; simp; omega
      rw [show l = l2 by rw [← hl2]; simp] at hO2
      clear hl2
      have HI : Hid (IntsIn wr none n.branches) := by have := (HC.out wr hO2.bel).bs; rw [HR4.out] at this; exact this
      have eb : n.branches = [] := by
        cases hbr : n.branches with
        | nil => rfl
        | cons y t => obtain ⟨_, _, e, _⟩ := HI.out 0 (by rw [hbr]; simp); cases e
      have hO3 := hO2
      have el : l2 = l2 ++ n.branches := by rw [eb]; simp
      rw [el] at hO3
      clear el eb
      obtain ⟨l3, hl3⟩ : ∃ l3, l2 ++ n.branches = l3 := ⟨_, rfl⟩
      have HL3 : Hid (l2 ++ n.branches = l3) := hl3
      have hlen3 : l3.length ≤ 14 := by have := HNB.out; rw [← hl3]; simp; omega
      rw [hl3] at hO3
      clear hl3
      go_wp2_with (at_builtin; refine wpList_append_own_none rfl (.tmp 37) (.tmp 39) 35 rfl W1.heap.size 3 i0 1 Tryz.underlying35 hi _ _ _ rfl hO3.row rfl ?_)
      go_ret
      exact ⟨_, rfl, W1, HB1.out, HS1.out, by rw [HO.out, HLE.out, HL2.out, HL3.out, List.append_nil]; exact hO3⟩
/-- A nil list has no room. -/
structure RawOk (r : Raw) : Prop where
  c : r.ca = none → r.cc = 0
  b : r.ba = none → r.bc = 0
theorem out_any (n : Nod) (r : Raw) (w : World) (hn : NodIn w n r) (hr : RawOk r) (hcl : n.cases.length ≤ 6) (hbl : n.branches.length ≤ 6) :
    Calls Tryz.prog 202 #[.agg (nodV n r)] w fun e w' => ∃ v, e = .returned v ∧ ∃ W1, Below w.heap.size w W1 ∧ W1.heap.size = w.heap.size + 1 ∧ Own W1.heap.size W1 w' v (outL n) := by
  cases hb : r.ba with
  | none =>
    have h4 : r.ba = none ∧ r.bc = 0 ∧ n.branches = [] := ⟨hb, hr.b hb, by
      have := hn.bs; rw [hb] at this
      cases hbr : n.branches with
      | nil => rfl
      | cons y t => obtain ⟨_, _, e, _⟩ := this 0 (by rw [hbr]; simp); cases e⟩
    by_cases h1 : n.to = -1 <;> by_cases h2 : n.els = -1 <;> by_cases h3 : n.late = -1
    · exact out_nnnn n r w hn hcl hbl h1 h2 h3 h4
    · exact out_nntn n r w hn hcl hbl h1 h2 h3 h4
    · exact out_ntnn n r w hn hcl hbl h1 h2 h3 h4
    · exact out_nttn n r w hn hcl hbl h1 h2 h3 h4
    · exact out_tnnn n r w hn hcl hbl h1 h2 h3 h4
    · exact out_tntn n r w hn hcl hbl h1 h2 h3 h4
    · exact out_ttnn n r w hn hcl hbl h1 h2 h3 h4
    · exact out_tttn n r w hn hcl hbl h1 h2 h3 h4
  | some x =>
    by_cases h1 : n.to = -1 <;> by_cases h2 : n.els = -1 <;> by_cases h3 : n.late = -1
    · exact out_nnnt n r w hn hcl hbl h1 h2 h3 x hb
    · exact out_nntt n r w hn hcl hbl h1 h2 h3 x hb
    · exact out_ntnt n r w hn hcl hbl h1 h2 h3 x hb
    · exact out_nttt n r w hn hcl hbl h1 h2 h3 x hb
    · exact out_tnnt n r w hn hcl hbl h1 h2 h3 x hb
    · exact out_tntt n r w hn hcl hbl h1 h2 h3 x hb
    · exact out_ttnt n r w hn hcl hbl h1 h2 h3 x hb
    · exact out_tttt n r w hn hcl hbl h1 h2 h3 x hb
/-- What the caller reads of it. -/
theorem Own.ints {B : Nat} {w W : World} {v : Value} {l : List Int} (h : Own B w W v l) : ∃ a cap, v = SlV a l.length cap ∧ IntsIn W a l := by
  rcases h.row with ⟨hlen, ⟨rfl, h0⟩ | ⟨g, cap, cur, rfl, _, hg, h1, _, hsz, htk⟩⟩
  · refine ⟨none, 0, by rw [h0]; rfl, fun i hi => by omega⟩
  · refine ⟨some ⟨g, 0, none⟩, cap, rfl, fun i hi => ⟨g, 0, rfl, ?_⟩⟩
    have hc := h.row.cells (g := g) rfl i (.int .i64 (l.getD i 0)) (by simp [iv, List.getD, List.getElem?_eq_getElem hi])
    have e : (⟨g, 0, none⟩ : Addr).add i = ⟨g, 0 + i, none⟩ := by unfold Addr.add; split <;> simp_all
    rw [e] at hc
    exact hc
end Go.Proofs.YtjkpbpgeedihhaaGreatDoor
namespace Go.Proofs.YtjkpbpgeedihhaaGreatDoor
open Go.RowKit
open M FerryM
/-- Nodes whose lists are short, as they are behind rightNode. -/
structure Short (ns : List Nod) (rs : Nat → Raw) : Prop where
  c : ∀ i, i < ns.length → (nd ns i).cases.length ≤ 6
  b : ∀ i, i < ns.length → (nd ns i).branches.length ≤ 6
  r : ∀ i, i < ns.length → RawOk (rs i)
/-- How many of the first k of a list are x. -/
def cntL (l : List Int) (x : Int) : Nat → Nat
  | 0 => 0
  | k + 1 => cntL l x k + if l[k]?.getD 0 = x then 1 else 0
theorem cntL_le (l : List Int) (x : Int) : ∀ k, cntL l x k ≤ k
  | 0 => Nat.le_refl _
  | k + 1 => by have := cntL_le l x k; unfold cntL; split <;> omega
theorem cntL_yes {l : List Int} {x : Int} {k : Nat} (h : l[k]?.getD 0 = x) : cntL l x (k + 1) = cntL l x k + 1 := by show _ + _ = _; rw [if_pos h]
theorem cntL_no {l : List Int} {x : Int} {k : Nat} (h : ¬ l[k]?.getD 0 = x) : cntL l x (k + 1) = cntL l x k := by show _ + _ = _; rw [if_neg h]; omega
/-- How many ways out of the first k nodes lead to x. -/
def waysTo (ns : List Nod) (x : Int) : Nat → Nat
  | 0 => 0
  | k + 1 => waysTo ns x k + cntL (outL (nd ns k)) x (outL (nd ns k)).length
theorem optL_len (x : Int) : (optL x).length ≤ 1 := by unfold optL; split <;> simp
theorem outL_len {n : Nod} (hc : n.cases.length ≤ 6) (hb : n.branches.length ≤ 6) : (outL n).length ≤ 15 := by
  have h1 := optL_len n.to
  have h2 := optL_len n.els
  have h3 := optL_len n.late
  simp only [outL, timelyL, List.length_append, List.length_map]
  omega
theorem waysTo_le {ns : List Nod} {rs : Nat → Raw} (hs : Short ns rs) (x : Int) : ∀ k, k ≤ ns.length → waysTo ns x k ≤ 15 * k
  | 0, _ => Nat.le_refl _
  | k + 1, h => by
    have := waysTo_le hs x k (by omega)
    have h2 := cntL_le (outL (nd ns k)) x (outL (nd ns k)).length
    have h3 := outL_len (hs.c k (by omega)) (hs.b k (by omega))
    unfold waysTo
    omega
set_option maxHeartbeats 2000000 in
set_option maxRecDepth 100000 in
theorem ways_pos (id : ByteArray) (b o cap : Nat) (ns : List Nod) (rs : Nat → Raw) (x : Int) (w : World) (hm : ModIn w (some ⟨b, o, none⟩) ns rs) (hsh : Short ns rs) (hpos : 0 < ns.length) (h24 : ns.length ≤ 24) :
    Calls Tryz.prog 203 #[modV id (some ⟨b, o, none⟩) ns.length cap, .int .i64 x] w fun e w' => e = .returned (.int .i64 (waysTo ns x ns.length : Nat)) ∧ Below w.heap.size w w' := by
  obtain ⟨n, hn⟩ : ∃ n, ns.length = n := ⟨_, rfl⟩
  have HN : Hid (ns.length = n) := hn
  have HSh : Hid (Short ns rs) := hsh
  have hc : ∀ W, Below w.heap.size w W → ∀ j, j < n → NodCells W b (o + j * 10) (nd ns j) (rs j) ∧ NodIn W (nd ns j) (rs j) := by
    intro W hW j hj
    obtain ⟨b', o', e, h⟩ := (hm.below hW).cells j (by omega)
    cases e; exact ⟨h, (hm.below hW).node j (by omega)⟩
  have HC : Hid (∀ W, Below w.heap.size w W → ∀ j, j < n → NodCells W b (o + j * 10) (nd ns j) (rs j) ∧ NodIn W (nd ns j) (rs j)) := hc
  rw [hn] at hpos h24
  unfold modV
  simp only [SlV, hn, Option.map_some]
  clear hc hm hn hsh
  obtain ⟨W1, hW1⟩ : ∃ W1, w.alloc (Obj.cells #[.string id, .slice (some ⟨b, o, none⟩) n cap] 25) = W1 := ⟨_, rfl⟩
  have HB1 : Hid (Below w.heap.size w W1) := by rw [← hW1]; exact b1 _ _
  have hs1 : W1.heap.size = w.heap.size + 1 := by rw [← hW1]; simp
  have HS1 : Hid (W1.heap.size = w.heap.size + 1) := hs1
  clear hs1
  have HX : Hid (∀ W, Below W1.heap.size W1 W → W.cell? ⟨w.heap.size, 1, none⟩ = some (.slice (some ⟨b, o, none⟩) n cap)) := by
    intro W hW
    have e1 := hW.cell (p := ⟨w.heap.size, 1, none⟩) (by show w.heap.size < _; rw [HS1.out]; omega)
    rw [e1, ← hW1]
    simp [go_sem]
  go_enter Tryz.func203, Tryz.ntmps203
  go_wp2
  clear hW1
  go_loopw [5, 6] (fun c i wr => ∃ k : Nat, k ≤ n ∧ i = .int .i64 k ∧ c = .int .i64 (waysTo ns x k : Nat) ∧ Below W1.heap.size W1 wr) (fun _ i _ => n - (intOf i).toNat)
  case atStart => exact ⟨0, by omega, rfl, rfl, Below.refl _ _⟩
  case round =>
    obtain ⟨k, hk, rfl, rfl, hbw⟩ := hrel
    have HBW : Hid (Below W1.heap.size W1 wr) := hbw
    have HBw : Hid (Below w.heap.size w wr) := HB1.out.trans (hbw.mono (by rw [HS1.out]; omega))
    clear hbw
    have hx1 := HX.out wr HBW.out
    have hwl := waysTo_le HSh.out x k (by rw [HN.out]; exact hk)
    by_cases hlt : k < n
    · obtain ⟨hcell, hnode⟩ := HC.out wr HBw.out k hlt
      obtain ⟨c0, c1, c2, c3, c4, c5, c6, c7, c8, c9⟩ := hcell
      have hcall := out_any (nd ns k) (rs k) wr hnode (HSh.out.r k (by rw [HN.out]; exact hlt)) (HSh.out.c k (by rw [HN.out]; exact hlt)) (HSh.out.b k (by rw [HN.out]; exact hlt))
      have hol := outL_len (HSh.out.c k (by rw [HN.out]; exact hlt)) (HSh.out.b k (by rw [HN.out]; exact hlt))
      have HWk : Hid (waysTo ns x (k + 1) = waysTo ns x k + cntL (outL (nd ns k)) x (outL (nd ns k)).length) := rfl
      have hkb : (k : Int) < n := by omega
      clear hnode
      go_wp2_with fail
      refine hcall.mono ?_
      rintro e w3 ⟨v, rfl, W2, hb2, hs2, hown⟩
      obtain ⟨a, cp, hv, hints⟩ := hown.ints
      have hb3 : Below wr.heap.size wr w3 := hb2.trans (hown.bel.mono (by omega))
      have HB3 : Hid (Below W1.heap.size W1 w3) := HBW.out.trans (hb3.mono HBW.out.size)
      obtain ⟨L, hL⟩ : ∃ L, outL (nd ns k) = L := ⟨_, rfl⟩
      obtain ⟨m, hm⟩ : ∃ m, L.length = m := ⟨_, rfl⟩
      have HM : Hid (L.length = m) := hm
      rw [hL] at hv hints hol HWk
      rw [hm] at hv hol HWk
      simp only [SlV] at hv
      rw [hv]
      have hx3 := HX.out w3 HB3.out
      clear hv hown hb2 hs2 hL hm hcall hb3 c0 c1 c2 c3 c4 c5 c6 c7 c8 c9 hx1
      go_wp2_with fail
      go_loop [5, 8] (fun c q => ∃ j : Nat, j ≤ m ∧ q = .int .i64 j ∧ c = .int .i64 (waysTo ns x k + cntL L x j : Nat)) (fun _ q => m - (intOf q).toNat)
      case atStart => exact ⟨0, Nat.zero_le _, rfl, rfl⟩
      case round =>
        obtain ⟨j, hj, rfl, rfl⟩ := hrel
        have hcj := cntL_le L x j
        by_cases hjm : j < m
        · obtain ⟨lb, lo, rfl, hcl⟩ := hints j (by rw [HM.out]; exact hjm)
          have hjb : (j : Int) < m := by omega
          go_wp2_with fail
          · rename_i h
            exact ⟨⟨j + 1, by omega, by go_num, by rw [cntL_yes (by simpa using h)]; go_num⟩, by simp [intOf]; omega⟩
          · rename_i h
            exact ⟨⟨j + 1, by omega, by go_num, by rw [cntL_no (by simpa using h)]⟩, by simp [intOf]; omega⟩
        · obtain rfl : j = m := by omega
          go_wp2_with fail
          exact ⟨⟨k + 1, by omega, by go_num, by rw [HWk.out], HB3.out⟩, by simp [intOf]; omega⟩
    · obtain rfl : k = n := by omega
      go_wp2_with fail
      go_ret
      exact ⟨rfl, HBw.out⟩
end Go.Proofs.YtjkpbpgeedihhaaGreatDoor
namespace Go.Proofs.YtjkpbpgeedihhaaGreatDoor
open Go.RowKit
open M FerryM
/-- A way from node i to t leads to a node beside that is no start. -/
def WayOk (ns : List Nod) (i : Nat) (t : Int) : Prop := 0 ≤ t ∧ t < ns.length ∧ upF ns t.toNat = upF ns i ∧ kdF ns t.toNat ≠ 1
def WaysOk (ns : List Nod) (i : Nat) (l : List Int) (k : Nat) : Prop := ∀ j, j < k → WayOk ns i (l[j]?.getD 0)
def LeadTo (ns : List Nod) (k : Nat) : Prop := ∀ i, i < k → WaysOk ns i (outL (nd ns i)) (outL (nd ns i)).length
def Enough (ns : List Nod) (i : Nat) : Prop := (kdF ns i ≠ 1 → 1 ≤ waysTo ns i ns.length) ∧ (kdF ns i = 5 → 2 ≤ waysTo ns i ns.length)
def EnoughTo (ns : List Nod) (k : Nat) : Prop := ∀ i, i < k → Enough ns i
theorem rwB_lead {ns : List Nod} {i j : Nat} (hi : i < ns.length) (hj : j < (outL (nd ns i)).length) (h : ¬ WayOk ns i ((outL (nd ns i))[j]?.getD 0)) : false = (dB (LeadTo ns ns.length ∧ EnoughTo ns ns.length) (Classical.propDecidable _)) := by
  symm; exact (@decide_eq_false_iff_not _ (Classical.propDecidable _)).2 fun hh => h (hh.1 i hi j hj)
theorem rwB_enough {ns : List Nod} {i : Nat} (hi : i < ns.length) (h : ¬ Enough ns i) : false = (dB (LeadTo ns ns.length ∧ EnoughTo ns ns.length) (Classical.propDecidable _)) := by
  symm; exact (@decide_eq_false_iff_not _ (Classical.propDecidable _)).2 fun hh => h (hh.2 i hi)
theorem EnoughTo.next {ns : List Nod} {k : Nat} (h : EnoughTo ns k) (h2 : Enough ns k) : EnoughTo ns (k + 1) := by
  intro t ht
  by_cases e : t = k
  · subst e; exact h2
  · exact h t (by omega)
theorem rwB_true {ns : List Nod} (h1 : LeadTo ns ns.length) (h2 : EnoughTo ns ns.length) : true = (dB (LeadTo ns ns.length ∧ EnoughTo ns ns.length) (Classical.propDecidable _)) := by
  symm; exact (@decide_eq_true_iff _ (Classical.propDecidable _)).2 ⟨h1, h2⟩
set_option maxHeartbeats 4000000 in
set_option maxRecDepth 100000 in
theorem rightWays_pos (id : ByteArray) (b o cap : Nat) (ns : List Nod) (rs : Nat → Raw) (w : World) (hm : ModIn w (some ⟨b, o, none⟩) ns rs) (hsh : Short ns rs) (hpos : 0 < ns.length) (h24 : ns.length ≤ 24) :
    Calls Tryz.prog 120 #[modV id (some ⟨b, o, none⟩) ns.length cap] w fun e w' => e = .returned (.bool ((dB (LeadTo ns ns.length ∧ EnoughTo ns ns.length) (Classical.propDecidable _)))) ∧ Below w.heap.size w w' := by
  obtain ⟨n, hn⟩ : ∃ n, ns.length = n := ⟨_, rfl⟩
  have HN : Hid (ns.length = n) := hn
  have HSh : Hid (Short ns rs) := hsh
  have HMo : Hid (ModIn w (some ⟨b, o, none⟩) ns rs) := hm
  have hc : ∀ W, Below w.heap.size w W → ∀ j, j < n → NodCells W b (o + j * 10) (nd ns j) (rs j) ∧ NodIn W (nd ns j) (rs j) := by
    intro W hW j hj
    obtain ⟨b', o', e, h⟩ := (hm.below hW).cells j (by omega)
    cases e; exact ⟨h, (hm.below hW).node j (by omega)⟩
  have HC : Hid (∀ W, Below w.heap.size w W → ∀ j, j < n → NodCells W b (o + j * 10) (nd ns j) (rs j) ∧ NodIn W (nd ns j) (rs j)) := hc
  have HU : Hid (∀ W, Below w.heap.size w W → ∀ j, j < n → W.cell? ⟨b, o + j * 10 + 3, none⟩ = some (.int .i64 (upF ns j)) ∧ W.cell? ⟨b, o + j * 10, none⟩ = some (.int .i64 (kdF ns j))) := fun W hW j hj => ⟨(hc W hW j hj).1.c3, (hc W hW j hj).1.c0⟩
  rw [hn] at hpos h24
  unfold modV
  simp only [SlV, hn, Option.map_some]
  clear hc hm hn hsh
  obtain ⟨W1, hW1⟩ : ∃ W1, w.alloc (Obj.cells #[.string id, .slice (some ⟨b, o, none⟩) n cap] 25) = W1 := ⟨_, rfl⟩
  have HB1 : Hid (Below w.heap.size w W1) := by rw [← hW1]; exact b1 _ _
  have hs1 : W1.heap.size = w.heap.size + 1 := by rw [← hW1]; simp
  have HS1 : Hid (W1.heap.size = w.heap.size + 1) := hs1
  clear hs1
  have HX : Hid (∀ W, Below W1.heap.size W1 W → W.cell? ⟨w.heap.size, 0, none⟩ = some (.string id) ∧ W.cell? ⟨w.heap.size, 1, none⟩ = some (.slice (some ⟨b, o, none⟩) n cap)) := by
    intro W hW
    have e0 := hW.cell (p := ⟨w.heap.size, 0, none⟩) (by show w.heap.size < _; rw [HS1.out]; omega)
    have e1 := hW.cell (p := ⟨w.heap.size, 1, none⟩) (by show w.heap.size < _; rw [HS1.out]; omega)
    rw [e0, e1, ← hW1]
    exact ⟨by simp [go_sem], by simp [go_sem]⟩
  go_enter Tryz.func120, Tryz.ntmps120
  go_wp2_with fail
  clear hW1
  go_loopw [3] (fun i wr => ∃ k : Nat, k ≤ n ∧ i = .int .i64 k ∧ Below W1.heap.size W1 wr ∧ LeadTo ns k) (fun i _ => n - (intOf i).toNat)
  case atStart => exact ⟨0, by omega, rfl, Below.refl _ _, fun i hi => by omega⟩
  case round =>
    obtain ⟨k, hk, rfl, hbw, hlead⟩ := hrel
    have HLd : Hid (LeadTo ns k) := hlead
    have HBW : Hid (Below W1.heap.size W1 wr) := hbw
    have HBw : Hid (Below w.heap.size w wr) := HB1.out.trans (hbw.mono (by rw [HS1.out]; omega))
    clear hbw hlead
    obtain ⟨hx0, hx1⟩ := HX.out wr HBW.out
    by_cases hlt : k < n
    · obtain ⟨hcell, hnode⟩ := HC.out wr HBw.out k hlt
      obtain ⟨c0, c1, c2, c3, c4, c5, c6, c7, c8, c9⟩ := hcell
      have hcall := out_any (nd ns k) (rs k) wr hnode (HSh.out.r k (by rw [HN.out]; exact hlt)) (HSh.out.c k (by rw [HN.out]; exact hlt)) (HSh.out.b k (by rw [HN.out]; exact hlt))
      have hol := outL_len (HSh.out.c k (by rw [HN.out]; exact hlt)) (HSh.out.b k (by rw [HN.out]; exact hlt))
      have hkb : (k : Int) < n := by omega
      clear hnode
      go_wp2_with fail
      refine hcall.mono ?_
      rintro e w3 ⟨v, rfl, W2, hb2, hs2, hown⟩
      obtain ⟨a, cp, hv, hints⟩ := hown.ints
      have hb3 : Below wr.heap.size wr w3 := hb2.trans (hown.bel.mono (by omega))
      have HB3 : Hid (Below W1.heap.size W1 w3) := HBW.out.trans (hb3.mono HBW.out.size)
      have HB3w : Hid (Below w.heap.size w w3) := HB1.out.trans (HB3.out.mono (by rw [HS1.out]; omega))
      obtain ⟨L, hL⟩ : ∃ L, outL (nd ns k) = L := ⟨_, rfl⟩
      have HLL : Hid (outL (nd ns k) = L) := hL
      obtain ⟨m, hm⟩ : ∃ m, L.length = m := ⟨_, rfl⟩
      have HM : Hid (L.length = m) := hm
      rw [hL] at hv hints hol
      rw [hm] at hv hol
      simp only [SlV] at hv
      rw [hv]
      obtain ⟨hx30, hx31⟩ := HX.out w3 HB3.out
      clear hv hown hb2 hs2 hL hm hcall hb3 c0 c1 c2 c3 c4 c5 c6 c7 c8 c9 hx1 hx0
      go_wp2_with fail
      go_loopw [5] (fun q wr => ∃ j d : Nat, j ≤ m ∧ q = .int .i64 j ∧ wr = w3.drewN d ∧ WaysOk ns k L j) (fun q _ => m - (intOf q).toNat)
      case atStart => exact ⟨0, 0, Nat.zero_le _, rfl, rfl, fun j hj => by omega⟩
      case round =>
        obtain ⟨j, d, hj, rfl, rfl, hok⟩ := hrel
        have HOk : Hid (WaysOk ns k L j) := hok
        clear hok
        by_cases hjm : j < m
        · obtain ⟨lb, lo, rfl, hcl⟩ := hints j (by rw [HM.out]; exact hjm)
          have hjb : (j : Int) < m := by omega
          obtain ⟨t, ht⟩ : ∃ t, L.getD j 0 = t := ⟨_, rfl⟩
          have HT : Hid (L[j]?.getD 0 = t) := ht
          rw [ht] at hcl
          clear ht
          obtain ⟨uk3, uk0⟩ := HU.out w3 HB3w.out k hlt
          by_cases h0 : 0 ≤ t
          · by_cases h1 : t < n
            · obtain ⟨v, rfl⟩ : ∃ v : Nat, t = v := ⟨t.toNat, by omega⟩
              obtain ⟨ut3, ut0⟩ := HU.out w3 HB3w.out v (by omega)
              have hd0 : decide ((v : Int) < 0) = false := by rw [decide_eq_false_iff_not]; omega
              have hdn : decide (n ≤ v) = false := by rw [decide_eq_false_iff_not]; omega
              obtain ⟨ua, hua⟩ : ∃ x, upF ns v = x := ⟨_, rfl⟩
              obtain ⟨ub, hub⟩ : ∃ x, upF ns k = x := ⟨_, rfl⟩
              obtain ⟨kv, hkv⟩ : ∃ x, kdF ns v = x := ⟨_, rfl⟩
              have HUa : Hid (upF ns v = ua) := hua
              have HUb : Hid (upF ns k = ub) := hub
              have HKv : Hid (kdF ns v = kv) := hkv
              rw [hua] at ut3
              rw [hub] at uk3
              rw [hkv] at ut0
              clear hua hub hkv
              by_cases hu : ua = ub
              · have hu' : (ua != ub) = false := by simpa using hu
                have HUU : Hid (ua = ub) := hu
                clear hu
                by_cases hk1 : kv = 1
                · have hk1' : (kv == 1) = true := by simpa using hk1
                  have HK1 : Hid (kv = 1) := hk1
                  clear hk1
                  go_wp2_with fail
                  go_quiet (fail)
                  go_wp2_with fail
                  go_ret
                  exact ⟨ret_bool' (rwB_lead (i := k) (j := j) (by rw [HN.out]; exact hlt) (by rw [HLL.out, HM.out]; exact hjm) (fun h => h.2.2.2 (by rw [HLL.out, HT.out]; simp [HKv.out, HK1.out]))), below_drewN (below_drewN HB3w.out _) _⟩
                · have hk1' : (kv == 1) = false := by simpa using hk1
                  have HK1 : Hid (kv ≠ 1) := hk1
                  clear hk1
                  go_wp2_with fail
                  go_quiet (fail)
                  go_wp2_with fail
                  have HNx : Hid (WaysOk ns k L (j + 1)) := by
                    intro i hi
                    by_cases e : i < j
                    · exact HOk.out i e
                    · obtain rfl : i = j := by omega
                      rw [HT.out]
                      exact ⟨by omega, by rw [HN.out]; omega, by simp [HUa.out, HUb.out, HUU.out], by simp [HKv.out, HK1.out]⟩
                  exact ⟨⟨j + 1, d + nq, by omega, by go_num, rfl, HNx.out⟩, by simp [intOf]; omega⟩
              · have hu' : (ua != ub) = true := by simpa using hu
                have HUU : Hid (ua ≠ ub) := hu
                clear hu
                go_wp2_with fail
                go_quiet (fail)
                go_wp2_with fail
                go_ret
                exact ⟨ret_bool' (rwB_lead (i := k) (j := j) (by rw [HN.out]; exact hlt) (by rw [HLL.out, HM.out]; exact hjm) (fun h => HUU.out (by have := h.2.2.1; rw [HLL.out, HT.out, HUb.out] at this; simpa [HUa.out] using this))), below_drewN (below_drewN HB3w.out _) _⟩
            · have hdn : decide (n ≤ t) = true := by rw [decide_eq_true_iff]; omega
              have hd0 : decide (t < 0) = false := by rw [decide_eq_false_iff_not]; omega
              go_wp2_with fail
              go_quiet (fail)
              go_wp2_with fail
              go_ret
              exact ⟨ret_bool' (rwB_lead (i := k) (j := j) (by rw [HN.out]; exact hlt) (by rw [HLL.out, HM.out]; exact hjm) (fun h => by have := h.2.1; rw [HLL.out, HT.out, HN.out] at this; omega)), below_drewN (below_drewN HB3w.out _) _⟩
          · have hd0 : decide (t < 0) = true := by rw [decide_eq_true_iff]; omega
            go_wp2_with fail
            go_quiet (fail)
            go_wp2_with fail
            go_ret
            exact ⟨ret_bool' (rwB_lead (i := k) (j := j) (by rw [HN.out]; exact hlt) (by rw [HLL.out, HM.out]; exact hjm) (fun h => by have := h.1; rw [HLL.out, HT.out] at this; omega)), below_drewN (below_drewN HB3w.out _) _⟩
        · obtain rfl : j = m := by omega
          have HLn : Hid (LeadTo ns (k + 1)) := by
            intro i hi
            by_cases e : i < k
            · exact HLd.out i e
            · obtain rfl : i = k := by omega
              rw [HLL.out, HM.out]; exact HOk.out
          go_wp2_with fail
          exact ⟨⟨k + 1, by omega, by go_num, below_drewN HB3.out _, HLn.out⟩, by simp [intOf]; omega⟩
    · obtain rfl : k = n := by omega
      have hx11 := hx1
      go_wp2_with fail
      go_loopw [7] (fun i wr => ∃ q : Nat, q ≤ k ∧ i = .int .i64 q ∧ Below W1.heap.size W1 wr ∧ EnoughTo ns q) (fun i _ => k - (intOf i).toNat)
      case atStart => exact ⟨0, by omega, rfl, HBW.out, fun i hi => by omega⟩
      case round =>
        clear hx0 hx1 hx11
        obtain ⟨q, hq, rfl, hbw, hen⟩ := hrel
        have HEn : Hid (EnoughTo ns q) := hen
        have HB2 : Hid (Below W1.heap.size W1 wr) := hbw
        have HB2w : Hid (Below w.heap.size w wr) := HB1.out.trans (hbw.mono (by rw [HS1.out]; omega))
        clear hbw hen
        obtain ⟨hx0, hx1⟩ := HX.out wr HB2.out
        by_cases hqk : q < k
        · have hqb : (q : Int) < k := by omega
          have hcall := ways_pos id b o cap ns rs q wr (HMo.out.below HB2w.out) HSh.out (by rw [HN.out]; exact hpos) (by rw [HN.out]; exact h24)
          unfold modV at hcall
          simp only [SlV, HN.out, Option.map_some] at hcall
          obtain ⟨wy, hwy⟩ : ∃ x, waysTo ns q k = x := ⟨_, rfl⟩
          have HWy : Hid (waysTo ns q ns.length = wy) := by rw [HN.out]; exact hwy
          rw [hwy] at hcall
          clear hwy
          obtain ⟨kq, hkq⟩ : ∃ x, kdF ns q = x := ⟨_, rfl⟩
          have HKq : Hid (kdF ns q = kq) := hkq
          clear hkq
          go_wp2_with (go_at_call 203; go_must (refine hcall.mono ?_; rintro e w3 ⟨rfl, hb3⟩; have HB3 : Hid (Below W1.heap.size W1 w3) := HB2.out.trans (hb3.mono HB2.out.size); have HB3w : Hid (Below w.heap.size w w3) := HB2w.out.trans (hb3.mono HB2w.out.size); obtain ⟨hx30, hx31⟩ := HX.out w3 HB3.out; obtain ⟨uq3, uq0⟩ := HU.out w3 HB3w.out q (by omega); rw [HKq.out] at uq0; clear uq3))
          all_goals first
            | (exact ⟨⟨q + 1, by omega, by go_num, HB3.out, HEn.out.next ⟨by rw [HKq.out, HWy.out]; simp_all; try omega, by rw [HKq.out, HWy.out]; simp_all; try omega⟩⟩, by simp [intOf]; omega⟩)
            | (go_ret; exact ⟨ret_bool' (rwB_enough (i := q) (by rw [HN.out]; exact hqk) (fun h => by have h1 := h.1; have h2 := h.2; rw [HKq.out, HWy.out] at h1 h2; simp_all; try omega)), HB3w.out⟩)
        · obtain rfl : q = k := by omega
          go_wp2_with fail
          go_ret
          exact ⟨ret_bool' (rwB_true (by rw [HN.out]; exact HLd.out) (by rw [HN.out]; exact HEn.out)), HB2w.out⟩
end Go.Proofs.YtjkpbpgeedihhaaGreatDoor
