import Derived.Test.YtjkpbpgeedihhaaGreatDoorC23
import Derived.Laws.EntriesVeiled
set_option linter.all false
namespace Go.Proofs.YtjkpbpgeedihhaaGreatDoor
open Go.RowKit
open M
/-- The row of a kind. -/
def idxK (k : Int) : Nat := if k = 1 then 1 else if k = 2 then 2 else if k = 3 then 3 else if k = 4 then 6 else if k = 5 then 8 else if k = 6 then 9 else 10
abbrev rowA (i g c : Nat) : Array Value := #[.string (tName i), .slice (some ⟨g, 0, none⟩) (tAtt i).length c, .func (Fn.func (tFn i)) #[] #[], .int .i64 (tKind i), .int .u64 (tMust i), .int .u64 (tMay i), .bool (tPass i), .func (Fn.func (tMv i)) #[] #[]]
abbrev tabV (b : Nat) : Value := .slice (some ⟨b, 0, none⟩) 12 12
theorem idx_of {k : Int} {j : Nat} (hj : j < 12) (h : tKind j = k) (h0 : k ≠ 0) : j = idxK k ∧ 1 ≤ k ∧ k ≤ 7 := by
  subst h
  rcases (by omega : j = 0 ∨ j = 1 ∨ j = 2 ∨ j = 3 ∨ j = 4 ∨ j = 5 ∨ j = 6 ∨ j = 7 ∨ j = 8 ∨ j = 9 ∨ j = 10 ∨ j = 11) with rfl | rfl | rfl | rfl | rfl | rfl | rfl | rfl | rfl | rfl | rfl | rfl
  all_goals first | (exact absurd rfl h0) | exact ⟨by decide, by decide, by decide⟩
theorem idx_kind {k : Int} (h : 1 ≤ k ∧ k ≤ 7) : idxK k < 12 ∧ tKind (idxK k) = k := by
  rcases (by omega : k = 1 ∨ k = 2 ∨ k = 3 ∨ k = 4 ∨ k = 5 ∨ k = 6 ∨ k = 7) with rfl | rfl | rfl | rfl | rfl | rfl | rfl
  all_goals exact ⟨by decide, by decide⟩
def noneTo (k : Int) (j : Nat) : Prop := ∀ t, t < j → ¬ (tKind t = k ∧ k ≠ 0)
set_option maxHeartbeats 2000000 in
set_option maxRecDepth 100000 in
theorem ofKind_all (b : Nat) (sb sc : Nat → Nat) (k : Int) (w : World) (hT : TabIn w b sb sc) :
    Calls Tryz.prog 235 #[tabV b, .int .i64 k] w fun e w' => ((1 ≤ k ∧ k ≤ 7 ∧ e = .returned (.tuple #[.agg (rowA (idxK k) (sb (idxK k)) (sc (idxK k))), .bool true])) ∨ (¬ (1 ≤ k ∧ k ≤ 7) ∧ e = .returned (.tuple #[.agg #[.string ⟨#[]⟩, .slice none 0 0, .nilFunc, .int .i64 0, .int .u64 0, .int .u64 0, .bool false, .nilFunc], .bool false]))) ∧ Below w.heap.size w w' := by
  have HT : Hid (TabIn w b sb sc) := hT
  clear hT
  obtain ⟨W1, hW1⟩ : ∃ W1, w.alloc (Obj.cells #[.string ⟨#[]⟩, .slice none 0 0, .nilFunc, .int .i64 0, .int .u64 0, .int .u64 0, .bool false, .nilFunc] 298) = W1 := ⟨_, rfl⟩
  have HB1 : Hid (Below w.heap.size w W1) := by rw [← hW1]; exact b1 _ _
  have hs1 : W1.heap.size = w.heap.size + 1 := by rw [← hW1]; simp
  have HS1 : Hid (W1.heap.size = w.heap.size + 1) := hs1
  have HL1 : Hid (lstIs W1 w.heap.size 298 [.string ⟨#[]⟩, .slice none 0 0, .nilFunc, .int .i64 0, .int .u64 0, .int .u64 0, .bool false, .nilFunc]) := by rw [← hW1]; exact lstIs.new _ _ _
  clear hs1
  go_enter Tryz.func235, Tryz.ntmps235
  go_wp2_with fail
  clear hW1
  go_loopw [10] (fun i wr => ∃ j : Nat, j ≤ 12 ∧ i = .int .i64 j ∧ Below W1.heap.size W1 wr ∧ noneTo k j) (fun i _ => 12 - (intOf i).toNat)
  case atStart => exact ⟨0, by omega, rfl, Below.refl _ _, fun t ht => by omega⟩
  case round =>
    obtain ⟨j, hj, rfl, hbw, hno⟩ := hrel
    have HNo : Hid (noneTo k j) := hno
    have HBW : Hid (Below W1.heap.size W1 wr) := hbw
    have HBw : Hid (Below w.heap.size w wr) := HB1.out.trans (hbw.mono HB1.out.size)
    have HLr : Hid (lstIs wr w.heap.size 298 [.string ⟨#[]⟩, .slice none 0 0, .nilFunc, .int .i64 0, .int .u64 0, .int .u64 0, .bool false, .nilFunc]) := HL1.out.at (hbw.block _ HL1.out.lt)
    have hlt0 : w.heap.size < wr.heap.size := HLr.out.lt
    clear hbw hno
    have rc0 := HLr.out.cell (i := 0) rfl
    have rc1 := HLr.out.cell (i := 1) rfl
    have rc2 := HLr.out.cell (i := 2) rfl
    have rc3 := HLr.out.cell (i := 3) rfl
    have rc4 := HLr.out.cell (i := 4) rfl
    have rc5 := HLr.out.cell (i := 5) rfl
    have rc6 := HLr.out.cell (i := 6) rfl
    have rc7 := HLr.out.cell (i := 7) rfl
    have rf0 := HLr.out.free 0
    have rf1 := HLr.out.free 1
    have rf2 := HLr.out.free 2
    have rf3 := HLr.out.free 3
    have rf4 := HLr.out.free 4
    have rf5 := HLr.out.free 5
    have rf6 := HLr.out.free 6
    have rf7 := HLr.out.free 7
    by_cases hlt : j < 12
    · obtain ⟨c0, c1, c2, c3, c4, c5, c6, c7⟩ := (HT.out.below HBw.out).rows j hlt
      have hjb : (j : Int) < 12 := by omega
      by_cases hk : tKind j = k
      · by_cases h0 : k = 0
        · have d1 : (tKind j == k) = true := by simp [hk]
          have d2 : (k != 0) = false := by simp [h0]
          have HNx : Hid (noneTo k (j + 1)) := fun t ht => if e : t = j then (fun hh => hh.2 h0) else HNo.out t (by omega)
          clear hk h0
          rcases tMvV_cases j with hm | hm
          all_goals (rw [hm] at c7; clear hm)
          all_goals go_wp2_with fail
          all_goals exact ⟨⟨j + 1, by omega, by go_num, HBW.out.alloc HBW.out.size _, HNx.out⟩, by simp [intOf]; omega⟩
        · have HI : Hid (j = idxK k ∧ 1 ≤ k ∧ k ≤ 7) := idx_of hlt hk h0
          have HK : Hid (tKind j = k) := hk
          rw [tMvV_kind hlt (by rw [hk]; exact h0)] at c7
          have d1 : (tKind j == k) = true := by simp [hk]
          have d2 : (k != 0) = true := by simp [h0]
          obtain ⟨kk, hkk⟩ : ∃ x, tKind j = x := ⟨_, rfl⟩
          rw [hkk] at c3 d1
          have HKK : Hid (tKind j = kk) := hkk
          clear hk h0 hkk
          go_wp2_with fail
          refine bodyPost_ret (v := .tuple #[.agg #[.string (tName j), .slice (some ⟨sb j, 0, none⟩) (tAtt j).length (sc j), .func (Fn.func (tFn j)) #[] #[], .int .i64 kk, .int .u64 (tMust j), .int .u64 (tMay j), .bool (tPass j), .func (Fn.func (tMv j)) #[] #[]], .bool true]) ?_ rfl ?_
          · rw [results_cell_tmp rfl]
            go_simp
          · refine ⟨Or.inl ⟨HI.out.2.1, HI.out.2.2, ?_⟩, ?_⟩
            · rw [← HI.out.1]; unfold rowA; rw [HKK.out]
            · exact ((((((((HBw.out.setCell (by simp) _).setCell (by simp) _).setCell (by simp) _).setCell (by simp) _).setCell (by simp) _).setCell (by simp) _).setCell (by simp) _).setCell (by simp) _).alloc (by simp [World.setCell]; omega) _
      · have d1 : (tKind j == k) = false := by simp [hk]
        have HNx : Hid (noneTo k (j + 1)) := fun t ht => if e : t = j then (fun hh => hk (e ▸ hh.1)) else HNo.out t (by omega)
        clear hk
        rcases tMvV_cases j with hm | hm
        all_goals (rw [hm] at c7; clear hm)
        all_goals go_wp2_with fail
        all_goals exact ⟨⟨j + 1, by omega, by go_num, HBW.out.alloc HBW.out.size _, HNx.out⟩, by simp [intOf]; omega⟩
    · obtain rfl : j = 12 := by omega
      go_wp2_with fail
      refine bodyPost_ret (v := .tuple #[.agg #[.string ⟨#[]⟩, .slice none 0 0, .nilFunc, .int .i64 0, .int .u64 0, .int .u64 0, .bool false, .nilFunc], .bool false]) ?_ rfl ?_
      · rw [results_cell_tmp rfl]
        go_simp
      · refine ⟨Or.inr ⟨fun hh => ?_, rfl⟩, ?_⟩
        · have := idx_kind hh
          exact HNo.out _ this.1 ⟨this.2, by omega⟩
        · exact (((((((HBw.out.setCell (by simp) _).setCell (by simp) _).setCell (by simp) _).setCell (by simp) _).setCell (by simp) _).setCell (by simp) _).setCell (by simp) _).setCell (by simp) _
end Go.Proofs.YtjkpbpgeedihhaaGreatDoor
namespace Go.Proofs.YtjkpbpgeedihhaaGreatDoor
open Go.RowKit
open M
abbrev chkV (tb : Nat) (a : Option Addr) (n cap : Nat) : Value := .agg #[tabV tb, SlV a n cap]
theorem mask_bits : ∀ k : Fin 8, 1 ≤ k.val → ∀ b1 b2 b3 b4 b5 b6 : Bool, (!(bits BinOp.and IntKind.u64 ((fld b1 b2 b3 b4 b5 b6 : Nat) : Int) ((mustF k.val : Nat) : Int) != ((mustF k.val : Nat) : Int)) && !(bits BinOp.andNot IntKind.u64 ((fld b1 b2 b3 b4 b5 b6 : Nat) : Int) (bits BinOp.or IntKind.u64 ((mustF k.val : Nat) : Int) ((mayF k.val : Nat) : Int)) != 0)) = maskB (fld b1 b2 b3 b4 b5 b6) (mustF k.val) (mayF k.val) := by decide
theorem row_masks {k : Int} (h : 1 ≤ k ∧ k ≤ 7) : tMust (idxK k) = ((mustF k.toNat : Nat) : Int) ∧ tMay (idxK k) = ((mayF k.toNat : Nat) : Int) := by
  rcases (by omega : k = 1 ∨ k = 2 ∨ k = 3 ∨ k = 4 ∨ k = 5 ∨ k = 6 ∨ k = 7) with rfl | rfl | rfl | rfl | rfl | rfl | rfl
  all_goals exact ⟨by decide, by decide⟩
theorem mask_of (n : Nod) (h : 1 ≤ n.kind ∧ n.kind ≤ 7) : (!(bits BinOp.and IntKind.u64 ((fieldsF n : Nat) : Int) (tMust (idxK n.kind)) != tMust (idxK n.kind)) && !(bits BinOp.andNot IntKind.u64 ((fieldsF n : Nat) : Int) (bits BinOp.or IntKind.u64 (tMust (idxK n.kind)) (tMay (idxK n.kind))) != 0)) = maskB (fieldsF n) (mustF n.kind.toNat) (mayF n.kind.toNat) := by
  rw [(row_masks h).1, (row_masks h).2]
  exact mask_bits ⟨n.kind.toNat, by omega⟩ (by show 1 ≤ n.kind.toNat; omega) _ _ _ _ _ _
def FitTo (ns : List Nod) (k : Nat) : Prop := ∀ i, i < k → fitB (nd ns i) = true
theorem FitTo.next {ns : List Nod} {k : Nat} (h : FitTo ns k) (h2 : fitB (nd ns k) = true) : FitTo ns (k + 1) := fun i hi => if e : i = k then (by rw [e]; exact h2) else h i (by omega)
theorem fit_no {ns : List Nod} {k m : Nat} (hk : k < m) (h : fitB (nd ns k) = false) : (false = true) ↔ FitTo ns m := ⟨fun h => (by cases h), fun hh => (by rw [hh k hk] at h; cases h)⟩
/-- The row as it is stored. -/
structure RowBox (w : World) (b i : Nat) : Prop where
  c4 : w.cell? ⟨b, 4, none⟩ = some (.int .u64 (tMust i))
  c5 : w.cell? ⟨b, 5, none⟩ = some (.int .u64 (tMay i))
  c6 : w.cell? ⟨b, 6, none⟩ = some (.bool (tPass i))
theorem RowBox.new (w : World) (i g c : Nat) : RowBox (w.alloc (.cells (rowA i g c) 298)) w.heap.size i := by
  constructor <;> simp [go_sem]
theorem RowBox.below {w w' : World} {b i : Nat} (h : RowBox w b i) (hb : Below w.heap.size w w') : RowBox w' b i := by
  have k := fun (x : Nat) => hb.cell (p := ⟨b, x, none⟩) (lt_of_cell h.c4)
  exact ⟨(k _).trans h.c4, (k _).trans h.c5, (k _).trans h.c6⟩
/-- The checker in a block of its own. -/
structure ChkBox (w : World) (b tb : Nat) (A : Option Addr) (n cap : Nat) : Prop where
  c0 : w.cell? ⟨b, 0, none⟩ = some (.slice (some ⟨tb, 0, none⟩) 12 12)
  c1 : w.cell? ⟨b, 1, none⟩ = some (.slice A n cap)
theorem ChkBox.new (w : World) (tb : Nat) (A : Option Addr) (n cap t : Nat) : ChkBox (w.alloc (.cells #[.slice (some ⟨tb, 0, none⟩) 12 12, .slice A n cap] t)) w.heap.size tb A n cap := by
  constructor <;> simp [go_sem]
theorem ChkBox.below {w w' : World} {b tb : Nat} {A : Option Addr} {n cap : Nat} (h : ChkBox w b tb A n cap) (hb : Below w.heap.size w w') : ChkBox w' b tb A n cap := by
  have k := fun (x : Nat) => hb.cell (p := ⟨b, x, none⟩) (lt_of_cell h.c0)
  exact ⟨(k _).trans h.c0, (k _).trans h.c1⟩
set_option maxHeartbeats 4000000 in
set_option maxRecDepth 100000 in
theorem nodesFit_any (tb : Nat) (sb sc : Nat → Nat) (a : Option Addr) (cap : Nat) (ns : List Nod) (rs : Nat → Raw) (w : World) (hm : ModIn w a ns rs) (hT : TabIn w tb sb sc) (hL : Laid w) :
    Calls Tryz.prog 183 #[chkV tb a ns.length cap] w fun e w' => ∃ r, e = .returned (.bool r) ∧ (r = true ↔ FitTo ns ns.length) ∧ Below w.heap.size w w' := by
  have hl := hm.len
  obtain ⟨n, hn⟩ : ∃ n, ns.length = n := ⟨_, rfl⟩
  have HN : Hid (ns.length = n) := hn
  have HMo : Hid (ModIn w a ns rs) := hm
  have HT : Hid (TabIn w tb sb sc) := hT
  have HL : Hid (Laid w) := hL
  obtain ⟨A, hA⟩ : ∃ A, a = A := ⟨_, rfl⟩
  have HA : Hid (a = A) := hA
  unfold chkV tabV
  simp only [SlV]
  rw [hA, hn]
  rw [hn] at hl
  clear hm hT hL hn hA
  obtain ⟨W1, hW1⟩ : ∃ W1, w.alloc (Obj.cells #[.slice (some ⟨tb, 0, none⟩) 12 12, .slice A n cap] 308) = W1 := ⟨_, rfl⟩
  have HB1 : Hid (Below w.heap.size w W1) := by rw [← hW1]; exact b1 _ _
  have HX : Hid (ChkBox W1 w.heap.size tb A n cap) := by rw [← hW1]; exact ChkBox.new _ _ _ _ _ _
  go_enter Tryz.func183, Tryz.ntmps183
  obtain ⟨x0, x1⟩ := HX.out
  go_wp2_with fail
  clear hW1 x0 x1
  go_loopw [11] (fun i wr => ∃ k : Nat, k ≤ n ∧ i = .int .i64 k ∧ Below W1.heap.size W1 wr ∧ FitTo ns k) (fun i _ => n - (intOf i).toNat)
  case atStart => exact ⟨0, by omega, rfl, Below.refl _ _, fun i hi => by omega⟩
  case round =>
    obtain ⟨k, hk, rfl, hbw, hok⟩ := hrel
    have HOk : Hid (FitTo ns k) := hok
    have HBW : Hid (Below W1.heap.size W1 wr) := hbw
    have HBw : Hid (Below w.heap.size w wr) := HB1.out.trans (hbw.mono HB1.out.size)
    clear hbw hok
    by_cases hlt : k < n
    · obtain ⟨b, o, ha, hcell⟩ := (HMo.out.below HBw.out).cells k (by rw [HN.out]; exact hlt)
      have HNi : Hid (NodIn wr (nd ns k) (rs k)) := (HMo.out.below HBw.out).node k (by rw [HN.out]; exact hlt)
      have HSz : Hid (NodSz (nd ns k)) := HMo.out.sz k (by rw [HN.out]; exact hlt)
      have hAa := HA.out
      rw [ha] at hAa
      try simp only [Option.map_some] at hAa
      subst hAa
      obtain ⟨nn, hnn⟩ : ∃ x, nd ns k = x := ⟨_, rfl⟩
      have HNN : Hid (nd ns k = nn) := hnn
      rw [hnn] at hcell HNi HSz
      obtain ⟨rr, hrr⟩ : ∃ x, rs k = x := ⟨_, rfl⟩
      rw [hrr] at hcell HNi
      clear hnn hrr ha
      obtain ⟨c0, c1, c2, c3, c4, c5, c6, c7, c8, c9⟩ := hcell
      simp only [SlV] at c5 c7
      have hkb : (k : Int) < n := by omega
      obtain ⟨x0, x1⟩ := HX.out.below HBW.out
      obtain ⟨W2, hW2⟩ : ∃ W2, wr.alloc (.cells (nodV nn rr) 87) = W2 := ⟨_, rfl⟩
      have HB2 : Hid (Below wr.heap.size wr W2) := by rw [← hW2]; exact b1 _ _
      have HX2 : Hid (NodBox W2 wr.heap.size nn rr) := by rw [← hW2]; exact NodBox.new _ _ _
      have HW2 : Hid (Below W1.heap.size W1 W2) := HBW.out.trans (HB2.out.mono HBW.out.size)
      have Hw2 : Hid (Below w.heap.size w W2) := HBw.out.trans (HB2.out.mono HBw.out.size)
      have xs2 := cell_alloc_lt wr (.cells (nodV nn rr) 87) ⟨w.heap.size, 0, none⟩ (by have := lt_of_cell x0; exact this)
      rw [hW2, x0] at xs2
      have ys2 := HX2.out.c0
      simp only [nodV, SlV] at hW2
      have hOf := ofKind_all tb sb sc nn.kind W2 (HT.out.below Hw2.out)
      go_wp2_with fail
      refine hOf.mono ?_
      rintro e w2 ⟨hcase, hb2⟩
      have HV2 : Hid (Below W2.heap.size W2 w2) := hb2
      have HVw : Hid (Below w.heap.size w w2) := Hw2.out.trans (hb2.mono Hw2.out.size)
      clear hOf hb2 hW2 c0 c1 c2 c3 c4 c5 c6 c7 c8 c9 x0 x1 xs2 ys2
      rcases hcase with ⟨h1, h7, rfl⟩ | ⟨hno, rfl⟩
      · obtain ⟨W3, hW3⟩ : ∃ W3, w2.alloc (.cells (rowA (idxK nn.kind) (sb (idxK nn.kind)) (sc (idxK nn.kind))) 298) = W3 := ⟨_, rfl⟩
        have HB3 : Hid (Below w2.heap.size w2 W3) := by rw [← hW3]; exact b1 _ _
        have HX3 : Hid (RowBox W3 w2.heap.size (idxK nn.kind)) := by rw [← hW3]; exact RowBox.new _ _ _ _
        have H23 : Hid (Below W2.heap.size W2 W3) := HV2.out.trans (HB3.out.mono HV2.out.size)
        have y1 := (HX2.out.below H23.out).c1
        simp only [rowA] at hW3
        obtain ⟨bI, hbI⟩ : ∃ x, isIdB nn.id.data.toList = x := ⟨_, rfl⟩
        have HI : Hid (isIdB nn.id.data.toList = bI) := hbI
        have hId := isID_any nn.id W3 (by have := HSz.out.id; unfold maxLen; omega)
        rw [hbI] at hId
        clear hbI
        go_wp2_with fail
        refine hId.mono ?_
        rintro e w4 ⟨rfl, hb4⟩
        have HB4 : Hid (Below W3.heap.size W3 w4) := hb4
        have H24 : Hid (Below W2.heap.size W2 w4) := H23.out.trans (hb4.mono H23.out.size)
        have Hw4 : Hid (Below w.heap.size w w4) := Hw2.out.trans (H24.out.mono Hw2.out.size)
        clear hId hb4 hW3 y1
        cases bI
        · go_wp2_with fail
          go_ret
          exact ⟨_, rfl, fit_no hlt (by rw [HNN.out]; unfold fitB; rw [HI.out]; simp), Hw4.out⟩
        · obtain ⟨y0, y1, y2, y3, y4, y5, y6, y7, y8, y9⟩ := HX2.out.below H24.out
          simp only [SlV] at y5 y7
          have hBh := boundsHold_any nn rr w4 (HNi.out.below (HB2.out.trans (H24.out.mono HB2.out.size))) HSz.out (HL.out.below Hw4.out)
          unfold nodV at hBh
          simp only [SlV] at hBh
          obtain ⟨bB, hbB⟩ : ∃ x, boundsB nn = x := ⟨_, rfl⟩
          have HBb : Hid (boundsB nn = bB) := hbB
          rw [hbB] at hBh
          clear hbB
          go_wp2_with fail
          refine hBh.mono ?_
          rintro e w5 ⟨rfl, hb5⟩
          have HB5 : Hid (Below W3.heap.size W3 w5) := HB4.out.trans (hb5.mono HB4.out.size)
          have H25 : Hid (Below W2.heap.size W2 w5) := H24.out.trans (hb5.mono H24.out.size)
          have Hw5 : Hid (Below w.heap.size w w5) := Hw2.out.trans (H25.out.mono Hw2.out.size)
          clear hBh hb5 y0 y1 y2 y3 y4 y5 y6 y7 y8 y9
          cases bB
          · go_wp2_with fail
            go_ret
            exact ⟨_, rfl, fit_no hlt (by rw [HNN.out]; unfold fitB; rw [HBb.out]; simp), Hw5.out⟩
          · obtain ⟨y0, y1, y2, y3, y4, y5, y6, y7, y8, y9⟩ := HX2.out.below H25.out
            simp only [SlV] at y5 y7
            have hFi := fieldsOf_any nn rr w5
            unfold nodV at hFi
            simp only [SlV] at hFi
            have HMk : Hid (_ = maskB (fieldsF nn) (mustF nn.kind.toNat) (mayF nn.kind.toNat)) := mask_of nn ⟨h1, h7⟩
            obtain ⟨F, hF⟩ : ∃ F : Int, ((fieldsF nn : Nat) : Int) = F := ⟨_, rfl⟩
            rw [hF] at hFi HMk
            clear hF
            go_wp2_with fail
            refine hFi.mono ?_
            rintro e w6 ⟨rfl, hb6⟩
            have HB6 : Hid (Below W3.heap.size W3 w6) := HB5.out.trans (hb6.mono HB5.out.size)
            have H26 : Hid (Below W2.heap.size W2 w6) := H25.out.trans (hb6.mono H25.out.size)
            have Hw6 : Hid (Below w.heap.size w w6) := Hw2.out.trans (H26.out.mono Hw2.out.size)
            have HW6 : Hid (Below W1.heap.size W1 w6) := HW2.out.trans (H26.out.mono HW2.out.size)
            clear hFi hb6 y0 y1 y2 y3 y4 y5 y6 y7 y8 y9
            obtain ⟨z4, z5, z6⟩ := HX3.out.below HB6.out
            obtain ⟨M, hM⟩ : ∃ M, tMust (idxK nn.kind) = M := ⟨_, rfl⟩
            obtain ⟨Y, hY⟩ : ∃ Y, tMay (idxK nn.kind) = Y := ⟨_, rfl⟩
            rw [hM] at z4 HMk
            rw [hY] at z5 HMk
            clear hM hY z6
            have HR : Hid (1 ≤ nn.kind ∧ nn.kind ≤ 7) := ⟨h1, h7⟩
            clear h1 h7
            have hFit : fitB nn = maskB (fieldsF nn) (mustF nn.kind.toNat) (mayF nn.kind.toNat) := by
              unfold fitB
              rw [HI.out, HBb.out, decide_eq_true HR.out]; rfl
            have HFit : Hid (fitB nn = maskB (fieldsF nn) (mustF nn.kind.toNat) (mayF nn.kind.toNat)) := hFit
            clear hFit
            cases d1 : (bits BinOp.and IntKind.u64 F M != M) with
            | true =>
              rw [d1] at HMk
              go_wp2_with fail
              go_ret
              exact ⟨_, rfl, fit_no hlt (by rw [HNN.out, HFit.out, ← HMk.out]; rfl), Hw6.out⟩
            | false =>
              cases d2 : (bits BinOp.andNot IntKind.u64 F (bits BinOp.or IntKind.u64 M Y) != 0) with
              | true =>
                rw [d1, d2] at HMk
                go_wp2_with fail
                go_ret
                exact ⟨_, rfl, fit_no hlt (by rw [HNN.out, HFit.out, ← HMk.out]; rfl), Hw6.out⟩
              | false =>
                rw [d1, d2] at HMk
                go_wp2_with fail
                exact ⟨⟨k + 1, by omega, by go_num, HW6.out, HOk.out.next (by rw [HNN.out, HFit.out, ← HMk.out]; rfl)⟩, by simp [intOf]; omega⟩
      · go_wp2_with fail
        go_ret
        exact ⟨_, rfl, fit_no hlt (by rw [HNN.out]; unfold fitB; rw [decide_eq_false hno]; rfl), HVw.out.alloc HVw.out.size _⟩
    · obtain rfl : k = n := by omega
      go_wp2_with fail
      go_ret
      exact ⟨_, rfl, ⟨fun _ => HOk.out, fun _ => rfl⟩, HBw.out⟩
end Go.Proofs.YtjkpbpgeedihhaaGreatDoor
namespace Go.Proofs.YtjkpbpgeedihhaaGreatDoor
open Go.RowKit
open M
def IdsTo (ns : List Nod) (k : Nat) : Prop := ∀ i, i < k → ∀ j, j < i → (nd ns j).id ≠ (nd ns i).id
def IdNe (ns : List Nod) (k m : Nat) : Prop := ∀ t, t < m → (nd ns t).id ≠ (nd ns k).id
theorem ids_no {ns : List Nod} {k j m : Nat} (hk : k < m) (hj : j < k) (h : (nd ns j).id = (nd ns k).id) : (false = true) ↔ IdsTo ns m := ⟨fun h => (by cases h), fun hh => absurd h (hh k hk j hj)⟩
set_option maxHeartbeats 4000000 in
set_option maxRecDepth 100000 in
theorem idsDiffer_any (tb : Nat) (a : Option Addr) (cap : Nat) (ns : List Nod) (rs : Nat → Raw) (w : World) (hm : ModIn w a ns rs) (hcap : ns.length ≤ cap) :
    Calls Tryz.prog 184 #[chkV tb a ns.length cap] w fun e w' => ∃ r, e = .returned (.bool r) ∧ (r = true ↔ IdsTo ns ns.length) ∧ Below w.heap.size w w' := by
  have hl := hm.len
  obtain ⟨n, hn⟩ : ∃ n, ns.length = n := ⟨_, rfl⟩
  have HN : Hid (ns.length = n) := hn
  have HMo : Hid (ModIn w a ns rs) := hm
  obtain ⟨A, hA⟩ : ∃ A, a = A := ⟨_, rfl⟩
  have HA : Hid (a = A) := hA
  unfold chkV tabV
  simp only [SlV]
  rw [hA, hn]
  rw [hn] at hl hcap
  clear hm hn hA
  obtain ⟨W1, hW1⟩ : ∃ W1, w.alloc (Obj.cells #[.slice (some ⟨tb, 0, none⟩) 12 12, .slice A n cap] 308) = W1 := ⟨_, rfl⟩
  have HB1 : Hid (Below w.heap.size w W1) := by rw [← hW1]; exact b1 _ _
  have HX : Hid (ChkBox W1 w.heap.size tb A n cap) := by rw [← hW1]; exact ChkBox.new _ _ _ _ _ _
  go_enter Tryz.func184, Tryz.ntmps184
  obtain ⟨x0, x1⟩ := HX.out
  go_wp2_with fail
  clear hW1 x0 x1
  go_loopw [10] (fun i wr => ∃ k : Nat, k ≤ n ∧ i = .int .i64 k ∧ Below W1.heap.size W1 wr ∧ IdsTo ns k) (fun i _ => n - (intOf i).toNat)
  case atStart => exact ⟨0, by omega, rfl, Below.refl _ _, fun i hi => by omega⟩
  case round =>
    obtain ⟨k, hk, rfl, hbw, hok⟩ := hrel
    have HOk : Hid (IdsTo ns k) := hok
    have HBW : Hid (Below W1.heap.size W1 wr) := hbw
    have HBw : Hid (Below w.heap.size w wr) := HB1.out.trans (hbw.mono HB1.out.size)
    clear hbw hok
    by_cases hlt : k < n
    · obtain ⟨b, o, ha, hcell⟩ := (HMo.out.below HBw.out).cells k (by rw [HN.out]; exact hlt)
      have hAa := HA.out
      rw [ha] at hAa
      try simp only [Option.map_some] at hAa
      subst hAa
      have HC : Hid (∀ W, Below w.heap.size w W → ∀ j, j < n → NodCells W b (o + j * 10) (nd ns j) (rs j)) := fun W hW j hj => by
        obtain ⟨b', o', e, h⟩ := (HMo.out.below hW).cells j (by rw [HN.out]; exact hj)
        rw [ha] at e
        cases e; exact h
      obtain ⟨nn, hnn⟩ : ∃ x, nd ns k = x := ⟨_, rfl⟩
      have HNN : Hid (nd ns k = nn) := hnn
      rw [hnn] at hcell
      obtain ⟨rr, hrr⟩ : ∃ x, rs k = x := ⟨_, rfl⟩
      rw [hrr] at hcell
      clear hnn hrr ha
      obtain ⟨c0, c1, c2, c3, c4, c5, c6, c7, c8, c9⟩ := hcell
      simp only [SlV] at c5 c7
      have hkb : (k : Int) < n := by omega
      have hkc : (k : Int) ≤ cap := by omega
      obtain ⟨x0, x1⟩ := HX.out.below HBW.out
      obtain ⟨W2, hW2⟩ : ∃ W2, wr.alloc (.cells (nodV nn rr) 87) = W2 := ⟨_, rfl⟩
      have HB2 : Hid (Below wr.heap.size wr W2) := by rw [← hW2]; exact b1 _ _
      have HX2 : Hid (NodBox W2 wr.heap.size nn rr) := by rw [← hW2]; exact NodBox.new _ _ _
      have HW2 : Hid (Below W1.heap.size W1 W2) := HBW.out.trans (HB2.out.mono HBW.out.size)
      have Hw2 : Hid (Below w.heap.size w W2) := HBw.out.trans (HB2.out.mono HBw.out.size)
      have xs2 := (HX.out.below HW2.out).c1
      simp only [nodV, SlV] at hW2
      go_wp2_with fail
      clear hW2 c0 c1 c2 c3 c4 c5 c6 c7 c8 c9 x0 x1 xs2
      go_loopw [20] (fun q X => ∃ j : Nat, j ≤ k ∧ q = .int .i64 j ∧ Below W2.heap.size W2 X ∧ IdNe ns k j) (fun q _ => k - (intOf q).toNat)
      case atStart => exact ⟨0, by omega, rfl, Below.refl _ _, fun i hi => by omega⟩
      case round =>
        obtain ⟨j, hj, rfl, hbx, hne⟩ := hrel
        have HNe : Hid (IdNe ns k j) := hne
        have HXb : Hid (Below W2.heap.size W2 wr) := hbx
        have HXw : Hid (Below w.heap.size w wr) := Hw2.out.trans (hbx.mono Hw2.out.size)
        have HXW : Hid (Below W1.heap.size W1 wr) := HW2.out.trans (hbx.mono HW2.out.size)
        clear hbx hne
        by_cases hjk : j < k
        · obtain ⟨c0, c1, c2, c3, c4, c5, c6, c7, c8, c9⟩ := HC.out wr HXw.out j (by omega)
          simp only [SlV] at c5 c7
          have hjb : (j : Int) < k := by omega
          have y1 := (HX2.out.below HXb.out).c1
          have y1l := lt_of_cell y1
          go_wp2_with fail
          · rename_i h
            go_ret
            exact ⟨_, rfl, ids_no hlt hjk (by rw [HNN.out]; exact bytes_inj (by simpa using h)), HXw.out.alloc HXw.out.size _⟩
          · rename_i h
            have HNx : Hid (IdNe ns k (j + 1)) := fun t ht => if e : t = j then (by rw [e, HNN.out]; intro he; rw [he] at h; simp at h) else HNe.out t (by omega)
            exact ⟨⟨j + 1, by omega, by go_num, HXb.out.alloc HXb.out.size _, HNx.out⟩, by simp [intOf]; omega⟩
        · obtain rfl : j = k := by omega
          have HNx : Hid (IdsTo ns (j + 1)) := fun i hi => if e : i = j then (by rw [e]; exact HNe.out) else HOk.out i (by omega)
          go_wp2_with fail
          exact ⟨⟨j + 1, by omega, by go_num, HXW.out, HNx.out⟩, by simp [intOf]; omega⟩
    · obtain rfl : k = n := by omega
      go_wp2_with fail
      go_ret
      exact ⟨_, rfl, ⟨fun _ => HOk.out, fun _ => rfl⟩, HBw.out⟩
end Go.Proofs.YtjkpbpgeedihhaaGreatDoor
namespace Go.Proofs.YtjkpbpgeedihhaaGreatDoor
open Go.RowKit
open M
set_option maxHeartbeats 4000000 in
set_option maxRecDepth 100000 in
theorem count_any (tb : Nat) (a : Option Addr) (cap : Nat) (ns : List Nod) (rs : Nat → Raw) (kd up : Int) (w : World) (hm : ModIn w a ns rs) :
    Calls Tryz.prog 281 #[chkV tb a ns.length cap, .int .i64 kd, .int .i64 up] w fun e w' => e = .returned (.int .i64 (cnt ns kd up ns.length : Nat)) ∧ Below w.heap.size w w' := by
  have hl := hm.len
  obtain ⟨n, hn⟩ : ∃ n, ns.length = n := ⟨_, rfl⟩
  have HN : Hid (ns.length = n) := hn
  have HMo : Hid (ModIn w a ns rs) := hm
  obtain ⟨A, hA⟩ : ∃ A, a = A := ⟨_, rfl⟩
  have HA : Hid (a = A) := hA
  unfold chkV tabV
  simp only [SlV]
  rw [hA, hn]
  rw [hn] at hl
  clear hm hn hA
  obtain ⟨W1, hW1⟩ : ∃ W1, w.alloc (Obj.cells #[.slice (some ⟨tb, 0, none⟩) 12 12, .slice A n cap] 308) = W1 := ⟨_, rfl⟩
  have HB1 : Hid (Below w.heap.size w W1) := by rw [← hW1]; exact b1 _ _
  have HX : Hid (ChkBox W1 w.heap.size tb A n cap) := by rw [← hW1]; exact ChkBox.new _ _ _ _ _ _
  go_enter Tryz.func281, Tryz.ntmps281
  obtain ⟨x0, x1⟩ := HX.out
  go_wp2_with fail
  clear hW1 x0 x1
  go_loopw [7, 13] (fun s i wr => ∃ k : Nat, k ≤ n ∧ i = .int .i64 k ∧ s = .int .i64 (cnt ns kd up k : Nat) ∧ Below W1.heap.size W1 wr) (fun _ i _ => n - (intOf i).toNat)
  case atStart => exact ⟨0, by omega, rfl, rfl, Below.refl _ _⟩
  case round =>
    obtain ⟨k, hk, rfl, rfl, hbw⟩ := hrel
    have HBW : Hid (Below W1.heap.size W1 wr) := hbw
    have HBw : Hid (Below w.heap.size w wr) := HB1.out.trans (hbw.mono HB1.out.size)
    have hcl := cnt_le ns kd up k
    clear hbw
    by_cases hlt : k < n
    · obtain ⟨b, o, ha, hcell⟩ := (HMo.out.below HBw.out).cells k (by rw [HN.out]; exact hlt)
      have hAa := HA.out
      rw [ha] at hAa
      try simp only [Option.map_some] at hAa
      subst hAa
      have HNN : Hid (upF ns k = (nd ns k).up ∧ kdF ns k = (nd ns k).kind) := ⟨rfl, rfl⟩
      obtain ⟨nn, hnn⟩ : ∃ x, nd ns k = x := ⟨_, rfl⟩
      rw [hnn] at hcell HNN
      obtain ⟨rr, hrr⟩ : ∃ x, rs k = x := ⟨_, rfl⟩
      rw [hrr] at hcell
      clear hnn hrr ha
      obtain ⟨c0, c1, c2, c3, c4, c5, c6, c7, c8, c9⟩ := hcell
      simp only [SlV] at c5 c7
      have hkb : (k : Int) < n := by omega
      by_cases h1 : nn.kind = kd
      · have d1 : (nn.kind == kd) = true := by simp [h1]
        by_cases h2 : nn.up = up
        · have d2 : (nn.up == up) = true := by simp [h2]
          have HC : Hid (cnt ns kd up (k + 1) = cnt ns kd up k + 1) := cnt_yes (by rw [HNN.out.1]; exact h2) (by rw [HNN.out.2]; exact h1)
          clear h1 h2
          go_wp2_with fail
          exact ⟨⟨k + 1, by omega, by go_num, by rw [HC.out]; go_num, HBW.out.alloc HBW.out.size _⟩, by simp [intOf]; omega⟩
        · have d2 : (nn.up == up) = false := by simp [h2]
          have HC : Hid (cnt ns kd up (k + 1) = cnt ns kd up k) := cnt_no (fun h => h2 (by rw [← HNN.out.1]; exact h.1))
          clear h1 h2
          go_wp2_with fail
          exact ⟨⟨k + 1, by omega, by go_num, by rw [HC.out], HBW.out.alloc HBW.out.size _⟩, by simp [intOf]; omega⟩
      · have d1 : (nn.kind == kd) = false := by simp [h1]
        have HC : Hid (cnt ns kd up (k + 1) = cnt ns kd up k) := cnt_no (fun h => h1 (by rw [← HNN.out.2]; exact h.2))
        clear h1
        go_wp2_with fail
        exact ⟨⟨k + 1, by omega, by go_num, by rw [HC.out], HBW.out.alloc HBW.out.size _⟩, by simp [intOf]; omega⟩
    · obtain rfl : k = n := by omega
      go_wp2_with fail
      go_ret
      exact ⟨rfl, HBw.out⟩
theorem begun_no {ns : List Nod} {m : Nat} (h : begunB ns = false) : (false = true) ↔ (begunB ns = true ∧ subsTo ns m) := ⟨fun h => (by cases h), fun hh => (by rw [hh.1] at h; cases h)⟩
theorem subs_no {ns : List Nod} {k m : Nat} (hk : k < m) (h6 : kdF ns k = 6) (h : ¬ (cnt ns 1 (k : Int) ns.length = 1 ∧ cnt ns 7 (k : Int) ns.length ≠ 0)) : (false = true) ↔ (begunB ns = true ∧ subsTo ns m) := ⟨fun h => (by cases h), fun hh => absurd (hh.2 k hk h6) h⟩
set_option maxHeartbeats 4000000 in
set_option maxRecDepth 100000 in
theorem begunAndEnded_any (tb : Nat) (a : Option Addr) (cap : Nat) (ns : List Nod) (rs : Nat → Raw) (w : World) (hm : ModIn w a ns rs) :
    Calls Tryz.prog 187 #[chkV tb a ns.length cap] w fun e w' => ∃ r, e = .returned (.bool r) ∧ (r = true ↔ (begunB ns = true ∧ subsTo ns ns.length)) ∧ Below w.heap.size w w' := by
  have hl := hm.len
  obtain ⟨n, hn⟩ : ∃ n, ns.length = n := ⟨_, rfl⟩
  have HN : Hid (ns.length = n) := hn
  have HMo : Hid (ModIn w a ns rs) := hm
  have HCt : Hid (∀ W, Below w.heap.size w W → ∀ kd up : Int, Calls Tryz.prog 281 #[chkV tb a ns.length cap, .int .i64 kd, .int .i64 up] W fun e w' => e = .returned (.int .i64 (cnt ns kd up ns.length : Nat)) ∧ Below W.heap.size W w') := fun W hW kd up => count_any tb a cap ns rs kd up W (hm.below hW)
  have HBg : Hid (begunB ns = ((cnt ns 1 (-1) ns.length == 1) && (!(cnt ns 7 (-1) ns.length == 0)))) := rfl
  obtain ⟨A, hA⟩ : ∃ A, a = A := ⟨_, rfl⟩
  have HA : Hid (a = A) := hA
  unfold chkV tabV at HCt ⊢
  simp only [SlV] at HCt ⊢
  rw [hA, hn] at HCt ⊢
  rw [hn] at hl HBg
  clear hm hn hA
  obtain ⟨W1, hW1⟩ : ∃ W1, w.alloc (Obj.cells #[.slice (some ⟨tb, 0, none⟩) 12 12, .slice A n cap] 308) = W1 := ⟨_, rfl⟩
  have HB1 : Hid (Below w.heap.size w W1) := by rw [← hW1]; exact b1 _ _
  have HX : Hid (ChkBox W1 w.heap.size tb A n cap) := by rw [← hW1]; exact ChkBox.new _ _ _ _ _ _
  obtain ⟨s1, hs1⟩ : ∃ x, cnt ns 1 (-1) n = x := ⟨_, rfl⟩
  obtain ⟨s7, hs7⟩ : ∃ x, cnt ns 7 (-1) n = x := ⟨_, rfl⟩
  rw [hs1, hs7] at HBg
  have k1 := HCt.out W1 HB1.out 1 (-1)
  rw [hs1] at k1
  have K7 : Hid (∀ W, Below w.heap.size w W → Calls Tryz.prog 281 #[.agg #[.slice (some ⟨tb, 0, none⟩) 12 12, .slice A n cap], .int .i64 7, .int .i64 (-1)] W fun e w' => e = .returned (.int .i64 (s7 : Nat)) ∧ Below W.heap.size W w') := fun W hW => by rw [← hs7]; exact HCt.out W hW 7 (-1)
  clear hs1 hs7
  go_enter Tryz.func187, Tryz.ntmps187
  obtain ⟨x0, x1⟩ := HX.out
  go_wp2_with fail
  refine k1.mono ?_
  rintro e w2 ⟨rfl, hb2⟩
  have HB2 : Hid (Below W1.heap.size W1 w2) := hb2
  have Hw2 : Hid (Below w.heap.size w w2) := HB1.out.trans (hb2.mono HB1.out.size)
  clear hb2 hW1 x0 x1 k1
  by_cases e1 : s1 = 1
  · have d1 : ((s1 : Int) != 1) = false := by subst e1; rfl
    have HS1 : Hid (s1 = 1) := e1
    clear e1
    obtain ⟨x0, x1⟩ := HX.out.below HB2.out
    have k7 := K7.out w2 Hw2.out
    go_wp2_with fail
    refine k7.mono ?_
    rintro e w3 ⟨rfl, hb3⟩
    have HB3 : Hid (Below W1.heap.size W1 w3) := HB2.out.trans (hb3.mono HB2.out.size)
    have Hw3 : Hid (Below w.heap.size w w3) := HB1.out.trans (HB3.out.mono HB1.out.size)
    clear hb3 x0 x1 k7
    by_cases e7 : s7 = 0
    · have d7 : ((s7 : Int) == 0) = true := by subst e7; rfl
      go_wp2_with fail
      go_ret
      exact ⟨_, rfl, begun_no (by rw [HBg.out, e7]; simp), Hw3.out⟩
    · have d7 : ((s7 : Int) == 0) = false := by simp; omega
      have HBt : Hid (begunB ns = true) := by have : begunB ns = true := by rw [HBg.out, HS1.out]; simp; omega
                                              exact this
      clear e7
      obtain ⟨x0, x1⟩ := HX.out.below HB3.out
      go_wp2_with fail
      clear x0 x1
      go_loopw [16] (fun i wr => ∃ k : Nat, k ≤ n ∧ i = .int .i64 k ∧ Below W1.heap.size W1 wr ∧ subsTo ns k) (fun i _ => n - (intOf i).toNat)
      case atStart => exact ⟨0, by omega, rfl, HB3.out, fun i hi => by omega⟩
      case round =>
        obtain ⟨k, hk, rfl, hbw, hok⟩ := hrel
        have HOk : Hid (subsTo ns k) := hok
        have HBW : Hid (Below W1.heap.size W1 wr) := hbw
        have HBw : Hid (Below w.heap.size w wr) := HB1.out.trans (hbw.mono HB1.out.size)
        clear hbw hok
        by_cases hlt : k < n
        · obtain ⟨b, o, ha, hcell⟩ := (HMo.out.below HBw.out).cells k (by rw [HN.out]; exact hlt)
          have hAa := HA.out
          rw [ha] at hAa
          try simp only [Option.map_some] at hAa
          subst hAa
          have HNN : Hid (kdF ns k = (nd ns k).kind) := rfl
          obtain ⟨nn, hnn⟩ : ∃ x, nd ns k = x := ⟨_, rfl⟩
          rw [hnn] at hcell HNN
          obtain ⟨rr, hrr⟩ : ∃ x, rs k = x := ⟨_, rfl⟩
          rw [hrr] at hcell
          clear hnn hrr ha
          obtain ⟨c0, c1, c2, c3, c4, c5, c6, c7, c8, c9⟩ := hcell
          simp only [SlV] at c5 c7
          have hkb : (k : Int) < n := by omega
          obtain ⟨W2, hW2⟩ : ∃ W2, wr.alloc (.cells (nodV nn rr) 87) = W2 := ⟨_, rfl⟩
          have HWb : Hid (Below wr.heap.size wr W2) := by rw [← hW2]; exact b1 _ _
          have HWW : Hid (Below W1.heap.size W1 W2) := HBW.out.trans (HWb.out.mono HBW.out.size)
          have HWw : Hid (Below w.heap.size w W2) := HBw.out.trans (HWb.out.mono HBw.out.size)
          have y0 : W2.cell? ⟨wr.heap.size, 0, none⟩ = some (.int .i64 nn.kind) := by rw [← hW2]; exact (NodBox.new _ _ _).c0
          simp only [nodV, SlV] at hW2
          by_cases h6 : nn.kind = 6
          · have d6 : (nn.kind == 6) = true := by simp [h6]
            have H6 : Hid (kdF ns k = 6) := by rw [HNN.out]; exact h6
            clear h6
            obtain ⟨x0, x1⟩ := HX.out.below HWW.out
            obtain ⟨t1, ht1⟩ : ∃ x, cnt ns 1 (k : Int) n = x := ⟨_, rfl⟩
            obtain ⟨t7, ht7⟩ : ∃ x, cnt ns 7 (k : Int) n = x := ⟨_, rfl⟩
            have q1 := HCt.out W2 HWw.out 1 (k : Int)
            rw [ht1] at q1
            have Q7 : Hid (∀ W, Below w.heap.size w W → Calls Tryz.prog 281 #[.agg #[.slice (some ⟨tb, 0, none⟩) 12 12, .slice (some ⟨b, o, none⟩) n cap], .int .i64 7, .int .i64 (k : Int)] W fun e w' => e = .returned (.int .i64 (t7 : Nat)) ∧ Below W.heap.size W w') := fun W hW => by rw [← ht7]; exact HCt.out W hW 7 (k : Int)
            have HT1 : Hid (cnt ns 1 (k : Int) n = t1 ∧ cnt ns 7 (k : Int) n = t7) := ⟨ht1, ht7⟩
            clear ht1 ht7
            go_wp2_with fail
            refine q1.mono ?_
            rintro e w4 ⟨rfl, hb4⟩
            have HB4 : Hid (Below W1.heap.size W1 w4) := HWW.out.trans (hb4.mono HWW.out.size)
            have Hw4 : Hid (Below w.heap.size w w4) := HB1.out.trans (HB4.out.mono HB1.out.size)
            clear hb4 x0 x1 q1 hW2 c0 c1 c2 c3 c4 c5 c6 c7 c8 c9 y0
            by_cases f1 : t1 = 1
            · have g1 : ((t1 : Int) != 1) = false := by subst f1; rfl
              have HF1 : Hid (t1 = 1) := f1
              clear f1
              obtain ⟨x0, x1⟩ := HX.out.below HB4.out
              have q7 := Q7.out w4 Hw4.out
              go_wp2_with fail
              refine q7.mono ?_
              rintro e w5 ⟨rfl, hb5⟩
              have HB5 : Hid (Below W1.heap.size W1 w5) := HB4.out.trans (hb5.mono HB4.out.size)
              have Hw5 : Hid (Below w.heap.size w w5) := HB1.out.trans (HB5.out.mono HB1.out.size)
              clear hb5 x0 x1 q7
              by_cases f7 : t7 = 0
              · have g7 : ((t7 : Int) == 0) = true := by subst f7; rfl
                have HF7 : Hid (t7 = 0) := f7
                clear f7
                go_wp2_with fail
                go_ret
                exact ⟨_, rfl, subs_no hlt H6.out (by rw [HN.out, HT1.out.2]; intro hh; exact hh.2 HF7.out), Hw5.out⟩
              · have g7 : ((t7 : Int) == 0) = false := by simp; omega
                have HF7 : Hid (t7 ≠ 0) := f7
                clear f7
                go_wp2_with fail
                exact ⟨⟨k + 1, by omega, by go_num, HB5.out, fun i hi h6' => if e : i = k then (by rw [e, HN.out, HT1.out.1, HT1.out.2]; exact ⟨HF1.out, HF7.out⟩) else HOk.out i (by omega) h6'⟩, by simp [intOf]; omega⟩
            · have g1 : ((t1 : Int) != 1) = true := by simp; omega
              have HF1 : Hid (t1 ≠ 1) := f1
              clear f1
              go_wp2_with fail
              go_ret
              exact ⟨_, rfl, subs_no hlt H6.out (by rw [HN.out, HT1.out.1]; intro hh; exact HF1.out hh.1), Hw4.out⟩
          · have d6 : (nn.kind == 6) = false := by simp [h6]
            have H6 : Hid (kdF ns k ≠ 6) := by rw [HNN.out]; exact h6
            clear h6
            go_wp2_with fail
            exact ⟨⟨k + 1, by omega, by go_num, HWW.out, fun i hi h6' => if e : i = k then (by rw [e] at h6'; exact absurd h6' H6.out) else HOk.out i (by omega) h6'⟩, by simp [intOf]; omega⟩
        · obtain rfl : k = n := by omega
          go_wp2_with fail
          go_ret
          exact ⟨_, rfl, ⟨fun _ => ⟨HBt.out, HOk.out⟩, fun _ => rfl⟩, HBw.out⟩
  · have d1 : ((s1 : Int) != 1) = true := by simp; omega
    have HS1 : Hid (s1 ≠ 1) := e1
    clear e1
    go_wp2_with fail
    go_ret
    exact ⟨_, rfl, begun_no (by rw [HBg.out]; have := HS1.out; simp; omega), Hw2.out⟩
end Go.Proofs.YtjkpbpgeedihhaaGreatDoor
namespace Go.Proofs.YtjkpbpgeedihhaaGreatDoor
open Go.RowKit
open M
/-- Ints as they are handed to an append: none, or in an array. -/
def Tail (W : World) (v : Value) (m : List Int) : Prop := (v = .slice none 0 0 ∧ m = []) ∨ ∃ (A : Addr) (c : Nat), v = .slice (some A) m.length c ∧ IntsIn W (some A) m
theorem Tail.below {W W' : World} {v : Value} {m : List Int} (h : Tail W v m) (hb : Below W.heap.size W W') : Tail W' v m := by
  rcases h with h | ⟨A, c, hv, hi⟩
  · exact Or.inl h
  · exact Or.inr ⟨A, c, hv, hi.below hb⟩
theorem Own.tail {B : Nat} {w W : World} {v : Value} {l : List Int} (h : Own B w W v l) : Tail W v l := by
  rcases h.row with ⟨hlen, ⟨rfl, h0⟩ | ⟨g, cap, cur, rfl, _, hg, h1, _, hsz, htk⟩⟩
  · exact Or.inl ⟨rfl, List.eq_nil_of_length_eq_zero h0⟩
  · refine Or.inr ⟨⟨g, 0, none⟩, cap, rfl, fun i hi => ⟨g, 0, rfl, ?_⟩⟩
    have hc := h.row.cells (g := g) rfl i (.int .i64 (l.getD i 0)) (by simp [iv, List.getD, List.getElem?_eq_getElem hi])
    have e : (⟨g, 0, none⟩ : Addr).add i = ⟨g, 0 + i, none⟩ := by unfold Addr.add; split <;> simp_all
    rw [e] at hc
    exact hc
theorem tail_raw {W : World} {a : Option Addr} {m : List Int} {c : Nat} (h : IntsIn W a m) (h0 : a = none → c = 0) : Tail W (SlV a m.length c) m := by
  cases a with
  | none =>
    have hm : m = [] := by
      cases m with
      | nil => rfl
      | cons x t => obtain ⟨_, _, e, _⟩ := h 0 (by simp); cases e
    subst hm
    rw [h0 rfl]
    exact Or.inl ⟨rfl, rfl⟩
  | some p => exact Or.inr ⟨p, c, rfl, h⟩
theorem wpList_append_tail {W : World} {ops : Array Oper} {rest : List Oper} {o : Oper} {a : Act} {Q : Exit → Act → World → Prop} (hgd : o.guard = none) (s x : Operand)
    (ho : o.op = .call { callee := .builtin .append, args := #[s, x], argTypes := #[35, 35] }) (B : Nat) (w : World) (v : Value) (l : List Int) (hs : a.eval s = v) (hO : Own B w W v l)
    (v2 : Value) (m : List Int) (hx : a.eval x = v2) (h2 : Tail W v2 m) (hlen : l.length + m.length ≤ 1000)
    (h : ∀ v' w', Own B w w' v' (l ++ m) → W.grownBy w' v.ownBlock → wpList Tryz.prog ops Q rest (a.put o.dst v') w') : wpList Tryz.prog ops Q (o :: rest) a W := by
  obtain ⟨i0, hi, hz0, hz1, hz2⟩ := info_parts Tryz.info3
  rcases h2 with ⟨rfl, rfl⟩ | ⟨A, c, rfl, hin⟩
  · refine wpList_append_own_none hgd s x 35 ho B 3 i0 1 Tryz.underlying35 hi v _ _ hs hO.row hx ?_
    exact h v W (by rw [List.append_nil]; exact hO) ⟨rfl, rfl, rfl, Nat.le_refl _, fun _ _ _ => rfl⟩
  · refine wpList_append_own _ hgd s x 35 ho B 3 i0 (.int .i64 0) 1 8 Tryz.underlying35 hi hz0 hz1 hz2 rfl (by decide) v _ _ hs hO.row A m.length c (iv m) hx (by simp [iv]) (ints_c1 hin) (ints_c2 m) (by unfold maxLen; omega) (by omega) hO.sz ?_
    intro v' w' hown hg _
    exact h v' w' (Own.step hO hown (by simp) (by rw [iv_app]) hg) hg
theorem Own.here {B B' : Nat} {w W X : World} {v : Value} {l : List Int} (h : Own B w W v l) (hB : B' ≤ B) (hx : Below B' X w) : Own B' X W v l :=
  ⟨own_base h.row hB, hx.trans (h.bel.mono hB), Nat.le_trans hB h.sz⟩
set_option maxHeartbeats 2000000 in
set_option maxRecDepth 100000 in
theorem present_one (b o c : Nat) (x : Int) (w : World) (hc : w.cell? ⟨b, o, none⟩ = some (.int .i64 x)) :
    Calls Tryz.prog 351 #[.slice (some ⟨b, o, none⟩) 1 c] w fun e w' => ∃ v, e = .returned v ∧ Own w.heap.size w w' v (optL x) := by
  by_cases hx : x = -1
  · have d : (x != -1) = false := by simp [hx]
    rw [hx, optL_no]
    rw [hx] at hc
    clear hx d
    go_enter Tryz.func351, Tryz.ntmps351
    go_wp2_with fail
    go_loopw [3, 8] (fun v i wr => v = .slice none 0 0 ∧ (i = .int .i64 0 ∨ i = .int .i64 1) ∧ wr = w) (fun _ i _ => 1 - (intOf i).toNat)
    case atStart => exact ⟨rfl, Or.inl rfl, rfl⟩
    case round =>
      obtain ⟨rfl, rfl | rfl, rfl⟩ := hrel
      · go_wp2_with fail
        exact ⟨⟨rfl, Or.inr rfl, by trivial⟩, by simp [intOf]⟩
      · go_wp2_with fail
        go_ret
        exact ⟨_, rfl, Own.nil (Nat.le_refl _)⟩
  · have d : (x != -1) = true := by simp [hx]
    rw [optL_yes hx]
    clear hx
    have HN : Hid (Own w.heap.size w w (.slice none 0 0) []) := Own.nil (Nat.le_refl _)
    obtain ⟨i0, hi, hz0, hz1, hz2⟩ := info_parts Tryz.info3
    go_enter Tryz.func351, Tryz.ntmps351
    go_wp2_with fail
    go_loopw [3, 8] (fun v i wr => (v = .slice none 0 0 ∧ i = .int .i64 0 ∧ wr = w) ∨ (i = .int .i64 1 ∧ Own w.heap.size w wr v [x])) (fun _ i _ => 1 - (intOf i).toNat)
    case atStart => exact Or.inl ⟨rfl, rfl, rfl⟩
    case round =>
      rcases hrel with ⟨rfl, rfl, rfl⟩ | ⟨rfl, hO⟩
      · go_wp2_with (at_builtin; go_must (refine wpList_append_own _ rfl (.tmp 14) (.tmp 16) 35 rfl wr.heap.size 3 i0 (.int .i64 0) 1 8 Tryz.underlying35 hi hz0 hz1 hz2 rfl (by decide) _ _ _ rfl (HN.out.row.alloc _) ⟨wr.heap.size, 0, none⟩ 1 1 [.int .i64 x] rfl rfl (one_c1 _ _) (one_c2 _) (by simp [maxLen]) (by simp) (by simp) ?_))
        intro v1 w1 hown1 hg1 _
        have HO : Hid (Own wr.heap.size wr w1 v1 ([] ++ [x])) := Own.step (HN.out.alloc _) hown1 rfl rfl hg1
        clear hown1 hg1
        go_wp2_with fail
        exact ⟨Or.inr ⟨rfl, HO.out⟩, by simp [intOf]⟩
      · have HO : Hid (Own w.heap.size w wr u3 [x]) := hO
        clear hO
        go_wp2_with fail
        go_ret
        exact ⟨_, rfl, HO.out⟩
end Go.Proofs.YtjkpbpgeedihhaaGreatDoor
