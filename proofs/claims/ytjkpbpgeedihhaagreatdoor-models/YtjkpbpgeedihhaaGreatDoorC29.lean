import Derived.Test.YtjkpbpgeedihhaaGreatDoorC28
import Derived.Deep.RegionLaw
import Derived.Test.YtjkpbpgeedihhaaGreatDoorC20
import Derived.Test.YtjkpbpgeedihhaaGreatDoorC17
import Derived.Test.YtjkpbpgeedihhaaGreatDoorC26
import Derived.BigQuiet
set_option linter.all false
namespace Go.Proofs.YtjkpbpgeedihhaaGreatDoor
open Go.RowKit
open M FerryM
structure WNd (ns : List Nod) (nn : Nod) : Prop where
  kind : 1 ≤ nn.kind ∧ nn.kind ≤ 7
  parts : WOk ns nn
  tow : 2 ≤ naK nn.kind → 0 ≤ nn.to ∧ nn.to < ns.length
  id : AttOk (⟨#[]⟩, nn.id)
  name : AttOk (⟨#[]⟩, nn.name)
theorem WNd.acc {ns : List Nod} {nn : Nod} (h : WNd ns nn) : ∀ p ∈ accA ns nn (naK nn.kind), AttOk p := by
  have hid : AttOk (⟨#[105, 100]⟩, nn.id) := h.id
  have h1 := naK_le nn.kind
  intro p hp
  rcases (by omega : naK nn.kind = 1 ∨ naK nn.kind = 2 ∨ naK nn.kind = 3) with e | e | e
  · rw [e] at hp
    rw [List.mem_singleton.1 hp]; exact hid
  · have hto := h.parts.id (h.tow (by omega))
    rw [e] at hp
    simp [accA] at hp
    rcases hp with rfl | rfl
    · exact hid
    · exact hto
  · have hto := h.parts.id (h.tow (by omega))
    rw [e] at hp
    simp only [accA, List.mem_append, List.mem_cons, List.not_mem_nil, or_false] at hp
    rcases hp with (rfl | rfl) | hp
    · exact hid
    · exact hto
    · unfold nameA at hp
      split at hp
      · cases hp
      · rw [List.mem_singleton.1 hp]; exact h.name
theorem accA_len (ns : List Nod) (nn : Nod) (k : Nat) : (accA ns nn k).length ≤ 3 := by
  match k with
  | 0 => simp [accA]
  | 1 => simp [accA]
  | 2 => simp [accA]
  | k + 3 =>
    show ([((⟨#[105, 100]⟩, nn.id) : AttP), (⟨#[116, 111]⟩, idOf ns nn.to)] ++ nameA nn).length ≤ 3
    have : (nameA nn).length ≤ 1 := by unfold nameA; split <;> simp
    simp; omega
theorem partsL_len {ns : List Nod} {nn : Nod} (h : WOk ns nn) : (partsL ns nn).length ≤ 13 := by
  have h1 := h.cl
  have h2 := h.bl
  have h3 : (elsL ns nn.els).length ≤ 1 := by unfold elsL; split <;> simp
  unfold partsL
  simp only [List.length_append, List.length_map]
  omega
set_option maxHeartbeats 8000000 in
set_option maxRecDepth 100000 in
theorem node_step (Z : World) (tb : Nat) (sb sc : Nat → Nat) (a : Option Addr) (cap : Nat) (ns : List Nod) (rs : Nat → Raw) (i : Nat) (Ls : List (List UInt8)) (w : World) (hZ : Below Z.heap.size Z w) (hL : Laid Z) (hm : ModIn w a ns rs) (hT : TabIn w tb sb sc) (hi : i < ns.length) (hk : WNd ns (nd ns i)) (hLs : Ls.length ≤ 100)
    (hV : ∀ X, Below w.heap.size w X → Calls Tryz.prog 125 #[chkV tb a ns.length cap, .int .i64 (i : Nat)] X fun e w' => ∃ v, e = .returned v ∧ Els Z X.heap.size X w' v Ls) :
    Calls Tryz.prog 205 #[chkV tb a ns.length cap, .int .i64 (i : Nat)] w (NodeC Z w (nodE ns (nd ns i) Ls)) := by
  obtain ⟨n, hnn⟩ : ∃ n, ns.length = n := ⟨_, rfl⟩
  have HN : Hid (ns.length = n) := hnn
  have HLZ : Hid (Laid Z) := hL
  have hl := hm.len
  obtain ⟨b, o, rfl, hcell⟩ := hm.cells i hi
  have HNi0 := hm.node i hi
  obtain ⟨nn, hndd⟩ : ∃ x, nd ns i = x := ⟨_, rfl⟩
  rw [hndd] at hcell HNi0 hk ⊢
  obtain ⟨rr, hrr⟩ : ∃ x, rs i = x := ⟨_, rfl⟩
  rw [hrr] at hcell HNi0
  have HK : Hid (WNd ns nn) := hk
  obtain ⟨NE, hNE⟩ : ∃ x, nodE ns nn Ls = x := ⟨_, rfl⟩
  have HNE : Hid (eltT (tName (idxK nn.kind)) (accA ns nn (naK nn.kind)) (partsL ns nn ++ Ls) = NE) := hNE
  rw [hNE]
  obtain ⟨W1, hW1⟩ : ∃ W1, (w.alloc (Obj.cells #[.slice (some ⟨tb, 0, none⟩) 12 12, .slice (some ⟨b, o, none⟩) n cap] 234)).alloc (.cells #[.string ⟨#[]⟩, .slice none 0 0, .slice none 0 0] 207) = W1 := ⟨_, rfl⟩
  have HB1 : Hid (Below w.heap.size w W1) := by rw [← hW1]; exact (b1 _ _).alloc (by simp) _
  have hs1 : W1.heap.size = w.heap.size + 2 := by rw [← hW1]; simp
  have HX1 : Hid (ChkBox W1 w.heap.size tb (some ⟨b, o, none⟩) n cap) := by rw [← hW1]; exact (ChkBox.new _ _ _ _ _ _).below (b1 _ _)
  have HR1 : Hid (lstIs W1 (w.heap.size + 1) 207 [.string ⟨#[]⟩, .slice none 0 0, .slice none 0 0]) := by
    rw [← hW1]
    have h := lstIs.new (w.alloc (Obj.cells #[.slice (some ⟨tb, 0, none⟩) 12 12, .slice (some ⟨b, o, none⟩) n cap] 234)) [.string ⟨#[]⟩, .slice none 0 0, .slice none 0 0] 207
    rw [show (w.alloc (Obj.cells #[.slice (some ⟨tb, 0, none⟩) 12 12, .slice (some ⟨b, o, none⟩) n cap] 234)).heap.size = w.heap.size + 1 by simp] at h
    exact h
  obtain ⟨W2, hW2⟩ : ∃ W2, W1.alloc (.cells (nodV nn rr) 87) = W2 := ⟨_, rfl⟩
  have HB2 : Hid (Below W1.heap.size W1 W2) := by rw [← hW2]; exact b1 _ _
  have HX2 : Hid (NodBox W2 W1.heap.size nn rr) := by rw [← hW2]; exact NodBox.new _ _ _
  have Hw2 : Hid (Below w.heap.size w W2) := HB1.out.trans (HB2.out.mono HB1.out.size)
  have hOf := ofKind_all tb sb sc nn.kind W2 (hT.below Hw2.out)
  have HCell : Hid (NodCells W1 b (o + i * 10) nn rr) := hcell.below HB1.out
  have HMo : Hid (∀ X, Below w.heap.size w X → ModIn X (some ⟨b, o, none⟩) ns rs) := fun X hX => hm.below hX
  have HNi : Hid (∀ X, Below w.heap.size w X → NodIn X nn rr) := fun X hX => HNi0.below hX
  have HTb : Hid (∀ X, Below w.heap.size w X → TabIn X tb sb sc) := fun X hX => hT.below hX
  have HBZ : Hid (∀ X, Below w.heap.size w X → Below Z.heap.size Z X) := fun X hX => hZ.trans (hX.mono hZ.size)
  have HVl : Hid (∀ X, Below w.heap.size w X → Calls Tryz.prog 125 #[.agg #[.slice (some ⟨tb, 0, none⟩) 12 12, .slice (some ⟨b, o, none⟩) n cap], .int .i64 (i : Nat)] X fun e w' => ∃ v, e = .returned v ∧ Els Z X.heap.size X w' v Ls) := fun X hX => by
    have h := hV X hX
    unfold chkV tabV at h
    simp only [SlV, Option.map_some] at h
    rw [hnn] at h
    exact h
  have HTo : Hid (∀ X (t : Int), Below w.heap.size w X → 0 ≤ t → t < n → Calls Tryz.prog 207 #[.agg #[.slice (some ⟨tb, 0, none⟩) 12 12, .slice (some ⟨b, o, none⟩) n cap], .int .i64 t] X fun e w' => e = .returned (attV ⟨#[116, 111]⟩ (idOf ns t)) ∧ Below X.heap.size X w') := fun X t hX h0 h1 => by
    obtain ⟨j, rfl⟩ : ∃ j : Nat, t = j := ⟨t.toNat, by omega⟩
    have h := wto_any tb (some ⟨b, o, none⟩) cap ns rs j X (hm.below hX) (by omega)
    unfold chkV tabV at h
    simp only [SlV, Option.map_some] at h
    rw [hnn] at h
    exact h
  have HPt : Hid (∀ X, Below w.heap.size w X → Calls Tryz.prog 289 #[.agg #[.slice (some ⟨tb, 0, none⟩) 12 12, .slice (some ⟨b, o, none⟩) n cap], .agg #[.int .i64 nn.kind, .string nn.id, .string nn.name, .int .i64 nn.up, .int .i64 nn.to, .slice rr.ca nn.cases.length rr.cc, .int .i64 nn.els, .slice rr.ba nn.branches.length rr.bc, .int .i64 nn.after, .int .i64 nn.late]] X fun e w' => ∃ v, e = .returned v ∧ Els Z X.heap.size X w' v (partsL ns nn)) := fun X hX => by
    have h := parts_any Z tb (some ⟨b, o, none⟩) cap ns rs nn rr X (hZ.trans (hX.mono hZ.size)) hL (hm.below hX) (HNi0.below hX) hk.parts
    unfold chkV tabV nodV at h
    simp only [SlV, Option.map_some] at h
    rw [hnn] at h
    exact h
  have hib : (i : Int) < n := by omega
  have HS1 : Hid (W1.heap.size = w.heap.size + 2) := hs1
  unfold chkV tabV
  simp only [SlV, Option.map_some]
  rw [hnn]
  obtain ⟨x0, x1⟩ := HX1.out
  obtain ⟨c0, c1, c2, c3, c4, c5, c6, c7, c8, c9⟩ := HCell.out
  simp only [SlV] at c5 c7
  have x0' := (HX1.out.below HB2.out).c0
  have y0 := HX2.out.c0
  unfold nodV at hW2
  simp only [SlV] at hW2
  clear hZ hL hm hT hk hnn hndd hrr hNE hV hcell HNi0 hs1 hi
  go_enter Tryz.func205, Tryz.ntmps205
  go_wp2_with fail
  refine hOf.mono ?_
  rintro e w3 ⟨hcase, hb3⟩
  have Hw3 : Hid (Below w.heap.size w w3) := Hw2.out.trans (hb3.mono Hw2.out.size)
  have H13 : Hid (Below W2.heap.size W2 w3) := hb3
  clear hOf hb3 hW1 hW2 x0 x1 x0' y0 c0 c1 c2 c3 c4 c5 c6 c7 c8 c9
  rcases hcase with ⟨h1, h7, rfl⟩ | ⟨hno, rfl⟩
  · obtain ⟨ix, hix⟩ : ∃ x, idxK nn.kind = x := ⟨_, rfl⟩
    have HIx : Hid (ix < 12) := by rw [← hix]; exact (idx_kind HK.out.kind).1
    have HAt : Hid ((tAtt ix).length = naK nn.kind ∧ ∀ j, j < naK nn.kind → ∃ f, (atV (tAtt ix))[j * 2]? = some (.string (att3 j)) ∧ (atV (tAtt ix))[j * 2 + 1]? = some (.bool f)) := by rw [← hix]; exact att_at HK.out.kind
    rw [hix] at HNE ⊢
    obtain ⟨na, hna⟩ : ∃ x, naK nn.kind = x := ⟨_, rfl⟩
    have HNa : Hid (naK nn.kind = na ∧ 1 ≤ na ∧ na ≤ 3) := ⟨hna, by rw [← hna]; exact (naK_le _).1, by rw [← hna]; exact (naK_le _).2⟩
    rw [hna] at HAt HNE
    obtain ⟨nm, hnm⟩ : ∃ x, tName ix = x := ⟨_, rfl⟩
    rw [hnm] at HNE
    clear hix hna h1 h7
    unfold rowA
    rw [hnm, HAt.out.1]
    clear hnm
    obtain ⟨W4, hW4⟩ : ∃ W, w3.alloc (.cells #[.string nm, .slice (some ⟨sb ix, 0, none⟩) na (sc ix), .func (Fn.func (tFn ix)) #[] #[], .int .i64 (tKind ix), .int .u64 (tMust ix), .int .u64 (tMay ix), .bool (tPass ix), .func (Fn.func (tMv ix)) #[] #[]] 298) = W := ⟨_, rfl⟩
    have HB4 : Hid (Below w3.heap.size w3 W4) := by rw [← hW4]; exact b1 _ _
    have HX4 : Hid (lstIs W4 w3.heap.size 298 [.string nm, .slice (some ⟨sb ix, 0, none⟩) na (sc ix), .func (Fn.func (tFn ix)) #[] #[], .int .i64 (tKind ix), .int .u64 (tMust ix), .int .u64 (tMay ix), .bool (tPass ix), .func (Fn.func (tMv ix)) #[] #[]]) := by rw [← hW4]; exact lstIs.new _ _ _
    have Hw4 : Hid (Below w.heap.size w W4) := Hw3.out.trans (HB4.out.mono Hw3.out.size)
    have r0 := HX4.out.cell (i := 0) rfl
    have hnw := new_any nm (.slice none 0 0) [] W4 (Or.inl ⟨rfl, rfl⟩) (by simp)
    go_wp2_with fail
    refine hnw.mono ?_
    rintro e w5 ⟨g0, k0, rfl, ho5, hb5⟩
    obtain ⟨W6, hW6⟩ : ∃ W, w5.alloc (.cells #[.string nm, .slice (some ⟨g0, 0, none⟩) 0 k0, .slice none 0 0] 207) = W := ⟨_, rfl⟩
    have HB6 : Hid (Below w5.heap.size w5 W6) := by rw [← hW6]; exact b1 _ _
    have HEB : Hid (W4.heap.size + 1 ≤ w5.heap.size) := by have h1 := ho5.lt g0 rfl; show _ ≤ _; omega
    have HA0 : Hid (Atts (W4.heap.size + 1) W6 w5.heap.size nm (.slice (some ⟨g0, 0, none⟩) 0 k0) []) := ⟨own_below ho5 HB6.out, by rw [← hW6]; exact lstIs.new _ _ _, by have h1 := (ho5.lt g0 rfl); have h2 := HB6.out.size; omega⟩
    have H46 : Hid (Below W4.heap.size W4 W6) := hb5.trans (HB6.out.mono hb5.size)
    -- what stands on from here
    have HOw : Hid (∀ X, Below (W4.heap.size + 1) W6 X → Below W4.heap.size W4 X) := fun X hX => H46.out.trans (hX.mono (by omega))
    have HO1 : Hid (∀ X, Below (W4.heap.size + 1) W6 X → Below w.heap.size w X) := fun X hX => Hw4.out.trans ((HOw.out X hX).mono Hw4.out.size)
    have HO2 : Hid (∀ X, Below (W4.heap.size + 1) W6 X → NodBox X W1.heap.size nn rr ∧ ChkBox X w.heap.size tb (some ⟨b, o, none⟩) n cap ∧ lstIs X w3.heap.size 298 [.string nm, .slice (some ⟨sb ix, 0, none⟩) na (sc ix), .func (Fn.func (tFn ix)) #[] #[], .int .i64 (tKind ix), .int .u64 (tMust ix), .int .u64 (tMay ix), .bool (tPass ix), .func (Fn.func (tMv ix)) #[] #[]] ∧ lstIs X (w.heap.size + 1) 207 [.string ⟨#[]⟩, .slice none 0 0, .slice none 0 0]) := fun X hX => by
      have hw := HOw.out X hX
      have h24 : Below W2.heap.size W2 X := (H13.out.trans (HB4.out.mono H13.out.size)).trans (hw.mono (Nat.le_trans H13.out.size HB4.out.size))
      have h14 : Below W1.heap.size W1 X := HB2.out.trans (h24.mono HB2.out.size)
      exact ⟨HX2.out.below h24, HX1.out.below h14, HX4.out.at (hw.block _ HX4.out.lt), HR1.out.at (h14.block _ HR1.out.lt)⟩
    have HAc : Hid (∀ X, Below (W4.heap.size + 1) W6 X → ∀ j, j < na → ∃ f, X.cell? ⟨sb ix, j * 2, none⟩ = some (.string (att3 j)) ∧ X.cell? ⟨sb ix, j * 2 + 1, none⟩ = some (.bool f)) := fun X hX j hj => by
      obtain ⟨f, e1, e2⟩ := HAt.out.2 j hj
      have hatt := (HTb.out X (HO1.out X hX)).atts ix HIx.out
      unfold AttOwn at hatt
      have k1 := hatt.cells (g := sb ix) rfl _ _ e1
      have k2 := hatt.cells (g := sb ix) rfl _ _ e2
      rw [addr_add0] at k1 k2
      exact ⟨f, k1, k2⟩
    have z1 : w5.cell? ⟨w3.heap.size, 1, none⟩ = some (.slice (some ⟨sb ix, 0, none⟩) na (sc ix)) := (HX4.out.at (hb5.block _ HX4.out.lt)).cell rfl
    have zlt : w3.heap.size < w5.heap.size := lt_of_cell z1
    have HW6 : Hid (w5.alloc (.cells #[.string nm, .slice (some ⟨g0, 0, none⟩) 0 k0, .slice none 0 0] 207) = W6) := hW6
    clear hW6
    have HC46 : Hid (W4.heap.size + 1 ≤ W6.heap.size) := HA0.out.lt
    have HEBl : Hid (w5.heap.size < W6.heap.size) := HA0.out.box.lt
    clear hnw ho5 hb5 r0 hW4
    simp only [List.length_nil]
    go_wp2_with fail
    clear z1 zlt
    go_loopw [30] (fun q wr => ∃ (k g c : Nat), k ≤ na ∧ q = .int .i64 k ∧ Below (W4.heap.size + 1) W6 wr ∧ Atts (W4.heap.size + 1) wr w5.heap.size nm (.slice (some ⟨g, 0, none⟩) (accA ns nn k).length c) (accA ns nn k)) (fun q _ => na - (intOf q).toNat)
    case atStart => rw [HW6.out]; exact ⟨0, g0, k0, by omega, rfl, Below.refl _ _, HA0.out⟩
    case round =>
      obtain ⟨k, g, c, hk, rfl, hbw, hat⟩ := hrel
      have HBw : Hid (Below (W4.heap.size + 1) W6 wr) := hbw
      have HAw : Hid (Atts (W4.heap.size + 1) wr w5.heap.size nm (.slice (some ⟨g, 0, none⟩) (accA ns nn k).length c) (accA ns nn k)) := hat
      clear hbw hat
      have hna3 := HNa.out.2.2
      by_cases hlt : k < na
      · obtain ⟨f, a0, a1⟩ := HAc.out wr HBw.out k hlt
        rcases (by omega : k = 0 ∨ k = 1 ∨ k = 2) with rfl | rfl | rfl
        · have hlen0 : na = na := rfl
          have hkb : ((0 : Nat) : Int) < na := by omega
          obtain ⟨Y, hY⟩ : ∃ W, wr.alloc (.cells #[.string (att3 0), .bool f] 404) = W := ⟨_, rfl⟩
          have HYb : Hid (Below wr.heap.size wr Y) := by rw [← hY]; exact b1 _ _
          have HBY : Hid (Below (W4.heap.size + 1) W6 Y) := HBw.out.trans (HYb.out.mono HAw.out.lt)
          have HAY : Hid (Atts (W4.heap.size + 1) Y w5.heap.size nm (.slice (some ⟨g, 0, none⟩) 0 c) (accA ns nn 0)) := HAw.out.on HYb.out
          have HYl : Hid (lstIs Y wr.heap.size 404 [.string (att3 0), .bool f]) := by rw [← hY]; exact lstIs.new _ _ _
          have v0 := HYl.out.cell (i := 0) rfl
          have e1 := HAY.out.box.cell (i := 1) rfl
          have elt := HAY.out.box.lt
          simp only [att3] at a0 v0 hY
          have HS0 : Hid (∀ X, Below (W4.heap.size + 1) W6 X → X.cell? ⟨W1.heap.size, 1, none⟩ = some (.string nn.id)) := fun X hX => (HO2.out X hX).1.c1
          have HBX : Hid (Below Y.heap.size Y Y.drew ∧ Below (W4.heap.size + 1) W6 Y.drew) := ⟨below_drewN (Below.refl _ _) 1, below_drewN HBY.out 1⟩
          have HNx : Hid (∀ (X : World) (g2 c2 : Nat), Below (W4.heap.size + 1) W6 X → X.ownsRow (W4.heap.size + 1) 236 2 (.slice (some ⟨g2, 0, none⟩) (0 + 1) c2) (0 + 1) (attC (accA ns nn 0 ++ [(⟨#[105, 100]⟩, nn.id)])) → lstIs X w5.heap.size 207 [.string nm, .slice (some ⟨g, 0, none⟩) 0 c, .slice none 0 0] → Below (W4.heap.size + 1) W6 (X.setCell ⟨w5.heap.size, 1, none⟩ (.slice (some ⟨g2, 0, none⟩) (0 + 1) c2)) ∧ Atts (W4.heap.size + 1) (X.setCell ⟨w5.heap.size, 1, none⟩ (.slice (some ⟨g2, 0, none⟩) (0 + 1) c2)) w5.heap.size nm (.slice (some ⟨g2, 0, none⟩) (0 + 1) c2) (accA ns nn 0 ++ [(⟨#[105, 100]⟩, nn.id)])) := fun X g2 c2 h1 h2 h3 => ⟨h1.setCell HEB.out _, Atts.stored (acc := accA ns nn 0 ++ [(⟨#[105, 100]⟩, nn.id)]) h2 h3 (Nat.le_trans HC46.out h1.size)⟩
          go_wp2_with fail
          clear hY a0 a1 v0
          have s0 := HS0.out Y HBY.out
          go_region_law ((first
            | (have hq := HAx.out; clear hq; refine step_append_att (by rfl) (.tmp 39) (.tmp 43) (by rfl) (W4.heap.size + 1) w5.heap.size nm _ (accA ns nn 0) (by rfl) (HAx.out.on (b1 _ _)) (⟨#[105, 100]⟩, nn.id) _ (by rfl) (lstIs.new _ _ _) (by simp [accA]) (by simp) ?_; intro g2 c2 x2 ho2 hl2 hg2 hc2 hf2; have HB2 : Hid (Below (W4.heap.size + 1) W6 x2) := (HBX.out.2.alloc (Nat.le_trans HC46.out HBX.out.2.size) _).grown hg2 (Nat.le_trans HC46.out (HBX.out.2.alloc (Nat.le_trans HC46.out HBX.out.2.size) _).size) (fun q e => (HAx.out.row.lt q e).1); have HF2 : Hid (_ ∧ _) := HNx.out x2 g2 c2 HB2.out ho2 hl2; clear ho2 hl2 hg2)
            | (go_simp; go_at_call 124; refine (attr_any _ _ _).mono ?_; rintro e x ⟨rfl, hb⟩; replace HBX : Hid (Below Y.heap.size Y x ∧ Below (W4.heap.size + 1) W6 x) := ⟨HBX.out.1.trans (hb.mono HBX.out.1.size), HBX.out.2.trans (hb.mono (Nat.le_trans HC46.out HBX.out.2.size))⟩; have HAx : Hid (Atts (W4.heap.size + 1) x w5.heap.size nm (.slice (some ⟨g, 0, none⟩) 0 c) (accA ns nn 0)) := HAY.out.on HBX.out.1; have e1x := HAx.out.box.cell (i := 1) rfl; have eltx := HAx.out.box.lt; clear hb; (try go_wp2_with fail))
            | fail))
          all_goals (
            go_wp2_with fail
            exact ⟨⟨0 + 1, g2, c2, by omega, by go_num, HF2.out.1, HF2.out.2⟩, by simp [intOf]; omega⟩)
        · have hto := HK.out.tow (by rw [HNa.out.1]; omega)
          rw [HN.out] at hto
          have HTq : Hid (∀ X, Below (W4.heap.size + 1) W6 X → Calls Tryz.prog 207 #[.agg #[.slice (some ⟨tb, 0, none⟩) 12 12, .slice (some ⟨b, o, none⟩) n cap], .int .i64 nn.to] X fun e w' => e = .returned (.agg #[.string ⟨#[116, 111]⟩, .string (idOf ns nn.to)]) ∧ Below X.heap.size X w') := fun X hX => HTo.out X nn.to (HO1.out X hX) hto.1 hto.2
          clear hto
          have hkb : ((1 : Nat) : Int) < na := by omega
          obtain ⟨Y, hY⟩ : ∃ W, wr.alloc (.cells #[.string (att3 1), .bool f] 404) = W := ⟨_, rfl⟩
          have HYb : Hid (Below wr.heap.size wr Y) := by rw [← hY]; exact b1 _ _
          have HBY : Hid (Below (W4.heap.size + 1) W6 Y) := HBw.out.trans (HYb.out.mono HAw.out.lt)
          have HAY : Hid (Atts (W4.heap.size + 1) Y w5.heap.size nm (.slice (some ⟨g, 0, none⟩) 1 c) (accA ns nn 1)) := HAw.out.on HYb.out
          have HYl : Hid (lstIs Y wr.heap.size 404 [.string (att3 1), .bool f]) := by rw [← hY]; exact lstIs.new _ _ _
          have v0 := HYl.out.cell (i := 0) rfl
          have e1 := HAY.out.box.cell (i := 1) rfl
          have elt := HAY.out.box.lt
          simp only [att3] at a0 v0 hY
          have HS0 : Hid (∀ X, Below (W4.heap.size + 1) W6 X → X.cell? ⟨W1.heap.size, 4, none⟩ = some (.int .i64 nn.to) ∧ X.cell? ⟨w.heap.size, 0, none⟩ = some (.slice (some ⟨tb, 0, none⟩) 12 12) ∧ X.cell? ⟨w.heap.size, 1, none⟩ = some (.slice (some ⟨b, o, none⟩) n cap)) := fun X hX => ⟨(HO2.out X hX).1.c4, (HO2.out X hX).2.1.c0, (HO2.out X hX).2.1.c1⟩
          have HBX : Hid (Below Y.heap.size Y Y.drew ∧ Below (W4.heap.size + 1) W6 Y.drew) := ⟨below_drewN (Below.refl _ _) 1, below_drewN HBY.out 1⟩
          have HNx : Hid (∀ (X : World) (g2 c2 : Nat), Below (W4.heap.size + 1) W6 X → X.ownsRow (W4.heap.size + 1) 236 2 (.slice (some ⟨g2, 0, none⟩) (1 + 1) c2) (1 + 1) (attC (accA ns nn 1 ++ [(⟨#[116, 111]⟩, idOf ns nn.to)])) → lstIs X w5.heap.size 207 [.string nm, .slice (some ⟨g, 0, none⟩) 1 c, .slice none 0 0] → Below (W4.heap.size + 1) W6 (X.setCell ⟨w5.heap.size, 1, none⟩ (.slice (some ⟨g2, 0, none⟩) (1 + 1) c2)) ∧ Atts (W4.heap.size + 1) (X.setCell ⟨w5.heap.size, 1, none⟩ (.slice (some ⟨g2, 0, none⟩) (1 + 1) c2)) w5.heap.size nm (.slice (some ⟨g2, 0, none⟩) (1 + 1) c2) (accA ns nn 1 ++ [(⟨#[116, 111]⟩, idOf ns nn.to)])) := fun X g2 c2 h1 h2 h3 => ⟨h1.setCell HEB.out _, Atts.stored (acc := accA ns nn 1 ++ [(⟨#[116, 111]⟩, idOf ns nn.to)]) h2 h3 (Nat.le_trans HC46.out h1.size)⟩
          go_wp2_with fail
          clear hY a0 a1 v0
          obtain ⟨s0, s1, s2⟩ := HS0.out Y HBY.out
          go_region_law ((first
            | (have hq := HAx.out; clear hq; refine step_append_att (by rfl) (.tmp 51) (.tmp 56) (by rfl) (W4.heap.size + 1) w5.heap.size nm _ (accA ns nn 1) (by rfl) (HAx.out.on (b1 _ _)) (⟨#[116, 111]⟩, idOf ns nn.to) _ (by rfl) (lstIs.new _ _ _) (by simp [accA]) (by simp) ?_; intro g2 c2 x2 ho2 hl2 hg2 hc2 hf2; have HB2 : Hid (Below (W4.heap.size + 1) W6 x2) := (HBX.out.2.alloc (Nat.le_trans HC46.out HBX.out.2.size) _).grown hg2 (Nat.le_trans HC46.out (HBX.out.2.alloc (Nat.le_trans HC46.out HBX.out.2.size) _).size) (fun q e => (HAx.out.row.lt q e).1); have HF2 : Hid (_ ∧ _) := HNx.out x2 g2 c2 HB2.out ho2 hl2; clear ho2 hl2 hg2)
            | (go_simp; go_at_call 207; refine (HTq.out _ HBX.out.2).mono ?_; rintro e x ⟨rfl, hb⟩; replace HBX : Hid (Below Y.heap.size Y x ∧ Below (W4.heap.size + 1) W6 x) := ⟨HBX.out.1.trans (hb.mono HBX.out.1.size), HBX.out.2.trans (hb.mono (Nat.le_trans HC46.out HBX.out.2.size))⟩; have HAx : Hid (Atts (W4.heap.size + 1) x w5.heap.size nm (.slice (some ⟨g, 0, none⟩) 1 c) (accA ns nn 1)) := HAY.out.on HBX.out.1; have e1x := HAx.out.box.cell (i := 1) rfl; have eltx := HAx.out.box.lt; clear hb; (try go_wp2_with fail))
            | fail))
          all_goals (
            go_wp2_with fail
            exact ⟨⟨1 + 1, g2, c2, by omega, by go_num, HF2.out.1, HF2.out.2⟩, by simp [intOf]; omega⟩)
        · by_cases hnm : nn.name.toList = []
          · have hz2 : accA ns nn 3 = accA ns nn 2 := by show [_, _] ++ nameA nn = _; unfold nameA; rw [if_pos hnm]; rfl
            have HZ2 : Hid (accA ns nn 3 = accA ns nn 2) := hz2
            clear hz2
            have hkb : ((2 : Nat) : Int) < na := by omega
            obtain ⟨Y, hY⟩ : ∃ W, wr.alloc (.cells #[.string (att3 2), .bool f] 404) = W := ⟨_, rfl⟩
            have HYb : Hid (Below wr.heap.size wr Y) := by rw [← hY]; exact b1 _ _
            have HBY : Hid (Below (W4.heap.size + 1) W6 Y) := HBw.out.trans (HYb.out.mono HAw.out.lt)
            have HAY : Hid (Atts (W4.heap.size + 1) Y w5.heap.size nm (.slice (some ⟨g, 0, none⟩) 2 c) (accA ns nn 2)) := HAw.out.on HYb.out
            have HYl : Hid (lstIs Y wr.heap.size 404 [.string (att3 2), .bool f]) := by rw [← hY]; exact lstIs.new _ _ _
            have v0 := HYl.out.cell (i := 0) rfl
            have e1 := HAY.out.box.cell (i := 1) rfl
            have elt := HAY.out.box.lt
            simp only [att3] at a0 v0 hY
            have y2 := (HO2.out Y HBY.out).1.c2
            go_wp2_with fail
            exact ⟨⟨2 + 1, g, c, by omega, by go_num, HBY.out, by show Atts _ _ _ _ (.slice _ (accA ns nn 3).length _) (accA ns nn 3); rw [HZ2.out]; exact HAY.out⟩, by simp [intOf]; omega⟩
          · have dn : nn.name.toList.isEmpty = false := by simpa using hnm
            have hz3 : accA ns nn 3 = accA ns nn 2 ++ [(⟨#[110, 97, 109, 101]⟩, nn.name)] := by show [_, _] ++ nameA nn = _; unfold nameA; rw [if_neg hnm]; rfl
            have HZ3 : Hid (accA ns nn 3 = accA ns nn 2 ++ [(⟨#[110, 97, 109, 101]⟩, nn.name)]) := hz3
            clear hz3
            have hkb : ((2 : Nat) : Int) < na := by omega
            obtain ⟨Y, hY⟩ : ∃ W, wr.alloc (.cells #[.string (att3 2), .bool f] 404) = W := ⟨_, rfl⟩
            have HYb : Hid (Below wr.heap.size wr Y) := by rw [← hY]; exact b1 _ _
            have HBY : Hid (Below (W4.heap.size + 1) W6 Y) := HBw.out.trans (HYb.out.mono HAw.out.lt)
            have HAY : Hid (Atts (W4.heap.size + 1) Y w5.heap.size nm (.slice (some ⟨g, 0, none⟩) 2 c) (accA ns nn 2)) := HAw.out.on HYb.out
            have HYl : Hid (lstIs Y wr.heap.size 404 [.string (att3 2), .bool f]) := by rw [← hY]; exact lstIs.new _ _ _
            have v0 := HYl.out.cell (i := 0) rfl
            have e1 := HAY.out.box.cell (i := 1) rfl
            have elt := HAY.out.box.lt
            simp only [att3] at a0 v0 hY
            have y2 := (HO2.out Y HBY.out).1.c2
            have HS0 : Hid (∀ X, Below (W4.heap.size + 1) W6 X → X.cell? ⟨W1.heap.size, 2, none⟩ = some (.string nn.name)) := fun X hX => (HO2.out X hX).1.c2
            have HBX : Hid (Below Y.heap.size Y Y.drew ∧ Below (W4.heap.size + 1) W6 Y.drew) := ⟨below_drewN (Below.refl _ _) 1, below_drewN HBY.out 1⟩
            have HNx : Hid (∀ (X : World) (g2 c2 : Nat), Below (W4.heap.size + 1) W6 X → X.ownsRow (W4.heap.size + 1) 236 2 (.slice (some ⟨g2, 0, none⟩) (2 + 1) c2) (2 + 1) (attC (accA ns nn 2 ++ [(⟨#[110, 97, 109, 101]⟩, nn.name)])) → lstIs X w5.heap.size 207 [.string nm, .slice (some ⟨g, 0, none⟩) 2 c, .slice none 0 0] → Below (W4.heap.size + 1) W6 (X.setCell ⟨w5.heap.size, 1, none⟩ (.slice (some ⟨g2, 0, none⟩) (2 + 1) c2)) ∧ Atts (W4.heap.size + 1) (X.setCell ⟨w5.heap.size, 1, none⟩ (.slice (some ⟨g2, 0, none⟩) (2 + 1) c2)) w5.heap.size nm (.slice (some ⟨g2, 0, none⟩) (2 + 1) c2) (accA ns nn 2 ++ [(⟨#[110, 97, 109, 101]⟩, nn.name)])) := fun X g2 c2 h1 h2 h3 => ⟨h1.setCell HEB.out _, Atts.stored (acc := accA ns nn 2 ++ [(⟨#[110, 97, 109, 101]⟩, nn.name)]) h2 h3 (Nat.le_trans HC46.out h1.size)⟩
            go_wp2_with fail
            clear hY a0 a1 v0 y2
            have s0 := HS0.out Y HBY.out
            go_region_law ((first
              | (have hq := HAx.out; clear hq; refine step_append_att (by rfl) (.tmp 64) (.tmp 68) (by rfl) (W4.heap.size + 1) w5.heap.size nm _ (accA ns nn 2) (by rfl) (HAx.out.on (b1 _ _)) (⟨#[110, 97, 109, 101]⟩, nn.name) _ (by rfl) (lstIs.new _ _ _) (by simp [accA]) (by simp) ?_; intro g2 c2 x2 ho2 hl2 hg2 hc2 hf2; have HB2 : Hid (Below (W4.heap.size + 1) W6 x2) := (HBX.out.2.alloc (Nat.le_trans HC46.out HBX.out.2.size) _).grown hg2 (Nat.le_trans HC46.out (HBX.out.2.alloc (Nat.le_trans HC46.out HBX.out.2.size) _).size) (fun q e => (HAx.out.row.lt q e).1); have HF2 : Hid (_ ∧ _) := HNx.out x2 g2 c2 HB2.out ho2 hl2; clear ho2 hl2 hg2)
              | (go_simp; go_at_call 124; refine (attr_any _ _ _).mono ?_; rintro e x ⟨rfl, hb⟩; replace HBX : Hid (Below Y.heap.size Y x ∧ Below (W4.heap.size + 1) W6 x) := ⟨HBX.out.1.trans (hb.mono HBX.out.1.size), HBX.out.2.trans (hb.mono (Nat.le_trans HC46.out HBX.out.2.size))⟩; have HAx : Hid (Atts (W4.heap.size + 1) x w5.heap.size nm (.slice (some ⟨g, 0, none⟩) 2 c) (accA ns nn 2)) := HAY.out.on HBX.out.1; have e1x := HAx.out.box.cell (i := 1) rfl; have eltx := HAx.out.box.lt; clear hb; (try go_wp2_with fail))
              | fail))
            all_goals (
              go_wp2_with fail
              exact ⟨⟨2 + 1, g2, c2, by omega, by go_num, HF2.out.1, by show Atts _ _ _ _ (.slice _ (accA ns nn 3).length _) (accA ns nn 3); rw [HZ3.out]; exact HF2.out.2⟩, by simp [intOf]; omega⟩)
      · obtain rfl : k = na := by omega
        have hlacc := accA_len ns nn k
        obtain ⟨acc, hacc⟩ : ∃ x, accA ns nn k = x := ⟨_, rfl⟩
        rw [hacc] at HAw hlacc
        have HAok : Hid (∀ p ∈ acc, AttOk p) := by rw [← hacc, ← HNa.out.1]; exact HK.out.acc
        rw [hacc] at HNE
        obtain ⟨m, hm⟩ : ∃ x, acc.length = x := ⟨_, rfl⟩
        rw [hm] at HAw hlacc
        have HM : Hid (acc.length = m) := hm
        clear hacc hm
        have HLp : Hid ((partsL ns nn).length + Ls.length ≤ 1000) := by
          show _ ≤ _
          have := partsL_len HK.out.parts
          omega
        obtain ⟨PL, hPL⟩ : ∃ x, partsL ns nn = x := ⟨_, rfl⟩
        rw [hPL] at HPt HLp HNE
        clear hPL
        have HCw : Hid (W4.heap.size + 1 ≤ wr.heap.size) := HAw.out.lt
        have HBo : Hid (∀ X, Below wr.heap.size wr X → Below (W4.heap.size + 1) W6 X) := fun X hX => HBw.out.trans (hX.mono HAw.out.lt)
        have HRBl : Hid (w.heap.size + 1 < W4.heap.size + 1) := by
          have h1 := Hw4.out.size
          have h2 := HB2.out.size
          have h3 := H13.out.size
          have h4 := HB4.out.size
          have h5 := HS1.out
          show _ < _
          omega
        have HEBw : Hid (w5.heap.size < wr.heap.size) := HAw.out.box.lt
        have HPq : Hid (∀ X, Below wr.heap.size wr X → Calls Tryz.prog 289 #[.agg #[.slice (some ⟨tb, 0, none⟩) 12 12, .slice (some ⟨b, o, none⟩) n cap], .agg #[.int .i64 nn.kind, .string nn.id, .string nn.name, .int .i64 nn.up, .int .i64 nn.to, .slice rr.ca nn.cases.length rr.cc, .int .i64 nn.els, .slice rr.ba nn.branches.length rr.bc, .int .i64 nn.after, .int .i64 nn.late]] X fun e w' => ∃ v, e = .returned v ∧ Els Z wr.heap.size wr w' v PL) := fun X hX => (HPt.out X (HO1.out X (HBo.out X hX))).mono fun e w' ⟨v, he, hE⟩ => ⟨v, he, hE.here hX.size hX⟩
        have HVq : Hid (∀ X, Below wr.heap.size wr X → Calls Tryz.prog 125 #[.agg #[.slice (some ⟨tb, 0, none⟩) 12 12, .slice (some ⟨b, o, none⟩) n cap], .int .i64 (i : Nat)] X fun e w' => ∃ v, e = .returned v ∧ Els Z X.heap.size X w' v Ls) := fun X hX => HVl.out X (HO1.out X (HBo.out X hX))
        have HS0 : Hid (∀ X, Below (W4.heap.size + 1) W6 X → X.cell? ⟨w.heap.size, 0, none⟩ = some (.slice (some ⟨tb, 0, none⟩) 12 12) ∧ X.cell? ⟨w.heap.size, 1, none⟩ = some (.slice (some ⟨b, o, none⟩) n cap) ∧ X.cell? ⟨W1.heap.size, 0, none⟩ = some (.int .i64 nn.kind) ∧ X.cell? ⟨W1.heap.size, 1, none⟩ = some (.string nn.id) ∧ X.cell? ⟨W1.heap.size, 2, none⟩ = some (.string nn.name) ∧ X.cell? ⟨W1.heap.size, 3, none⟩ = some (.int .i64 nn.up) ∧ X.cell? ⟨W1.heap.size, 4, none⟩ = some (.int .i64 nn.to) ∧ X.cell? ⟨W1.heap.size, 5, none⟩ = some (.slice rr.ca nn.cases.length rr.cc) ∧ X.cell? ⟨W1.heap.size, 6, none⟩ = some (.int .i64 nn.els) ∧ X.cell? ⟨W1.heap.size, 7, none⟩ = some (.slice rr.ba nn.branches.length rr.bc) ∧ X.cell? ⟨W1.heap.size, 8, none⟩ = some (.int .i64 nn.after) ∧ X.cell? ⟨W1.heap.size, 9, none⟩ = some (.int .i64 nn.late)) := fun X hX => by
          obtain ⟨hb, hc, _, _⟩ := HO2.out X hX
          exact ⟨hc.c0, hc.c1, hb.c0, hb.c1, hb.c2, hb.c3, hb.c4, hb.c5, hb.c6, hb.c7, hb.c8, hb.c9⟩
        have HBX : Hid (Below wr.heap.size wr wr.drew) := below_drewN (Below.refl _ _) 1
        have HLn : Hid (PL.length + Ls.length = (PL ++ Ls).length) := by rw [List.length_append]; exact rfl
        obtain ⟨TL, hTL⟩ : ∃ x, PL ++ Ls = x := ⟨_, rfl⟩
        have HTL : Hid (PL ++ Ls = TL ∧ TL.length ≤ 1000) := ⟨hTL, by rw [← hTL, List.length_append]; exact HLp.out⟩
        rw [hTL] at HNE
        clear hTL
        obtain ⟨t, ht⟩ : ∃ x, TL.length = x := ⟨_, rfl⟩
        have Ht : Hid (TL.length = t) := ht
        clear ht
        go_wp2_with fail
        go_region_held3 (fun X => X.cell? ⟨w.heap.size, 0, none⟩ = some (.slice (some ⟨tb, 0, none⟩) 12 12) ∧ X.cell? ⟨w.heap.size, 1, none⟩ = some (.slice (some ⟨b, o, none⟩) n cap) ∧ X.cell? ⟨W1.heap.size, 0, none⟩ = some (.int .i64 nn.kind) ∧ X.cell? ⟨W1.heap.size, 1, none⟩ = some (.string nn.id) ∧ X.cell? ⟨W1.heap.size, 2, none⟩ = some (.string nn.name) ∧ X.cell? ⟨W1.heap.size, 3, none⟩ = some (.int .i64 nn.up) ∧ X.cell? ⟨W1.heap.size, 4, none⟩ = some (.int .i64 nn.to) ∧ X.cell? ⟨W1.heap.size, 5, none⟩ = some (.slice rr.ca nn.cases.length rr.cc) ∧ X.cell? ⟨W1.heap.size, 6, none⟩ = some (.int .i64 nn.els) ∧ X.cell? ⟨W1.heap.size, 7, none⟩ = some (.slice rr.ba nn.branches.length rr.bc) ∧ X.cell? ⟨W1.heap.size, 8, none⟩ = some (.int .i64 nn.after) ∧ X.cell? ⟨W1.heap.size, 9, none⟩ = some (.int .i64 nn.late))
          ((first | exact HS0.out _ (HBo.out _ HBX.out) | exact HS0.out _ ((HBo.out _ HB9.out).setCell HEB.out _) | exact HS0.out _ (HBo.out _ HB9.out) | fail))
          ((first
            | (go_at_call 289; refine (HPq.out _ HBX.out).mono ?_; rintro e x7 ⟨v7, rfl, hE7⟩; have HE7 : Hid (Els Z wr.heap.size wr x7 v7 PL) := hE7; replace HBX : Hid (Below wr.heap.size wr x7) := hE7.bel; clear hE7)
            | (go_at_call 125; refine (HVq.out _ HBX.out).mono ?_; rintro e x8 ⟨v8, rfl, hE8⟩; have HE8 : Hid (Els Z x7.heap.size x7 x8 v8 Ls) := hE8; replace HBX : Hid (Below wr.heap.size wr x8) := HBX.out.trans (hE8.bel.mono HBX.out.size); clear hE8)
            | (have hq := HE8.out; clear hq; refine step_append_els (by rfl) (.tmp 74) (.tmp 77) (by rfl) wr.heap.size wr _ _ (by rfl) (HE7.out.on HE8.out.bel) _ Ls (by rfl) (HE8.out.tail HE7.out.sz HE7.out.own_lt) HLp.out ?_; intro v9 x9 hE9 hg9; obtain ⟨A9, c9', h9⟩ := hE9.shape; rw [HTL.out.1] at hE9 h9; rw [Ht.out] at h9; subst h9; have HE9 : Hid (Els Z wr.heap.size wr x9 (.slice A9 t c9') TL) := hE9; have HB9 : Hid (Below wr.heap.size wr x9) := hE9.bel; have HEx : Hid (lstIs x9 w5.heap.size 207 [.string nm, .slice (some ⟨g, 0, none⟩) m c, .slice none 0 0]) := HAw.out.box.at (hE9.bel.block _ HEBw.out); have e2 := HEx.out.cell (i := 2) rfl; have f2 := HEx.out.free 2; clear hE9 hg9)
            | fail))
        all_goals (
          have HX10 := HEx.out.set 2 (.slice A9 t c9')
          obtain ⟨x10, h10⟩ : ∃ X, x9.setCell ⟨w5.heap.size, 2, none⟩ (.slice A9 t c9') = X := ⟨_, rfl⟩
          rw [h10] at HX10
          have HB10 : Hid (Below (W4.heap.size + 1) W6 x10) := by rw [← h10]; exact (HBo.out _ HB9.out).setCell HEB.out _
          have HRz := (HO2.out x10 HB10.out).2.2.2
          have HRw9 : x9.ownsRow (W4.heap.size + 1) 236 2 (.slice (some ⟨g, 0, none⟩) m c) acc.length (attC acc) := own_below HAw.out.row HB9.out
          have HRw : Hid (x10.ownsRow (W4.heap.size + 1) 236 2 (.slice (some ⟨g, 0, none⟩) m c) acc.length (attC acc)) := by rw [← h10]; exact ownsRow_setCell_other HRw9 (fun e => own_ne HRw9 HEx.out (by decide) e.symm) _
          have HEs : Hid (∃ es, x10.ownsRow wr.heap.size 207 3 (.slice A9 t c9') TL.length (eL es) ∧ EAll Z x10 wr.heap.size (Value.slice A9 t c9').ownBlock es TL) := by rw [← h10]; exact els_set HE9.out.ex HEBw.out 2 _
          have q0 := HX10.cell (i := 0) rfl
          have q1 := HX10.cell (i := 1) rfl
          have q2 := HX10.cell (i := 2) rfl
          have s0 := HRz.cell (i := 0) rfl
          have s1 := HRz.cell (i := 1) rfl
          have s2 := HRz.cell (i := 2) rfl
          have t0 := HRz.free 0
          have t1 := HRz.free 1
          have t2 := HRz.free 2
          have hne : w.heap.size + 1 ≠ w5.heap.size := by have h1 := HRBl.out; have h2 := HEB.out; omega
          have HFin : Hid (∀ (a0 a1 a2 : Value), (((x10.setCell ⟨w.heap.size + 1, 0, none⟩ a0).setCell ⟨w.heap.size + 1, 1, none⟩ a1).setCell ⟨w.heap.size + 1, 2, none⟩ a2).ownsRow (W4.heap.size + 1) 236 2 (.slice (some ⟨g, 0, none⟩) m c) acc.length (attC acc) ∧ (∃ es, (((x10.setCell ⟨w.heap.size + 1, 0, none⟩ a0).setCell ⟨w.heap.size + 1, 1, none⟩ a1).setCell ⟨w.heap.size + 1, 2, none⟩ a2).ownsRow wr.heap.size 207 3 (.slice A9 t c9') TL.length (eL es) ∧ EAll Z (((x10.setCell ⟨w.heap.size + 1, 0, none⟩ a0).setCell ⟨w.heap.size + 1, 1, none⟩ a1).setCell ⟨w.heap.size + 1, 2, none⟩ a2) wr.heap.size (Value.slice A9 t c9').ownBlock es TL) ∧ Below w.heap.size w (((x10.setCell ⟨w.heap.size + 1, 0, none⟩ a0).setCell ⟨w.heap.size + 1, 1, none⟩ a1).setCell ⟨w.heap.size + 1, 2, none⟩ a2)) := fun a0 a1 a2 => by
            have hq : w.heap.size + 1 < wr.heap.size := by have h1 := HRBl.out; have h2 := HCw.out; omega
            have hg : ∀ q, (Value.slice (some (⟨g, 0, none⟩ : Addr)) m c).ownBlock = some q → q ≠ w.heap.size + 1 := fun q e => by have h1 := (HRw.out.lt q e).1; have h2 := HRBl.out; omega
            exact ⟨ownsRow_setCell_other (ownsRow_setCell_other (ownsRow_setCell_other HRw.out (fun e => hg _ e rfl) _) (fun e => hg _ e rfl) _) (fun e => hg _ e rfl) _, els_set (els_set (els_set HEs.out hq 0 a0) hq 1 a1) hq 2 a2, (((HO1.out x10 HB10.out).setCell (by simp) _).setCell (by simp) _).setCell (by simp) _⟩
          clear HX10 HRz HRw9
          go_wp2_with fail
          refine bodyPost_ret (v := .agg #[.string nm, .slice (some ⟨g, 0, none⟩) m c, .slice A9 t c9']) ?_ rfl ?_
          · rw [results_cell1 rfl]
            go_simp
          · obtain ⟨hf1, hf2, hf3⟩ := HFin.out (.string nm) (.slice (some ⟨g, 0, none⟩) m c) (.slice A9 t c9')
            have hwx := node_writes (nm := nm) (B := w.heap.size) (c2 := c9') (A2 := A9) (acc := acc) (Ts := TL) (g := g) (c := c) HLZ.out (by rw [HM.out]; rw [HM.out] at hf1; exact hf1) (by have h1 := HRBl.out; omega) HAok.out (by rw [HM.out]; omega) (by rw [Ht.out]) (by have h1 := HRBl.out; have h2 := HCw.out; omega) hf2 HTL.out.2
            rw [HNE.out, HM.out, Ht.out] at hwx
            exact ⟨⟨nm, some ⟨g, 0, none⟩, m, c, A9, t, c9'⟩, _, rfl, hwx, fun k hk => hk.1, hf3⟩)
  · exact absurd HK.out.kind hno
end Go.Proofs.YtjkpbpgeedihhaaGreatDoor
namespace Go.Proofs.YtjkpbpgeedihhaaGreatDoor
open Go.RowKit
open M FerryM
def levL (ns : List Nod) : Nat → Int → List (List UInt8)
  | 0, _ => []
  | d + 1, up => lvl ns (fun i => nodE ns (nd ns i) (levL ns d i)) up ns.length
abbrev bl (s : ByteArray) : List UInt8 := s.data.toList
theorem bl_app (a b : ByteArray) : bl (a ++ b) = bl a ++ bl b := by simp [bl]
theorem bl_q (nm s : ByteArray) : bl (qT nm s) = attT (nm, s) := rfl
theorem eltT_ne (nm : ByteArray) (l : List AttP) (Ts : List (List UInt8)) : eltT nm l Ts ≠ [] := by unfold eltT; simp
theorem flat_nil {Ts : List (List UInt8)} (h : ∀ T ∈ Ts, T ≠ []) : Ts.flatten = [] ↔ Ts.length = 0 := by
  cases Ts with
  | nil => simp
  | cons T r =>
    have := h T (by simp)
    simp [this]
theorem lvl_ne {ns : List Nod} {NT : Nat → List UInt8} {up : Int} (h : ∀ i, NT i ≠ []) : ∀ k, ∀ T ∈ lvl ns NT up k, T ≠ []
  | 0, T, hT => by cases hT
  | k + 1, T, hT => by
    unfold lvl at hT
    rw [List.mem_append] at hT
    rcases hT with hT | hT
    · exact lvl_ne h k T hT
    · split at hT
      · rcases List.mem_cons.1 hT with rfl | hT
        · exact h k
        · unfold timL at hT
          split at hT
          · rw [List.mem_singleton.1 hT]; exact eltT_ne _ _ _
          · cases hT
      · cases hT
theorem levL_ne (ns : List Nod) (d : Nat) (up : Int) : ∀ T ∈ levL ns d up, T ≠ [] := by
  cases d with
  | zero => intro T hT; cases hT
  | succ d => exact lvl_ne (fun i => eltT_ne _ _ _) _
theorem partsL_ne (ns : List Nod) (nn : Nod) : ∀ T ∈ partsL ns nn, T ≠ [] := by
  intro T hT
  unfold partsL at hT
  rw [List.mem_append, List.mem_append, List.mem_map, List.mem_map] at hT
  rcases hT with (⟨c, _, rfl⟩ | hT) | ⟨t, _, rfl⟩
  · exact eltT_ne _ _ _
  · unfold elsL at hT
    split at hT
    · cases hT
    · rw [List.mem_singleton.1 hT]; exact eltT_ne _ _ _
  · exact eltT_ne _ _ _
theorem lvl_none {ns : List Nod} {NT : Nat → List UInt8} {up : Int} : ∀ k, (∀ i, i < k → upF ns i ≠ up) → lvl ns NT up k = []
  | 0, _ => rfl
  | k + 1, h => by
    show lvl ns NT up k ++ _ = _
    rw [if_neg (h k (by omega)), List.append_nil]; exact lvl_none k (fun i hi => h i (by omega))
theorem var_enc {v : Int} (h : 97 ≤ v ∧ v ≤ 104) : Utf8.encode v = chS v := by
  obtain ⟨k, rfl⟩ : ∃ k : Nat, v = k := ⟨v.toNat, by omega⟩
  exact ba_ext (by rw [enc_one k (by omega)]; rfl)
theorem op_same {k : Int} (h : 1 ≤ k ∧ k ≤ 3) : opNameF k = opS k := by
  rcases (by omega : k = 1 ∨ k = 2 ∨ k = 3) with rfl | rfl | rfl <;> rfl
theorem when_text {ns : List Nod} {c : Cas} (h : casOk c = true) : whenE ns c = bl (caseT ns c) := by
  have h1 : (97 ≤ c.var ∧ c.var ≤ 104) ∧ 1 ≤ c.op ∧ c.op ≤ 3 := by simp [casOk] at h; omega
  unfold whenE caseT eltT whenA
  rw [var_enc h1.1, op_same h1.2]
  simp only [bl_app, bl_q, leadsT, idOf, attsT, List.flatMap_cons, List.flatMap_nil, List.length_nil, if_true, List.append_nil, List.append_assoc]
  rfl
theorem else_text (ns : List Nod) (t : Int) : elseE ns t = bl ((⟨#[60, 101, 108, 115, 101]⟩ ++ leadsT ns t.toNat) ++ ⟨#[47, 62]⟩) := by
  unfold elseE eltT
  simp only [bl_app, bl_q, leadsT, idOf, attsT, List.flatMap_cons, List.flatMap_nil, List.length_nil, if_true, List.append_nil, List.append_assoc]
  rfl
theorem br_text (ns : List Nod) (t : Int) : brE ns t = bl ((⟨#[60, 98, 114, 97, 110, 99, 104]⟩ ++ leadsT ns t.toNat) ++ ⟨#[47, 62]⟩) := by
  unfold brE eltT
  simp only [bl_app, bl_q, leadsT, idOf, attsT, List.flatMap_cons, List.flatMap_nil, List.length_nil, if_true, List.append_nil, List.append_assoc]
  rfl
theorem tim_text {ns : List Nod} {nn : Nod} (h : 0 ≤ nn.after) : (timL ns nn).flatten = bl (timerT ns nn) := by
  unfold timL timerT
  by_cases h0 : nn.after = 0
  · rw [if_neg (by omega), if_pos h0]; rfl
  · rw [if_pos (by omega), if_neg h0]
    unfold timE eltT timA
    simp only [bl_app, bl_q, leadsT, idOf, attsT, List.flatten_cons, List.flatten_nil, List.flatMap_cons, List.flatMap_nil, List.length_nil, if_true, List.append_nil, List.append_assoc]
    rfl
theorem cases_text {ns : List Nod} {l : List Cas} (h : ∀ c ∈ l, casOk c = true) : ∀ k, k ≤ l.length → ((l.take k).map (whenE ns)).flatten = bl (casesT ns l k)
  | 0, _ => by simp [casesT, bl]
  | k + 1, hk => by
    have ih := cases_text (ns := ns) h k (by omega)
    have hm : l.getD k Cas.zero ∈ l := by rw [List.getD_eq_getElem?_getD, List.getElem?_eq_getElem (by omega)]; exact List.getElem_mem _
    rw [take_getD_succ Cas.zero l k (by omega), List.map_append, List.flatten_append, ih]
    show _ = bl (casesT ns l k ++ caseT ns (l.getD k Cas.zero))
    rw [bl_app, ← when_text (h _ hm)]
    simp
theorem brs_text {ns : List Nod} {l : List Int} {c : ByteArray} : ∀ k, k ≤ l.length → bl c ++ ((l.take k).map (brE ns)).flatten = bl (brT ns l c k)
  | 0, _ => by simp [brT]
  | k + 1, hk => by
    have ih := brs_text (ns := ns) (l := l) (c := c) k (by omega)
    rw [take_getD_succ 0 l k (by omega), List.map_append, List.flatten_append, ← List.append_assoc, ih]
    show _ = bl (((brT ns l c k ++ _) ++ leadsT ns _) ++ _)
    simp only [List.map_cons, List.map_nil, List.flatten_cons, List.flatten_nil, List.append_nil]
    rw [br_text]
    simp only [bl_app, List.append_assoc]
theorem parts_text {ns : List Nod} {nn : Nod} (h : ∀ c ∈ nn.cases, casOk c = true) : (partsL ns nn).flatten = bl (innerT ns nn) := by
  unfold partsL innerT
  rw [List.flatten_append, List.flatten_append]
  have h1 := cases_text (ns := ns) h nn.cases.length (Nat.le_refl _)
  rw [List.take_length] at h1
  have h2 : (nn.cases.map (whenE ns)).flatten ++ (elsL ns nn.els).flatten = bl (elseT ns nn (casesT ns nn.cases nn.cases.length)) := by
    rw [h1]
    unfold elsL elseT
    split
    · simp
    · simp only [List.flatten_cons, List.flatten_nil, List.append_nil]
      rw [else_text]
      simp only [bl_app, List.append_assoc]
  rw [h2]
  have h3 := brs_text (ns := ns) (l := nn.branches) (c := elseT ns nn (casesT ns nn.cases nn.cases.length)) nn.branches.length (Nat.le_refl _)
  rw [List.take_length] at h3
  exact h3
theorem name_of {k : Int} (h : 1 ≤ k ∧ k ≤ 7) : tName (idxK k) = nmS k := by
  rcases (by omega : k = 1 ∨ k = 2 ∨ k = 3 ∨ k = 4 ∨ k = 5 ∨ k = 6 ∨ k = 7) with rfl | rfl | rfl | rfl | rfl | rfl | rfl <;> rfl
theorem head_text {ns : List Nod} {nn : Nod} (h : NodeOk ns nn) : [60] ++ bl (tName (idxK nn.kind)) ++ attsT (accA ns nn (naK nn.kind)) = bl (headT ns nn) := by
  have hk := h.kind
  rw [name_of hk]
  unfold headT
  simp only
  by_cases h2 : nn.kind = 2
  · have ht := h.to (by rw [h2]; rfl)
    have e : naK nn.kind = 3 := by unfold naK; rw [if_pos h2]
    rw [e, if_neg ht]
    show _ ++ attsT ([_, _] ++ nameA nn) = _
    unfold nameA
    by_cases hn : nn.name.toList = []
    · rw [if_pos hn, if_pos hn]
      simp only [bl_app, bl_q, leadsT, idOf, attsT, List.flatMap_append, List.flatMap_cons, List.flatMap_nil, List.append_nil, List.append_assoc]
    · rw [if_neg hn, if_neg hn]
      simp only [bl_app, bl_q, leadsT, idOf, attsT, List.flatMap_append, List.flatMap_cons, List.flatMap_nil, List.append_nil, List.append_assoc]
  · have hn := h.noname h2
    rw [if_pos hn]
    by_cases h1 : nn.kind = 1 ∨ nn.kind = 5 ∨ nn.kind = 6
    · have ht := h.to (by rcases h1 with e | e | e <;> rw [e] <;> rfl)
      have e : naK nn.kind = 2 := by unfold naK; rw [if_neg h2, if_pos h1]
      rw [e, if_neg ht]
      simp only [bl_app, bl_q, leadsT, idOf, attsT, accA, List.flatMap_cons, List.flatMap_nil, List.append_nil, List.append_assoc]
    · have ht := h.noto (by unfold toB; simp; omega)
      have e : naK nn.kind = 1 := by unfold naK; rw [if_neg h2, if_neg h1]
      rw [e, if_pos ht]
      simp only [bl_app, bl_q, attsT, accA, List.flatMap_cons, List.flatMap_nil, List.append_nil, List.append_assoc]
theorem no_kid {ns : List Nod} (ha : AskedTo ns ns.length) {i : Nat} (h6 : (nd ns i).kind ≠ 6) : ∀ k, k < ns.length → upF ns k ≠ (i : Int) := fun k hk e => by
  have h1 := (ha k hk).1.2.2 (by rw [e]; omega)
  rw [e] at h1
  unfold subF kdF at h1
  simp at h1
  exact h6 h1
theorem node_text {ns : List Nod} (hg : Goods ns) (ha : AskedTo ns ns.length) (d : Nat) {i : Nat} (hi : i < ns.length) (ih : ∀ up, (levL ns d up).flatten = bl (withinT ns d up)) :
    nodE ns (nd ns i) (levL ns d i) ++ (timL ns (nd ns i)).flatten = bl (nodeT ns (fun i => withinT ns d i) i) := by
  have hok : NodeOk ns (nd ns i) := nodeOk_of (hg.nodes i hi).1
  have hin : (partsL ns (nd ns i) ++ levL ns d i).flatten = bl (if (nd ns i).kind = 6 then withinT ns d i else innerT ns (nd ns i)) := by
    rw [List.flatten_append]
    by_cases h6 : (nd ns i).kind = 6
    · rw [if_pos h6, ih]
      have : partsL ns (nd ns i) = [] := by
        unfold partsL elsL
        rw [hok.nocas (by omega), hok.nobr (by omega), hok.noels (by omega)]; rfl
      rw [this]; rfl
    · rw [if_neg h6, parts_text hok.casok]
      have : levL ns d i = [] := by
        cases d with
        | zero => rfl
        | succ d => exact lvl_none _ (no_kid ha h6)
      rw [this]; simp
  have hne : ∀ T ∈ partsL ns (nd ns i) ++ levL ns d i, T ≠ [] := fun T hT => by
    rcases List.mem_append.1 hT with h | h
    · exact partsL_ne _ _ T h
    · exact levL_ne _ _ _ T h
  unfold nodeT shutT nodE eltT
  obtain ⟨inn, hinn⟩ : ∃ x, (if (nd ns i).kind = 6 then withinT ns d i else innerT ns (nd ns i)) = x := ⟨_, rfl⟩
  rw [hinn] at hin ⊢
  obtain ⟨Ts, hTs⟩ : ∃ x, partsL ns (nd ns i) ++ levL ns d i = x := ⟨_, rfl⟩
  rw [hTs] at hin hne ⊢
  rw [tim_text hok.aft.1, head_text hok]
  have hnil : inn.toList = [] ↔ Ts.length = 0 := by rw [← flat_nil hne, hin, ByteArray.toList_eq]
  by_cases h0 : Ts.length = 0
  · rw [if_pos h0, if_pos (hnil.2 h0)]
    simp only [bl_app]
  · rw [if_neg h0, if_neg (fun e => h0 (hnil.1 e)), hin, name_of hok.kind]
    simp only [bl_app, List.append_assoc]
theorem lvl_text {ns : List Nod} {NT : Nat → List UInt8} {g : Nat → ByteArray} {up : Int} : ∀ k, (∀ i, i < k → NT i ++ (timL ns (nd ns i)).flatten = bl (g i)) → (lvl ns NT up k).flatten = bl (withinTo ns g up k)
  | 0, _ => rfl
  | k + 1, h => by
    have ih := lvl_text (up := up) k (fun i hi => h i (by omega))
    unfold lvl withinTo
    rw [List.flatten_append, ih]
    split
    · rw [bl_app, ← h k (by omega)]; simp
    · simp
theorem lev_text {ns : List Nod} (hg : Goods ns) (ha : AskedTo ns ns.length) : ∀ d up, (levL ns d up).flatten = bl (withinT ns d up)
  | 0, _ => rfl
  | d + 1, up => lvl_text ns.length (fun i hi => node_text hg ha d hi (fun u => lev_text hg ha d u))
theorem top_some {ns : List Nod} (hs : scopesTo ns (ns.length + 1) = true) : ∃ k, k < ns.length ∧ upF ns k = -1 := by
  simp only [scopesTo, decide_eq_true_eq] at hs
  have h := hs 0 (by omega)
  unfold scOk at h
  simp at h
  by_cases hh : ∃ k, k < ns.length ∧ upF ns k = -1
  · exact hh
  · have : ∀ m, m ≤ ns.length → cnt ns 1 (-1) m = 0 := by
      intro m
      induction m with
      | zero => intro _; rfl
      | succ m ih =>
        intro hm
        rw [cnt_no (fun e => hh ⟨m, by omega, e.1⟩)]
        exact ih (by omega)
    have h1 := this ns.length (Nat.le_refl _)
    omega
theorem lvl_pos {ns : List Nod} {NT : Nat → List UInt8} {up : Int} : ∀ k m, m < k → upF ns m = up → (lvl ns NT up k).length ≠ 0
  | k + 1, m, hm, hu => by
    unfold lvl
    rw [List.length_append]
    by_cases e : m = k
    · subst e
      rw [if_pos hu]; simp
    · have := lvl_pos (NT := NT) k m (by omega) hu
      omega
/-- THE CODE's TEXT IS THE DOCUMENT's. -/
theorem model_text {id : ByteArray} {ns : List Nod} (hg : Goods ns) (hP : RightP id ns) : eltT ⟨#[112, 114, 111, 99, 101, 115, 115]⟩ [(⟨#[105, 100]⟩, id)] (levL ns 5 (-1)) = bl (modelT id ns) := by
  obtain ⟨m, hm, hu⟩ := top_some hP.scopes
  have h0 : (levL ns 5 (-1)).length ≠ 0 := lvl_pos ns.length m hm hu
  unfold eltT modelT
  rw [if_neg h0, lev_text hg hP.ups]
  simp only [bl_app, bl_q, attsT, List.flatMap_cons, List.flatMap_nil, List.append_nil, List.append_assoc]
  rfl
end Go.Proofs.YtjkpbpgeedihhaaGreatDoor
namespace Go.Proofs.YtjkpbpgeedihhaaGreatDoor
open Go.RowKit
open M FerryM
theorem node_names {n : Nod} (h : rightNodeB n = true) : isIdB n.id.data.toList = true ∧ rightNameB n.name = true := by
  unfold rightNodeB at h
  split at h
  · cases h
  rename_i h1
  simp only [not_or, Bool.not_eq_false] at h1
  exact ⟨h1.1, h1.2.1⟩
theorem ids_ok {ns : List Nod} (hg : Goods ns) : ∀ j, j < ns.length → AttOk (⟨#[]⟩, (nd ns j).id) := fun j hj => id_ok _ (node_names (hg.nodes j hj).1).1
theorem wlv_of {ns : List Nod} (hg : Goods ns) : WLv ns := by
  refine ⟨hg.len, ids_ok hg, fun j hj => ?_⟩
  have hok : NodeOk ns (nd ns j) := nodeOk_of (hg.nodes j hj).1
  exact ⟨hok.aft.1, hok.aft.2, fun h => late_way hg hj (hok.late (by omega))⟩
theorem wok_of {ns : List Nod} (hg : Goods ns) {i : Nat} (hi : i < ns.length) : WOk ns (nd ns i) := by
  have hok : NodeOk ns (nd ns i) := nodeOk_of (hg.nodes i hi).1
  refine ⟨hg.len, ids_ok hg, hok.cas, hok.br, fun c hc => ?_, fun h => els_way hg hi h, fun t ht => br_way hg hi ht⟩
  have h := hok.casok c hc
  have h1 : (97 ≤ c.var ∧ c.var ≤ 104) ∧ 1 ≤ c.op ∧ c.op ≤ 3 := by simp [casOk] at h; omega
  exact ⟨h1.1, h1.2, hg.vals i c hc, case_way hg hi hc⟩
theorem wnd_of {ns : List Nod} (hg : Goods ns) {i : Nat} (hi : i < ns.length) : WNd ns (nd ns i) := by
  have hok : NodeOk ns (nd ns i) := nodeOk_of (hg.nodes i hi).1
  refine ⟨hok.kind, wok_of hg hi, fun h => to_way hg hi (hok.to ?_), ids_ok hg i hi, ?_⟩
  · unfold naK at h
    unfold toB
    simp
    split at h
    · omega
    · split at h <;> omega
  · have h2 := (node_names (hg.nodes i hi).1).2
    simp only [rightNameB, Bool.and_eq_true, decide_eq_true_eq] at h2
    exact ⟨h2.2.1, h2.2.2⟩
/-- The elements of a level, as deep as there are. -/
theorem level_any (Z : World) (tb : Nat) (sb sc : Nat → Nat) (a : Option Addr) (cap : Nat) (ns : List Nod) (rs : Nat → Raw) (hL : Laid Z) (hg : Goods ns) (ha : AskedTo ns ns.length) : ∀ (d : Nat) (up : Int) (w : World), d + depF ns up = 5 → Below Z.heap.size Z w → ModIn w a ns rs → TabIn w tb sb sc →
    Calls Tryz.prog 125 #[chkV tb a ns.length cap, .int .i64 up] w fun e w' => ∃ v, e = .returned v ∧ Els Z w.heap.size w w' v (levL ns d up)
  | 0, up, w, hf, hZ, hm, hT => by
    have hno : ∀ i, i < ns.length → upF ns i ≠ up := fun i hi e => by
      have := dep_kid ha hi
      rw [e] at this
      omega
    have := level_step Z tb a cap ns rs up (fun _ => []) w hZ hL hm (wlv_of hg) (fun X hX i hi e => absurd e (hno i hi))
    rw [lvl_none _ hno] at this
    exact this
  | d + 1, up, w, hf, hZ, hm, hT => by
    refine level_step Z tb a cap ns rs up (fun i => nodE ns (nd ns i) (levL ns d i)) w hZ hL hm (wlv_of hg) (fun X hX i hi e => ?_)
    have hZX := hZ.trans (hX.mono hZ.size)
    refine node_step Z tb sb sc a cap ns rs i (levL ns d i) X hZX hL (hm.below hX) (hT.below hX) hi (wnd_of hg hi) ?_ (fun Y hY => ?_)
    · cases d with
      | zero => simp [levL]
      | succ d =>
        have h1 := lvl_len ns (fun i => nodE ns (nd ns i) (levL ns d i)) i ns.length
        have h2 := hg.len
        show (lvl ns (fun i => nodE ns (nd ns i) (levL ns d i)) i ns.length).length ≤ _
        omega
    · refine level_any Z tb sb sc a cap ns rs hL hg ha d i Y ?_ (hZX.trans (hY.mono hZX.size)) ((hm.below hX).below hY) ((hT.below hX).below hY)
      have := dep_kid ha hi
      rw [e] at this
      have h7 : depF ns (i : Int) = (A (upF ns) i).length + 1 := by unfold depF; rw [if_neg (by omega)]; simp
      omega
end Go.Proofs.YtjkpbpgeedihhaaGreatDoor
namespace Go.Proofs.YtjkpbpgeedihhaaGreatDoor
open Go.RowKit
open M FerryM
set_option maxHeartbeats 4000000 in
set_option maxRecDepth 100000 in
theorem codeWrite_any (id : ByteArray) (a : Option Addr) (cap : Nat) (ns : List Nod) (rs : Nat → Raw) (w : World) (hm : ModIn w a ns rs) (hr : ∀ i, i < ns.length → RawOk (rs i)) (hid : id.size ≤ maxLen) (hL : Laid w) (hcap : ns.length ≤ cap)
    (hvals : ∀ i c, c ∈ (nd ns i).cases → -2147483648 ≤ c.val ∧ c.val ≤ 2147483647) :
    Calls Tryz.prog 71 #[modV id a ns.length cap] w fun e w' => e = .returned (.tuple #[.string (if (dB (RightP id ns) (Classical.propDecidable _)) then modelT id ns else ⟨#[]⟩), .int .i64 (if (dB (RightP id ns) (Classical.propDecidable _)) then 0 else 3)]) ∧ Below w.heap.size w w' := by
  obtain ⟨W1, hW1⟩ : ∃ W1, w.alloc (Obj.cells #[.string id, .slice a ns.length cap] 25) = W1 := ⟨_, rfl⟩
  have HB1 : Hid (Below w.heap.size w W1) := by rw [← hW1]; exact b1 _ _
  have hright := codeRight_any id a cap ns rs W1 (hm.below HB1.out) hr hid (hL.below HB1.out) hcap
  obtain ⟨A, hA⟩ : ∃ A, a = A := ⟨_, rfl⟩
  have HA : Hid (a = A) := hA
  obtain ⟨n, hn⟩ : ∃ n, ns.length = n := ⟨_, rfl⟩
  have HN : Hid (ns.length = n) := hn
  have HX : Hid (ModBox W1 w.heap.size id A n cap) := by rw [← hW1, hA, hn]; exact ModBox.new _ _ _ _ _ _
  have HMo : Hid (ModIn w a ns rs) := hm
  have HL : Hid (Laid w) := hL
  have hl := hm.len
  rw [hn] at hl
  obtain ⟨x0, x1⟩ := HX.out
  cases hR : (dB (RightP id ns) (Classical.propDecidable _)) with
  | false =>
    rw [hR] at hright
    unfold modV at hright ⊢
    simp only [SlV] at hright ⊢
    rw [hA, hn] at hright hW1 ⊢
    clear hm hR hr hvals hL hA hn hcap HL
    go_enter Tryz.func71, Tryz.ntmps71
    go_wp2_with fail
    refine hright.mono ?_
    rintro e w2 ⟨rfl, hb2⟩
    have HB2 : Hid (Below w.heap.size w w2) := HB1.out.trans (hb2.mono HB1.out.size)
    clear hb2 hright hW1 x0 x1
    go_wp2_with fail
    go_ret2
    exact ⟨rfl, HB2.out⟩
  | true =>
    rw [hR] at hright
    have hP := rightB_iff.1 hR
    have hg : Goods ns := ⟨hP.len, hP.nodes, hP.lead, hvals⟩
    have HLev : Hid (∀ X tb sb sc, Below w.heap.size w X → TabIn X tb sb sc → Calls Tryz.prog 125 #[.agg #[.slice (some ⟨tb, 0, none⟩) 12 12, .slice A n cap], .int .i64 (-1)] X fun e w' => ∃ v, e = .returned v ∧ Els w X.heap.size X w' v (levL ns 5 (-1))) := fun X tb sb sc hX hT => by
      have h := level_any w tb sb sc a cap ns rs hL hg hP.ups 5 (-1) X rfl hX (hm.below hX) hT
      unfold chkV tabV at h
      simp only [SlV] at h
      rw [hA, hn] at h
      exact h
    have HTx : Hid (eltT ⟨#[112, 114, 111, 99, 101, 115, 115]⟩ [(⟨#[105, 100]⟩, id)] (levL ns 5 (-1)) = bl (modelT id ns)) := model_text hg hP
    have hidz : id.size ≤ 40 := by
      have a1 := hP.id
      simp only [isIdB, Bool.and_eq_true, decide_eq_true_eq] at a1
      have : id.data.toList.length = id.size := rfl
      omega
    have HTz : Hid ((modelT id ns).size ≤ 140737488355328) := by
      have hz1 := qT_size ⟨#[105, 100]⟩ id (by decide) hidz
      have hz2 := withinT_sz hg 5 (-1)
      have hz3 := bnd_le 5 (by omega)
      show _ ≤ _
      unfold modelT
      simp only [ByteArray.size_append]
      have e1 : (⟨#[60, 112, 114, 111, 99, 101, 115, 115]⟩ : ByteArray).size = 8 := rfl
      have e2 : (⟨#[62]⟩ : ByteArray).size = 1 := rfl
      have e3 : (⟨#[60, 47, 112, 114, 111, 99, 101, 115, 115, 62]⟩ : ByteArray).size = 10 := rfl
      omega
    have HAo : Hid (∀ p ∈ [((⟨#[105, 100]⟩, id) : AttP)], AttOk p) := fun p hp => by
      rw [List.mem_singleton.1 hp]; exact id_ok _ hP.id
    have HLl : Hid ((levL ns 5 (-1)).length ≤ 1000) := by
      have h1 := lvl_len ns (fun i => nodE ns (nd ns i) (levL ns 4 i)) (-1) ns.length
      have h2 := hg.len
      show (lvl ns (fun i => nodE ns (nd ns i) (levL ns 4 i)) (-1) ns.length).length ≤ 1000
      omega
    obtain ⟨TL, hTL⟩ : ∃ x, levL ns 5 (-1) = x := ⟨_, rfl⟩
    rw [hTL] at HLev HTx HLl
    obtain ⟨TX, hTX⟩ : ∃ x, modelT id ns = x := ⟨_, rfl⟩
    rw [hTX] at HTx HTz ⊢
    obtain ⟨t, ht⟩ : ∃ x, TL.length = x := ⟨_, rfl⟩
    have Ht : Hid (TL.length = t) := ht
    unfold modV at hright ⊢
    simp only [SlV, if_true] at hright ⊢
    rw [hA, hn] at hright hW1 ⊢
    clear hm hR hr hvals hL hA hn hcap hP hg hTL hTX ht hidz
    go_enter Tryz.func71, Tryz.ntmps71
    go_wp2_with fail
    refine hright.mono ?_
    rintro e w2 ⟨rfl, hb2⟩
    have HB2 : Hid (Below W1.heap.size W1 w2) := hb2
    have Hw2 : Hid (Below w.heap.size w w2) := HB1.out.trans (hb2.mono HB1.out.size)
    clear hright hW1 x0 x1 hb2
    go_upto_region 3 with fail
    go_cut [4] (fun p wx => ∃ cb tb sb sc, p = .pointer (some ⟨cb, 0, none⟩) ∧ ChkBox wx cb tb A n cap ∧ TabIn wx tb sb sc ∧ Below W1.heap.size W1 wx)
    case first =>
      have HK : Hid (∀ X, Below W1.heap.size W1 X → Below W1.heap.size W1 X ∧ X.cell? ⟨w.heap.size, 1, none⟩ = some (.slice A n cap)) := fun X hX => ⟨hX, (HX.out.below hX).c1⟩
      obtain ⟨Z, hZ⟩ : ∃ Z, w2.alloc (.cells #[.slice none 0 0, .slice none 0 0] 234) = Z := ⟨_, rfl⟩
      have HZ : Hid (Below w2.heap.size w2 Z ∧ lstIs Z w2.heap.size 234 [.slice none 0 0, .slice none 0 0]) := by rw [← hZ]; exact ⟨b1 _ _, lstIs.new _ _ _⟩
      have HZ1 : Hid (Below W1.heap.size W1 Z) := HB2.out.trans (HZ.out.1.mono HB2.out.size)
      have hTq : Hid (∀ X, (X = w2.drew ∨ X = Z.drew) → Calls Tryz.prog 99 #[] X fun e w' => ∃ b sb sc, e = .returned (.slice (some ⟨b, 0, none⟩) 12 12) ∧ TabIn w' b sb sc ∧ Below W1.heap.size W1 w' ∧ (X = w2.drew ∨ lstIs w' w2.heap.size 234 [.slice none 0 0, .slice none 0 0])) := fun X hX => by
        refine (table_any X).mono ?_
        rintro e w' ⟨b, sb, sc, rfl, hT, hb⟩
        rcases hX with rfl | rfl
        · exact ⟨b, sb, sc, rfl, hT, (below_drewN HB2.out 1).trans (hb.mono (below_drewN HB2.out 1).size), Or.inl rfl⟩
        · exact ⟨b, sb, sc, rfl, hT, (below_drewN HZ1.out 1).trans (hb.mono (below_drewN HZ1.out 1).size), Or.inr (HZ.out.2.at (hb.block _ HZ.out.2.lt))⟩
      have hne : Z.drew ≠ w2.drew := fun e => by
        have h1 := congrArg (fun W : World => W.heap.size) e
        have h2 : Z.heap.size = w2.heap.size + 1 := by rw [← hZ]; simp
        have h3 : Z.heap.size = w2.heap.size := h1
        omega
      have HZge : Hid (W1.heap.size ≤ w2.heap.size) := HB2.out.size
      go_region_held3 (fun w' => Below W1.heap.size W1 w' ∧ w'.cell? ⟨w.heap.size, 1, none⟩ = some (.slice A n cap))
        ((refine HK.out _ ?_; first | exact below_drewN HB2.out 1 | exact below_drewN HZ1.out 1 | exact HB3.out | exact HB3.out.alloc HB3.out.size _ | exact (HB3.out.setCell HZge.out _).setCell HZge.out _ | fail))
        ((first
          | (go_at_call 99; refine (hTq.out _ (by first | exact Or.inl rfl | exact Or.inr rfl)).mono ?_; rintro e w3 ⟨tb, sb, sc, rfl, hT3, hb3, hc3⟩; have HT3 : Hid (TabIn w3 tb sb sc) := hT3; have HB3 : Hid (Below W1.heap.size W1 w3) := hb3; (try (have HL3 := hc3.resolve_left hne; have q0 := HL3.cell (i := 0) rfl; have q1 := HL3.cell (i := 1) rfl; have f0 := HL3.free 0; have f1 := HL3.free 1; have HLL : Hid (lstIs w3 w2.heap.size 234 [.slice none 0 0, .slice none 0 0]) := HL3; clear HL3)); clear hT3 hb3 hc3)
          | fail))
      · go_wp2_with fail
        go_meet
        exact ⟨_, tb, sb, sc, rfl, ChkBox.new _ _ _ _ _ _, HT3.out.below (b1 _ _), HB3.out.alloc HB3.out.size _⟩
      · go_wp2_with fail
        go_meet
        have hl2 := (HLL.out.set 0 (.slice (some ⟨tb, 0, none⟩) 12 12)).set 1 (.slice A n cap)
        exact ⟨_, tb, sb, sc, rfl, ⟨hl2.cell rfl, hl2.cell rfl⟩, (HT3.out.set HLL.out (by decide) (by simp) _ _).set (HLL.out.set 0 _) (by decide) (by simp) _ _, (HB3.out.setCell HZge.out _).setCell HZge.out _⟩
    case rest =>
      obtain ⟨cb, tb, sb, sc, rfl, hX, hT, hB⟩ := hcut
      have HX2 : Hid (ChkBox wc cb tb A n cap) := hX
      have HT : Hid (TabIn wc tb sb sc) := hT
      have HBc1 : Hid (Below W1.heap.size W1 wc) := hB
      have HBc : Hid (Below w.heap.size w wc) := HB1.out.trans (hB.mono HB1.out.size)
      clear hX hT hB
      have h19 := attr_any ⟨#[105, 100]⟩ id wc
      unfold attV at h19
      obtain ⟨x0, x1⟩ := HX.out.below HBc1.out
      go_wp2_with fail
      refine h19.mono ?_
      rintro e w3 ⟨rfl, hb3⟩
      have HB3 : Hid (Below wc.heap.size wc w3) := hb3
      clear h19 hb3 x0 x1
      have h18 := new_any ⟨#[112, 114, 111, 99, 101, 115, 115]⟩ _ [(⟨#[105, 100]⟩, id)] (w3.alloc (.cells (attC [(⟨#[105, 100]⟩, id)]).toArray 236)) (Or.inr ⟨w3.heap.size, 1, rfl, lstIs.new _ _ _⟩) (by simp)
      simp only [attC, List.flatMap_cons, List.flatMap_nil, List.append_nil, List.length_cons, List.length_nil, Nat.zero_add] at h18
      go_wp2_with fail
      refine h18.mono ?_
      rintro e w4 ⟨g, c, rfl, hrow, hb4⟩
      have HB4 : Hid (Below wc.heap.size wc w4) := (HB3.out.alloc HB3.out.size _).trans (hb4.mono (by simp; have := HB3.out.size; omega))
      have HRow : Hid (w4.ownsRow wc.heap.size 236 2 (.slice (some ⟨g, 0, none⟩) 1 c) 1 (attC [(⟨#[105, 100]⟩, id)])) := own_base hrow (by simp; have := HB3.out.size; omega)
      clear h18 hrow hb4
      obtain ⟨W5, hW5⟩ : ∃ W, w4.alloc (.cells #[.string ⟨#[112, 114, 111, 99, 101, 115, 115]⟩, .slice (some ⟨g, 0, none⟩) 1 c, .slice none 0 0] 207) = W := ⟨_, rfl⟩
      have HB5 : Hid (Below w4.heap.size w4 W5) := by rw [← hW5]; exact b1 _ _
      have HEl : Hid (lstIs W5 w4.heap.size 207 [.string ⟨#[112, 114, 111, 99, 101, 115, 115]⟩, .slice (some ⟨g, 0, none⟩) 1 c, .slice none 0 0]) := by rw [← hW5]; exact lstIs.new _ _ _
      have HBc5 : Hid (Below wc.heap.size wc W5) := HB4.out.trans (HB5.out.mono HB4.out.size)
      have Hw5 : Hid (Below w.heap.size w W5) := HBc.out.trans (HBc5.out.mono HBc.out.size)
      have HR5 : Hid (W5.ownsRow wc.heap.size 236 2 (.slice (some ⟨g, 0, none⟩) 1 c) 1 (attC [(⟨#[105, 100]⟩, id)])) := own_below HRow.out HB5.out
      have HW5 : Hid (w4.alloc (.cells #[.string ⟨#[112, 114, 111, 99, 101, 115, 115]⟩, .slice (some ⟨g, 0, none⟩) 1 c, .slice none 0 0] 207) = W5) := hW5
      clear hW5
      go_upto_region 5 with fail
      rw [HW5.out]
      obtain ⟨z0, z1⟩ := HX2.out.below HBc5.out
      have h20 := HLev.out W5 tb sb sc Hw5.out (HT.out.below HBc5.out)
      go_wp2_with fail
      refine h20.mono ?_
      rintro e w6 ⟨v, rfl, hE⟩
      obtain ⟨A2, c2, hv⟩ := hE.shape
      rw [Ht.out] at hv
      subst hv
      have HE : Hid (Els w W5.heap.size W5 w6 (.slice A2 t c2) TL) := hE
      have HEl6 : Hid (lstIs w6 w4.heap.size 207 [.string ⟨#[112, 114, 111, 99, 101, 115, 115]⟩, .slice (some ⟨g, 0, none⟩) 1 c, .slice none 0 0]) := HEl.out.at (hE.bel.block _ HEl.out.lt)
      clear hE h20 z0 z1
      have e2 := HEl6.out.cell (i := 2) rfl
      have f2 := HEl6.out.free 2
      obtain ⟨W7, hW7⟩ : ∃ X, w6.setCell ⟨w4.heap.size, 2, none⟩ (.slice A2 t c2) = X := ⟨_, rfl⟩
      have HX7 := HEl6.out.set 2 (.slice A2 t c2)
      rw [hW7] at HX7
      have HR6 := own_below HR5.out HE.out.bel
      have HR7 : Hid (W7.ownsRow wc.heap.size 236 2 (.slice (some ⟨g, 0, none⟩) 1 c) 1 (attC [(⟨#[105, 100]⟩, id)])) := by rw [← hW7]; exact ownsRow_setCell_other HR6 (fun e => own_ne HR6 HEl6.out (by decide) e.symm) _
      have HEs : Hid (∃ es, W7.ownsRow W5.heap.size 207 3 (.slice A2 t c2) TL.length (eL es) ∧ EAll w W7 W5.heap.size (Value.slice A2 t c2).ownBlock es TL) := by rw [← hW7]; exact els_set HE.out.ex HEl.out.lt 2 _
      have Hw7 : Hid (Below w.heap.size w W7) := by rw [← hW7]; exact (Hw5.out.trans (HE.out.bel.mono Hw5.out.size)).setCell (Nat.le_trans HBc.out.size HB4.out.size) _
      have hwx := node_writes (nm := ⟨#[112, 114, 111, 99, 101, 115, 115]⟩) (B := w.heap.size) (acc := [(⟨#[105, 100]⟩, id)]) (Ts := TL) (g := g) (c := c) (A2 := A2) (c2 := c2) HL.out HR7.out HBc.out.size HAo.out (by simp) (by rw [Ht.out]) Hw5.out.size HEs.out HLl.out
      rw [HTx.out, Ht.out] at hwx
      have h21 := text_any w W7 _ ⟨#[112, 114, 111, 99, 101, 115, 115]⟩ (some ⟨g, 0, none⟩) A2 1 c t c2 (bl TX) hwx HTz.out W7 (Below.refl _ _) Hw7.out
      rw [mkS_of] at h21
      have q0 := HX7.cell (i := 0) rfl
      have q1 := HX7.cell (i := 1) rfl
      have q2 := HX7.cell (i := 2) rfl
      clear HX7 HR6 hwx
      go_wp2_with fail
      refine h21.mono ?_
      rintro e w8 ⟨rfl, hb8⟩
      have HB8 : Hid (Below w.heap.size w w8) := Hw7.out.trans (hb8.mono Hw7.out.size)
      clear hb8 h21 hW7 e2 f2 q0 q1 q2
      go_wp2_with fail
      go_ret2
      exact ⟨rfl, HB8.out⟩
end Go.Proofs.YtjkpbpgeedihhaaGreatDoor
namespace Go.Proofs.YtjkpbpgeedihhaaGreatDoor
open Go.RowKit
open M FerryM
section
variable {w W X : World} {B : Nat} {ns : List Nod} {vc vi : Value} {cb bb : Nat → Nat}
theorem Handed.below (h : Handed w W B ns vc vi cb bb) (hb : Below W.heap.size W X) (hB : B ≤ W.heap.size) : Handed w X B ns vc vi cb bb := by
  obtain ⟨f, hf, h1, h2⟩ := h.gb
  exact ⟨h.hb.at (hb.block _ h.hb.lt), ⟨f, hf.of_block (hb.block _ hf.lt), h1, h2⟩, own_below h.cr hb, own_below h.ir hb, fun j hj => (h.cs j hj).at (hb.block _ (h.cs j hj).lt), fun j hj => (h.bs j hj).at (hb.block _ (h.bs j hj).lt), h.bel.trans (hb.mono hB)⟩
theorem Handed.cells (h : Handed w W B ns vc vi cb bb) {j : Nat} (hj : j < ns.length) : NodCells W (B + 2) (0 + j * 10) (nd ns j) (rawH ns cb bb j) := by
  obtain ⟨f, hf, h1, _⟩ := h.gb
  obtain ⟨e0, e1, e2, e3, e4, e5, e6, e7, e8, e9⟩ := h1 j hj
  have k := fun (i : Nat) (hi : i < 10) => hf.cell (i := j * 10 + i) (by omega)
  rw [Nat.zero_add]
  exact ⟨by rw [← e0]; exact k 0 (by omega), by rw [← e1]; exact k 1 (by omega), by rw [← e2]; exact k 2 (by omega), by rw [← e3]; exact k 3 (by omega), by rw [← e4]; exact k 4 (by omega), by rw [← e5]; exact k 5 (by omega), by rw [← e6]; exact k 6 (by omega), by rw [← e7]; exact k 7 (by omega), by rw [← e8]; exact k 8 (by omega), by rw [← e9]; exact k 9 (by omega)⟩
theorem Handed.mark (h : Handed w W B ns vc vi cb bb) : W.cell? ⟨B + 2, ns.length * 10 + 3, none⟩ = some (.int .i64 (-77)) := by
  obtain ⟨f, hf, _, h2⟩ := h.gb
  rw [← h2]; exact hf.cell (by omega)
theorem Handed.casesIn (h : Handed w W B ns vc vi cb bb) {j : Nat} (hj : j < ns.length) : CasesIn W (some ⟨cb j, 0, none⟩) (nd ns j).cases := fun i hi => by
  have hl := h.cs j hj
  have k := fun (q : Nat) (hq : q < 4) (v : Value) (hv : (casC ((nd ns j).cases.getD i Cas.zero))[q]? = some v) => hl.cell (i := i * 4 + q) (v := v) (by
    unfold casAll
    rw [List.getElem?_append_left (by rw [casL_len]; omega), casL_get _ i q hi hq]; exact hv)
  refine ⟨cb j, 0, rfl, ?_, ?_, ?_, ?_⟩
  · simpa using k 0 (by omega) _ rfl
  · simpa using k 1 (by omega) _ rfl
  · simpa using k 2 (by omega) _ rfl
  · simpa using k 3 (by omega) _ rfl
theorem Handed.casMark (h : Handed w W B ns vc vi cb bb) {j : Nat} (hj : j < ns.length) : W.cell? ⟨cb j, (nd ns j).cases.length * 4 + 3, none⟩ = some (.int .i64 (-77)) := (h.cs j hj).cell (by
  unfold casAll
  rw [List.getElem?_append_right (by rw [casL_len]; omega), casL_len, Nat.add_sub_cancel_left]; rfl)
theorem Handed.intsIn (h : Handed w W B ns vc vi cb bb) {j : Nat} (hj : j < ns.length) : IntsIn W (some ⟨bb j, 0, none⟩) (nd ns j).branches := fun i hi => by
  refine ⟨bb j, 0, rfl, ?_⟩
  rw [Nat.zero_add]
  refine (h.bs j hj).cell ?_
  unfold intAll
  rw [List.getElem?_append_left (by rw [iv_len]; exact hi)]
  simp [iv, List.getD, List.getElem?_eq_getElem hi]
theorem Handed.intMark (h : Handed w W B ns vc vi cb bb) {j : Nat} (hj : j < ns.length) : W.cell? ⟨bb j, (nd ns j).branches.length, none⟩ = some (.int .i64 (-77)) := (h.bs j hj).cell (by
  unfold intAll
  rw [List.getElem?_append_right (by rw [iv_len]; omega), iv_len, Nat.sub_self]; rfl)
theorem Handed.node (h : Handed w W B ns vc vi cb bb) {j : Nat} (hj : j < ns.length) (hc : (nd ns j).cases.length ≤ maxLen) (hb : (nd ns j).branches.length ≤ maxLen) : NodIn W (nd ns j) (rawH ns cb bb j) := ⟨h.casesIn hj, h.intsIn hj, hc, hb⟩
theorem Handed.model (h : Handed w W B ns vc vi cb bb) {Y : World} {a : Option Addr} {rs : Nat → Raw} (hm : ModIn Y a ns rs) : ModIn W (some ⟨B + 2, 0, none⟩) ns (rawH ns cb bb) :=
  ⟨fun i hi => ⟨B + 2, 0, rfl, h.cells hi⟩, fun i hi => h.node hi (hm.node i hi).cl (hm.node i hi).bl, hm.sz, hm.len⟩
theorem rawH_ok (i : Nat) : RawOk (rawH ns cb bb i) := ⟨fun e => (by cases e), fun e => (by cases e)⟩
/-- The lists of the lists, where there is a node. -/
theorem Handed.rows (h : Handed w W B ns vc vi cb bb) (h0 : 0 < ns.length) : ∃ gc cc gi ci, vc = .slice (some ⟨gc, 0, none⟩) ns.length cc ∧ vi = .slice (some ⟨gi, 0, none⟩) ns.length ci := by
  obtain ⟨gc, cc, e1⟩ := row_shape h.cr h0
  obtain ⟨gi, ci, e2⟩ := row_shape h.ir h0
  exact ⟨gc, cc, gi, ci, e1, e2⟩
theorem Handed.rowC {gc cc n : Nat} (h : Handed w W B ns (.slice (some ⟨gc, 0, none⟩) n cc) vi cb bb) {j : Nat} (hj : j < ns.length) : W.cell? ⟨gc, j, none⟩ = some (.slice (some ⟨cb j, 0, none⟩) ((nd ns j).cases.length + 1) ((nd ns j).cases.length + 1)) := by
  have := h.cr.cells (g := gc) rfl j (.slice (some ⟨cb j, 0, none⟩) ((nd ns j).cases.length + 1) ((nd ns j).cases.length + 1)) (by simp [hj])
  rwa [addr_add0] at this
theorem Handed.rowI {gi ci n : Nat} (h : Handed w W B ns vc (.slice (some ⟨gi, 0, none⟩) n ci) cb bb) {j : Nat} (hj : j < ns.length) : W.cell? ⟨gi, j, none⟩ = some (.slice (some ⟨bb j, 0, none⟩) ((nd ns j).branches.length + 1) ((nd ns j).branches.length + 1)) := by
  have := h.ir.cells (g := gi) rfl j (.slice (some ⟨bb j, 0, none⟩) ((nd ns j).branches.length + 1) ((nd ns j).branches.length + 1)) (by simp [hj])
  rwa [addr_add0] at this
end
set_option maxHeartbeats 4000000 in
set_option maxRecDepth 100000 in
theorem ferryWrite_any (id : ByteArray) (a : Option Addr) (cap : Nat) (ns : List Nod) (rs : Nat → Raw) (w : World) (hm : ModIn w a ns rs) (hr : ∀ i, i < ns.length → RawOk (rs i)) (hid : id.size ≤ maxLen) (hL : Laid w) (hcap : ns.length ≤ cap)
    (hvals : ∀ i c, c ∈ (nd ns i).cases → -2147483648 ≤ c.val ∧ c.val ≤ 2147483647) :
    Calls Tryz.prog 21 #[modV id a ns.length cap] w fun e w' => e = .returned (.tuple #[.string (if (dB (RightP id ns) (Classical.propDecidable _)) then modelT id ns else ⟨#[]⟩), .int .i64 (if (dB (RightP id ns) (Classical.propDecidable _)) then 0 else 3)]) ∧ Below w.heap.size w w' := by
  have h9 := fun o => codeWrite_any id a cap ns rs (w.alloc o) (hm.below (b1 _ _)) hr hid (hL.below (b1 _ _)) hcap hvals
  unfold modV at h9 ⊢
  simp only [SlV] at h9 ⊢
  obtain ⟨V, hV⟩ : ∃ V, Value.slice a ns.length cap = V := ⟨_, rfl⟩
  obtain ⟨T, hT⟩ : ∃ x, (if (dB (RightP id ns) (Classical.propDecidable _)) then modelT id ns else ⟨#[]⟩) = x := ⟨_, rfl⟩
  obtain ⟨E, hE⟩ : ∃ x : Int, (if (dB (RightP id ns) (Classical.propDecidable _)) then 0 else 3) = x := ⟨_, rfl⟩
  rw [hV, hT, hE] at h9
  rw [hV, hT, hE]
  clear hV hT hE hm hr hvals hL hcap
  go_enter Tryz.func21, Tryz.ntmps21
  go_wp2_with fail
  refine (h9 _).mono ?_
  rintro e w2 ⟨rfl, hb2⟩
  have HB2 : Hid (Below w.heap.size w w2) := (b1 _ _).trans (hb2.mono (by simp))
  clear hb2 h9
  go_wp2_with fail
  go_ret2
  exact ⟨rfl, HB2.out⟩
theorem num_any (e : Int) (w : World) : Calls Tryz.prog 16 #[.int .i64 e] w fun x w' => x = .returned (.int .i64 e) ∧ w' = w := by
  go_enter Tryz.func16, Tryz.ntmps16
  go_wp2_with fail
  go_ret
  exact ⟨rfl, rfl⟩
end Go.Proofs.YtjkpbpgeedihhaaGreatDoor
namespace Go.Proofs.YtjkpbpgeedihhaaGreatDoor
open Go.RowKit
open M FerryM
set_option maxHeartbeats 8000000 in
set_option maxRecDepth 100000 in
theorem still_any (id : ByteArray) (a : Option Addr) (cap : Nat) (ns : List Nod) (rs : Nat → Raw) (w0 w : World) (B : Nat) (vc vi : Value) (cb bb : Nat → Nat) (hB : B ≤ w.heap.size) (hm : ModIn w a ns rs) (hh : Handed w0 w B ns vc vi cb bb) :
    Calls Tryz.prog 22 #[.pointer (some ⟨B + 3, 0, none⟩), modV id a ns.length cap] w fun e w' => e = .returned (.bool true) ∧ Below w.heap.size w w' := by
  have hl := hm.len
  obtain ⟨n, hn⟩ : ∃ n, ns.length = n := ⟨_, rfl⟩
  have HN : Hid (ns.length = n) := hn
  obtain ⟨A, hA⟩ : ∃ A, a = A := ⟨_, rfl⟩
  have HA : Hid (a = A) := hA
  obtain ⟨W1, hW1⟩ : ∃ W1, w.alloc (Obj.cells #[.string id, .slice A n cap] 25) = W1 := ⟨_, rfl⟩
  have HB1 : Hid (Below w.heap.size w W1) := by rw [← hW1]; exact b1 _ _
  have HMo : Hid (∀ X, Below W1.heap.size W1 X → ModIn X a ns rs) := fun X hX => (hm.below HB1.out).below hX
  have HX : Hid (ModBox W1 w.heap.size id A n cap) := by rw [← hW1]; exact ModBox.new _ _ _ _ _ _
  have HHd : Hid (∀ X, Below W1.heap.size W1 X → Handed w0 X B ns vc vi cb bb) := fun X hX => (hh.below HB1.out hB).below hX (Nat.le_trans hB HB1.out.size)
  obtain ⟨x0, x1⟩ := HX.out
  have hh1 := HHd.out W1 (Below.refl _ _)
  have g0 := hh1.hb.cell (i := 0) rfl
  have gm := hh1.mark
  rw [hn] at g0 gm hl
  unfold modV
  simp only [SlV]
  rw [hA, hn]
  clear hh hh1 hm hA hn hB
  go_enter Tryz.func22, Tryz.ntmps22
  go_wp2_with fail
  clear hW1 x0 x1 g0 gm
  go_loopw [6] (fun i wr => ∃ k : Nat, k ≤ n ∧ i = .int .i64 k ∧ Below W1.heap.size W1 wr) (fun i _ => n - (intOf i).toNat)
  case atStart => exact ⟨0, by omega, rfl, Below.refl _ _⟩
  case round =>
    obtain ⟨k, hk, rfl, hbw⟩ := hrel
    have HBW : Hid (Below W1.heap.size W1 wr) := hbw
    clear hbw
    by_cases hlt : k < n
    · obtain ⟨b, o, ha, hcell⟩ := (HMo.out wr HBW.out).cells k (by rw [HN.out]; exact hlt)
      have hAa := HA.out
      rw [ha] at hAa
      try simp only [Option.map_some] at hAa
      subst hAa
      obtain ⟨x0, x1⟩ := HX.out.below HBW.out
      have hkb : (k : Int) < n := by omega
      have hwr := HHd.out wr HBW.out
      have h0n : 0 < ns.length := by rw [HN.out]; omega
      obtain ⟨gc, cc, gi, ci, evc, evi⟩ := hwr.rows h0n
      rw [HN.out] at evc evi
      subst evc evi
      have hkn : k < ns.length := by rw [HN.out]; exact hlt
      obtain ⟨Y, hY⟩ : ∃ W3, wr.alloc (.cells (nodV (nd ns k) (rs k)) 87) = W3 := ⟨_, rfl⟩
      have HYb : Hid (Below wr.heap.size wr Y) := by rw [← hY]; exact b1 _ _
      have HY1 : Hid (∀ X, Below Y.heap.size Y X → Below W1.heap.size W1 X) := fun X hX => (HBW.out.trans (HYb.out.mono HBW.out.size)).trans (hX.mono (Nat.le_trans HBW.out.size HYb.out.size))
      have HYl : Hid (NodBox Y wr.heap.size (nd ns k) (rs k)) := by rw [← hY]; exact NodBox.new _ _ _
      have H10 : Hid (∀ X, Below Y.heap.size Y X → Calls Tryz.prog 70 #[.agg (nodV (nd ns k) (rawH ns cb bb k)), .agg (nodV (nd ns k) (rs k))] X fun e w' => e = .returned (.bool true) ∧ Below Y.heap.size Y w') := fun X hX => by
        have hq := (HMo.out X (HY1.out X hX)).node k hkn
        have h := sameNode_any (nd ns k) (nd ns k) (rawH ns cb bb k) (rs k) X ((HHd.out X (HY1.out X hX)).node hkn hq.cl hq.bl) hq
        refine h.mono ?_
        rintro e w' ⟨rfl, hb⟩
        exact ⟨by simp, hX.trans (hb.mono hX.size)⟩
      have H11 : Hid (∀ X, Below Y.heap.size Y X → Calls Tryz.prog 72 #[SlV (some ⟨cb k, 0, none⟩) (nd ns k).cases.length ((nd ns k).cases.length + 1), SlV (rs k).ca (nd ns k).cases.length (rs k).cc] X fun e w' => e = .returned (.bool true) ∧ Below Y.heap.size Y w') := fun X hX => by
        have hq := (HMo.out X (HY1.out X hX)).node k hkn
        have h := sameCases_any (some ⟨cb k, 0, none⟩) (rs k).ca ((nd ns k).cases.length + 1) (rs k).cc (nd ns k).cases (nd ns k).cases X ((HHd.out X (HY1.out X hX)).casesIn hkn) hq.cs hq.cl
        refine h.mono ?_
        rintro e w' ⟨rfl, q, rfl⟩
        exact ⟨by simp, below_drewN hX q⟩
      have H12 : Hid (∀ X, Below Y.heap.size Y X → Calls Tryz.prog 73 #[SlV (some ⟨bb k, 0, none⟩) (nd ns k).branches.length ((nd ns k).branches.length + 1), SlV (rs k).ba (nd ns k).branches.length (rs k).bc] X fun e w' => e = .returned (.bool true) ∧ Below Y.heap.size Y w') := fun X hX => by
        have hq := (HMo.out X (HY1.out X hX)).node k hkn
        have h := sameInts_any (some ⟨bb k, 0, none⟩) (rs k).ba ((nd ns k).branches.length + 1) (rs k).bc (nd ns k).branches (nd ns k).branches X ((HHd.out X (HY1.out X hX)).intsIn hkn) hq.bs hq.bl
        refine h.mono ?_
        rintro e w' ⟨rfl, q, rfl⟩
        exact ⟨by simp, below_drewN hX q⟩
      have HZ : Hid (∀ X, Below Y.heap.size Y X → X.cell? ⟨B + 3, 0, none⟩ = some (.slice (some ⟨B + 2, 0, none⟩) (n + 1) (n + 1)) ∧ X.cell? ⟨B + 3, 1, none⟩ = some (.slice (some ⟨gc, 0, none⟩) n cc) ∧ X.cell? ⟨B + 3, 2, none⟩ = some (.slice (some ⟨gi, 0, none⟩) n ci)) := fun X hX => by
        have h := (HHd.out X (HY1.out X hX)).hb
        rw [HN.out] at h
        exact ⟨h.cell rfl, h.cell rfl, h.cell rfl⟩
      have HK8 : Hid (∀ X, Below Y.heap.size Y X → NodCells X (B + 2) (k * 10) (nd ns k) (rawH ns cb bb k)) := fun X hX => by
        have h := (HHd.out X (HY1.out X hX)).cells hkn
        rwa [Nat.zero_add] at h
      have HM9 : Hid (∀ X, Below Y.heap.size Y X → X.cell? ⟨gc, k, none⟩ = some (.slice (some ⟨cb k, 0, none⟩) ((nd ns k).cases.length + 1) ((nd ns k).cases.length + 1)) ∧ X.cell? ⟨cb k, (nd ns k).cases.length * 4 + 3, none⟩ = some (.int .i64 (-77))) := fun X hX => ⟨(HHd.out X (HY1.out X hX)).rowC hkn, (HHd.out X (HY1.out X hX)).casMark hkn⟩
      have HM10 : Hid (∀ X, Below Y.heap.size Y X → X.cell? ⟨gi, k, none⟩ = some (.slice (some ⟨bb k, 0, none⟩) ((nd ns k).branches.length + 1) ((nd ns k).branches.length + 1)) ∧ X.cell? ⟨bb k, (nd ns k).branches.length, none⟩ = some (.int .i64 (-77))) := fun X hX => ⟨(HHd.out X (HY1.out X hX)).rowI hkn, (HHd.out X (HY1.out X hX)).intMark hkn⟩
      have hbd := (HMo.out wr HBW.out).node k hkn
      have hcl := hbd.cl
      have hbl := hbd.bl
      unfold maxLen at hcl hbl
      unfold rawH at H10 HK8
      obtain ⟨nn, hnn⟩ : ∃ x, nd ns k = x := ⟨_, rfl⟩
      obtain ⟨rr, hrr⟩ : ∃ x, rs k = x := ⟨_, rfl⟩
      obtain ⟨cbk, hcbk⟩ : ∃ x, cb k = x := ⟨_, rfl⟩
      obtain ⟨bbk, hbbk⟩ : ∃ x, bb k = x := ⟨_, rfl⟩
      rw [hnn] at hcell hY HYl H10 H11 H12 HK8 HM9 HM10 hcl hbl
      rw [hrr] at hcell hY HYl H10 H11 H12
      rw [hcbk] at H10 H11 HK8 HM9
      rw [hbbk] at H10 H12 HK8 HM10
      clear hnn hrr hcbk hbbk ha hwr h0n hkn hbd
      obtain ⟨c0, c1, c2, c3, c4, c5, c6, c7, c8, c9⟩ := hcell
      simp only [SlV] at c5 c7
      have HYf : Hid (wr.alloc (.cells (nodV nn rr) 87) = Y) := hY
      clear hY
      simp only [nodV, SlV, Option.map_some] at HYf H10 H11 H12
      go_upto_region 8 with fail
      clear c0 c1 c2 c3 c4 c5 c6 c7 c8 c9 x0 x1
      rw [HYf.out]
      have hk0 : (0 : Int) ≤ (k : Int) := by omega
      have hk1 : (k : Int) < (n : Int) + 1 := by omega
      have hc0 : (0 : Int) ≤ (nn.cases.length : Int) := by omega
      have hc1 : (nn.cases.length : Int) ≤ (nn.cases.length : Int) + 1 := by omega
      have hd0 : (0 : Int) ≤ (nn.branches.length : Int) := by omega
      have hd1 : (nn.branches.length : Int) ≤ (nn.branches.length : Int) + 1 := by omega
      have HS8 : Hid (∀ X, Below Y.heap.size Y X → X.cell? ⟨B + 3, 0, none⟩ = some (.slice (some ⟨B + 2, 0, none⟩) (n + 1) (n + 1)) ∧ X.cell? ⟨B + 2, k * 10, none⟩ = some (.int .i64 nn.kind) ∧ X.cell? ⟨B + 2, k * 10 + 1, none⟩ = some (.string nn.id) ∧ X.cell? ⟨B + 2, k * 10 + 2, none⟩ = some (.string nn.name) ∧ X.cell? ⟨B + 2, k * 10 + 3, none⟩ = some (.int .i64 nn.up) ∧ X.cell? ⟨B + 2, k * 10 + 4, none⟩ = some (.int .i64 nn.to) ∧ X.cell? ⟨B + 2, k * 10 + 5, none⟩ = some (.slice (some ⟨cbk, 0, none⟩) nn.cases.length (nn.cases.length + 1)) ∧ X.cell? ⟨B + 2, k * 10 + 6, none⟩ = some (.int .i64 nn.els) ∧ X.cell? ⟨B + 2, k * 10 + 7, none⟩ = some (.slice (some ⟨bbk, 0, none⟩) nn.branches.length (nn.branches.length + 1)) ∧ X.cell? ⟨B + 2, k * 10 + 8, none⟩ = some (.int .i64 nn.after) ∧ X.cell? ⟨B + 2, k * 10 + 9, none⟩ = some (.int .i64 nn.late) ∧ X.cell? ⟨wr.heap.size, 0, none⟩ = some (.int .i64 nn.kind) ∧ X.cell? ⟨wr.heap.size, 1, none⟩ = some (.string nn.id) ∧ X.cell? ⟨wr.heap.size, 2, none⟩ = some (.string nn.name) ∧ X.cell? ⟨wr.heap.size, 3, none⟩ = some (.int .i64 nn.up) ∧ X.cell? ⟨wr.heap.size, 4, none⟩ = some (.int .i64 nn.to) ∧ X.cell? ⟨wr.heap.size, 5, none⟩ = some (.slice rr.ca nn.cases.length rr.cc) ∧ X.cell? ⟨wr.heap.size, 6, none⟩ = some (.int .i64 nn.els) ∧ X.cell? ⟨wr.heap.size, 7, none⟩ = some (.slice rr.ba nn.branches.length rr.bc) ∧ X.cell? ⟨wr.heap.size, 8, none⟩ = some (.int .i64 nn.after) ∧ X.cell? ⟨wr.heap.size, 9, none⟩ = some (.int .i64 nn.late)) := fun X hX => by
        have h1 := HK8.out X hX
        have h2 := HYl.out.below hX
        exact ⟨(HZ.out X hX).1, h1.c0, h1.c1, h1.c2, h1.c3, h1.c4, h1.c5, h1.c6, h1.c7, h1.c8, h1.c9, h2.c0, h2.c1, h2.c2, h2.c3, h2.c4, h2.c5, h2.c6, h2.c7, h2.c8, h2.c9⟩
      have HS9 : Hid (∀ X, Below Y.heap.size Y X → X.cell? ⟨B + 3, 1, none⟩ = some (.slice (some ⟨gc, 0, none⟩) n cc) ∧ X.cell? ⟨gc, k, none⟩ = some (.slice (some ⟨cbk, 0, none⟩) (nn.cases.length + 1) (nn.cases.length + 1)) ∧ X.cell? ⟨wr.heap.size, 5, none⟩ = some (.slice rr.ca nn.cases.length rr.cc)) := fun X hX => ⟨(HZ.out X hX).2.1, (HM9.out X hX).1, (HYl.out.below hX).c5⟩
      have HS10 : Hid (∀ X, Below Y.heap.size Y X → X.cell? ⟨B + 3, 2, none⟩ = some (.slice (some ⟨gi, 0, none⟩) n ci) ∧ X.cell? ⟨gi, k, none⟩ = some (.slice (some ⟨bbk, 0, none⟩) (nn.branches.length + 1) (nn.branches.length + 1)) ∧ X.cell? ⟨wr.heap.size, 7, none⟩ = some (.slice rr.ba nn.branches.length rr.bc)) := fun X hX => ⟨(HZ.out X hX).2.2, (HM10.out X hX).1, (HYl.out.below hX).c7⟩
      have HBX : Hid (Below Y.heap.size Y Y.drew) := below_drewN (Below.refl _ _) 1
      go_region_held3 (fun X => X.cell? ⟨B + 3, 0, none⟩ = some (.slice (some ⟨B + 2, 0, none⟩) (n + 1) (n + 1)) ∧ X.cell? ⟨B + 2, k * 10, none⟩ = some (.int .i64 nn.kind) ∧ X.cell? ⟨B + 2, k * 10 + 1, none⟩ = some (.string nn.id) ∧ X.cell? ⟨B + 2, k * 10 + 2, none⟩ = some (.string nn.name) ∧ X.cell? ⟨B + 2, k * 10 + 3, none⟩ = some (.int .i64 nn.up) ∧ X.cell? ⟨B + 2, k * 10 + 4, none⟩ = some (.int .i64 nn.to) ∧ X.cell? ⟨B + 2, k * 10 + 5, none⟩ = some (.slice (some ⟨cbk, 0, none⟩) nn.cases.length (nn.cases.length + 1)) ∧ X.cell? ⟨B + 2, k * 10 + 6, none⟩ = some (.int .i64 nn.els) ∧ X.cell? ⟨B + 2, k * 10 + 7, none⟩ = some (.slice (some ⟨bbk, 0, none⟩) nn.branches.length (nn.branches.length + 1)) ∧ X.cell? ⟨B + 2, k * 10 + 8, none⟩ = some (.int .i64 nn.after) ∧ X.cell? ⟨B + 2, k * 10 + 9, none⟩ = some (.int .i64 nn.late) ∧ X.cell? ⟨wr.heap.size, 0, none⟩ = some (.int .i64 nn.kind) ∧ X.cell? ⟨wr.heap.size, 1, none⟩ = some (.string nn.id) ∧ X.cell? ⟨wr.heap.size, 2, none⟩ = some (.string nn.name) ∧ X.cell? ⟨wr.heap.size, 3, none⟩ = some (.int .i64 nn.up) ∧ X.cell? ⟨wr.heap.size, 4, none⟩ = some (.int .i64 nn.to) ∧ X.cell? ⟨wr.heap.size, 5, none⟩ = some (.slice rr.ca nn.cases.length rr.cc) ∧ X.cell? ⟨wr.heap.size, 6, none⟩ = some (.int .i64 nn.els) ∧ X.cell? ⟨wr.heap.size, 7, none⟩ = some (.slice rr.ba nn.branches.length rr.bc) ∧ X.cell? ⟨wr.heap.size, 8, none⟩ = some (.int .i64 nn.after) ∧ X.cell? ⟨wr.heap.size, 9, none⟩ = some (.int .i64 nn.late))
        ((first | exact HS8.out _ HBX.out | fail))
        ((first
          | (go_at_call 70; refine (H10.out _ HBX.out).mono ?_; rintro e w8 ⟨rfl, hb⟩; replace HBX : Hid (Below Y.heap.size Y w8) := hb; clear hb)
          | fail))
      all_goals (
        have H8 : Hid (Below Y.heap.size Y w8) := HBX.out
        clear HBX HS8 H10 HK8
        go_upto_region 9 with fail
        have HBX : Hid (Below Y.heap.size Y w8.drew) := below_drewN H8.out 1
        go_region_held3 (fun X => X.cell? ⟨B + 3, 1, none⟩ = some (.slice (some ⟨gc, 0, none⟩) n cc) ∧ X.cell? ⟨gc, k, none⟩ = some (.slice (some ⟨cbk, 0, none⟩) (nn.cases.length + 1) (nn.cases.length + 1)) ∧ X.cell? ⟨wr.heap.size, 5, none⟩ = some (.slice rr.ca nn.cases.length rr.cc))
          ((first | exact HS9.out _ HBX.out | fail))
          ((first
            | (go_at_call 72; refine (H11.out _ HBX.out).mono ?_; rintro e w9 ⟨rfl, hb⟩; replace HBX : Hid (Below Y.heap.size Y w9) := hb; clear hb)
            | fail))
        all_goals (
          have H9 : Hid (Below Y.heap.size Y w9) := HBX.out
          clear HBX HS9 H11
          go_upto_region 10 with fail
          have HBX : Hid (Below Y.heap.size Y w9.drew) := below_drewN H9.out 1
          go_region_held3 (fun X => X.cell? ⟨B + 3, 2, none⟩ = some (.slice (some ⟨gi, 0, none⟩) n ci) ∧ X.cell? ⟨gi, k, none⟩ = some (.slice (some ⟨bbk, 0, none⟩) (nn.branches.length + 1) (nn.branches.length + 1)) ∧ X.cell? ⟨wr.heap.size, 7, none⟩ = some (.slice rr.ba nn.branches.length rr.bc))
            ((first | exact HS10.out _ HBX.out | fail))
            ((first
              | (go_at_call 73; refine (H12.out _ HBX.out).mono ?_; rintro e w10 ⟨rfl, hb⟩; replace HBX : Hid (Below Y.heap.size Y w10) := hb; clear hb)
              | fail))
          all_goals (
            have H10b : Hid (Below Y.heap.size Y w10) := HBX.out
            clear HBX HS10 H12
            go_upto_region 11 with fail
            obtain ⟨z0, z1, z2⟩ := HZ.out w10 H10b.out
            obtain ⟨m1, q1⟩ := HM9.out w10 H10b.out
            obtain ⟨m2, q2⟩ := HM10.out w10 H10b.out
            have y5 := (HYl.out.below H10b.out).c5
            have y7 := (HYl.out.below H10b.out).c7
            simp only [SlV] at y5 y7
            go_quiet (fail)
            go_wp2_with fail
            exact ⟨⟨k + 1, by omega, by go_num, HY1.out _ (below_drewN H10b.out _)⟩, by simp [intOf]; omega⟩)))
    · obtain rfl : k = n := by omega
      go_wp2_with fail
      go_ret
      exact ⟨rfl, HB1.out.trans (HBW.out.mono HB1.out.size)⟩
end Go.Proofs.YtjkpbpgeedihhaaGreatDoor
namespace Go.Proofs.YtjkpbpgeedihhaaGreatDoor
open Go.RowKit
open M FerryM
set_option maxHeartbeats 8000000 in
set_option maxRecDepth 100000 in
theorem models_any (id : ByteArray) (a : Option Addr) (cap : Nat) (ns : List Nod) (rs : Nat → Raw) (w : World) (hm : ModIn w a ns rs) (hr : ∀ i, i < ns.length → RawOk (rs i)) (hid : id.size ≤ maxLen) (hL : Laid w)
    (hN : ns.length * 128 ≤ 140737488351232) (hC : ∀ i, i < ns.length → (nd ns i).cases.length * 32 ≤ 140737488351232) (hB : ∀ i, i < ns.length → (nd ns i).branches.length * 8 ≤ 140737488351232)
    (hvals : ∀ i c, c ∈ (nd ns i).cases → -2147483648 ≤ c.val ∧ c.val ≤ 2147483647) :
    Calls Tryz.prog 5 #[modV id a ns.length cap] w fun e w' => e = .returned (.bool true) ∧ Below w.heap.size w w' := by
  obtain ⟨n, hn⟩ : ∃ n, ns.length = n := ⟨_, rfl⟩
  have HN : Hid (ns.length = n) := hn
  obtain ⟨A, hA⟩ : ∃ A, a = A := ⟨_, rfl⟩
  have HA : Hid (a = A) := hA
  obtain ⟨W1, hW1⟩ : ∃ W1, w.alloc (Obj.cells #[.string id, .slice A n cap] 25) = W1 := ⟨_, rfl⟩
  have HB1 : Hid (Below w.heap.size w W1) := by rw [← hW1]; exact b1 _ _
  have HX : Hid (ModBox W1 w.heap.size id A n cap) := by rw [← hW1]; exact ModBox.new _ _ _ _ _ _
  have HMo : Hid (∀ X, Below W1.heap.size W1 X → ModIn X a ns rs) := fun X hX => (hm.below HB1.out).below hX
  have HLd : Hid (∀ X, Below W1.heap.size W1 X → Laid X) := fun X hX => (hL.below HB1.out).below hX
  have h4 := handed_any id a cap ns rs W1 (hm.below HB1.out) hN hC hB
  obtain ⟨T, hT⟩ : ∃ x, (if (dB (RightP id ns) (Classical.propDecidable _)) then modelT id ns else ⟨#[]⟩) = x := ⟨_, rfl⟩
  obtain ⟨E, hE⟩ : ∃ x : Int, (if (dB (RightP id ns) (Classical.propDecidable _)) then 0 else 3) = x := ⟨_, rfl⟩
  have H5 : Hid (∀ X B vc vi cb bb, Below W1.heap.size W1 X → Handed W1 X B ns vc vi cb bb → Calls Tryz.prog 21 #[.agg #[.string id, .slice (some ⟨B + 2, 0, none⟩) n (n + 1)]] X fun e w' => e = .returned (.tuple #[.string T, .int .i64 E]) ∧ Below X.heap.size X w') := fun X B vc vi cb bb hX hH => by
    have h := ferryWrite_any id (some ⟨B + 2, 0, none⟩) (ns.length + 1) ns (rawH ns cb bb) X (hH.model hm) (fun i _ => rawH_ok i) hid (HLd.out X hX) (by omega) hvals
    rw [hT, hE] at h
    unfold modV at h
    simp only [SlV, Option.map_some] at h
    rw [hn] at h
    exact h
  have H6 : Hid (∀ X B vc vi cb bb, Below W1.heap.size W1 X → B ≤ X.heap.size → Handed W1 X B ns vc vi cb bb → Calls Tryz.prog 22 #[.pointer (some ⟨B + 3, 0, none⟩), .agg #[.string id, .slice A n cap]] X fun e w' => e = .returned (.bool true) ∧ Below X.heap.size X w') := fun X B vc vi cb bb hX hBX hH => by
    have h := still_any id a cap ns rs W1 X B vc vi cb bb hBX (HMo.out X hX) hH
    unfold modV at h
    simp only [SlV] at h
    rw [hA, hn] at h
    exact h
  have H7 : Hid (∀ X, Below W1.heap.size W1 X → Calls Tryz.prog 23 #[.agg #[.string id, .slice A n cap]] X fun e w' => e = .returned (.tuple #[.string T, .int .i64 E]) ∧ Below X.heap.size X w') := fun X hX => by
    have h := refWrite_any id a cap ns rs X (HMo.out X hX) hr hid hvals
    rw [hT, hE] at h
    unfold modV at h
    simp only [SlV] at h
    rw [hA, hn] at h
    exact h
  unfold modV at h4 ⊢
  simp only [SlV, Option.map_some] at h4 ⊢
  rw [hA, hn] at h4 ⊢
  clear hm hr hL hN hC hB hvals hA hn hT hE
  obtain ⟨x0, x1⟩ := HX.out
  go_enter Tryz.func5, Tryz.ntmps5
  go_wp2_with fail
  refine h4.mono ?_
  rintro e w2 ⟨cb, bb, rfl, vc, vi, hH⟩
  have HH : Hid (Handed W1 w2 W1.heap.size ns vc vi cb bb) := hH
  have Hb2 : Hid (Below W1.heap.size W1 w2) := hH.bel
  clear h4 hH x0 x1 hW1
  obtain ⟨W3, hW3⟩ : ∃ W, w2.alloc (Obj.cells #[.string id, .slice (some ⟨W1.heap.size + 2, 0, none⟩) n (n + 1)] 25) = W := ⟨_, rfl⟩
  have HB3 : Hid (Below w2.heap.size w2 W3) := by rw [← hW3]; exact b1 _ _
  have HX3 : Hid (ModBox W3 w2.heap.size id (some ⟨W1.heap.size + 2, 0, none⟩) n (n + 1)) := by rw [← hW3]; exact ModBox.new _ _ _ _ _ _
  have HH3 : Hid (Handed W1 W3 W1.heap.size ns vc vi cb bb) := HH.out.below HB3.out Hb2.out.size
  have Hb3 : Hid (Below W1.heap.size W1 W3) := Hb2.out.trans (HB3.out.mono Hb2.out.size)
  have h5 := H5.out W3 W1.heap.size vc vi cb bb Hb3.out HH3.out
  obtain ⟨y0, y1⟩ := HX3.out
  go_wp2_with fail
  refine h5.mono ?_
  rintro e w4 ⟨rfl, hb4⟩
  have Hb4 : Hid (Below W1.heap.size W1 w4) := Hb3.out.trans (hb4.mono Hb3.out.size)
  have HH4 : Hid (Handed W1 w4 W1.heap.size ns vc vi cb bb) := HH3.out.below hb4 Hb3.out.size
  clear h5 hb4 y0 y1 hW3
  have h6 := H6.out w4 W1.heap.size vc vi cb bb Hb4.out Hb4.out.size HH4.out
  obtain ⟨x0, x1⟩ := HX.out.below Hb4.out
  go_wp2_with fail
  refine h6.mono ?_
  rintro e w5 ⟨rfl, hb5⟩
  have Hb5 : Hid (Below W1.heap.size W1 w5) := Hb4.out.trans (hb5.mono Hb4.out.size)
  clear h6 hb5 x0 x1
  have h7 := H7.out w5 Hb5.out
  obtain ⟨x0, x1⟩ := HX.out.below Hb5.out
  go_wp2_with fail
  refine h7.mono ?_
  rintro e w6 ⟨rfl, hb6⟩
  have Hb6 : Hid (Below w.heap.size w w6) := HB1.out.trans ((Hb5.out.trans (hb6.mono Hb5.out.size)).mono HB1.out.size)
  clear h7 hb6 x0 x1
  have h8 := num_any E w6
  go_wp2_with fail
  refine h8.mono ?_
  rintro e w7 ⟨rfl, rfl⟩
  go_wp2_with fail
  go_ret
  exact ⟨rfl, Hb6.out⟩
end Go.Proofs.YtjkpbpgeedihhaaGreatDoor
