import Derived.Test.YtjkpbpgeedihhaaGreatDoorC15
import Derived.Test.YtjkpbpgeedihhaaGreatDoorC00
import Derived.Deep.OwnRows
import Derived.BigQuiet
set_option linter.all false
namespace Go.Proofs.YtjkpbpgeedihhaaGreatDoor
open Go.RowKit
open M FerryM
theorem Own.ints2 {B : Nat} {w W : World} {v : Value} {l : List Int} (h : Own B w W v l) : ∃ a cap, v = SlV a l.length cap ∧ IntsIn W a l ∧ ∀ b o, a = some ⟨b, o, none⟩ → B ≤ b := by
  rcases h.row with ⟨hlen, ⟨rfl, h0⟩ | ⟨g, cap, cur, rfl, hB, hg, h1, _, hsz, htk⟩⟩
  · exact ⟨none, 0, by rw [h0]; rfl, fun i hi => by omega, fun b o e => by cases e⟩
  · refine ⟨some ⟨g, 0, none⟩, cap, rfl, fun i hi => ⟨g, 0, rfl, ?_⟩, fun b o e => by cases e; exact hB⟩
    have hc := h.row.cells (g := g) rfl i (.int .i64 (l.getD i 0)) (by simp [iv, List.getD, List.getElem?_eq_getElem hi])
    have e : (⟨g, 0, none⟩ : Addr).add i = ⟨g, 0 + i, none⟩ := by unfold Addr.add; split <;> simp_all
    rw [e] at hc
    exact hc
theorem IntsIn.grown {W X : World} {a : Option Addr} {l : List Int} {r B : Nat} (h : IntsIn W a l) (hg : W.grownBy X (some r)) (hB : ∀ b o, a = some ⟨b, o, none⟩ → B ≤ b) (hr : r < B) : IntsIn X a l := by
  intro i hi
  obtain ⟨b, o, e, hc⟩ := h i hi
  refine ⟨b, o, e, ?_⟩
  have hb := hB b o e
  exact (World.cell?_of_block (hg.block b (lt_of_cell hc) (by intro h; cases h; omega))).trans hc
/-- A table of n rows of bools that the call has made: the first m rows. -/
structure Tab (B : Nat) (w0 W : World) (v : Value) (n m : Nat) (bs : Nat → Nat) (L : Nat → Nat → Bool) : Prop where
  row : W.ownsRow B 318 1 v m ((List.range m).map fun i => Value.slice (some ⟨bs i, 0, none⟩) n n)
  blk : ∀ i, i < m → W.rowIs (bs i) 4 n (fun j => .bool (L i j))
  ge : ∀ i, i < m → B ≤ bs i
  inj : ∀ i j, i < m → j < m → bs i = bs j → i = j
  bel : Below B w0 W
  sz : B ≤ W.heap.size
theorem Tab.nil {B : Nat} {w : World} {n : Nat} {L : Nat → Nat → Bool} (h : B ≤ w.heap.size) : Tab B w w (.slice none 0 0) n 0 (fun _ => 0) L :=
  ⟨World.ownsRow_nil _ _ _ _, fun i hi => by omega, fun i hi => by omega, fun i j hi => by omega, Below.refl _ _, h⟩
theorem Tab.below {B : Nat} {w0 W X : World} {v : Value} {n m : Nat} {bs : Nat → Nat} {L : Nat → Nat → Bool} (h : Tab B w0 W v n m bs L) (hb : Below W.heap.size W X) : Tab B w0 X v n m bs L := by
  have hg : W.grownBy X none := ⟨hb.os, hb.tape, hb.output, hb.size, fun k hk _ => hb.block k hk⟩
  refine ⟨h.row.kept hg (by cases v.ownBlock <;> simp), fun i hi => (h.blk i hi).of_block (hb.block _ (h.blk i hi).lt), h.ge, h.inj, h.bel.trans (hb.mono h.sz), Nat.le_trans h.sz hb.size⟩
theorem Tab.other {B : Nat} {w0 W : World} {v : Value} {n m : Nat} {bs : Nat → Nat} {L : Nat → Nat → Bool} (h : Tab B w0 W v n m bs L) {i : Nat} (hi : i < m) : v.ownBlock ≠ some (bs i) := by
  intro e
  rcases h.row with ⟨_, ⟨rfl, h0⟩ | ⟨g, cap, cur, rfl, hB, hg, _⟩⟩
  · cases e
  · simp [Value.ownBlock] at e
    obtain ⟨c, hb, _⟩ := h.blk i hi
    rw [← e, hg] at hb
    simp at hb
theorem Tab.set {B : Nat} {w0 W : World} {v : Value} {n m : Nat} {bs : Nat → Nat} {L : Nat → Nat → Bool} (h : Tab B w0 W v n m bs L) {i j : Nat} (hi : i < m) :
    Tab B w0 (W.setCell ⟨bs i, j, none⟩ (.bool true)) v n m bs (upd L i j) := by
  refine ⟨ownsRow_setCell_other h.row (h.other hi) _, fun a ha => ?_, h.ge, h.inj, h.bel.setCell (h.ge i hi) _, by have := h.sz; simpa [World.setCell] using this⟩
  by_cases e : a = i
  · subst e
    refine ((h.blk a ha).set j (.bool true)).congr fun q hq => ?_
    unfold upd
    by_cases eq : q = j
    · simp [eq]
    · simp [eq]
  · refine ((h.blk a ha).setOther (fun h' => e (h.inj a i ha hi h')) _).congr fun q hq => ?_
    unfold upd
    simp [e]
theorem Tab.drewN {B : Nat} {w0 W : World} {v : Value} {n m : Nat} {bs : Nat → Nat} {L : Nat → Nat → Bool} (h : Tab B w0 W v n m bs L) (d : Nat) : Tab B w0 (W.drewN d) v n m bs L :=
  h.below ⟨rfl, rfl, rfl, Nat.le_refl _, fun _ _ => rfl⟩
theorem Tab.congr {B : Nat} {w0 W : World} {v : Value} {n m : Nat} {bs : Nat → Nat} {L M : Nat → Nat → Bool} (h : Tab B w0 W v n m bs L) (e : ∀ i j, i < m → j < n → L i j = M i j) : Tab B w0 W v n m bs M :=
  ⟨h.row, fun i hi => (h.blk i hi).congr fun j hj => by rw [e i j hi hj], h.ge, h.inj, h.bel, h.sz⟩
theorem Tab.shape {B : Nat} {w0 W : World} {v : Value} {n m : Nat} {bs : Nat → Nat} {L : Nat → Nat → Bool} (h : Tab B w0 W v n m bs L) (hm : 0 < m) : ∃ g cap, v = .slice (some ⟨g, 0, none⟩) m cap := by
  rcases h.row with ⟨_, ⟨_, h0⟩ | ⟨g, cap, cur, e, _⟩⟩
  · omega
  · exact ⟨g, cap, e⟩
theorem Tab.head {B : Nat} {w0 W : World} {g cap : Nat} {n m : Nat} {bs : Nat → Nat} {L : Nat → Nat → Bool} (h : Tab B w0 W (.slice (some ⟨g, 0, none⟩) m cap) n m bs L) {i : Nat} (hi : i < m) :
    W.cell? ⟨g, i, none⟩ = some (.slice (some ⟨bs i, 0, none⟩) n n) := by
  have hc := h.row.cells (g := g) rfl i (.slice (some ⟨bs i, 0, none⟩) n n) (by simp [hi])
  have e : (⟨g, 0, none⟩ : Addr).add i = ⟨g, i, none⟩ := by unfold Addr.add; split <;> simp_all
  rw [e] at hc
  exact hc
/-- One row more: a new block, behind an append. -/
theorem Tab.add {B : Nat} {w0 W X Y : World} {v v' : Value} {n m r N : Nat} {bs : Nat → Nat} {L : Nat → Nat → Bool} {xs : List Value} (h : Tab B w0 W v n m bs L) (hb : Below W.heap.size W X) (hr : r = W.heap.size) (hrow : X.rowIs r 4 n (fun j => .bool (L m j)))
    (hown : Y.ownsRow B 318 1 v' N xs) (hN : N = m + 1) (hxs : xs = ((List.range m).map fun i => Value.slice (some ⟨bs i, 0, none⟩) n n) ++ [.slice (some ⟨r, 0, none⟩) n n]) (hg : X.grownBy Y v.ownBlock) : Tab B w0 Y v' n (m + 1) (fun i => if i = m then r else bs i) L := by
  have hX := h.below hb
  subst hN hxs
  have hlt : ∀ k, v.ownBlock = some k → k < W.heap.size ∧ B ≤ k := fun k e => ⟨(h.row.lt k e).2, (h.row.lt k e).1⟩
  have hge := h.sz
  refine ⟨?_, fun i hi => ?_, fun i hi => ?_, fun i j hi hj e => ?_, hX.bel.grown hg hX.sz (fun k e => (hlt k e).2), Nat.le_trans hX.sz hg.size⟩
  · have e : (List.range (m + 1)).map (fun i => Value.slice (some ⟨if i = m then r else bs i, 0, none⟩) n n) = ((List.range m).map fun i => Value.slice (some ⟨bs i, 0, none⟩) n n) ++ [.slice (some ⟨r, 0, none⟩) n n] := by
      rw [List.range_succ, List.map_append]
      congr 1
      · apply List.map_congr_left
        intro a ha
        have : a ≠ m := by have := List.mem_range.1 ha; omega
        simp [this]
      · simp
    rw [e]; exact hown
  · by_cases e : i = m
    · subst e
      simp only [if_true]
      exact hrow.of_block (hg.block r hrow.lt (fun e => by have := hlt r e.symm; omega))
    · simp only [if_neg e]
      have := hX.blk i (by omega)
      exact this.of_block (hg.block _ this.lt (fun e' => hX.other (i := i) (by omega) e'.symm))
  · by_cases e : i = m
    · simp only [if_pos e]; omega
    · simp only [if_neg e]; exact h.ge i (by omega)
  · have hb' : ∀ k, k < m → bs k < W.heap.size := fun k hk => (h.blk k hk).lt
    by_cases ei : i = m
    · by_cases ej : j = m
      · omega
      · simp only [if_pos ei, if_neg ej] at e
        have := hb' j (by omega); omega
    · by_cases ej : j = m
      · simp only [if_neg ei, if_pos ej] at e
        have := hb' i (by omega); omega
      · simp only [if_neg ei, if_neg ej] at e
        exact h.inj i j (by omega) (by omega) e
theorem Tryz.info4 : (Tryz.prog.info? 4).map (fun i => (i.zero, i.size, i.bytes)) = some (some (.bool false), 1, 1) := by kernel_rfl
theorem Tryz.info318 : (Tryz.prog.info? 318).map (fun i => (i.zero, i.size, i.bytes)) = some (some (.slice none 0 0), 1, 24) := by kernel_rfl
/-- What the table says first: a way from i to j, both of kinds that go on by themselves; by the first q ways out. -/
def edgeQ (ns : List Nod) (i q j : Nat) : Bool := goesB (kdF ns i) && decide ((j : Int) ∈ (timelyL (nd ns i)).take q) && goesB (kdF ns j)
def edgeF (ns : List Nod) (i j : Nat) : Bool := edgeQ ns i (timelyL (nd ns i)).length j
theorem edgeQ_zero (ns : List Nod) (i j : Nat) : edgeQ ns i 0 j = false := by simp [edgeQ]
theorem edgeQ_still {ns : List Nod} {i : Nat} (h : goesB (kdF ns i) = false) (q j : Nat) : edgeQ ns i q j = false := by simp [edgeQ, h]
theorem edgeQ_yes {ns : List Nod} {i q t : Nat} {l : List Int} (hl : timelyL (nd ns i) = l) (hq : q < l.length) (ht : l.getD q 0 = (t : Int)) (h1 : goesB (kdF ns i) = true) (h2 : goesB (kdF ns t) = true) (a : Nat) : edgeQ ns i (q + 1) a = if a = t then true else edgeQ ns i q a := by
  unfold edgeQ
  rw [hl, take_getD_succ 0 l q hq, ht, h1]
  by_cases e : a = t
  · subst e; simp [h2]
  · have : ¬ (a : Int) = t := by omega
    simp [e, this]
theorem edgeQ_no {ns : List Nod} {i q t : Nat} {l : List Int} (hl : timelyL (nd ns i) = l) (hq : q < l.length) (ht : l.getD q 0 = (t : Int)) (h2 : goesB (kdF ns t) = false) (a : Nat) : edgeQ ns i (q + 1) a = edgeQ ns i q a := by
  unfold edgeQ
  rw [hl, take_getD_succ 0 l q hq, ht]
  by_cases e : a = t
  · subst e; simp [h2]
  · have : ¬ (a : Int) = t := by omega
    simp [this]
theorem outL_late (n : Nod) : outL { n with late := -1 } = timelyL n := by simp [outL, timelyL, optL]
theorem timely_way {ns : List Nod} {n i j : Nat} (h : LeadTo ns n) (hi : i < n) (hj : j < (timelyL (nd ns i)).length) : WayOk ns i ((timelyL (nd ns i)).getD j 0) := by
  have := h i hi j (by simp [outL]; omega)
  rw [List.getD_eq_getElem?_getD]
  simpa [outL, List.getElem?_append_left hj] using this
theorem grown_drewN {W X : World} {r : Option Nat} (h : W.grownBy X r) (d : Nat) : W.grownBy (X.drewN d) r := ⟨h.os, h.tape, h.output, h.size, h.block⟩
theorem grown_setCell {W X : World} {r : Nat} (h : W.grownBy X (some r)) (j : Nat) (u : Value) : W.grownBy (X.setCell ⟨r, j, none⟩ u) (some r) :=
  ⟨h.os, h.tape, h.output, by have := h.size; simpa [World.setCell] using this, fun k hk hne => (Below.heap_setCell _ _ _ _ (by intro e; exact hne (by rw [e]))).trans (h.block k hk hne)⟩
theorem slc_c1 (W : World) (s : Value) : ∀ j u, ([s] : List Value)[j]? = some u → (W.alloc (.cells #[s] 318)).cell? ((⟨W.heap.size, 0, none⟩ : Addr).add j) = some u := by
  intro j u hj
  match j, hj with
  | 0, hj => simp at hj; subst hj; simp [Addr.add, go_sem]
theorem slc_c2 (a : Option Addr) (n c : Nat) : ∀ u ∈ ([.slice a n c] : List Value), u.oneCell' = true := by intro u hu; simp at hu; subst hu; rfl
end Go.Proofs.YtjkpbpgeedihhaaGreatDoor
namespace Go.Proofs.YtjkpbpgeedihhaaGreatDoor
open Go.RowKit
open M FerryM
theorem roundB_true {ns : List Nod} {i : Nat} (hi : i < ns.length) (h : wK ns.length ns.length (edgeF ns) i i = true) : true = (dB (∃ i, i < ns.length ∧ wK ns.length ns.length (edgeF ns) i i = true) (Classical.propDecidable _)) := by
  symm; exact (@decide_eq_true_iff _ (Classical.propDecidable _)).2 ⟨i, hi, h⟩
theorem roundB_false {ns : List Nod} (h : ∀ i, i < ns.length → wK ns.length ns.length (edgeF ns) i i = false) : false = (dB (∃ i, i < ns.length ∧ wK ns.length ns.length (edgeF ns) i i = true) (Classical.propDecidable _)) := by
  symm; exact (@decide_eq_false_iff_not _ (Classical.propDecidable _)).2 fun ⟨i, hi, hh⟩ => by rw [h i hi] at hh; cases hh
set_option maxHeartbeats 4000000 in
set_option maxRecDepth 100000 in
theorem round_pos (id : ByteArray) (b o cap : Nat) (ns : List Nod) (rs : Nat → Raw) (w : World) (hm : ModIn w (some ⟨b, o, none⟩) ns rs) (hsh : Short ns rs) (hpos : 0 < ns.length) (h24 : ns.length ≤ 24) (hlead : LeadTo ns ns.length) :
    Calls Tryz.prog 122 #[modV id (some ⟨b, o, none⟩) ns.length cap] w fun e w' => e = .returned (.bool ((dB (∃ i, i < ns.length ∧ wK ns.length ns.length (edgeF ns) i i = true) (Classical.propDecidable _)))) ∧ Below w.heap.size w w' := by
  obtain ⟨n, hn⟩ : ∃ n, ns.length = n := ⟨_, rfl⟩
  have HN : Hid (ns.length = n) := hn
  have HSh : Hid (Short ns rs) := hsh
  have HMo : Hid (ModIn w (some ⟨b, o, none⟩) ns rs) := hm
  have hc : ∀ W, Below w.heap.size w W → ∀ j, j < n → NodCells W b (o + j * 10) (nd ns j) (rs j) ∧ NodIn W (nd ns j) (rs j) := by
    intro W hW j hj
    obtain ⟨b', o', e, h⟩ := (hm.below hW).cells j (by omega)
    cases e; exact ⟨h, (hm.below hW).node j (by omega)⟩
  have HC : Hid (∀ W, Below w.heap.size w W → ∀ j, j < n → NodCells W b (o + j * 10) (nd ns j) (rs j) ∧ NodIn W (nd ns j) (rs j)) := hc
  have HLd : Hid (LeadTo ns n) := by rw [← hn]; exact hlead
  rw [hn] at hpos h24
  unfold modV
  simp only [SlV, hn, Option.map_some]
  clear hc hm hn hsh hlead
  obtain ⟨W1, hW1⟩ : ∃ W1, w.alloc (Obj.cells #[.string id, .slice (some ⟨b, o, none⟩) n cap] 25) = W1 := ⟨_, rfl⟩
  have HB1 : Hid (Below w.heap.size w W1) := by rw [← hW1]; exact b1 _ _
  have hs1 : W1.heap.size = w.heap.size + 1 := by rw [← hW1]; simp
  have HS1 : Hid (W1.heap.size = w.heap.size + 1) := hs1
  clear hs1
  have HX : Hid (∀ W, Below W1.heap.size W1 W → W.cell? ⟨w.heap.size, 1, none⟩ = some (.slice (some ⟨b, o, none⟩) n cap)) := by
    intro W hW
    have e1 := hW.cell (p := ⟨w.heap.size, 1, none⟩) (by show w.heap.size < _; rw [HS1.out]; omega)
    rw [e1, ← hW1]
    simp [go_sem]
  have hx1 := HX.out W1 (Below.refl _ _)
  obtain ⟨i0, hi, hz0, hz1, hz2⟩ := info_parts Tryz.info318
  have hmk := run_make_row' (P := Tryz.prog) 318 4 (.bool false) 1 Tryz.underlying318 Tryz.info4 rfl .i64 .i64 n (by omega) (by omega)
  go_enter Tryz.func122, Tryz.ntmps122
  go_wp2_with fail
  clear hW1 hx1
  go_loopw [4, 5] (fun v i wr => ∃ k : Nat, ∃ bs, k ≤ n ∧ i = .int .i64 k ∧ Tab W1.heap.size W1 wr v n k bs (edgeF ns)) (fun _ i _ => n - (intOf i).toNat)
  case atStart => exact ⟨0, _, by omega, rfl, Tab.nil (Nat.le_refl _)⟩
  case round =>
    obtain ⟨k, bs, hk, rfl, htab⟩ := hrel
    have HTab : Hid (Tab W1.heap.size W1 wr u4 n k bs (edgeF ns)) := htab
    have HBW : Hid (Below W1.heap.size W1 wr) := htab.bel
    have HBw : Hid (Below w.heap.size w wr) := HB1.out.trans (HBW.out.mono (by rw [HS1.out]; omega))
    clear htab
    have hx1 := HX.out wr HBW.out
    obtain ⟨WR, hWR⟩ : ∃ W, W = wr := ⟨_, rfl⟩
    by_cases hlt : k < n
    · obtain ⟨W2, hW2⟩ : ∃ W2, wr.alloc (Obj.cells (madeCells #[.bool false] n) 4) = W2 := ⟨_, rfl⟩
      have HB2 : Hid (Below wr.heap.size wr W2) := by rw [← hW2]; exact b1 _ _
      have HR2 : Hid (W2.rowIs wr.heap.size 4 n (fun _ => .bool false)) := by rw [← hW2]; exact World.rowIs_made _ _ _ _
      have hs2 : W2.heap.size = wr.heap.size + 1 := by rw [← hW2]; simp
      have HS2 : Hid (W2.heap.size = wr.heap.size + 1) := hs2
      clear hs2
      have HB2W : Hid (Below W1.heap.size W1 W2) := HBW.out.trans (HB2.out.mono HBW.out.size)
      have HB2w : Hid (Below w.heap.size w W2) := HBw.out.trans (HB2.out.mono HBw.out.size)
      obtain ⟨hcell, hnode⟩ := HC.out W2 HB2w.out k hlt
      obtain ⟨c0, c1, c2, c3, c4, c5, c6, c7, c8, c9⟩ := hcell
      have HNd : Hid (NodIn W2 (nd ns k) (rs k)) := hnode
      have hx2 := HX.out W2 HB2W.out
      have hkb : (k : Int) < n := by omega
      clear hnode
      simp only [SlV] at c5 c7
      obtain ⟨A5, hA5⟩ : ∃ A, (rs k).ca = A := ⟨_, rfl⟩
      obtain ⟨A7, hA7⟩ : ∃ A, (rs k).ba = A := ⟨_, rfl⟩
      have HA5 : Hid ((rs k).ca = A5) := hA5
      have HA7 : Hid ((rs k).ba = A7) := hA7
      rw [hA5] at c5
      rw [hA7] at c7
      clear hA5 hA7
      obtain ⟨W3, hW3⟩ : ∃ W3, W2.alloc (Obj.cells #[.int .i64 (nd ns k).kind, .string (nd ns k).id, .string (nd ns k).name, .int .i64 (nd ns k).up, .int .i64 (nd ns k).to, .slice A5 (nd ns k).cases.length (rs k).cc, .int .i64 (nd ns k).els, .slice A7 (nd ns k).branches.length (rs k).bc, .int .i64 (nd ns k).after, .int .i64 (-1)] 87) = W3 := ⟨_, rfl⟩
      have HB3 : Hid (Below W2.heap.size W2 W3) := by rw [← hW3]; exact b1 _ _
      have HW3 : Hid (W2.alloc (Obj.cells #[.int .i64 (nd ns k).kind, .string (nd ns k).id, .string (nd ns k).name, .int .i64 (nd ns k).up, .int .i64 (nd ns k).to, .slice A5 (nd ns k).cases.length (rs k).cc, .int .i64 (nd ns k).els, .slice A7 (nd ns k).branches.length (rs k).bc, .int .i64 (nd ns k).after, .int .i64 (-1)] 87) = W3) := hW3
      clear hW3
      have hcall := out_any { nd ns k with late := -1 } (rs k) W3 ⟨(HNd.out.below HB3.out).cs, (HNd.out.below HB3.out).bs, HNd.out.cl, HNd.out.bl⟩ (HSh.out.r k (by rw [HN.out]; exact hlt)) (HSh.out.c k (by rw [HN.out]; exact hlt)) (HSh.out.b k (by rw [HN.out]; exact hlt))
      simp only [nodV, SlV, HA5.out, HA7.out] at hcall
      rw [outL_late] at hcall
      obtain ⟨fr, hfr⟩ : ∃ fr, goesB (nd ns k).kind = fr := ⟨_, rfl⟩
      have HFr : Hid (goesB (nd ns k).kind = fr) := hfr
      clear hfr
      go_wp2_with (go_at_call 204; go_must (refine (goes_any _ _).mono ?_; rintro e w4 ⟨rfl, rfl⟩; rw [HFr.out]))
      rw [HW3.out]
      refine hcall.mono ?_
      rintro e w5 ⟨v, rfl, W4, hb4, hs4, hown⟩
      obtain ⟨a, cp, hv, hints, hba⟩ := hown.ints2
      have HB5' : Hid (Below W2.heap.size W2 w5) := HB3.out.trans ((hb4.mono HB3.out.size).trans (hown.bel.mono (by have := HB3.out.size; omega)))
      have HB5 : Hid (Below wr.heap.size wr w5) := HB2.out.trans (HB5'.out.mono HB2.out.size)
      have HR5 : Hid (w5.rowIs wr.heap.size 4 n (fun _ => .bool false)) := HR2.out.of_block (HB5'.out.block _ (by rw [HS2.out]; omega))
      have HBa : Hid (∀ b o, a = some ⟨b, o, none⟩ → W4.heap.size ≤ b) := hba
      have HI5 : Hid (IntsIn w5 a (timelyL (nd ns k))) := hints
      have HS4 : Hid (wr.heap.size < W4.heap.size) := (by have := HS2.out; have := HB3.out.size; omega : wr.heap.size < W4.heap.size)
      obtain ⟨L, hL⟩ : ∃ L, timelyL (nd ns k) = L := ⟨_, rfl⟩
      have HLL : Hid (timelyL (nd ns k) = L) := hL
      obtain ⟨m, hm⟩ : ∃ m, L.length = m := ⟨_, rfl⟩
      have HM : Hid (L.length = m) := hm
      have hm15 : m ≤ 15 := by
        have := outL_len (HSh.out.c k (by rw [HN.out]; exact hlt)) (HSh.out.b k (by rw [HN.out]; exact hlt))
        have e := HLL.out
        unfold outL at this
        rw [e] at this
        simp at this
        omega
      rw [hL, hm] at hv
      rw [hL] at HI5
      simp only [SlV] at hv
      rw [hv]
      clear hv hown hb4 hs4 hL hm hcall hints hba c0 c1 c2 c3 c4 c5 c6 c7 c8 c9 hx1 hx2 hW2
      go_wp2_with fail
      obtain ⟨r, hr⟩ : ∃ r, wr.heap.size = r := ⟨_, rfl⟩
      have HRr : Hid (wr.heap.size = r) := hr
      rw [hr] at HR5 HS4 HB5
      rw [hr]
      clear hr
      rw [← hWR] at HB5 HTab HRr HBW HBw
      have HWR : Hid (WR = wr) := hWR
      clear hWR
      have HB5W : Hid (Below W1.heap.size W1 w5) := HBW.out.trans (HB5.out.mono (by rw [← HRr.out]; exact HBW.out.size))
      have HB5w : Hid (Below w.heap.size w w5) := HBw.out.trans (HB5.out.mono (by rw [← HRr.out]; exact HBw.out.size))
      have HrB : Hid (W1.heap.size ≤ r) := (by rw [← HRr.out]; exact HBW.out.size : W1.heap.size ≤ r)
      have HGW : Hid (∀ X, w5.grownBy X (some r) → Below W1.heap.size W1 X) := fun X hX => HB5W.out.grown hX HB5W.out.size (fun k e => by cases e; exact HrB.out)
      have HGw : Hid (∀ X, w5.grownBy X (some r) → Below w.heap.size w X) := fun X hX => HB5w.out.grown hX HB5w.out.size (fun k e => by cases e; have := HrB.out; have := HS1.out; omega)
      go_loopw [10] (fun q X => ∃ j : Nat, j ≤ m ∧ q = .int .i64 j ∧ w5.grownBy X (some r) ∧ X.rowIs r 4 n (fun t => .bool (edgeQ ns k j t))) (fun q _ => m - (intOf q).toNat)
      case atStart => exact ⟨0, Nat.zero_le _, rfl, ⟨rfl, rfl, rfl, Nat.le_refl _, fun _ _ _ => rfl⟩, HR5.out.congr fun t _ => by rw [edgeQ_zero]⟩
      case round =>
        obtain ⟨j, hj, rfl, hgX, hrX⟩ := hrel
        have HGX : Hid (w5.grownBy wr (some r)) := hgX
        have HRX : Hid (wr.rowIs r 4 n (fun t => .bool (edgeQ ns k j t))) := hrX
        clear hgX hrX
        cases fr with
        | true =>
          by_cases hjm : j < m
          · obtain ⟨lb, lo, rfl, hcl⟩ := (HI5.out.grown HGX.out HBa.out HS4.out) j (by rw [HM.out]; exact hjm)
            have hjb : (j : Int) < m := by omega
            have hway := timely_way HLd.out hlt (j := j) (by rw [HLL.out, HM.out]; exact hjm)
            rw [HLL.out] at hway
            obtain ⟨t, ht⟩ : ∃ t : Nat, L.getD j 0 = t := ⟨(L.getD j 0).toNat, by have := hway.1; omega⟩
            have HT : Hid (L.getD j 0 = t) := ht
            rw [ht] at hcl hway
            have htn : t < n := by have := hway.2.1; rw [HN.out] at this; omega
            have htb : (t : Int) < n := by omega
            clear ht hway
            obtain ⟨hcell, _⟩ := HC.out wr (HGw.out _ HGX.out) t htn
            have ct := hcell.c0
            have hx1 := HX.out wr (HGW.out _ HGX.out)
            obtain ⟨kt, hkt⟩ : ∃ x, (nd ns t).kind = x := ⟨_, rfl⟩
            have HKt : Hid ((nd ns t).kind = kt) := hkt
            rw [hkt] at ct
            clear hkt hcell
            have hfz := HRX.out.frozen t
            have hct := HRX.out.cell htn
            go_wp2_with fail
            go_quiet (first | (go_at_call 204; exact Calls.quiet_of_same (goes_any _ _)))
            cases hg : goesB kt with
            | true =>
              have HGo : Hid (goesB kt = true) := hg
              go_wp2_with fail
              exact ⟨⟨j + 1, by omega, by go_num, grown_setCell (grown_drewN HGX.out _) _ _, ((HRX.out.of_block (w' := wr.drewN nq) rfl).set t (.bool true)).congr fun a _ => by rw [edgeQ_yes HLL.out (by rw [HM.out]; exact hjm) HT.out HFr.out (by rw [← HGo.out, ← HKt.out]; rfl) a]; split <;> rfl⟩, by simp [intOf]; omega⟩
            | false =>
              have HGo : Hid (goesB kt = false) := hg
              go_wp2_with fail
              exact ⟨⟨j + 1, by omega, by go_num, grown_drewN HGX.out _, (HRX.out.of_block (w' := wr.drewN nq) rfl).congr fun a _ => by rw [edgeQ_no HLL.out (by rw [HM.out]; exact hjm) HT.out (by rw [← HGo.out, ← HKt.out]; rfl) a]⟩, by simp [intOf]; omega⟩
          · obtain rfl : j = m := by omega
            have HRow : Hid (wr.rowIs r 4 n (fun t => .bool (edgeF ns k t))) := HRX.out.congr fun a _ => by unfold edgeF; rw [HLL.out, HM.out]
            have hTX : Tab W1.heap.size W1 wr u4 n k bs (edgeF ns) := HTab.out.below (by rw [HRr.out]; exact HB5.out.grown HGX.out (by rw [← HRr.out]; have := HB5.out.size; omega) (fun k e => by cases e; exact Nat.le_refl _))
            have HBX : Hid (Below r WR wr) := HB5.out.grown HGX.out (by rw [← HRr.out]; have := HB5.out.size; omega) (fun k e => by cases e; exact Nat.le_refl _)
            have hrB := HrB.out
            have hrlt := HRX.out.lt
            have HSk : Hid (r < wr.heap.size ∧ W1.heap.size ≤ r) := ⟨hrlt, hrB⟩
            clear hrB hrlt
            go_wp2_with (at_builtin; go_must (refine wpList_append_own _ rfl (.tmp 63) (.tmp 65) 317 rfl W1.heap.size 318 i0 (.slice none 0 0) 1 24 Tryz.underlying317 hi hz0 hz1 hz2 rfl (by decide) _ _ _ rfl (hTX.row.alloc _) ⟨wr.heap.size, 0, none⟩ 1 1 [.slice (some ⟨r, 0, none⟩) n n] rfl rfl (slc_c1 _ _) (slc_c2 _ _ _) (by unfold maxLen; omega) (by omega) (by have := HSk.out; simp <;> omega) ?_))
            intro v1 w1 hown1 hg1 _
            have HT1 : Hid (Tab W1.heap.size W1 w1 v1 n (k + 1) (fun i => if i = k then r else bs i) (edgeF ns)) := HTab.out.add (by rw [HRr.out]; exact HBX.out.alloc (by have := HSk.out; omega) _) HRr.out.symm (HRow.out.alloc _) hown1 rfl rfl hg1
            clear hown1 hg1 hTX
            go_wp2_with fail
            exact ⟨⟨k + 1, _, by omega, by go_num, HT1.out⟩, by simp [intOf]; omega⟩
        | false =>
          have HRow : Hid (wr.rowIs r 4 n (fun t => .bool (edgeF ns k t))) := HRX.out.congr fun a _ => by unfold edgeF; rw [edgeQ_still HFr.out, edgeQ_still HFr.out]
          have hTX : Tab W1.heap.size W1 wr u4 n k bs (edgeF ns) := HTab.out.below (by rw [HRr.out]; exact HB5.out.grown HGX.out (by rw [← HRr.out]; have := HB5.out.size; omega) (fun k e => by cases e; exact Nat.le_refl _))
          have HBX : Hid (Below r WR wr) := HB5.out.grown HGX.out (by rw [← HRr.out]; have := HB5.out.size; omega) (fun k e => by cases e; exact Nat.le_refl _)
          have hrB := HrB.out
          have hrlt := HRX.out.lt
          have HSk : Hid (r < wr.heap.size ∧ W1.heap.size ≤ r) := ⟨hrlt, hrB⟩
          clear hrB hrlt
          go_wp2_with (at_builtin; go_must (refine wpList_append_own _ rfl (.tmp 63) (.tmp 65) 317 rfl W1.heap.size 318 i0 (.slice none 0 0) 1 24 Tryz.underlying317 hi hz0 hz1 hz2 rfl (by decide) _ _ _ rfl (hTX.row.alloc _) ⟨wr.heap.size, 0, none⟩ 1 1 [.slice (some ⟨r, 0, none⟩) n n] rfl rfl (slc_c1 _ _) (slc_c2 _ _ _) (by unfold maxLen; omega) (by omega) (by have := HSk.out; simp <;> omega) ?_))
          all_goals (
            intro v1 w1 hown1 hg1 _
            have HT1 : Hid (Tab W1.heap.size W1 w1 v1 n (k + 1) (fun i => if i = k then r else bs i) (edgeF ns)) := HTab.out.add (by rw [HRr.out]; exact HBX.out.alloc (by have := HSk.out; omega) _) HRr.out.symm (HRow.out.alloc _) hown1 rfl rfl hg1
            clear hown1 hg1 hTX
            go_wp2_with fail
            exact ⟨⟨k + 1, _, by omega, by go_num, HT1.out⟩, by simp [intOf]; omega⟩)
    · obtain rfl : k = n := by omega
      obtain ⟨g, cp, rfl⟩ := HTab.out.shape hpos
      go_wp2_with fail
      go_loopw [12] (fun q X => ∃ p : Nat, p ≤ k ∧ q = .int .i64 p ∧ Tab W1.heap.size W1 X (.slice (some ⟨g, 0, none⟩) k cp) k k bs (wK k p (edgeF ns))) (fun q _ => k - (intOf q).toNat)
      case atStart => exact ⟨0, Nat.zero_le _, rfl, HTab.out⟩
      case round =>
        obtain ⟨p, hp, rfl, htab⟩ := hrel
        have HT2 : Hid (Tab W1.heap.size W1 wr (.slice (some ⟨g, 0, none⟩) k cp) k k bs (wK k p (edgeF ns))) := htab
        clear htab
        by_cases hpk : p < k
        · have hpb : (p : Int) < k := by omega
          obtain ⟨LK, hLK⟩ : ∃ L, wK k p (edgeF ns) = L := ⟨_, rfl⟩
          have HLK : Hid (wK k p (edgeF ns) = LK) := hLK
          rw [hLK] at HT2
          clear hLK
          go_wp2_with fail
          go_loopw [13] (fun q X => ∃ i : Nat, i ≤ k ∧ q = .int .i64 i ∧ Tab W1.heap.size W1 X (.slice (some ⟨g, 0, none⟩) k cp) k k bs (wI k p i LK)) (fun q _ => k - (intOf q).toNat)
          case atStart => exact ⟨0, Nat.zero_le _, rfl, HT2.out⟩
          case round =>
            obtain ⟨i, hi1, rfl, htab⟩ := hrel
            have HT3 : Hid (Tab W1.heap.size W1 wr (.slice (some ⟨g, 0, none⟩) k cp) k k bs (wI k p i LK)) := htab
            clear htab
            by_cases hik : i < k
            · have hib : (i : Int) < k := by omega
              obtain ⟨LI, hLI⟩ : ∃ L, wI k p i LK = L := ⟨_, rfl⟩
              have HLI : Hid (wI k p i LK = LI) := hLI
              rw [hLI] at HT3
              clear hLI
              go_wp2_with fail
              go_loopw [14] (fun q X => ∃ j : Nat, j ≤ k ∧ q = .int .i64 j ∧ Tab W1.heap.size W1 X (.slice (some ⟨g, 0, none⟩) k cp) k k bs (wJ p i j LI)) (fun q _ => k - (intOf q).toNat)
              case atStart => exact ⟨0, Nat.zero_le _, rfl, HT3.out⟩
              case round =>
                obtain ⟨j, hj1, rfl, htab⟩ := hrel
                have HT4 : Hid (Tab W1.heap.size W1 wr (.slice (some ⟨g, 0, none⟩) k cp) k k bs (wJ p i j LI)) := htab
                clear htab
                by_cases hjk : j < k
                · have hjb : (j : Int) < k := by omega
                  obtain ⟨LJ, hLJ⟩ : ∃ L, wJ p i j LI = L := ⟨_, rfl⟩
                  have HLJ : Hid (wJ p i (j + 1) LI = if LJ i p && LJ p j then upd LJ i j else LJ) := by rw [← hLJ]; exact rfl
                  rw [hLJ] at HT4
                  clear hLJ
                  have r1 := HT4.out.head hik
                  have r2 := HT4.out.head hpk
                  have r3 := (HT4.out.blk i hik).cell hpk
                  have r4 := (HT4.out.blk p hpk).cell hjk
                  have r5 := (HT4.out.blk i hik).cell hjk
                  have r6 := (HT4.out.blk i hik).frozen j
                  go_wp2_with fail
                  all_goals first
                    | (exact ⟨⟨j + 1, by omega, by go_num, by rw [HLJ.out, if_pos (by simp_all)]; exact HT4.out.set hik⟩, by simp [intOf]; omega⟩)
                    | (exact ⟨⟨j + 1, by omega, by go_num, by rw [HLJ.out, if_neg (by simp_all)]; exact HT4.out⟩, by simp [intOf]; omega⟩)
                · obtain rfl : j = k := by omega
                  go_wp2_with fail
                  exact ⟨⟨i + 1, by omega, by go_num, by show Tab _ _ _ _ _ _ _ (wJ p i j (wI j p i LK)); rw [HLI.out]; exact HT4.out⟩, by simp [intOf]; omega⟩
            · obtain rfl : i = k := by omega
              go_wp2_with fail
              exact ⟨⟨p + 1, by omega, by go_num, by show Tab _ _ _ _ _ _ _ (wI i p i (wK i p (edgeF ns))); rw [HLK.out]; exact HT3.out⟩, by simp [intOf]; omega⟩
        · obtain rfl : p = k := by omega
          obtain ⟨LK, hLK⟩ : ∃ L, wK p p (edgeF ns) = L := ⟨_, rfl⟩
          have HLK : Hid (wK p p (edgeF ns) = LK) := hLK
          rw [hLK] at HT2
          clear hLK
          go_wp2_with fail
          go_loop [15] (fun q => ∃ i : Nat, i ≤ p ∧ q = .int .i64 i ∧ ∀ a, a < i → LK a a = false) (fun q => p - (intOf q).toNat)
          case atStart => exact ⟨0, Nat.zero_le _, rfl, fun a ha => by omega⟩
          case round =>
            obtain ⟨i, hi1, rfl, hno⟩ := hrel
            have HNo : Hid (∀ a, a < i → LK a a = false) := hno
            clear hno
            by_cases hip : i < p
            · have hib : (i : Int) < p := by omega
              have r1 := HT2.out.head hip
              have r2 := (HT2.out.blk i hip).cell hip
              cases hv : LK i i with
              | true =>
                rw [hv] at r2
                have HV : Hid (LK i i = true) := hv
                clear hv
                go_wp2_with fail
                go_ret
                exact ⟨ret_bool' (roundB_true (i := i) (by rw [HN.out]; exact hip) (by rw [HN.out, HLK.out]; exact HV.out)), HB1.out.trans (HT2.out.bel.mono (by rw [HS1.out]; omega))⟩
              | false =>
                rw [hv] at r2
                have HV : Hid (LK i i = false) := hv
                clear hv
                go_wp2_with fail
                exact ⟨⟨i + 1, by omega, by go_num, fun a ha => if e : a = i then (by rw [e]; exact HV.out) else HNo.out a (by omega)⟩, by simp [intOf]; omega⟩
            · obtain rfl : i = p := by omega
              go_wp2_with fail
              go_ret
              exact ⟨ret_bool' (roundB_false (fun a ha => by rw [HN.out] at ha ⊢; rw [HLK.out]; exact HNo.out a ha)), HB1.out.trans (HT2.out.bel.mono (by rw [HS1.out]; omega))⟩
end Go.Proofs.YtjkpbpgeedihhaaGreatDoor
namespace Go.Proofs.YtjkpbpgeedihhaaGreatDoor
open Go.RowKit
open M FerryM
set_option maxHeartbeats 4000000 in
set_option maxRecDepth 100000 in
theorem rightUps_zero (id : ByteArray) (a : Option Addr) (cap : Nat) (w : World) :
    Calls Tryz.prog 119 #[.agg #[.string id, .slice a 0 cap]] w fun e w' => e = .returned (.bool true) ∧ Below w.heap.size w w' := by
  go_enter Tryz.func119, Tryz.ntmps119
  go_wp2_with fail
  refine wp_loop_rounds 1 ?_
  rw [rounds_succ]
  go_wp2_with fail
  go_ret
  exact ⟨rfl, b1 _ _⟩
set_option maxHeartbeats 4000000 in
set_option maxRecDepth 100000 in
theorem rightWays_zero (id : ByteArray) (a : Option Addr) (cap : Nat) (w : World) :
    Calls Tryz.prog 120 #[.agg #[.string id, .slice a 0 cap]] w fun e w' => e = .returned (.bool true) ∧ Below w.heap.size w w' := by
  go_enter Tryz.func120, Tryz.ntmps120
  go_wp2_with fail
  refine wp_loop_rounds 1 ?_
  rw [rounds_succ]
  go_wp2_with fail
  refine wp_loop_rounds 1 ?_
  rw [rounds_succ]
  go_wp2_with fail
  go_ret
  exact ⟨rfl, b1 _ _⟩
set_option maxHeartbeats 4000000 in
set_option maxRecDepth 100000 in
theorem rightScopes_zero (id : ByteArray) (a : Option Addr) (cap : Nat) (w : World) :
    Calls Tryz.prog 121 #[.agg #[.string id, .slice a 0 cap]] w fun e w' => e = .returned (.bool false) ∧ Below w.heap.size w w' := by
  go_enter Tryz.func121, Tryz.ntmps121
  go_wp2_with fail
  refine wp_loop_rounds 1 ?_
  rw [rounds_succ]
  go_wp2_with fail
  refine wp_loop_rounds 1 ?_
  rw [rounds_succ]
  go_wp2_with fail
  go_ret
  exact ⟨rfl, b1 _ _⟩
end Go.Proofs.YtjkpbpgeedihhaaGreatDoor
namespace Go.Proofs.YtjkpbpgeedihhaaGreatDoor
open Go.RowKit
open M FerryM
/-- The first k nodes have the fields of their kinds, and ids that differ. -/
def NodesOk (ns : List Nod) (k : Nat) : Prop := ∀ i, i < k → rightNodeB (nd ns i) = true ∧ ∀ j, j < i → (nd ns j).id ≠ (nd ns i).id
structure RightP (id : ByteArray) (ns : List Nod) : Prop where
  id : isIdB id.data.toList = true
  len : ns.length ≤ 24
  nodes : NodesOk ns ns.length
  ups : AskedTo ns ns.length
  lead : LeadTo ns ns.length
  enough : EnoughTo ns ns.length
  scopes : scopesTo ns (ns.length + 1) = true
  calm : (dB (∃ i, i < ns.length ∧ wK ns.length ns.length (edgeF ns) i i = true) (Classical.propDecidable _)) = false
theorem rightB_false {id : ByteArray} {ns : List Nod} (h : ¬ RightP id ns) : false = (dB (RightP id ns) (Classical.propDecidable _)) := ((@decide_eq_false_iff_not _ (Classical.propDecidable _)).2 h).symm
theorem rightB_true {id : ByteArray} {ns : List Nod} (h : RightP id ns) : true = (dB (RightP id ns) (Classical.propDecidable _)) := ((@decide_eq_true_iff _ (Classical.propDecidable _)).2 h).symm
theorem rightB_iff {id : ByteArray} {ns : List Nod} : (dB (RightP id ns) (Classical.propDecidable _)) = true ↔ RightP id ns := @decide_eq_true_iff _ (Classical.propDecidable _)
theorem short_of_nodes {ns : List Nod} {rs : Nat → Raw} (h : NodesOk ns ns.length) (hr : ∀ i, i < ns.length → RawOk (rs i)) : Short ns rs := by
  refine ⟨fun i hi => ?_, fun i hi => ?_, hr⟩
  · have := (h i hi).1
    unfold rightNodeB at this
    split at this
    · cases this
    · rename_i h1
      simp only [not_or, Bool.not_eq_false, rightCasesB, Bool.and_eq_true, decide_eq_true_eq] at h1
      exact h1.2.2.1.2
  · have := (h i hi).1
    unfold rightNodeB at this
    split at this
    · cases this
    · split at this
      · cases this
      · split at this
        · cases this
        · rename_i h1
          omega
set_option maxHeartbeats 4000000 in
set_option maxRecDepth 100000 in
theorem right_no (id : ByteArray) (a : Option Addr) (n cap : Nat) (w : World) (hid : id.size ≤ maxLen) (h : isIdB id.data.toList = false) :
    Calls Tryz.prog 69 #[.agg #[.string id, .slice a n cap]] w fun e w' => e = .returned (.bool false) ∧ Below w.heap.size w w' := by
  have hI := fun W => isId_any id W hid
  rw [h] at hI
  go_enter Tryz.func69, Tryz.ntmps69
  go_wp2_with (go_at_call 111; go_must (refine (hI _).mono ?_; rintro e w4 ⟨rfl, rfl⟩))
  go_ret
  exact ⟨rfl, b1 _ _⟩
set_option maxHeartbeats 4000000 in
set_option maxRecDepth 100000 in
theorem right_many (id : ByteArray) (a : Option Addr) (n cap : Nat) (w : World) (hid : id.size ≤ maxLen) (h : isIdB id.data.toList = true) (hn : 24 < n) :
    Calls Tryz.prog 69 #[.agg #[.string id, .slice a n cap]] w fun e w' => e = .returned (.bool false) ∧ Below w.heap.size w w' := by
  have hI := fun W => isId_any id W hid
  rw [h] at hI
  have hn' : decide (24 < n) = true := by simpa using hn
  go_enter Tryz.func69, Tryz.ntmps69
  go_wp2_with (go_at_call 111; go_must (refine (hI _).mono ?_; rintro e w4 ⟨rfl, rfl⟩))
  go_ret
  exact ⟨rfl, b1 _ _⟩
set_option maxHeartbeats 4000000 in
set_option maxRecDepth 100000 in
theorem right_zero (id : ByteArray) (a : Option Addr) (cap : Nat) (w : World) (hid : id.size ≤ maxLen) (h : isIdB id.data.toList = true) :
    Calls Tryz.prog 69 #[.agg #[.string id, .slice a 0 cap]] w fun e w' => e = .returned (.bool false) ∧ Below w.heap.size w w' := by
  have hI := fun W => isId_any id W hid
  rw [h] at hI
  obtain ⟨W1, hW1⟩ : ∃ W1, w.alloc (Obj.cells #[.string id, .slice a 0 cap] 25) = W1 := ⟨_, rfl⟩
  have HB1 : Hid (Below w.heap.size w W1) := by rw [← hW1]; exact b1 _ _
  have hs1 : W1.heap.size = w.heap.size + 1 := by rw [← hW1]; simp
  have HS1 : Hid (W1.heap.size = w.heap.size + 1) := hs1
  clear hs1
  have HX : Hid (∀ W, Below W1.heap.size W1 W → W.cell? ⟨w.heap.size, 0, none⟩ = some (.string id) ∧ W.cell? ⟨w.heap.size, 1, none⟩ = some (.slice a 0 cap)) := by
    intro W hW
    have e0 := hW.cell (p := ⟨w.heap.size, 0, none⟩) (by show w.heap.size < _; rw [HS1.out]; omega)
    have e1 := hW.cell (p := ⟨w.heap.size, 1, none⟩) (by show w.heap.size < _; rw [HS1.out]; omega)
    rw [e0, e1, ← hW1]
    exact ⟨by simp [go_sem], by simp [go_sem]⟩
  obtain ⟨x0, x1⟩ := HX.out W1 (Below.refl _ _)
  go_enter Tryz.func69, Tryz.ntmps69
  go_wp2_with (go_at_call 111; go_must (refine (hI _).mono ?_; rintro e w4 ⟨rfl, h4⟩; rw [h4]; clear h4))
  clear hW1
  refine wp_loop_rounds 1 ?_
  rw [rounds_succ]
  go_wp2_with fail
  refine (rightUps_zero id a cap W1).mono ?_
  rintro e w2 ⟨rfl, hb2⟩
  obtain ⟨x20, x21⟩ := HX.out w2 hb2
  have HB2 : Hid (Below W1.heap.size W1 w2) := hb2
  clear hb2
  go_wp2_with fail
  refine (rightWays_zero id a cap w2).mono ?_
  rintro e w3 ⟨rfl, hb3⟩
  have HB3 : Hid (Below W1.heap.size W1 w3) := HB2.out.trans (hb3.mono HB2.out.size)
  obtain ⟨x30, x31⟩ := HX.out w3 HB3.out
  clear hb3
  go_wp2_with fail
  refine (rightScopes_zero id a cap w3).mono ?_
  rintro e w4 ⟨rfl, hb4⟩
  have HB4 : Hid (Below W1.heap.size W1 w4) := HB3.out.trans (hb4.mono HB3.out.size)
  clear hb4
  go_wp2_with fail
  go_ret
  exact ⟨rfl, HB1.out.trans (HB4.out.mono HB1.out.size)⟩
end Go.Proofs.YtjkpbpgeedihhaaGreatDoor
namespace Go.Proofs.YtjkpbpgeedihhaaGreatDoor
open Go.RowKit
open M FerryM
set_option maxHeartbeats 4000000 in
set_option maxRecDepth 100000 in
theorem right_pos (id : ByteArray) (b o cap : Nat) (ns : List Nod) (rs : Nat → Raw) (w : World) (hm : ModIn w (some ⟨b, o, none⟩) ns rs) (hr : ∀ i, i < ns.length → RawOk (rs i)) (hid : id.size ≤ maxLen) (h : isIdB id.data.toList = true) (hpos : 0 < ns.length) (h24 : ns.length ≤ 24) :
    Calls Tryz.prog 69 #[modV id (some ⟨b, o, none⟩) ns.length cap] w fun e w' => e = .returned (.bool ((dB (RightP id ns) (Classical.propDecidable _)))) ∧ Below w.heap.size w w' := by
  have hI := fun W => isId_any id W hid
  rw [h] at hI
  have HId : Hid (isIdB id.data.toList = true) := h
  obtain ⟨n, hn⟩ : ∃ n, ns.length = n := ⟨_, rfl⟩
  have HN : Hid (ns.length = n) := hn
  have HMo : Hid (ModIn w (some ⟨b, o, none⟩) ns rs) := hm
  have HRaw : Hid (∀ i, i < ns.length → RawOk (rs i)) := hr
  have hc : ∀ W, Below w.heap.size w W → ∀ j, j < n → NodCells W b (o + j * 10) (nd ns j) (rs j) ∧ NodIn W (nd ns j) (rs j) := by
    intro W hW j hj
    obtain ⟨b', o', e, h⟩ := (hm.below hW).cells j (by omega)
    cases e; exact ⟨h, (hm.below hW).node j (by omega)⟩
  have HC : Hid (∀ W, Below w.heap.size w W → ∀ j, j < n → NodCells W b (o + j * 10) (nd ns j) (rs j) ∧ NodIn W (nd ns j) (rs j)) := hc
  have HSz : Hid (∀ j, j < n → NodSz (nd ns j)) := fun j hj => hm.sz j (by omega)
  rw [hn] at hpos h24
  unfold modV
  simp only [SlV, hn, Option.map_some]
  clear hc hm hn hr h
  have hd : decide (24 < n) = false := by rw [decide_eq_false_iff_not]; omega
  obtain ⟨W1, hW1⟩ : ∃ W1, w.alloc (Obj.cells #[.string id, .slice (some ⟨b, o, none⟩) n cap] 25) = W1 := ⟨_, rfl⟩
  have HB1 : Hid (Below w.heap.size w W1) := by rw [← hW1]; exact b1 _ _
  have hs1 : W1.heap.size = w.heap.size + 1 := by rw [← hW1]; simp
  have HS1 : Hid (W1.heap.size = w.heap.size + 1) := hs1
  clear hs1
  have HX : Hid (∀ W, Below W1.heap.size W1 W → W.cell? ⟨w.heap.size, 0, none⟩ = some (.string id) ∧ W.cell? ⟨w.heap.size, 1, none⟩ = some (.slice (some ⟨b, o, none⟩) n cap)) := by
    intro W hW
    have e0 := hW.cell (p := ⟨w.heap.size, 0, none⟩) (by show w.heap.size < _; rw [HS1.out]; omega)
    have e1 := hW.cell (p := ⟨w.heap.size, 1, none⟩) (by show w.heap.size < _; rw [HS1.out]; omega)
    rw [e0, e1, ← hW1]
    exact ⟨by simp [go_sem], by simp [go_sem]⟩
  obtain ⟨x0, x1⟩ := HX.out W1 (Below.refl _ _)
  go_enter Tryz.func69, Tryz.ntmps69
  go_wp2_with (go_at_call 111; go_must (refine (hI _).mono ?_; rintro e w4 ⟨rfl, h4⟩; rw [h4]; clear h4))
  clear hW1 hd x0 x1 hI
  go_loopw [4] (fun i wr => ∃ k : Nat, k ≤ n ∧ i = .int .i64 k ∧ Below W1.heap.size W1 wr ∧ NodesOk ns k) (fun i _ => n - (intOf i).toNat)
  case atStart => exact ⟨0, by omega, rfl, Below.refl _ _, fun i hi => by omega⟩
  case round =>
    obtain ⟨k, hk, rfl, hbw, hok⟩ := hrel
    have HOk : Hid (NodesOk ns k) := hok
    have HBW : Hid (Below W1.heap.size W1 wr) := hbw
    have HBw : Hid (Below w.heap.size w wr) := HB1.out.trans (hbw.mono (by rw [HS1.out]; omega))
    clear hbw hok
    obtain ⟨hx0, hx1⟩ := HX.out wr HBW.out
    by_cases hlt : k < n
    · obtain ⟨hcell, hnode⟩ := HC.out wr HBw.out k hlt
      obtain ⟨c0, c1, c2, c3, c4, c5, c6, c7, c8, c9⟩ := hcell
      have hkb : (k : Int) < n := by omega
      have hcall := rightNode_any (nd ns k) (rs k) wr hnode (HSz.out k hlt)
      obtain ⟨ok, hok⟩ : ∃ x, rightNodeB (nd ns k) = x := ⟨_, rfl⟩
      have HRn : Hid (rightNodeB (nd ns k) = ok) := hok
      rw [hok] at hcall
      clear hok hnode
      go_wp2_with fail
      refine hcall.mono ?_
      rintro e w3 ⟨rfl, hb3⟩
      have HB3 : Hid (Below W1.heap.size W1 w3) := HBW.out.trans (hb3.mono HBW.out.size)
      have HB3w : Hid (Below w.heap.size w w3) := HBw.out.trans (hb3.mono HBw.out.size)
      obtain ⟨hx30, hx31⟩ := HX.out w3 HB3.out
      clear hcall hb3 c0 c1 c2 c3 c4 c5 c6 c7 c8 c9 hx0 hx1
      cases ok with
      | false =>
        go_wp2_with fail
        go_ret
        exact ⟨ret_bool' (rightB_false fun h => by have := (h.nodes k (by rw [HN.out]; exact hlt)).1; rw [HRn.out] at this; cases this), HB3w.out⟩
      | true =>
        go_wp2_with fail
        go_loopw [6] (fun q wr => ∃ j d : Nat, j ≤ k ∧ q = .int .i64 j ∧ wr = w3.drewN d ∧ ∀ i, i < j → (nd ns i).id ≠ (nd ns k).id) (fun q _ => k - (intOf q).toNat)
        case atStart => exact ⟨0, 0, Nat.zero_le _, rfl, rfl, fun j hj => by omega⟩
        case round =>
          obtain ⟨j, d, hj, rfl, rfl, hne⟩ := hrel
          have HNe : Hid (∀ i, i < j → (nd ns i).id ≠ (nd ns k).id) := hne
          clear hne
          by_cases hjk : j < k
          · have hjb : (j : Int) < k := by omega
            have hjn : (j : Int) < n := by omega
            have k1 := (HC.out w3 HB3w.out k hlt).1.c1
            have j1 := (HC.out w3 HB3w.out j (by omega)).1.c1
            go_wp2_with fail
            go_quiet (fail)
            go_wp2_with fail
            · rename_i h
              go_ret
              exact ⟨ret_bool' (rightB_false fun hh => (hh.nodes k (by rw [HN.out]; exact hlt)).2 j hjk (bytes_inj (by simpa using h))), below_drewN (below_drewN HB3w.out _) _⟩
            · rename_i h
              exact ⟨⟨j + 1, d + nq, by omega, by go_num, rfl, fun i hi => if e : i = j then (by subst e; intro he; rw [he] at h; simp at h) else HNe.out i (by omega)⟩, by simp [intOf]; omega⟩
          · obtain rfl : j = k := by omega
            have HNx : Hid (NodesOk ns (j + 1)) := fun i hi => if e : i = j then (by subst e; exact ⟨HRn.out, HNe.out⟩) else HOk.out i (by omega)
            go_wp2_with fail
            exact ⟨⟨j + 1, by omega, by go_num, below_drewN HB3.out _, HNx.out⟩, by simp [intOf]; omega⟩
    · obtain rfl : k = n := by omega
      have hsh : Short ns rs := short_of_nodes (by rw [HN.out]; exact HOk.out) HRaw.out
      have HSh : Hid (Short ns rs) := hsh
      clear hsh
      have HAt : Hid (∀ W, Below w.heap.size w W → ModIn W (some ⟨b, o, none⟩) ns rs) := fun W hW => HMo.out.below hW
      have h24c := rightUps_pos id b o cap ns rs wr (HAt.out wr HBw.out) (by rw [HN.out]; exact hpos)
      unfold modV at h24c
      simp only [SlV, HN.out, Option.map_some] at h24c
      obtain ⟨r1, hr1⟩ : ∃ x, (dB (AskedTo ns ns.length) (Classical.propDecidable _)) = x := ⟨_, rfl⟩
      have HR1 : Hid ((dB (AskedTo ns ns.length) (Classical.propDecidable _)) = r1) := hr1
      rw [hr1] at h24c
      clear hr1
      go_wp2_with fail
      refine h24c.mono ?_
      rintro e w2 ⟨rfl, hb2⟩
      have HB2 : Hid (Below W1.heap.size W1 w2) := HBW.out.trans (hb2.mono HBW.out.size)
      have HB2w : Hid (Below w.heap.size w w2) := HBw.out.trans (hb2.mono HBw.out.size)
      obtain ⟨y0, y1⟩ := HX.out w2 HB2.out
      clear h24c hb2 hx0 hx1
      cases r1 with
      | false =>
        go_wp2_with fail
        go_ret
        exact ⟨ret_bool' (rightB_false fun h => by have := upsB_true h.ups; rw [HR1.out] at this; cases this), HB2w.out⟩
      | true =>
        have HUps : Hid (AskedTo ns ns.length) := (@decide_eq_true_iff _ (Classical.propDecidable _)).1 HR1.out
        have h25c := rightWays_pos id b o cap ns rs w2 (HAt.out w2 HB2w.out) HSh.out (by rw [HN.out]; exact hpos) (by rw [HN.out]; exact h24)
        unfold modV at h25c
        simp only [SlV, HN.out, Option.map_some] at h25c
        obtain ⟨r2, hr2⟩ : ∃ x, (dB (LeadTo ns ns.length ∧ EnoughTo ns ns.length) (Classical.propDecidable _)) = x := ⟨_, rfl⟩
        have HR2 : Hid ((dB (LeadTo ns ns.length ∧ EnoughTo ns ns.length) (Classical.propDecidable _)) = r2) := hr2
        rw [hr2] at h25c
        clear hr2
        go_wp2_with fail
        refine h25c.mono ?_
        rintro e w3 ⟨rfl, hb3⟩
        have HB3 : Hid (Below W1.heap.size W1 w3) := HB2.out.trans (hb3.mono HB2.out.size)
        have HB3w : Hid (Below w.heap.size w w3) := HB2w.out.trans (hb3.mono HB2w.out.size)
        obtain ⟨z0, z1⟩ := HX.out w3 HB3.out
        clear h25c hb3 y0 y1
        cases r2 with
        | false =>
          go_wp2_with fail
          go_ret
          exact ⟨ret_bool' (rightB_false fun h => by have := rwB_true h.lead h.enough; rw [HR2.out] at this; cases this), HB3w.out⟩
        | true =>
          have HWays : Hid (LeadTo ns ns.length ∧ EnoughTo ns ns.length) := (@decide_eq_true_iff _ (Classical.propDecidable _)).1 HR2.out
          have h26c := rightScopes_pos id b o cap ns rs w3 (HAt.out w3 HB3w.out) (by rw [HN.out]; exact hpos)
          unfold modV at h26c
          rw [HN.out] at h26c
          simp only [SlV, Option.map_some] at h26c
          obtain ⟨r3, hr3⟩ : ∃ x, scopesTo ns (k + 1) = x := ⟨_, rfl⟩
          have HR3 : Hid (scopesTo ns (ns.length + 1) = r3) := by rw [HN.out]; exact hr3
          rw [hr3] at h26c
          clear hr3
          go_wp2_with fail
          refine h26c.mono ?_
          rintro e w5 ⟨rfl, hb5⟩
          have HB5 : Hid (Below W1.heap.size W1 w5) := HB3.out.trans (hb5.mono HB3.out.size)
          have HB5w : Hid (Below w.heap.size w w5) := HB3w.out.trans (hb5.mono HB3w.out.size)
          obtain ⟨v0, v1⟩ := HX.out w5 HB5.out
          clear h26c hb5 z0 z1
          cases r3 with
          | false =>
            go_wp2_with fail
            go_ret
            exact ⟨ret_bool' (rightB_false fun h => by have := h.scopes; rw [HR3.out] at this; cases this), HB5w.out⟩
          | true =>
            have h27c := round_pos id b o cap ns rs w5 (HAt.out w5 HB5w.out) HSh.out (by rw [HN.out]; exact hpos) (by rw [HN.out]; exact h24) HWays.out.1
            unfold modV at h27c
            simp only [SlV, HN.out, Option.map_some] at h27c
            obtain ⟨r4, hr4⟩ : ∃ x, (dB (∃ i, i < ns.length ∧ wK ns.length ns.length (edgeF ns) i i = true) (Classical.propDecidable _)) = x := ⟨_, rfl⟩
            have HR4 : Hid ((dB (∃ i, i < ns.length ∧ wK ns.length ns.length (edgeF ns) i i = true) (Classical.propDecidable _)) = r4) := hr4
            rw [hr4] at h27c
            clear hr4
            go_wp2_with fail
            refine h27c.mono ?_
            rintro e w6 ⟨rfl, hb6⟩
            have HB6w : Hid (Below w.heap.size w w6) := HB5w.out.trans (hb6.mono HB5w.out.size)
            clear h27c hb6 v0 v1
            go_wp2_with fail
            go_ret
            cases r4 with
            | false => exact ⟨ret_bool' (rightB_true ⟨HId.out, by rw [HN.out]; exact h24, by rw [HN.out]; exact HOk.out, HUps.out, HWays.out.1, HWays.out.2, HR3.out, HR4.out⟩), HB6w.out⟩
            | true => exact ⟨ret_bool' (rightB_false fun h => by have := h.calm; rw [HR4.out] at this; cases this), HB6w.out⟩
theorem scopes_nil : scopesTo [] 1 = false := by decide
/-- WHAT THE DOCUMENT's ANSWER ASKS OF A MODEL. -/
theorem right_any (id : ByteArray) (a : Option Addr) (cap : Nat) (ns : List Nod) (rs : Nat → Raw) (w : World) (hm : ModIn w a ns rs) (hr : ∀ i, i < ns.length → RawOk (rs i)) (hid : id.size ≤ maxLen) :
    Calls Tryz.prog 69 #[modV id a ns.length cap] w fun e w' => e = .returned (.bool ((dB (RightP id ns) (Classical.propDecidable _)))) ∧ Below w.heap.size w w' := by
  cases h : isIdB id.data.toList with
  | false =>
    have e := rightB_false (id := id) (ns := ns) (fun hh => by rw [hh.id] at h; cases h)
    rw [← e]
    exact right_no id _ _ cap w hid h
  | true =>
    by_cases h24 : ns.length ≤ 24
    · by_cases h0 : ns.length = 0
      · have e := rightB_false (id := id) (ns := ns) (fun hh => by have := hh.scopes; rw [List.eq_nil_of_length_eq_zero h0] at this; simp only [List.length_nil, Nat.zero_add] at this; rw [scopes_nil] at this; cases this)
        rw [← e, h0]
        exact right_zero id _ cap w hid h
      · obtain ⟨b, o, rfl, _⟩ := hm.cells 0 (by omega)
        exact right_pos id b o cap ns rs w hm hr hid h (by omega) h24
    · have e := rightB_false (id := id) (ns := ns) (fun hh => h24 hh.len)
      rw [← e]
      exact right_many id _ _ cap w hid h (by omega)
end Go.Proofs.YtjkpbpgeedihhaaGreatDoor
namespace Go.Proofs.YtjkpbpgeedihhaaGreatDoor
open Go.RowKit
open M FerryM
/-- A world below whose first blocks nothing has turned. -/
structure BW (w : World) where
  val : World
  bel : Below w.heap.size w val
/-- A region that draws its order, whose callees may make memory of their own: one walk of the text's order. -/
theorem wp_region_below {P : Program} {id : Nat} {Q : Exit → Act → World → Prop} {a : Act} {w : World} {l : List Oper} (hm : P.follows .mixedOrders = true) (hB : Region.lexB .any l.toArray = true)
    (h : wpQuiet P l.toArray (fun w' => ∃ y : BW w, w' = y.val) (fun a' => ∀ w', (∃ y : BW w, w' = y.val) → Q .normal a' w') l a) : (Code.region id l.toArray true).wp P Q a w :=
  wp_region_quiet (C := fun w' => ∃ y : BW w, w' = y.val) hm hB ⟨⟨w.drewN 1, below_drewN (Below.refl _ _) 1⟩, rfl⟩ (by simpa using h)
theorem Calls.bw {P : Program} {f : FuncId} {args : Array Value} {w : World} {v : Value} (y : BW w)
    (h : Calls P f args y.val fun e w' => e = .returned v ∧ Below y.val.heap.size y.val w') : Calls P f args y.val fun e w'' => e = .returned v ∧ ∃ z : BW w, w'' = z.val :=
  h.mono fun _ w' ⟨he, hb⟩ => ⟨he, ⟨w', y.bel.trans (hb.mono y.bel.size)⟩, rfl⟩
def nmS (k : Int) : ByteArray :=
  if k = 1 then ⟨#[115, 116, 97, 114, 116]⟩ else if k = 2 then ⟨#[116, 97, 115, 107]⟩ else if k = 3 then ⟨#[99, 104, 111, 105, 99, 101]⟩ else if k = 4 then ⟨#[102, 111, 114, 107]⟩ else if k = 5 then ⟨#[106, 111, 105, 110]⟩ else if k = 6 then ⟨#[115, 117, 98]⟩ else ⟨#[101, 110, 100]⟩
/-- The opening tag, up to its end. -/
def headT (ns : List Nod) (n : Nod) : ByteArray :=
  let h0 := (⟨#[60]⟩ ++ nmS n.kind) ++ qT ⟨#[105, 100]⟩ n.id
  let h1 := if n.to = -1 then h0 else h0 ++ leadsT ns n.to.toNat
  if n.name.toList = [] then h1 else h1 ++ qT ⟨#[110, 97, 109, 101]⟩ n.name
def casesT (ns : List Nod) (l : List Cas) : Nat → ByteArray
  | 0 => ⟨#[]⟩
  | k + 1 => casesT ns l k ++ caseT ns (l.getD k Cas.zero)
def elseT (ns : List Nod) (n : Nod) (c : ByteArray) : ByteArray := if n.els = -1 then c else ((c ++ ⟨#[60, 101, 108, 115, 101]⟩) ++ leadsT ns n.els.toNat) ++ ⟨#[47, 62]⟩
def brT (ns : List Nod) (l : List Int) (c : ByteArray) : Nat → ByteArray
  | 0 => c
  | k + 1 => ((brT ns l c k ++ ⟨#[60, 98, 114, 97, 110, 99, 104]⟩) ++ leadsT ns (l.getD k 0).toNat) ++ ⟨#[47, 62]⟩
/-- What stands within a node that is no sub. -/
def innerT (ns : List Nod) (n : Nod) : ByteArray := brT ns n.branches (elseT ns n (casesT ns n.cases n.cases.length)) n.branches.length
def shutT (ns : List Nod) (n : Nod) (inn : ByteArray) : ByteArray :=
  if inn.toList = [] then (headT ns n ++ ⟨#[47, 62]⟩) ++ timerT ns n else (((((headT ns n ++ ⟨#[62]⟩) ++ inn) ++ ⟨#[60, 47]⟩) ++ nmS n.kind) ++ ⟨#[62]⟩) ++ timerT ns n
/-- A node with its timer; what stands within a sub is given. -/
def nodeT (ns : List Nod) (inF : Nat → ByteArray) (i : Nat) : ByteArray := shutT ns (nd ns i) (if (nd ns i).kind = 6 then inF i else innerT ns (nd ns i))
/-- What is known of a right model's nodes. -/
structure Goods (ns : List Nod) : Prop where
  len : ns.length ≤ 24
  nodes : NodesOk ns ns.length
  lead : LeadTo ns ns.length
  vals : ∀ i c, c ∈ (nd ns i).cases → -2147483648 ≤ c.val ∧ c.val ≤ 2147483647
/-- What is known of one node. -/
structure NodeOk (ns : List Nod) (n : Nod) : Prop where
  id : n.id.size ≤ 40
  name : n.name.size ≤ 40
  kind : 1 ≤ n.kind ∧ n.kind ≤ 7
  to : toB n.kind = true → n.to ≠ -1
  noto : toB n.kind = false → n.to = -1
  els : n.kind = 3 → n.els ≠ -1
  noels : n.kind ≠ 3 → n.els = -1
  nocas : n.kind ≠ 3 → n.cases = []
  noname : n.kind ≠ 2 → n.name.toList = []
  nobr : n.kind ≠ 4 → n.branches = []
  br : n.branches.length ≤ 6
  cas : n.cases.length ≤ 6
  casok : ∀ c, c ∈ n.cases → casOk c = true
  aft : 0 ≤ n.after ∧ n.after ≤ 1000
  late : n.after ≠ 0 → n.late ≠ -1
theorem nodeOk_of {ns : List Nod} {n : Nod} (h : rightNodeB n = true) : NodeOk ns n := by
  unfold rightNodeB at h
  split at h
  · cases h
  rename_i h1
  split at h
  · cases h
  rename_i h2
  split at h
  · cases h
  rename_i h3
  simp only [not_or, Bool.not_eq_false] at h1 h2 h3
  obtain ⟨a1, a2, a3, a4, a5⟩ := h1
  obtain ⟨b1, b2, b3, b4⟩ := h2
  obtain ⟨c1, c2⟩ := h3
  have hc : (n.cases.all casOk = true) ∧ n.cases.length ≤ 6 := by simpa [rightCasesB] using a3
  have hid : n.id.size ≤ 40 := by
    simp only [isIdB, Bool.and_eq_true, decide_eq_true_eq] at a1
    have : n.id.data.toList.length = n.id.size := rfl
    omega
  have hname : n.name.size ≤ 40 := by
    simp only [rightNameB, Bool.and_eq_true, decide_eq_true_eq] at a2
    exact a2.2.2
  refine ⟨hid, hname, by omega, fun e => ?_, fun e => ?_, fun e => ?_, fun e => ?_, fun e => ?_, fun e => ?_, fun e => ?_, ?_, hc.2, ?_, ?_, ?_⟩
  · intro e2; rw [e] at b1; simp [e2] at b1
  · rw [e] at b1; simpa using b1
  · intro e2; simp [e, e2] at b2
  · simpa [e] using b2
  · exact List.eq_nil_of_length_eq_zero (by omega)
  · exact Classical.byContradiction fun hh => b4 ⟨e, hh⟩
  · exact List.eq_nil_of_length_eq_zero (by omega)
  · omega
  · exact List.all_eq_true.1 hc.1
  · split at h
    · omega
    · simp only [Bool.and_eq_true, decide_eq_true_eq] at h; omega
  · intro e
    rw [if_neg e] at h
    simp only [Bool.and_eq_true, decide_eq_true_eq] at h
    exact h.2.2.2
end Go.Proofs.YtjkpbpgeedihhaaGreatDoor
namespace Go.Proofs.YtjkpbpgeedihhaaGreatDoor
open Go.RowKit
open M FerryM
structure NodCells' (w : World) (b : Nat) (K : Int) (id name : ByteArray) (up to : Int) (A5 : Option Addr) (nc cc : Nat) (els : Int) (A7 : Option Addr) (nb bc : Nat) (after late : Int) : Prop where
  c0 : w.cell? ⟨b, 0, none⟩ = some (.int .i64 K)
  c1 : w.cell? ⟨b, 1, none⟩ = some (.string id)
  c2 : w.cell? ⟨b, 2, none⟩ = some (.string name)
  c3 : w.cell? ⟨b, 3, none⟩ = some (.int .i64 up)
  c4 : w.cell? ⟨b, 4, none⟩ = some (.int .i64 to)
  c5 : w.cell? ⟨b, 5, none⟩ = some (.slice A5 nc cc)
  c6 : w.cell? ⟨b, 6, none⟩ = some (.int .i64 els)
  c7 : w.cell? ⟨b, 7, none⟩ = some (.slice A7 nb bc)
  c8 : w.cell? ⟨b, 8, none⟩ = some (.int .i64 after)
  c9 : w.cell? ⟨b, 9, none⟩ = some (.int .i64 late)
theorem cell_alloc_lt (w : World) (o : Obj) (p : Addr) (h : p.block < w.heap.size) : (w.alloc o).cell? p = w.cell? p := World.cell?_of_block (Below.heap_alloc w o _ h)
theorem late_way {ns : List Nod} (h : Goods ns) {i : Nat} (hi : i < ns.length) (hl : (nd ns i).late ≠ -1) : 0 ≤ (nd ns i).late ∧ (nd ns i).late < ns.length := by
  have := h.lead i hi (timelyL (nd ns i)).length (by simp [outL, optL, hl])
  simp [outL, optL, hl] at this
  exact ⟨this.1, this.2.1⟩
theorem to_way {ns : List Nod} (h : Goods ns) {i : Nat} (hi : i < ns.length) (hl : (nd ns i).to ≠ -1) : 0 ≤ (nd ns i).to ∧ (nd ns i).to < ns.length := by
  have := h.lead i hi 0 (by simp [outL, timelyL, optL, hl])
  simp [outL, timelyL, optL, hl] at this
  exact ⟨this.1, this.2.1⟩
theorem timer_sz {ns : List Nod} {n : Nod} (h : NodeOk ns n) (hids : ∀ j, (nd ns j).id.size ≤ 40) : (timerT ns n).size ≤ 1000 := by
  unfold timerT
  split
  · decide
  · have h1 := qT_size ⟨#[111, 110]⟩ n.id (by decide) h.id
    have hd : (mkS (Lib.itoa n.after)).size ≤ 13 := by rw [mkS_size]; exact itoa_len _ (by have := h.aft; omega) (by have := h.aft; omega)
    have h2 := qT_size ⟨#[97, 102, 116, 101, 114]⟩ (mkS (Lib.itoa n.after)) (by decide) (by omega)
    have h3 := leads_sz (ns := ns) (j := n.late.toNat) (hids _)
    have e1 : (⟨#[60, 116, 105, 109, 101, 114]⟩ : ByteArray).size = 6 := rfl
    have e2 : (⟨#[47, 62]⟩ : ByteArray).size = 2 := rfl
    simp only [ByteArray.size_append]
    omega
set_option maxHeartbeats 4000000 in
set_option maxRecDepth 100000 in
theorem nodeText_k1 (id : ByteArray) (b o cap : Nat) (ns : List Nod) (rs : Nat → Raw) (i : Nat) (inF : Nat → ByteArray) (w : World) (hm : ModIn w (some ⟨b, o, none⟩) ns rs) (hg : Goods ns) (hi : i < ns.length) (hk : (nd ns i).kind = 1) :
    Calls Tryz.prog 127 #[modV id (some ⟨b, o, none⟩) ns.length cap, .int .i64 i] w fun e w' => e = .returned (.string (nodeT ns inF i)) ∧ Below w.heap.size w w' := by
  have hok : NodeOk ns (nd ns i) := nodeOk_of (hg.nodes i hi).1
  have h24 := hg.len
  obtain ⟨n, hn⟩ : ∃ n, ns.length = n := ⟨_, rfl⟩
  have HN : Hid (ns.length = n) := hn
  have HMo : Hid (ModIn w (some ⟨b, o, none⟩) ns rs) := hm
  have HGo : Hid (Goods ns) := hg
  have HOk : Hid (NodeOk ns (nd ns i)) := hok
  have hc : ∀ W, Below w.heap.size w W → NodCells W b (o + i * 10) (nd ns i) (rs i) ∧ NodIn W (nd ns i) (rs i) := by
    intro W hW
    obtain ⟨b', o', e, h⟩ := (hm.below hW).cells i (by omega)
    cases e; exact ⟨h, (hm.below hW).node i (by omega)⟩
  have HC : Hid (∀ W, Below w.heap.size w W → NodCells W b (o + i * 10) (nd ns i) (rs i) ∧ NodIn W (nd ns i) (rs i)) := hc
  have HIds : Hid (∀ j, j < n → (nd ns j).id.size ≤ 40) := fun j hj => (nodeOk_of (ns := ns) (hg.nodes j (by omega)).1).id
  rw [hn] at hi h24
  unfold modV
  simp only [SlV, hn, Option.map_some]
  clear hc hm hn hok hg
  have hib : (i : Int) < n := by omega
  have HAll : Hid (∀ j, (nd ns j).id.size ≤ 40) := fun j => if hj : j < n then HIds.out j hj else by
    have : nd ns j = zN := by unfold nd; rw [List.getD_eq_getElem?_getD, List.getElem?_eq_none (by rw [HN.out]; omega)]; rfl
    rw [this]; decide
  have HLate : Hid ((nd ns i).after ≠ 0 → 0 ≤ (nd ns i).late ∧ (nd ns i).late < ns.length) := fun h => late_way HGo.out (by rw [HN.out]; exact hi) (HOk.out.late h)
  obtain ⟨t, hto, htn⟩ : ∃ t : Nat, (nd ns i).to = (t : Int) ∧ t < n := by
    have := to_way HGo.out (by rw [HN.out]; exact hi) (HOk.out.to (by rw [hk]; rfl))
    rw [HN.out] at this
    exact ⟨(nd ns i).to.toNat, by omega, by omega⟩
  have HTo : Hid ((nd ns i).to = (t : Int)) := hto
  have hl := fun W (hW : Below w.heap.size w W) => leads_any id (some ⟨b, o, none⟩) cap ns rs t W (HMo.out.below hW) (by rw [HN.out]; exact htn) (HIds.out t htn)
  unfold modV at hl
  simp only [SlV, HN.out, Option.map_some] at hl
  have hz2 := leads_sz (ns := ns) (j := t) (HIds.out t htn)
  obtain ⟨Q2, e2⟩ : ∃ Q, leadsT ns t = Q := ⟨_, rfl⟩
  rw [e2] at hl hz2
  have HQ2 : Hid (leadsT ns t = Q2) := e2
  have HL := (show Hid (∀ W, Below w.heap.size w W → Calls Tryz.prog 210 #[.agg #[.string id, .slice (some ⟨b, o, none⟩) n cap], .int .i64 t] W fun e w' => e = .returned (.string Q2) ∧ Below W.heap.size W w') from hl)
  clear e2 hl
  have hels : (nd ns i).els = -1 := HOk.out.noels (by rw [hk]; decide)
  have HEls : Hid ((nd ns i).els = -1) := hels
  have hcl : (nd ns i).cases.length = 0 := by rw [HOk.out.nocas (by rw [hk]; decide)]; rfl
  have HCl : Hid ((nd ns i).cases = []) := HOk.out.nocas (by rw [hk]; decide)
  have hbl : (nd ns i).branches.length = 0 := by rw [HOk.out.nobr (by rw [hk]; decide)]; rfl
  have HBl : Hid ((nd ns i).branches = []) := HOk.out.nobr (by rw [hk]; decide)
  have hnm : (nd ns i).name = ⟨#[]⟩ := bytes_inj (by rw [HOk.out.noname (by rw [hk]; decide), ByteArray.toList_eq])
  have HNm : Hid ((nd ns i).name = ⟨#[]⟩) := hnm
  have HK : Hid ((nd ns i).kind = 1) := hk
  obtain ⟨W2, hW2⟩ : ∃ W2, (w.alloc (Obj.cells #[.string id, .slice (some ⟨b, o, none⟩) n cap] 25)).alloc (Obj.cells #[.string ⟨#[115, 116, 97, 114, 116]⟩, .string ⟨#[116, 97, 115, 107]⟩, .string ⟨#[99, 104, 111, 105, 99, 101]⟩, .string ⟨#[102, 111, 114, 107]⟩, .string ⟨#[106, 111, 105, 110]⟩, .string ⟨#[115, 117, 98]⟩, .string ⟨#[101, 110, 100]⟩] 9) = W2 := ⟨_, rfl⟩
  have HB2 : Hid (Below w.heap.size w W2) := by rw [← hW2]; exact ((Below.refl _ _).alloc (Nat.le_refl _) _).alloc (by simp) _
  have hs2 : W2.heap.size = w.heap.size + 2 := by rw [← hW2]; simp
  obtain ⟨hcell, hnode⟩ := HC.out W2 HB2.out
  obtain ⟨c0, c1, c2, c3, c4, c5, c6, c7, c8, c9⟩ := hcell
  simp only [SlV] at c5 c7
  obtain ⟨A5, hA5⟩ : ∃ A, (rs i).ca = A := ⟨_, rfl⟩
  obtain ⟨A7, hA7⟩ : ∃ A, (rs i).ba = A := ⟨_, rfl⟩
  have HA5 : Hid ((rs i).ca = A5) := hA5
  have HA7 : Hid ((rs i).ba = A7) := hA7
  rw [hA5, hcl] at c5
  rw [hA7, hbl] at c7
  rw [hnm] at c2
  rw [hto] at c4
  rw [hels] at c6
  rw [hk] at c0
  have HTm : Hid (∀ W, Below w.heap.size w W → Calls Tryz.prog 212 #[.agg #[.string id, .slice (some ⟨b, o, none⟩) n cap], .agg #[.int .i64 1, .string (nd ns i).id, .string ⟨#[]⟩, .int .i64 (nd ns i).up, .int .i64 t, .slice A5 0 (rs i).cc, .int .i64 (-1), .slice A7 0 (rs i).bc, .int .i64 (nd ns i).after, .int .i64 (nd ns i).late]] W fun e w' => e = .returned (.string (timerT ns (nd ns i))) ∧ Below W.heap.size W w') := by
    intro W hW
    have := timerText_any id (some ⟨b, o, none⟩) cap ns rs (nd ns i) (rs i) W (HMo.out.below hW) HOk.out.id HAll.out HOk.out.aft HLate.out
    unfold modV nodV at this
    simp only [SlV, HN.out, Option.map_some, hA5, hA7, hcl, hbl, hnm, hto, hels, hk] at this
    exact this
  have HTz : Hid ((timerT ns (nd ns i)).size ≤ 1000) := timer_sz HOk.out HAll.out
  clear hA5 hA7 hnode hk hto hels hcl hbl hnm
  obtain ⟨W3, hW3⟩ : ∃ W3, W2.alloc (Obj.cells #[.int .i64 1, .string (nd ns i).id, .string ⟨#[]⟩, .int .i64 (nd ns i).up, .int .i64 t, .slice A5 0 (rs i).cc, .int .i64 (-1), .slice A7 0 (rs i).bc, .int .i64 (nd ns i).after, .int .i64 (nd ns i).late] 87) = W3 := ⟨_, rfl⟩
  have HB3 : Hid (Below w.heap.size w W3) := by rw [← hW3]; exact HB2.out.alloc (by rw [hs2]; omega) _
  have hs3 : W3.heap.size = w.heap.size + 3 := by rw [← hW3]; simp [hs2]
  have HX : Hid (∀ W, Below W3.heap.size W3 W → (W.cell? ⟨w.heap.size, 0, none⟩ = some (.string id) ∧ W.cell? ⟨w.heap.size, 1, none⟩ = some (.slice (some ⟨b, o, none⟩) n cap)) ∧ NodCells' W (w.heap.size + 2) 1 (nd ns i).id ⟨#[]⟩ (nd ns i).up t A5 0 (rs i).cc (-1) A7 0 (rs i).bc (nd ns i).after (nd ns i).late) := by
    intro W hW
    have k0 := fun (x : Nat) => hW.cell (p := ⟨w.heap.size, x, none⟩) (by show w.heap.size < _; omega)
    have k2 := fun (x : Nat) => hW.cell (p := ⟨w.heap.size + 2, x, none⟩) (by show w.heap.size + 2 < _; omega)
    have m2 := fun (p : Addr) (h : p.block < W2.heap.size) => cell_alloc_lt W2 (Obj.cells #[.int .i64 1, .string (nd ns i).id, .string ⟨#[]⟩, .int .i64 (nd ns i).up, .int .i64 t, .slice A5 0 (rs i).cc, .int .i64 (-1), .slice A7 0 (rs i).bc, .int .i64 (nd ns i).after, .int .i64 (nd ns i).late] 87) p h
    refine ⟨⟨?_, ?_⟩, ?_⟩
    · rw [k0, ← hW3, m2 _ (by show w.heap.size < _; omega), ← hW2]; simp [go_sem]
    · rw [k0, ← hW3, m2 _ (by show w.heap.size < _; omega), ← hW2]; simp [go_sem]
    · rw [← hs2, ← hW3] at k2
      rw [← hs2]
      exact ⟨by rw [k2]; simp [go_sem], by rw [k2]; simp [go_sem], by rw [k2]; simp [go_sem], by rw [k2]; simp [go_sem], by rw [k2]; simp [go_sem], by rw [k2]; simp [go_sem], by rw [k2]; simp [go_sem], by rw [k2]; simp [go_sem], by rw [k2]; simp [go_sem], by rw [k2]; simp [go_sem]⟩
  have HW3 : Hid (W2.alloc (Obj.cells #[.int .i64 1, .string (nd ns i).id, .string ⟨#[]⟩, .int .i64 (nd ns i).up, .int .i64 t, .slice A5 0 (rs i).cc, .int .i64 (-1), .slice A7 0 (rs i).bc, .int .i64 (nd ns i).after, .int .i64 (nd ns i).late] 87) = W3) := hW3
  have HS3 : Hid (W3.heap.size = w.heap.size + 3) := hs3
  have HBX : Hid (∀ W, Below W3.heap.size W3 W → Below w.heap.size w W) := fun W hW => HB3.out.trans (hW.mono (by rw [HS3.out]; omega))
  have y0 : W2.cell? ⟨w.heap.size, 0, none⟩ = some (.string id) := by rw [← hW2]; simp [go_sem]
  have y1 : W2.cell? ⟨w.heap.size, 1, none⟩ = some (.slice (some ⟨b, o, none⟩) n cap) := by rw [← hW2]; simp [go_sem]
  have yn : W2.cell? ⟨w.heap.size + 1, 0, none⟩ = some (.string ⟨#[115, 116, 97, 114, 116]⟩) := by rw [← hW2]; simp [go_sem]
  clear hs3 hW3
  have hq := fun W => quoted_q ⟨#[105, 100]⟩ (nd ns i).id W (by decide) HOk.out.id
  have hz1 := qT_size ⟨#[105, 100]⟩ (nd ns i).id (by decide) HOk.out.id
  obtain ⟨Q1, e1⟩ : ∃ Q, qT ⟨#[105, 100]⟩ (nd ns i).id = Q := ⟨_, rfl⟩
  rw [e1] at hq hz1
  have HQ1 : Hid (qT ⟨#[105, 100]⟩ (nd ns i).id = Q1) := e1
  obtain ⟨T, eT⟩ : ∃ T, timerT ns (nd ns i) = T := ⟨_, rfl⟩
  have HT : Hid (timerT ns (nd ns i) = T) := eT
  rw [eT] at HTm HTz
  clear e1 eT
  go_enter Tryz.func127, Tryz.ntmps127
  go_wp2_with fail
  rw [HW3.out]
  refine (hq W3).mono ?_
  rintro e w4 ⟨rfl, hw4⟩
  rw [hw4]
  obtain ⟨⟨x0, x1⟩, xc⟩ := HX.out W3 (Below.refl _ _)
  obtain ⟨d0, d1, d2, d3, d4, d5, d6, d7, d8, d9⟩ := xc
  clear hW2 c0 c1 c2 c3 c4 c5 c6 c7 c8 c9 y0 y1 yn hw4 hq hs2
  have HEq : Hid (nodeT ns inF i = ((((⟨#[60]⟩ ++ ⟨#[115, 116, 97, 114, 116]⟩) ++ Q1) ++ Q2) ++ ⟨#[47, 62]⟩) ++ T) := by
    show nodeT ns inF i = _
    simp [nodeT, shutT, headT, innerT, elseT, casesT, brT, nmS, ByteArray.toList_eq, HK.out, HTo.out, HEls.out, HCl.out, HBl.out, HNm.out, HQ1.out, HQ2.out, HT.out]
  go_wp2_with fail
  refine (HL.out W3 HB3.out).mono ?_
  rintro e w5 ⟨rfl, hb5⟩
  have HB5 : Hid (Below W3.heap.size W3 w5) := hb5
  clear hb5 x0 x1 d0 d1 d2 d3 d4 d5 d6 d7 d8 d9
  obtain ⟨⟨x0, x1⟩, xc⟩ := HX.out w5 HB5.out
  obtain ⟨d0, d1, d2, d3, d4, d5, d6, d7, d8, d9⟩ := xc
  go_wp2_with fail
  refine wp_loop_rounds 1 ?_
  rw [rounds_succ]
  go_wp2_with fail
  refine wp_loop_rounds 1 ?_
  rw [rounds_succ]
  go_wp2_with fail
  refine (HTm.out w5 (HBX.out w5 HB5.out)).mono ?_
  rintro e w6 ⟨rfl, hb6⟩
  have HB6 : Hid (Below w.heap.size w w6) := (HBX.out w5 HB5.out).trans (hb6.mono (HBX.out w5 HB5.out).size)
  have hTz := HTz.out
  clear hb6
  go_wp2_with fail
  go_ret
  exact ⟨congrArg (fun x => Ending.returned (Value.string x)) HEq.out.symm, HB6.out⟩
set_option maxHeartbeats 4000000 in
set_option maxRecDepth 100000 in
theorem nodeText_k2 (id : ByteArray) (b o cap : Nat) (ns : List Nod) (rs : Nat → Raw) (i : Nat) (inF : Nat → ByteArray) (w : World) (hm : ModIn w (some ⟨b, o, none⟩) ns rs) (hg : Goods ns) (hi : i < ns.length) (hk : (nd ns i).kind = 2) (hnm : (nd ns i).name = ⟨#[]⟩) :
    Calls Tryz.prog 127 #[modV id (some ⟨b, o, none⟩) ns.length cap, .int .i64 i] w fun e w' => e = .returned (.string (nodeT ns inF i)) ∧ Below w.heap.size w w' := by
  have hok : NodeOk ns (nd ns i) := nodeOk_of (hg.nodes i hi).1
  have h24 := hg.len
  obtain ⟨n, hn⟩ : ∃ n, ns.length = n := ⟨_, rfl⟩
  have HN : Hid (ns.length = n) := hn
  have HMo : Hid (ModIn w (some ⟨b, o, none⟩) ns rs) := hm
  have HGo : Hid (Goods ns) := hg
  have HOk : Hid (NodeOk ns (nd ns i)) := hok
  have hc : ∀ W, Below w.heap.size w W → NodCells W b (o + i * 10) (nd ns i) (rs i) ∧ NodIn W (nd ns i) (rs i) := by
    intro W hW
    obtain ⟨b', o', e, h⟩ := (hm.below hW).cells i (by omega)
    cases e; exact ⟨h, (hm.below hW).node i (by omega)⟩
  have HC : Hid (∀ W, Below w.heap.size w W → NodCells W b (o + i * 10) (nd ns i) (rs i) ∧ NodIn W (nd ns i) (rs i)) := hc
  have HIds : Hid (∀ j, j < n → (nd ns j).id.size ≤ 40) := fun j hj => (nodeOk_of (ns := ns) (hg.nodes j (by omega)).1).id
  rw [hn] at hi h24
  unfold modV
  simp only [SlV, hn, Option.map_some]
  clear hc hm hn hok hg
  have hib : (i : Int) < n := by omega
  have HAll : Hid (∀ j, (nd ns j).id.size ≤ 40) := fun j => if hj : j < n then HIds.out j hj else by
    have : nd ns j = zN := by unfold nd; rw [List.getD_eq_getElem?_getD, List.getElem?_eq_none (by rw [HN.out]; omega)]; rfl
    rw [this]; decide
  have HLate : Hid ((nd ns i).after ≠ 0 → 0 ≤ (nd ns i).late ∧ (nd ns i).late < ns.length) := fun h => late_way HGo.out (by rw [HN.out]; exact hi) (HOk.out.late h)
  obtain ⟨t, hto, htn⟩ : ∃ t : Nat, (nd ns i).to = (t : Int) ∧ t < n := by
    have := to_way HGo.out (by rw [HN.out]; exact hi) (HOk.out.to (by rw [hk]; rfl))
    rw [HN.out] at this
    exact ⟨(nd ns i).to.toNat, by omega, by omega⟩
  have HTo : Hid ((nd ns i).to = (t : Int)) := hto
  have hl := fun W (hW : Below w.heap.size w W) => leads_any id (some ⟨b, o, none⟩) cap ns rs t W (HMo.out.below hW) (by rw [HN.out]; exact htn) (HIds.out t htn)
  unfold modV at hl
  simp only [SlV, HN.out, Option.map_some] at hl
  have hz2 := leads_sz (ns := ns) (j := t) (HIds.out t htn)
  obtain ⟨Q2, e2⟩ : ∃ Q, leadsT ns t = Q := ⟨_, rfl⟩
  rw [e2] at hl hz2
  have HQ2 : Hid (leadsT ns t = Q2) := e2
  have HL := (show Hid (∀ W, Below w.heap.size w W → Calls Tryz.prog 210 #[.agg #[.string id, .slice (some ⟨b, o, none⟩) n cap], .int .i64 t] W fun e w' => e = .returned (.string Q2) ∧ Below W.heap.size W w') from hl)
  clear e2 hl
  have hels : (nd ns i).els = -1 := HOk.out.noels (by rw [hk]; decide)
  have HEls : Hid ((nd ns i).els = -1) := hels
  have hcl : (nd ns i).cases.length = 0 := by rw [HOk.out.nocas (by rw [hk]; decide)]; rfl
  have HCl : Hid ((nd ns i).cases = []) := HOk.out.nocas (by rw [hk]; decide)
  have hbl : (nd ns i).branches.length = 0 := by rw [HOk.out.nobr (by rw [hk]; decide)]; rfl
  have HBl : Hid ((nd ns i).branches = []) := HOk.out.nobr (by rw [hk]; decide)
  have HNm : Hid ((nd ns i).name = ⟨#[]⟩) := hnm
  have HK : Hid ((nd ns i).kind = 2) := hk
  obtain ⟨W2, hW2⟩ : ∃ W2, (w.alloc (Obj.cells #[.string id, .slice (some ⟨b, o, none⟩) n cap] 25)).alloc (Obj.cells #[.string ⟨#[115, 116, 97, 114, 116]⟩, .string ⟨#[116, 97, 115, 107]⟩, .string ⟨#[99, 104, 111, 105, 99, 101]⟩, .string ⟨#[102, 111, 114, 107]⟩, .string ⟨#[106, 111, 105, 110]⟩, .string ⟨#[115, 117, 98]⟩, .string ⟨#[101, 110, 100]⟩] 9) = W2 := ⟨_, rfl⟩
  have HB2 : Hid (Below w.heap.size w W2) := by rw [← hW2]; exact ((Below.refl _ _).alloc (Nat.le_refl _) _).alloc (by simp) _
  have hs2 : W2.heap.size = w.heap.size + 2 := by rw [← hW2]; simp
  obtain ⟨hcell, hnode⟩ := HC.out W2 HB2.out
  obtain ⟨c0, c1, c2, c3, c4, c5, c6, c7, c8, c9⟩ := hcell
  simp only [SlV] at c5 c7
  obtain ⟨A5, hA5⟩ : ∃ A, (rs i).ca = A := ⟨_, rfl⟩
  obtain ⟨A7, hA7⟩ : ∃ A, (rs i).ba = A := ⟨_, rfl⟩
  have HA5 : Hid ((rs i).ca = A5) := hA5
  have HA7 : Hid ((rs i).ba = A7) := hA7
  rw [hA5, hcl] at c5
  rw [hA7, hbl] at c7
  rw [hnm] at c2
  rw [hto] at c4
  rw [hels] at c6
  rw [hk] at c0
  have HTm : Hid (∀ W, Below w.heap.size w W → Calls Tryz.prog 212 #[.agg #[.string id, .slice (some ⟨b, o, none⟩) n cap], .agg #[.int .i64 2, .string (nd ns i).id, .string ⟨#[]⟩, .int .i64 (nd ns i).up, .int .i64 t, .slice A5 0 (rs i).cc, .int .i64 (-1), .slice A7 0 (rs i).bc, .int .i64 (nd ns i).after, .int .i64 (nd ns i).late]] W fun e w' => e = .returned (.string (timerT ns (nd ns i))) ∧ Below W.heap.size W w') := by
    intro W hW
    have := timerText_any id (some ⟨b, o, none⟩) cap ns rs (nd ns i) (rs i) W (HMo.out.below hW) HOk.out.id HAll.out HOk.out.aft HLate.out
    unfold modV nodV at this
    simp only [SlV, HN.out, Option.map_some, hA5, hA7, hcl, hbl, hnm, hto, hels, hk] at this
    exact this
  have HTz : Hid ((timerT ns (nd ns i)).size ≤ 1000) := timer_sz HOk.out HAll.out
  clear hA5 hA7 hnode hk hto hels hcl hbl hnm
  obtain ⟨W3, hW3⟩ : ∃ W3, W2.alloc (Obj.cells #[.int .i64 2, .string (nd ns i).id, .string ⟨#[]⟩, .int .i64 (nd ns i).up, .int .i64 t, .slice A5 0 (rs i).cc, .int .i64 (-1), .slice A7 0 (rs i).bc, .int .i64 (nd ns i).after, .int .i64 (nd ns i).late] 87) = W3 := ⟨_, rfl⟩
  have HB3 : Hid (Below w.heap.size w W3) := by rw [← hW3]; exact HB2.out.alloc (by rw [hs2]; omega) _
  have hs3 : W3.heap.size = w.heap.size + 3 := by rw [← hW3]; simp [hs2]
  have HX : Hid (∀ W, Below W3.heap.size W3 W → (W.cell? ⟨w.heap.size, 0, none⟩ = some (.string id) ∧ W.cell? ⟨w.heap.size, 1, none⟩ = some (.slice (some ⟨b, o, none⟩) n cap)) ∧ NodCells' W (w.heap.size + 2) 2 (nd ns i).id ⟨#[]⟩ (nd ns i).up t A5 0 (rs i).cc (-1) A7 0 (rs i).bc (nd ns i).after (nd ns i).late) := by
    intro W hW
    have k0 := fun (x : Nat) => hW.cell (p := ⟨w.heap.size, x, none⟩) (by show w.heap.size < _; omega)
    have k2 := fun (x : Nat) => hW.cell (p := ⟨w.heap.size + 2, x, none⟩) (by show w.heap.size + 2 < _; omega)
    have m2 := fun (p : Addr) (h : p.block < W2.heap.size) => cell_alloc_lt W2 (Obj.cells #[.int .i64 2, .string (nd ns i).id, .string ⟨#[]⟩, .int .i64 (nd ns i).up, .int .i64 t, .slice A5 0 (rs i).cc, .int .i64 (-1), .slice A7 0 (rs i).bc, .int .i64 (nd ns i).after, .int .i64 (nd ns i).late] 87) p h
    refine ⟨⟨?_, ?_⟩, ?_⟩
    · rw [k0, ← hW3, m2 _ (by show w.heap.size < _; omega), ← hW2]; simp [go_sem]
    · rw [k0, ← hW3, m2 _ (by show w.heap.size < _; omega), ← hW2]; simp [go_sem]
    · rw [← hs2, ← hW3] at k2
      rw [← hs2]
      exact ⟨by rw [k2]; simp [go_sem], by rw [k2]; simp [go_sem], by rw [k2]; simp [go_sem], by rw [k2]; simp [go_sem], by rw [k2]; simp [go_sem], by rw [k2]; simp [go_sem], by rw [k2]; simp [go_sem], by rw [k2]; simp [go_sem], by rw [k2]; simp [go_sem], by rw [k2]; simp [go_sem]⟩
  have HW3 : Hid (W2.alloc (Obj.cells #[.int .i64 2, .string (nd ns i).id, .string ⟨#[]⟩, .int .i64 (nd ns i).up, .int .i64 t, .slice A5 0 (rs i).cc, .int .i64 (-1), .slice A7 0 (rs i).bc, .int .i64 (nd ns i).after, .int .i64 (nd ns i).late] 87) = W3) := hW3
  have HS3 : Hid (W3.heap.size = w.heap.size + 3) := hs3
  have HBX : Hid (∀ W, Below W3.heap.size W3 W → Below w.heap.size w W) := fun W hW => HB3.out.trans (hW.mono (by rw [HS3.out]; omega))
  have y0 : W2.cell? ⟨w.heap.size, 0, none⟩ = some (.string id) := by rw [← hW2]; simp [go_sem]
  have y1 : W2.cell? ⟨w.heap.size, 1, none⟩ = some (.slice (some ⟨b, o, none⟩) n cap) := by rw [← hW2]; simp [go_sem]
  have yn : W2.cell? ⟨w.heap.size + 1, 1, none⟩ = some (.string ⟨#[116, 97, 115, 107]⟩) := by rw [← hW2]; simp [go_sem]
  clear hs3 hW3
  have hq := fun W => quoted_q ⟨#[105, 100]⟩ (nd ns i).id W (by decide) HOk.out.id
  have hz1 := qT_size ⟨#[105, 100]⟩ (nd ns i).id (by decide) HOk.out.id
  obtain ⟨Q1, e1⟩ : ∃ Q, qT ⟨#[105, 100]⟩ (nd ns i).id = Q := ⟨_, rfl⟩
  rw [e1] at hq hz1
  have HQ1 : Hid (qT ⟨#[105, 100]⟩ (nd ns i).id = Q1) := e1
  obtain ⟨T, eT⟩ : ∃ T, timerT ns (nd ns i) = T := ⟨_, rfl⟩
  have HT : Hid (timerT ns (nd ns i) = T) := eT
  rw [eT] at HTm HTz
  clear e1 eT
  go_enter Tryz.func127, Tryz.ntmps127
  go_wp2_with fail
  rw [HW3.out]
  refine (hq W3).mono ?_
  rintro e w4 ⟨rfl, hw4⟩
  rw [hw4]
  obtain ⟨⟨x0, x1⟩, xc⟩ := HX.out W3 (Below.refl _ _)
  obtain ⟨d0, d1, d2, d3, d4, d5, d6, d7, d8, d9⟩ := xc
  clear hW2 c0 c1 c2 c3 c4 c5 c6 c7 c8 c9 y0 y1 yn hw4 hq hs2
  have HEq : Hid (nodeT ns inF i = ((((⟨#[60]⟩ ++ ⟨#[116, 97, 115, 107]⟩) ++ Q1) ++ Q2) ++ ⟨#[47, 62]⟩) ++ T) := by
    show nodeT ns inF i = _
    simp [nodeT, shutT, headT, innerT, elseT, casesT, brT, nmS, ByteArray.toList_eq, HK.out, HTo.out, HEls.out, HCl.out, HBl.out, HNm.out, HQ1.out, HQ2.out, HT.out]
  go_wp2_with fail
  refine (HL.out W3 HB3.out).mono ?_
  rintro e w5 ⟨rfl, hb5⟩
  have HB5 : Hid (Below W3.heap.size W3 w5) := hb5
  clear hb5 x0 x1 d0 d1 d2 d3 d4 d5 d6 d7 d8 d9
  obtain ⟨⟨x0, x1⟩, xc⟩ := HX.out w5 HB5.out
  obtain ⟨d0, d1, d2, d3, d4, d5, d6, d7, d8, d9⟩ := xc
  go_wp2_with fail
  refine wp_loop_rounds 1 ?_
  rw [rounds_succ]
  go_wp2_with fail
  refine wp_loop_rounds 1 ?_
  rw [rounds_succ]
  go_wp2_with fail
  refine (HTm.out w5 (HBX.out w5 HB5.out)).mono ?_
  rintro e w6 ⟨rfl, hb6⟩
  have HB6 : Hid (Below w.heap.size w w6) := (HBX.out w5 HB5.out).trans (hb6.mono (HBX.out w5 HB5.out).size)
  have hTz := HTz.out
  clear hb6
  go_wp2_with fail
  go_ret
  exact ⟨congrArg (fun x => Ending.returned (Value.string x)) HEq.out.symm, HB6.out⟩
set_option maxHeartbeats 4000000 in
set_option maxRecDepth 100000 in
theorem nodeText_k5 (id : ByteArray) (b o cap : Nat) (ns : List Nod) (rs : Nat → Raw) (i : Nat) (inF : Nat → ByteArray) (w : World) (hm : ModIn w (some ⟨b, o, none⟩) ns rs) (hg : Goods ns) (hi : i < ns.length) (hk : (nd ns i).kind = 5) :
    Calls Tryz.prog 127 #[modV id (some ⟨b, o, none⟩) ns.length cap, .int .i64 i] w fun e w' => e = .returned (.string (nodeT ns inF i)) ∧ Below w.heap.size w w' := by
  have hok : NodeOk ns (nd ns i) := nodeOk_of (hg.nodes i hi).1
  have h24 := hg.len
  obtain ⟨n, hn⟩ : ∃ n, ns.length = n := ⟨_, rfl⟩
  have HN : Hid (ns.length = n) := hn
  have HMo : Hid (ModIn w (some ⟨b, o, none⟩) ns rs) := hm
  have HGo : Hid (Goods ns) := hg
  have HOk : Hid (NodeOk ns (nd ns i)) := hok
  have hc : ∀ W, Below w.heap.size w W → NodCells W b (o + i * 10) (nd ns i) (rs i) ∧ NodIn W (nd ns i) (rs i) := by
    intro W hW
    obtain ⟨b', o', e, h⟩ := (hm.below hW).cells i (by omega)
    cases e; exact ⟨h, (hm.below hW).node i (by omega)⟩
  have HC : Hid (∀ W, Below w.heap.size w W → NodCells W b (o + i * 10) (nd ns i) (rs i) ∧ NodIn W (nd ns i) (rs i)) := hc
  have HIds : Hid (∀ j, j < n → (nd ns j).id.size ≤ 40) := fun j hj => (nodeOk_of (ns := ns) (hg.nodes j (by omega)).1).id
  rw [hn] at hi h24
  unfold modV
  simp only [SlV, hn, Option.map_some]
  clear hc hm hn hok hg
  have hib : (i : Int) < n := by omega
  have HAll : Hid (∀ j, (nd ns j).id.size ≤ 40) := fun j => if hj : j < n then HIds.out j hj else by
    have : nd ns j = zN := by unfold nd; rw [List.getD_eq_getElem?_getD, List.getElem?_eq_none (by rw [HN.out]; omega)]; rfl
    rw [this]; decide
  have HLate : Hid ((nd ns i).after ≠ 0 → 0 ≤ (nd ns i).late ∧ (nd ns i).late < ns.length) := fun h => late_way HGo.out (by rw [HN.out]; exact hi) (HOk.out.late h)
  obtain ⟨t, hto, htn⟩ : ∃ t : Nat, (nd ns i).to = (t : Int) ∧ t < n := by
    have := to_way HGo.out (by rw [HN.out]; exact hi) (HOk.out.to (by rw [hk]; rfl))
    rw [HN.out] at this
    exact ⟨(nd ns i).to.toNat, by omega, by omega⟩
  have HTo : Hid ((nd ns i).to = (t : Int)) := hto
  have hl := fun W (hW : Below w.heap.size w W) => leads_any id (some ⟨b, o, none⟩) cap ns rs t W (HMo.out.below hW) (by rw [HN.out]; exact htn) (HIds.out t htn)
  unfold modV at hl
  simp only [SlV, HN.out, Option.map_some] at hl
  have hz2 := leads_sz (ns := ns) (j := t) (HIds.out t htn)
  obtain ⟨Q2, e2⟩ : ∃ Q, leadsT ns t = Q := ⟨_, rfl⟩
  rw [e2] at hl hz2
  have HQ2 : Hid (leadsT ns t = Q2) := e2
  have HL := (show Hid (∀ W, Below w.heap.size w W → Calls Tryz.prog 210 #[.agg #[.string id, .slice (some ⟨b, o, none⟩) n cap], .int .i64 t] W fun e w' => e = .returned (.string Q2) ∧ Below W.heap.size W w') from hl)
  clear e2 hl
  have hels : (nd ns i).els = -1 := HOk.out.noels (by rw [hk]; decide)
  have HEls : Hid ((nd ns i).els = -1) := hels
  have hcl : (nd ns i).cases.length = 0 := by rw [HOk.out.nocas (by rw [hk]; decide)]; rfl
  have HCl : Hid ((nd ns i).cases = []) := HOk.out.nocas (by rw [hk]; decide)
  have hbl : (nd ns i).branches.length = 0 := by rw [HOk.out.nobr (by rw [hk]; decide)]; rfl
  have HBl : Hid ((nd ns i).branches = []) := HOk.out.nobr (by rw [hk]; decide)
  have hnm : (nd ns i).name = ⟨#[]⟩ := bytes_inj (by rw [HOk.out.noname (by rw [hk]; decide), ByteArray.toList_eq])
  have HNm : Hid ((nd ns i).name = ⟨#[]⟩) := hnm
  have HK : Hid ((nd ns i).kind = 5) := hk
  obtain ⟨W2, hW2⟩ : ∃ W2, (w.alloc (Obj.cells #[.string id, .slice (some ⟨b, o, none⟩) n cap] 25)).alloc (Obj.cells #[.string ⟨#[115, 116, 97, 114, 116]⟩, .string ⟨#[116, 97, 115, 107]⟩, .string ⟨#[99, 104, 111, 105, 99, 101]⟩, .string ⟨#[102, 111, 114, 107]⟩, .string ⟨#[106, 111, 105, 110]⟩, .string ⟨#[115, 117, 98]⟩, .string ⟨#[101, 110, 100]⟩] 9) = W2 := ⟨_, rfl⟩
  have HB2 : Hid (Below w.heap.size w W2) := by rw [← hW2]; exact ((Below.refl _ _).alloc (Nat.le_refl _) _).alloc (by simp) _
  have hs2 : W2.heap.size = w.heap.size + 2 := by rw [← hW2]; simp
  obtain ⟨hcell, hnode⟩ := HC.out W2 HB2.out
  obtain ⟨c0, c1, c2, c3, c4, c5, c6, c7, c8, c9⟩ := hcell
  simp only [SlV] at c5 c7
  obtain ⟨A5, hA5⟩ : ∃ A, (rs i).ca = A := ⟨_, rfl⟩
  obtain ⟨A7, hA7⟩ : ∃ A, (rs i).ba = A := ⟨_, rfl⟩
  have HA5 : Hid ((rs i).ca = A5) := hA5
  have HA7 : Hid ((rs i).ba = A7) := hA7
  rw [hA5, hcl] at c5
  rw [hA7, hbl] at c7
  rw [hnm] at c2
  rw [hto] at c4
  rw [hels] at c6
  rw [hk] at c0
  have HTm : Hid (∀ W, Below w.heap.size w W → Calls Tryz.prog 212 #[.agg #[.string id, .slice (some ⟨b, o, none⟩) n cap], .agg #[.int .i64 5, .string (nd ns i).id, .string ⟨#[]⟩, .int .i64 (nd ns i).up, .int .i64 t, .slice A5 0 (rs i).cc, .int .i64 (-1), .slice A7 0 (rs i).bc, .int .i64 (nd ns i).after, .int .i64 (nd ns i).late]] W fun e w' => e = .returned (.string (timerT ns (nd ns i))) ∧ Below W.heap.size W w') := by
    intro W hW
    have := timerText_any id (some ⟨b, o, none⟩) cap ns rs (nd ns i) (rs i) W (HMo.out.below hW) HOk.out.id HAll.out HOk.out.aft HLate.out
    unfold modV nodV at this
    simp only [SlV, HN.out, Option.map_some, hA5, hA7, hcl, hbl, hnm, hto, hels, hk] at this
    exact this
  have HTz : Hid ((timerT ns (nd ns i)).size ≤ 1000) := timer_sz HOk.out HAll.out
  clear hA5 hA7 hnode hk hto hels hcl hbl hnm
  obtain ⟨W3, hW3⟩ : ∃ W3, W2.alloc (Obj.cells #[.int .i64 5, .string (nd ns i).id, .string ⟨#[]⟩, .int .i64 (nd ns i).up, .int .i64 t, .slice A5 0 (rs i).cc, .int .i64 (-1), .slice A7 0 (rs i).bc, .int .i64 (nd ns i).after, .int .i64 (nd ns i).late] 87) = W3 := ⟨_, rfl⟩
  have HB3 : Hid (Below w.heap.size w W3) := by rw [← hW3]; exact HB2.out.alloc (by rw [hs2]; omega) _
  have hs3 : W3.heap.size = w.heap.size + 3 := by rw [← hW3]; simp [hs2]
  have HX : Hid (∀ W, Below W3.heap.size W3 W → (W.cell? ⟨w.heap.size, 0, none⟩ = some (.string id) ∧ W.cell? ⟨w.heap.size, 1, none⟩ = some (.slice (some ⟨b, o, none⟩) n cap)) ∧ NodCells' W (w.heap.size + 2) 5 (nd ns i).id ⟨#[]⟩ (nd ns i).up t A5 0 (rs i).cc (-1) A7 0 (rs i).bc (nd ns i).after (nd ns i).late) := by
    intro W hW
    have k0 := fun (x : Nat) => hW.cell (p := ⟨w.heap.size, x, none⟩) (by show w.heap.size < _; omega)
    have k2 := fun (x : Nat) => hW.cell (p := ⟨w.heap.size + 2, x, none⟩) (by show w.heap.size + 2 < _; omega)
    have m2 := fun (p : Addr) (h : p.block < W2.heap.size) => cell_alloc_lt W2 (Obj.cells #[.int .i64 5, .string (nd ns i).id, .string ⟨#[]⟩, .int .i64 (nd ns i).up, .int .i64 t, .slice A5 0 (rs i).cc, .int .i64 (-1), .slice A7 0 (rs i).bc, .int .i64 (nd ns i).after, .int .i64 (nd ns i).late] 87) p h
    refine ⟨⟨?_, ?_⟩, ?_⟩
    · rw [k0, ← hW3, m2 _ (by show w.heap.size < _; omega), ← hW2]; simp [go_sem]
    · rw [k0, ← hW3, m2 _ (by show w.heap.size < _; omega), ← hW2]; simp [go_sem]
    · rw [← hs2, ← hW3] at k2
      rw [← hs2]
      exact ⟨by rw [k2]; simp [go_sem], by rw [k2]; simp [go_sem], by rw [k2]; simp [go_sem], by rw [k2]; simp [go_sem], by rw [k2]; simp [go_sem], by rw [k2]; simp [go_sem], by rw [k2]; simp [go_sem], by rw [k2]; simp [go_sem], by rw [k2]; simp [go_sem], by rw [k2]; simp [go_sem]⟩
  have HW3 : Hid (W2.alloc (Obj.cells #[.int .i64 5, .string (nd ns i).id, .string ⟨#[]⟩, .int .i64 (nd ns i).up, .int .i64 t, .slice A5 0 (rs i).cc, .int .i64 (-1), .slice A7 0 (rs i).bc, .int .i64 (nd ns i).after, .int .i64 (nd ns i).late] 87) = W3) := hW3
  have HS3 : Hid (W3.heap.size = w.heap.size + 3) := hs3
  have HBX : Hid (∀ W, Below W3.heap.size W3 W → Below w.heap.size w W) := fun W hW => HB3.out.trans (hW.mono (by rw [HS3.out]; omega))
  have y0 : W2.cell? ⟨w.heap.size, 0, none⟩ = some (.string id) := by rw [← hW2]; simp [go_sem]
  have y1 : W2.cell? ⟨w.heap.size, 1, none⟩ = some (.slice (some ⟨b, o, none⟩) n cap) := by rw [← hW2]; simp [go_sem]
  have yn : W2.cell? ⟨w.heap.size + 1, 4, none⟩ = some (.string ⟨#[106, 111, 105, 110]⟩) := by rw [← hW2]; simp [go_sem]
  clear hs3 hW3
  have hq := fun W => quoted_q ⟨#[105, 100]⟩ (nd ns i).id W (by decide) HOk.out.id
  have hz1 := qT_size ⟨#[105, 100]⟩ (nd ns i).id (by decide) HOk.out.id
  obtain ⟨Q1, e1⟩ : ∃ Q, qT ⟨#[105, 100]⟩ (nd ns i).id = Q := ⟨_, rfl⟩
  rw [e1] at hq hz1
  have HQ1 : Hid (qT ⟨#[105, 100]⟩ (nd ns i).id = Q1) := e1
  obtain ⟨T, eT⟩ : ∃ T, timerT ns (nd ns i) = T := ⟨_, rfl⟩
  have HT : Hid (timerT ns (nd ns i) = T) := eT
  rw [eT] at HTm HTz
  clear e1 eT
  go_enter Tryz.func127, Tryz.ntmps127
  go_wp2_with fail
  rw [HW3.out]
  refine (hq W3).mono ?_
  rintro e w4 ⟨rfl, hw4⟩
  rw [hw4]
  obtain ⟨⟨x0, x1⟩, xc⟩ := HX.out W3 (Below.refl _ _)
  obtain ⟨d0, d1, d2, d3, d4, d5, d6, d7, d8, d9⟩ := xc
  clear hW2 c0 c1 c2 c3 c4 c5 c6 c7 c8 c9 y0 y1 yn hw4 hq hs2
  have HEq : Hid (nodeT ns inF i = ((((⟨#[60]⟩ ++ ⟨#[106, 111, 105, 110]⟩) ++ Q1) ++ Q2) ++ ⟨#[47, 62]⟩) ++ T) := by
    show nodeT ns inF i = _
    simp [nodeT, shutT, headT, innerT, elseT, casesT, brT, nmS, ByteArray.toList_eq, HK.out, HTo.out, HEls.out, HCl.out, HBl.out, HNm.out, HQ1.out, HQ2.out, HT.out]
  go_wp2_with fail
  refine (HL.out W3 HB3.out).mono ?_
  rintro e w5 ⟨rfl, hb5⟩
  have HB5 : Hid (Below W3.heap.size W3 w5) := hb5
  clear hb5 x0 x1 d0 d1 d2 d3 d4 d5 d6 d7 d8 d9
  obtain ⟨⟨x0, x1⟩, xc⟩ := HX.out w5 HB5.out
  obtain ⟨d0, d1, d2, d3, d4, d5, d6, d7, d8, d9⟩ := xc
  go_wp2_with fail
  refine wp_loop_rounds 1 ?_
  rw [rounds_succ]
  go_wp2_with fail
  refine wp_loop_rounds 1 ?_
  rw [rounds_succ]
  go_wp2_with fail
  refine (HTm.out w5 (HBX.out w5 HB5.out)).mono ?_
  rintro e w6 ⟨rfl, hb6⟩
  have HB6 : Hid (Below w.heap.size w w6) := (HBX.out w5 HB5.out).trans (hb6.mono (HBX.out w5 HB5.out).size)
  have hTz := HTz.out
  clear hb6
  go_wp2_with fail
  go_ret
  exact ⟨congrArg (fun x => Ending.returned (Value.string x)) HEq.out.symm, HB6.out⟩
set_option maxHeartbeats 4000000 in
set_option maxRecDepth 100000 in
theorem nodeText_k7 (id : ByteArray) (b o cap : Nat) (ns : List Nod) (rs : Nat → Raw) (i : Nat) (inF : Nat → ByteArray) (w : World) (hm : ModIn w (some ⟨b, o, none⟩) ns rs) (hg : Goods ns) (hi : i < ns.length) (hk : (nd ns i).kind = 7) :
    Calls Tryz.prog 127 #[modV id (some ⟨b, o, none⟩) ns.length cap, .int .i64 i] w fun e w' => e = .returned (.string (nodeT ns inF i)) ∧ Below w.heap.size w w' := by
  have hok : NodeOk ns (nd ns i) := nodeOk_of (hg.nodes i hi).1
  have h24 := hg.len
  obtain ⟨n, hn⟩ : ∃ n, ns.length = n := ⟨_, rfl⟩
  have HN : Hid (ns.length = n) := hn
  have HMo : Hid (ModIn w (some ⟨b, o, none⟩) ns rs) := hm
  have HGo : Hid (Goods ns) := hg
  have HOk : Hid (NodeOk ns (nd ns i)) := hok
  have hc : ∀ W, Below w.heap.size w W → NodCells W b (o + i * 10) (nd ns i) (rs i) ∧ NodIn W (nd ns i) (rs i) := by
    intro W hW
    obtain ⟨b', o', e, h⟩ := (hm.below hW).cells i (by omega)
    cases e; exact ⟨h, (hm.below hW).node i (by omega)⟩
  have HC : Hid (∀ W, Below w.heap.size w W → NodCells W b (o + i * 10) (nd ns i) (rs i) ∧ NodIn W (nd ns i) (rs i)) := hc
  have HIds : Hid (∀ j, j < n → (nd ns j).id.size ≤ 40) := fun j hj => (nodeOk_of (ns := ns) (hg.nodes j (by omega)).1).id
  rw [hn] at hi h24
  unfold modV
  simp only [SlV, hn, Option.map_some]
  clear hc hm hn hok hg
  have hib : (i : Int) < n := by omega
  have HAll : Hid (∀ j, (nd ns j).id.size ≤ 40) := fun j => if hj : j < n then HIds.out j hj else by
    have : nd ns j = zN := by unfold nd; rw [List.getD_eq_getElem?_getD, List.getElem?_eq_none (by rw [HN.out]; omega)]; rfl
    rw [this]; decide
  have HLate : Hid ((nd ns i).after ≠ 0 → 0 ≤ (nd ns i).late ∧ (nd ns i).late < ns.length) := fun h => late_way HGo.out (by rw [HN.out]; exact hi) (HOk.out.late h)
  have hto : (nd ns i).to = -1 := HOk.out.noto (by rw [hk]; rfl)
  have HTo : Hid ((nd ns i).to = -1) := hto
  have hels : (nd ns i).els = -1 := HOk.out.noels (by rw [hk]; decide)
  have HEls : Hid ((nd ns i).els = -1) := hels
  have hcl : (nd ns i).cases.length = 0 := by rw [HOk.out.nocas (by rw [hk]; decide)]; rfl
  have HCl : Hid ((nd ns i).cases = []) := HOk.out.nocas (by rw [hk]; decide)
  have hbl : (nd ns i).branches.length = 0 := by rw [HOk.out.nobr (by rw [hk]; decide)]; rfl
  have HBl : Hid ((nd ns i).branches = []) := HOk.out.nobr (by rw [hk]; decide)
  have hnm : (nd ns i).name = ⟨#[]⟩ := bytes_inj (by rw [HOk.out.noname (by rw [hk]; decide), ByteArray.toList_eq])
  have HNm : Hid ((nd ns i).name = ⟨#[]⟩) := hnm
  have HK : Hid ((nd ns i).kind = 7) := hk
  obtain ⟨W2, hW2⟩ : ∃ W2, (w.alloc (Obj.cells #[.string id, .slice (some ⟨b, o, none⟩) n cap] 25)).alloc (Obj.cells #[.string ⟨#[115, 116, 97, 114, 116]⟩, .string ⟨#[116, 97, 115, 107]⟩, .string ⟨#[99, 104, 111, 105, 99, 101]⟩, .string ⟨#[102, 111, 114, 107]⟩, .string ⟨#[106, 111, 105, 110]⟩, .string ⟨#[115, 117, 98]⟩, .string ⟨#[101, 110, 100]⟩] 9) = W2 := ⟨_, rfl⟩
  have HB2 : Hid (Below w.heap.size w W2) := by rw [← hW2]; exact ((Below.refl _ _).alloc (Nat.le_refl _) _).alloc (by simp) _
  have hs2 : W2.heap.size = w.heap.size + 2 := by rw [← hW2]; simp
  obtain ⟨hcell, hnode⟩ := HC.out W2 HB2.out
  obtain ⟨c0, c1, c2, c3, c4, c5, c6, c7, c8, c9⟩ := hcell
  simp only [SlV] at c5 c7
  obtain ⟨A5, hA5⟩ : ∃ A, (rs i).ca = A := ⟨_, rfl⟩
  obtain ⟨A7, hA7⟩ : ∃ A, (rs i).ba = A := ⟨_, rfl⟩
  have HA5 : Hid ((rs i).ca = A5) := hA5
  have HA7 : Hid ((rs i).ba = A7) := hA7
  rw [hA5, hcl] at c5
  rw [hA7, hbl] at c7
  rw [hnm] at c2
  rw [hto] at c4
  rw [hels] at c6
  rw [hk] at c0
  have HTm : Hid (∀ W, Below w.heap.size w W → Calls Tryz.prog 212 #[.agg #[.string id, .slice (some ⟨b, o, none⟩) n cap], .agg #[.int .i64 7, .string (nd ns i).id, .string ⟨#[]⟩, .int .i64 (nd ns i).up, .int .i64 (-1), .slice A5 0 (rs i).cc, .int .i64 (-1), .slice A7 0 (rs i).bc, .int .i64 (nd ns i).after, .int .i64 (nd ns i).late]] W fun e w' => e = .returned (.string (timerT ns (nd ns i))) ∧ Below W.heap.size W w') := by
    intro W hW
    have := timerText_any id (some ⟨b, o, none⟩) cap ns rs (nd ns i) (rs i) W (HMo.out.below hW) HOk.out.id HAll.out HOk.out.aft HLate.out
    unfold modV nodV at this
    simp only [SlV, HN.out, Option.map_some, hA5, hA7, hcl, hbl, hnm, hto, hels, hk] at this
    exact this
  have HTz : Hid ((timerT ns (nd ns i)).size ≤ 1000) := timer_sz HOk.out HAll.out
  clear hA5 hA7 hnode hk hto hels hcl hbl hnm
  obtain ⟨W3, hW3⟩ : ∃ W3, W2.alloc (Obj.cells #[.int .i64 7, .string (nd ns i).id, .string ⟨#[]⟩, .int .i64 (nd ns i).up, .int .i64 (-1), .slice A5 0 (rs i).cc, .int .i64 (-1), .slice A7 0 (rs i).bc, .int .i64 (nd ns i).after, .int .i64 (nd ns i).late] 87) = W3 := ⟨_, rfl⟩
  have HB3 : Hid (Below w.heap.size w W3) := by rw [← hW3]; exact HB2.out.alloc (by rw [hs2]; omega) _
  have hs3 : W3.heap.size = w.heap.size + 3 := by rw [← hW3]; simp [hs2]
  have HX : Hid (∀ W, Below W3.heap.size W3 W → (W.cell? ⟨w.heap.size, 0, none⟩ = some (.string id) ∧ W.cell? ⟨w.heap.size, 1, none⟩ = some (.slice (some ⟨b, o, none⟩) n cap)) ∧ NodCells' W (w.heap.size + 2) 7 (nd ns i).id ⟨#[]⟩ (nd ns i).up (-1) A5 0 (rs i).cc (-1) A7 0 (rs i).bc (nd ns i).after (nd ns i).late) := by
    intro W hW
    have k0 := fun (x : Nat) => hW.cell (p := ⟨w.heap.size, x, none⟩) (by show w.heap.size < _; omega)
    have k2 := fun (x : Nat) => hW.cell (p := ⟨w.heap.size + 2, x, none⟩) (by show w.heap.size + 2 < _; omega)
    have m2 := fun (p : Addr) (h : p.block < W2.heap.size) => cell_alloc_lt W2 (Obj.cells #[.int .i64 7, .string (nd ns i).id, .string ⟨#[]⟩, .int .i64 (nd ns i).up, .int .i64 (-1), .slice A5 0 (rs i).cc, .int .i64 (-1), .slice A7 0 (rs i).bc, .int .i64 (nd ns i).after, .int .i64 (nd ns i).late] 87) p h
    refine ⟨⟨?_, ?_⟩, ?_⟩
    · rw [k0, ← hW3, m2 _ (by show w.heap.size < _; omega), ← hW2]; simp [go_sem]
    · rw [k0, ← hW3, m2 _ (by show w.heap.size < _; omega), ← hW2]; simp [go_sem]
    · rw [← hs2, ← hW3] at k2
      rw [← hs2]
      exact ⟨by rw [k2]; simp [go_sem], by rw [k2]; simp [go_sem], by rw [k2]; simp [go_sem], by rw [k2]; simp [go_sem], by rw [k2]; simp [go_sem], by rw [k2]; simp [go_sem], by rw [k2]; simp [go_sem], by rw [k2]; simp [go_sem], by rw [k2]; simp [go_sem], by rw [k2]; simp [go_sem]⟩
  have HW3 : Hid (W2.alloc (Obj.cells #[.int .i64 7, .string (nd ns i).id, .string ⟨#[]⟩, .int .i64 (nd ns i).up, .int .i64 (-1), .slice A5 0 (rs i).cc, .int .i64 (-1), .slice A7 0 (rs i).bc, .int .i64 (nd ns i).after, .int .i64 (nd ns i).late] 87) = W3) := hW3
  have HS3 : Hid (W3.heap.size = w.heap.size + 3) := hs3
  have HBX : Hid (∀ W, Below W3.heap.size W3 W → Below w.heap.size w W) := fun W hW => HB3.out.trans (hW.mono (by rw [HS3.out]; omega))
  have y0 : W2.cell? ⟨w.heap.size, 0, none⟩ = some (.string id) := by rw [← hW2]; simp [go_sem]
  have y1 : W2.cell? ⟨w.heap.size, 1, none⟩ = some (.slice (some ⟨b, o, none⟩) n cap) := by rw [← hW2]; simp [go_sem]
  have yn : W2.cell? ⟨w.heap.size + 1, 6, none⟩ = some (.string ⟨#[101, 110, 100]⟩) := by rw [← hW2]; simp [go_sem]
  clear hs3 hW3
  have hq := fun W => quoted_q ⟨#[105, 100]⟩ (nd ns i).id W (by decide) HOk.out.id
  have hz1 := qT_size ⟨#[105, 100]⟩ (nd ns i).id (by decide) HOk.out.id
  obtain ⟨Q1, e1⟩ : ∃ Q, qT ⟨#[105, 100]⟩ (nd ns i).id = Q := ⟨_, rfl⟩
  rw [e1] at hq hz1
  have HQ1 : Hid (qT ⟨#[105, 100]⟩ (nd ns i).id = Q1) := e1
  obtain ⟨T, eT⟩ : ∃ T, timerT ns (nd ns i) = T := ⟨_, rfl⟩
  have HT : Hid (timerT ns (nd ns i) = T) := eT
  rw [eT] at HTm HTz
  clear e1 eT
  go_enter Tryz.func127, Tryz.ntmps127
  go_wp2_with fail
  rw [HW3.out]
  refine (hq W3).mono ?_
  rintro e w4 ⟨rfl, hw4⟩
  rw [hw4]
  obtain ⟨⟨x0, x1⟩, xc⟩ := HX.out W3 (Below.refl _ _)
  obtain ⟨d0, d1, d2, d3, d4, d5, d6, d7, d8, d9⟩ := xc
  clear hW2 c0 c1 c2 c3 c4 c5 c6 c7 c8 c9 y0 y1 yn hw4 hq hs2
  have HEq : Hid (nodeT ns inF i = (((⟨#[60]⟩ ++ ⟨#[101, 110, 100]⟩) ++ Q1) ++ ⟨#[47, 62]⟩) ++ T) := by
    show nodeT ns inF i = _
    simp [nodeT, shutT, headT, innerT, elseT, casesT, brT, nmS, ByteArray.toList_eq, HK.out, HTo.out, HEls.out, HCl.out, HBl.out, HNm.out, HQ1.out, HT.out]
  have HB5 : Hid (Below W3.heap.size W3 W3) := Below.refl _ _
  go_wp2_with fail
  refine wp_loop_rounds 1 ?_
  rw [rounds_succ]
  go_wp2_with fail
  refine wp_loop_rounds 1 ?_
  rw [rounds_succ]
  go_wp2_with fail
  refine (HTm.out W3 (HBX.out W3 HB5.out)).mono ?_
  rintro e w6 ⟨rfl, hb6⟩
  have HB6 : Hid (Below w.heap.size w w6) := (HBX.out W3 HB5.out).trans (hb6.mono (HBX.out W3 HB5.out).size)
  have hTz := HTz.out
  clear hb6
  go_wp2_with fail
  go_ret
  exact ⟨congrArg (fun x => Ending.returned (Value.string x)) HEq.out.symm, HB6.out⟩
end Go.Proofs.YtjkpbpgeedihhaaGreatDoor
namespace Go.Proofs.YtjkpbpgeedihhaaGreatDoor
open Go.RowKit
open M FerryM
set_option maxHeartbeats 4000000 in
set_option maxRecDepth 100000 in
theorem nodeText_k2n (id : ByteArray) (b o cap : Nat) (ns : List Nod) (rs : Nat → Raw) (i : Nat) (inF : Nat → ByteArray) (w : World) (hm : ModIn w (some ⟨b, o, none⟩) ns rs) (hg : Goods ns) (hi : i < ns.length) (hk : (nd ns i).kind = 2) (hnn : (nd ns i).name.toList ≠ []) :
    Calls Tryz.prog 127 #[modV id (some ⟨b, o, none⟩) ns.length cap, .int .i64 i] w fun e w' => e = .returned (.string (nodeT ns inF i)) ∧ Below w.heap.size w w' := by
  have hok : NodeOk ns (nd ns i) := nodeOk_of (hg.nodes i hi).1
  have h24 := hg.len
  obtain ⟨n, hn⟩ : ∃ n, ns.length = n := ⟨_, rfl⟩
  have HN : Hid (ns.length = n) := hn
  have HMo : Hid (ModIn w (some ⟨b, o, none⟩) ns rs) := hm
  have HGo : Hid (Goods ns) := hg
  have HOk : Hid (NodeOk ns (nd ns i)) := hok
  have hc : ∀ W, Below w.heap.size w W → NodCells W b (o + i * 10) (nd ns i) (rs i) ∧ NodIn W (nd ns i) (rs i) := by
    intro W hW
    obtain ⟨b', o', e, h⟩ := (hm.below hW).cells i (by omega)
    cases e; exact ⟨h, (hm.below hW).node i (by omega)⟩
  have HC : Hid (∀ W, Below w.heap.size w W → NodCells W b (o + i * 10) (nd ns i) (rs i) ∧ NodIn W (nd ns i) (rs i)) := hc
  have HIds : Hid (∀ j, j < n → (nd ns j).id.size ≤ 40) := fun j hj => (nodeOk_of (ns := ns) (hg.nodes j (by omega)).1).id
  rw [hn] at hi h24
  unfold modV
  simp only [SlV, hn, Option.map_some]
  clear hc hm hn hok hg
  have hib : (i : Int) < n := by omega
  have HAll : Hid (∀ j, (nd ns j).id.size ≤ 40) := fun j => if hj : j < n then HIds.out j hj else by
    have : nd ns j = zN := by unfold nd; rw [List.getD_eq_getElem?_getD, List.getElem?_eq_none (by rw [HN.out]; omega)]; rfl
    rw [this]; decide
  have HLate : Hid ((nd ns i).after ≠ 0 → 0 ≤ (nd ns i).late ∧ (nd ns i).late < ns.length) := fun h => late_way HGo.out (by rw [HN.out]; exact hi) (HOk.out.late h)
  obtain ⟨t, hto, htn⟩ : ∃ t : Nat, (nd ns i).to = (t : Int) ∧ t < n := by
    have := to_way HGo.out (by rw [HN.out]; exact hi) (HOk.out.to (by rw [hk]; rfl))
    rw [HN.out] at this
    exact ⟨(nd ns i).to.toNat, by omega, by omega⟩
  have HTo : Hid ((nd ns i).to = (t : Int)) := hto
  have hl := fun W (hW : Below w.heap.size w W) => leads_any id (some ⟨b, o, none⟩) cap ns rs t W (HMo.out.below hW) (by rw [HN.out]; exact htn) (HIds.out t htn)
  unfold modV at hl
  simp only [SlV, HN.out, Option.map_some] at hl
  have hz2 := leads_sz (ns := ns) (j := t) (HIds.out t htn)
  obtain ⟨Q2, e2⟩ : ∃ Q, leadsT ns t = Q := ⟨_, rfl⟩
  rw [e2] at hl hz2
  have HQ2 : Hid (leadsT ns t = Q2) := e2
  have HL := (show Hid (∀ W, Below w.heap.size w W → Calls Tryz.prog 210 #[.agg #[.string id, .slice (some ⟨b, o, none⟩) n cap], .int .i64 t] W fun e w' => e = .returned (.string Q2) ∧ Below W.heap.size W w') from hl)
  clear e2 hl
  have hels : (nd ns i).els = -1 := HOk.out.noels (by rw [hk]; decide)
  have HEls : Hid ((nd ns i).els = -1) := hels
  have hcl : (nd ns i).cases.length = 0 := by rw [HOk.out.nocas (by rw [hk]; decide)]; rfl
  have HCl : Hid ((nd ns i).cases = []) := HOk.out.nocas (by rw [hk]; decide)
  have hbl : (nd ns i).branches.length = 0 := by rw [HOk.out.nobr (by rw [hk]; decide)]; rfl
  have HBl : Hid ((nd ns i).branches = []) := HOk.out.nobr (by rw [hk]; decide)
  have HNm : Hid ((nd ns i).name.toList ≠ []) := hnn
  obtain ⟨NM, hnm⟩ : ∃ x, (nd ns i).name = x := ⟨_, rfl⟩
  have HNn : Hid ((nd ns i).name = NM) := hnm
  have hne : (NM.toList == []) = false := by rw [← hnm]; simpa using hnn
  have hq3 := fun W => quoted_q ⟨#[110, 97, 109, 101]⟩ NM W (by decide) (by rw [← hnm]; exact HOk.out.name)
  have hz3 := qT_size ⟨#[110, 97, 109, 101]⟩ NM (by decide) (by rw [← hnm]; exact HOk.out.name)
  obtain ⟨Q3, e3⟩ : ∃ Q, qT ⟨#[110, 97, 109, 101]⟩ NM = Q := ⟨_, rfl⟩
  rw [e3] at hq3 hz3
  have HQ3 : Hid (qT ⟨#[110, 97, 109, 101]⟩ NM = Q3) := e3
  clear e3 hnn
  have HK : Hid ((nd ns i).kind = 2) := hk
  obtain ⟨W2, hW2⟩ : ∃ W2, (w.alloc (Obj.cells #[.string id, .slice (some ⟨b, o, none⟩) n cap] 25)).alloc (Obj.cells #[.string ⟨#[115, 116, 97, 114, 116]⟩, .string ⟨#[116, 97, 115, 107]⟩, .string ⟨#[99, 104, 111, 105, 99, 101]⟩, .string ⟨#[102, 111, 114, 107]⟩, .string ⟨#[106, 111, 105, 110]⟩, .string ⟨#[115, 117, 98]⟩, .string ⟨#[101, 110, 100]⟩] 9) = W2 := ⟨_, rfl⟩
  have HB2 : Hid (Below w.heap.size w W2) := by rw [← hW2]; exact ((Below.refl _ _).alloc (Nat.le_refl _) _).alloc (by simp) _
  have hs2 : W2.heap.size = w.heap.size + 2 := by rw [← hW2]; simp
  obtain ⟨hcell, hnode⟩ := HC.out W2 HB2.out
  obtain ⟨c0, c1, c2, c3, c4, c5, c6, c7, c8, c9⟩ := hcell
  simp only [SlV] at c5 c7
  obtain ⟨A5, hA5⟩ : ∃ A, (rs i).ca = A := ⟨_, rfl⟩
  obtain ⟨A7, hA7⟩ : ∃ A, (rs i).ba = A := ⟨_, rfl⟩
  have HA5 : Hid ((rs i).ca = A5) := hA5
  have HA7 : Hid ((rs i).ba = A7) := hA7
  rw [hA5, hcl] at c5
  rw [hA7, hbl] at c7
  rw [hnm] at c2
  rw [hto] at c4
  rw [hels] at c6
  rw [hk] at c0
  have HTm : Hid (∀ W, Below w.heap.size w W → Calls Tryz.prog 212 #[.agg #[.string id, .slice (some ⟨b, o, none⟩) n cap], .agg #[.int .i64 2, .string (nd ns i).id, .string NM, .int .i64 (nd ns i).up, .int .i64 t, .slice A5 0 (rs i).cc, .int .i64 (-1), .slice A7 0 (rs i).bc, .int .i64 (nd ns i).after, .int .i64 (nd ns i).late]] W fun e w' => e = .returned (.string (timerT ns (nd ns i))) ∧ Below W.heap.size W w') := by
    intro W hW
    have := timerText_any id (some ⟨b, o, none⟩) cap ns rs (nd ns i) (rs i) W (HMo.out.below hW) HOk.out.id HAll.out HOk.out.aft HLate.out
    unfold modV nodV at this
    simp only [SlV, HN.out, Option.map_some, hA5, hA7, hcl, hbl, hnm, hto, hels, hk] at this
    exact this
  have HTz : Hid ((timerT ns (nd ns i)).size ≤ 1000) := timer_sz HOk.out HAll.out
  clear hA5 hA7 hnode hk hto hels hcl hbl hnm
  obtain ⟨W3, hW3⟩ : ∃ W3, W2.alloc (Obj.cells #[.int .i64 2, .string (nd ns i).id, .string NM, .int .i64 (nd ns i).up, .int .i64 t, .slice A5 0 (rs i).cc, .int .i64 (-1), .slice A7 0 (rs i).bc, .int .i64 (nd ns i).after, .int .i64 (nd ns i).late] 87) = W3 := ⟨_, rfl⟩
  have HB3 : Hid (Below w.heap.size w W3) := by rw [← hW3]; exact HB2.out.alloc (by rw [hs2]; omega) _
  have hs3 : W3.heap.size = w.heap.size + 3 := by rw [← hW3]; simp [hs2]
  have HX : Hid (∀ W, Below W3.heap.size W3 W → (W.cell? ⟨w.heap.size, 0, none⟩ = some (.string id) ∧ W.cell? ⟨w.heap.size, 1, none⟩ = some (.slice (some ⟨b, o, none⟩) n cap)) ∧ NodCells' W (w.heap.size + 2) 2 (nd ns i).id NM (nd ns i).up t A5 0 (rs i).cc (-1) A7 0 (rs i).bc (nd ns i).after (nd ns i).late) := by
    intro W hW
    have k0 := fun (x : Nat) => hW.cell (p := ⟨w.heap.size, x, none⟩) (by show w.heap.size < _; omega)
    have k2 := fun (x : Nat) => hW.cell (p := ⟨w.heap.size + 2, x, none⟩) (by show w.heap.size + 2 < _; omega)
    have m2 := fun (p : Addr) (h : p.block < W2.heap.size) => cell_alloc_lt W2 (Obj.cells #[.int .i64 2, .string (nd ns i).id, .string NM, .int .i64 (nd ns i).up, .int .i64 t, .slice A5 0 (rs i).cc, .int .i64 (-1), .slice A7 0 (rs i).bc, .int .i64 (nd ns i).after, .int .i64 (nd ns i).late] 87) p h
    refine ⟨⟨?_, ?_⟩, ?_⟩
    · rw [k0, ← hW3, m2 _ (by show w.heap.size < _; omega), ← hW2]; simp [go_sem]
    · rw [k0, ← hW3, m2 _ (by show w.heap.size < _; omega), ← hW2]; simp [go_sem]
    · rw [← hs2, ← hW3] at k2
      rw [← hs2]
      exact ⟨by rw [k2]; simp [go_sem], by rw [k2]; simp [go_sem], by rw [k2]; simp [go_sem], by rw [k2]; simp [go_sem], by rw [k2]; simp [go_sem], by rw [k2]; simp [go_sem], by rw [k2]; simp [go_sem], by rw [k2]; simp [go_sem], by rw [k2]; simp [go_sem], by rw [k2]; simp [go_sem]⟩
  have HW3 : Hid (W2.alloc (Obj.cells #[.int .i64 2, .string (nd ns i).id, .string NM, .int .i64 (nd ns i).up, .int .i64 t, .slice A5 0 (rs i).cc, .int .i64 (-1), .slice A7 0 (rs i).bc, .int .i64 (nd ns i).after, .int .i64 (nd ns i).late] 87) = W3) := hW3
  have HS3 : Hid (W3.heap.size = w.heap.size + 3) := hs3
  have HBX : Hid (∀ W, Below W3.heap.size W3 W → Below w.heap.size w W) := fun W hW => HB3.out.trans (hW.mono (by rw [HS3.out]; omega))
  have y0 : W2.cell? ⟨w.heap.size, 0, none⟩ = some (.string id) := by rw [← hW2]; simp [go_sem]
  have y1 : W2.cell? ⟨w.heap.size, 1, none⟩ = some (.slice (some ⟨b, o, none⟩) n cap) := by rw [← hW2]; simp [go_sem]
  have yn : W2.cell? ⟨w.heap.size + 1, 1, none⟩ = some (.string ⟨#[116, 97, 115, 107]⟩) := by rw [← hW2]; simp [go_sem]
  clear hs3 hW3
  have hq := fun W => quoted_q ⟨#[105, 100]⟩ (nd ns i).id W (by decide) HOk.out.id
  have hz1 := qT_size ⟨#[105, 100]⟩ (nd ns i).id (by decide) HOk.out.id
  obtain ⟨Q1, e1⟩ : ∃ Q, qT ⟨#[105, 100]⟩ (nd ns i).id = Q := ⟨_, rfl⟩
  rw [e1] at hq hz1
  have HQ1 : Hid (qT ⟨#[105, 100]⟩ (nd ns i).id = Q1) := e1
  obtain ⟨T, eT⟩ : ∃ T, timerT ns (nd ns i) = T := ⟨_, rfl⟩
  have HT : Hid (timerT ns (nd ns i) = T) := eT
  rw [eT] at HTm HTz
  clear e1 eT
  go_enter Tryz.func127, Tryz.ntmps127
  go_wp2_with fail
  rw [HW3.out]
  refine (hq W3).mono ?_
  rintro e w4 ⟨rfl, hw4⟩
  rw [hw4]
  obtain ⟨⟨x0, x1⟩, xc⟩ := HX.out W3 (Below.refl _ _)
  obtain ⟨d0, d1, d2, d3, d4, d5, d6, d7, d8, d9⟩ := xc
  clear hW2 c0 c1 c2 c3 c4 c5 c6 c7 c8 c9 y0 y1 yn hw4 hq hs2
  have HEq : Hid (nodeT ns inF i = (((((⟨#[60]⟩ ++ ⟨#[116, 97, 115, 107]⟩) ++ Q1) ++ Q2) ++ Q3) ++ ⟨#[47, 62]⟩) ++ T) := by
    show nodeT ns inF i = _
    have hx : ¬ NM.data.toList = [] := by have := HNm.out; rw [HNn.out, ByteArray.toList_eq] at this; exact this
    have hx2 : ¬ NM.data = #[] := fun e => hx (by rw [e])
    simp [nodeT, shutT, headT, innerT, elseT, casesT, brT, nmS, ByteArray.toList_eq, HK.out, HTo.out, HEls.out, HCl.out, HBl.out, HQ1.out, HQ2.out, HT.out, HNn.out, HQ3.out, hx, hx2]
  go_wp2_with fail
  refine (HL.out W3 HB3.out).mono ?_
  rintro e w5 ⟨rfl, hb5⟩
  have HB5 : Hid (Below W3.heap.size W3 w5) := hb5
  clear hb5 x0 x1 d0 d1 d2 d3 d4 d5 d6 d7 d8 d9
  obtain ⟨⟨x0, x1⟩, xc⟩ := HX.out w5 HB5.out
  obtain ⟨d0, d1, d2, d3, d4, d5, d6, d7, d8, d9⟩ := xc
  go_wp2_with fail
  refine (hq3 _).mono ?_
  rintro e w7 ⟨rfl, hw7⟩
  rw [hw7]
  clear hw7
  go_wp2_with fail
  refine wp_loop_rounds 1 ?_
  rw [rounds_succ]
  go_wp2_with fail
  refine wp_loop_rounds 1 ?_
  rw [rounds_succ]
  go_wp2_with fail
  refine (HTm.out w5 (HBX.out w5 HB5.out)).mono ?_
  rintro e w6 ⟨rfl, hb6⟩
  have HB6 : Hid (Below w.heap.size w w6) := (HBX.out w5 HB5.out).trans (hb6.mono (HBX.out w5 HB5.out).size)
  have hTz := HTz.out
  clear hb6
  go_wp2_with fail
  go_ret
  exact ⟨congrArg (fun x => Ending.returned (Value.string x)) HEq.out.symm, HB6.out⟩
end Go.Proofs.YtjkpbpgeedihhaaGreatDoor
namespace Go.Proofs.YtjkpbpgeedihhaaGreatDoor
open Go.RowKit
open M FerryM
set_option maxHeartbeats 4000000 in
set_option maxRecDepth 100000 in
theorem nodeText_k6 (id : ByteArray) (b o cap : Nat) (ns : List Nod) (rs : Nat → Raw) (i : Nat) (inF : Nat → ByteArray) (w : World) (hm : ModIn w (some ⟨b, o, none⟩) ns rs) (hg : Goods ns) (hi : i < ns.length) (hk : (nd ns i).kind = 6) (hiz : (inF i).size ≤ 100000000000000) (hin : ∀ W, Below w.heap.size w W → Calls Tryz.prog 75 #[modV id (some ⟨b, o, none⟩) ns.length cap, .int .i64 i] W fun e w' => e = .returned (.string (inF i)) ∧ Below W.heap.size W w') :
    Calls Tryz.prog 127 #[modV id (some ⟨b, o, none⟩) ns.length cap, .int .i64 i] w fun e w' => e = .returned (.string (nodeT ns inF i)) ∧ Below w.heap.size w w' := by
  have hok : NodeOk ns (nd ns i) := nodeOk_of (hg.nodes i hi).1
  have h24 := hg.len
  obtain ⟨n, hn⟩ : ∃ n, ns.length = n := ⟨_, rfl⟩
  have HN : Hid (ns.length = n) := hn
  have HMo : Hid (ModIn w (some ⟨b, o, none⟩) ns rs) := hm
  have HGo : Hid (Goods ns) := hg
  have HOk : Hid (NodeOk ns (nd ns i)) := hok
  have hc : ∀ W, Below w.heap.size w W → NodCells W b (o + i * 10) (nd ns i) (rs i) ∧ NodIn W (nd ns i) (rs i) := by
    intro W hW
    obtain ⟨b', o', e, h⟩ := (hm.below hW).cells i (by omega)
    cases e; exact ⟨h, (hm.below hW).node i (by omega)⟩
  have HC : Hid (∀ W, Below w.heap.size w W → NodCells W b (o + i * 10) (nd ns i) (rs i) ∧ NodIn W (nd ns i) (rs i)) := hc
  have HIds : Hid (∀ j, j < n → (nd ns j).id.size ≤ 40) := fun j hj => (nodeOk_of (ns := ns) (hg.nodes j (by omega)).1).id
  rw [hn] at hi h24
  unfold modV
  simp only [SlV, hn, Option.map_some]
  clear hc hm hn hok hg
  have hib : (i : Int) < n := by omega
  have HAll : Hid (∀ j, (nd ns j).id.size ≤ 40) := fun j => if hj : j < n then HIds.out j hj else by
    have : nd ns j = zN := by unfold nd; rw [List.getD_eq_getElem?_getD, List.getElem?_eq_none (by rw [HN.out]; omega)]; rfl
    rw [this]; decide
  have HLate : Hid ((nd ns i).after ≠ 0 → 0 ≤ (nd ns i).late ∧ (nd ns i).late < ns.length) := fun h => late_way HGo.out (by rw [HN.out]; exact hi) (HOk.out.late h)
  obtain ⟨IN, eIN⟩ : ∃ x, inF i = x := ⟨_, rfl⟩
  have HIn : Hid (inF i = IN) := eIN
  unfold modV at hin
  simp only [SlV, HN.out, Option.map_some, eIN] at hin
  rw [eIN] at hiz
  have HIN := (show Hid (∀ W, Below w.heap.size w W → Calls Tryz.prog 75 #[.agg #[.string id, .slice (some ⟨b, o, none⟩) n cap], .int .i64 i] W fun e w' => e = .returned (.string IN) ∧ Below W.heap.size W w') from hin)
  clear hin eIN
  obtain ⟨t, hto, htn⟩ : ∃ t : Nat, (nd ns i).to = (t : Int) ∧ t < n := by
    have := to_way HGo.out (by rw [HN.out]; exact hi) (HOk.out.to (by rw [hk]; rfl))
    rw [HN.out] at this
    exact ⟨(nd ns i).to.toNat, by omega, by omega⟩
  have HTo : Hid ((nd ns i).to = (t : Int)) := hto
  have hl := fun W (hW : Below w.heap.size w W) => leads_any id (some ⟨b, o, none⟩) cap ns rs t W (HMo.out.below hW) (by rw [HN.out]; exact htn) (HIds.out t htn)
  unfold modV at hl
  simp only [SlV, HN.out, Option.map_some] at hl
  have hz2 := leads_sz (ns := ns) (j := t) (HIds.out t htn)
  obtain ⟨Q2, e2⟩ : ∃ Q, leadsT ns t = Q := ⟨_, rfl⟩
  rw [e2] at hl hz2
  have HQ2 : Hid (leadsT ns t = Q2) := e2
  have HL := (show Hid (∀ W, Below w.heap.size w W → Calls Tryz.prog 210 #[.agg #[.string id, .slice (some ⟨b, o, none⟩) n cap], .int .i64 t] W fun e w' => e = .returned (.string Q2) ∧ Below W.heap.size W w') from hl)
  clear e2 hl
  have hels : (nd ns i).els = -1 := HOk.out.noels (by rw [hk]; decide)
  have HEls : Hid ((nd ns i).els = -1) := hels
  have hcl : (nd ns i).cases.length = 0 := by rw [HOk.out.nocas (by rw [hk]; decide)]; rfl
  have HCl : Hid ((nd ns i).cases = []) := HOk.out.nocas (by rw [hk]; decide)
  have hbl : (nd ns i).branches.length = 0 := by rw [HOk.out.nobr (by rw [hk]; decide)]; rfl
  have HBl : Hid ((nd ns i).branches = []) := HOk.out.nobr (by rw [hk]; decide)
  have hnm : (nd ns i).name = ⟨#[]⟩ := bytes_inj (by rw [HOk.out.noname (by rw [hk]; decide), ByteArray.toList_eq])
  have HNm : Hid ((nd ns i).name = ⟨#[]⟩) := hnm
  have HK : Hid ((nd ns i).kind = 6) := hk
  obtain ⟨W2, hW2⟩ : ∃ W2, (w.alloc (Obj.cells #[.string id, .slice (some ⟨b, o, none⟩) n cap] 25)).alloc (Obj.cells #[.string ⟨#[115, 116, 97, 114, 116]⟩, .string ⟨#[116, 97, 115, 107]⟩, .string ⟨#[99, 104, 111, 105, 99, 101]⟩, .string ⟨#[102, 111, 114, 107]⟩, .string ⟨#[106, 111, 105, 110]⟩, .string ⟨#[115, 117, 98]⟩, .string ⟨#[101, 110, 100]⟩] 9) = W2 := ⟨_, rfl⟩
  have HB2 : Hid (Below w.heap.size w W2) := by rw [← hW2]; exact ((Below.refl _ _).alloc (Nat.le_refl _) _).alloc (by simp) _
  have hs2 : W2.heap.size = w.heap.size + 2 := by rw [← hW2]; simp
  obtain ⟨hcell, hnode⟩ := HC.out W2 HB2.out
  obtain ⟨c0, c1, c2, c3, c4, c5, c6, c7, c8, c9⟩ := hcell
  simp only [SlV] at c5 c7
  obtain ⟨A5, hA5⟩ : ∃ A, (rs i).ca = A := ⟨_, rfl⟩
  obtain ⟨A7, hA7⟩ : ∃ A, (rs i).ba = A := ⟨_, rfl⟩
  have HA5 : Hid ((rs i).ca = A5) := hA5
  have HA7 : Hid ((rs i).ba = A7) := hA7
  rw [hA5, hcl] at c5
  rw [hA7, hbl] at c7
  rw [hnm] at c2
  rw [hto] at c4
  rw [hels] at c6
  rw [hk] at c0
  have HTm : Hid (∀ W, Below w.heap.size w W → Calls Tryz.prog 212 #[.agg #[.string id, .slice (some ⟨b, o, none⟩) n cap], .agg #[.int .i64 6, .string (nd ns i).id, .string ⟨#[]⟩, .int .i64 (nd ns i).up, .int .i64 t, .slice A5 0 (rs i).cc, .int .i64 (-1), .slice A7 0 (rs i).bc, .int .i64 (nd ns i).after, .int .i64 (nd ns i).late]] W fun e w' => e = .returned (.string (timerT ns (nd ns i))) ∧ Below W.heap.size W w') := by
    intro W hW
    have := timerText_any id (some ⟨b, o, none⟩) cap ns rs (nd ns i) (rs i) W (HMo.out.below hW) HOk.out.id HAll.out HOk.out.aft HLate.out
    unfold modV nodV at this
    simp only [SlV, HN.out, Option.map_some, hA5, hA7, hcl, hbl, hnm, hto, hels, hk] at this
    exact this
  have HTz : Hid ((timerT ns (nd ns i)).size ≤ 1000) := timer_sz HOk.out HAll.out
  clear hA5 hA7 hnode hk hto hels hcl hbl hnm
  obtain ⟨W3, hW3⟩ : ∃ W3, W2.alloc (Obj.cells #[.int .i64 6, .string (nd ns i).id, .string ⟨#[]⟩, .int .i64 (nd ns i).up, .int .i64 t, .slice A5 0 (rs i).cc, .int .i64 (-1), .slice A7 0 (rs i).bc, .int .i64 (nd ns i).after, .int .i64 (nd ns i).late] 87) = W3 := ⟨_, rfl⟩
  have HB3 : Hid (Below w.heap.size w W3) := by rw [← hW3]; exact HB2.out.alloc (by rw [hs2]; omega) _
  have hs3 : W3.heap.size = w.heap.size + 3 := by rw [← hW3]; simp [hs2]
  have HX : Hid (∀ W, Below W3.heap.size W3 W → (W.cell? ⟨w.heap.size, 0, none⟩ = some (.string id) ∧ W.cell? ⟨w.heap.size, 1, none⟩ = some (.slice (some ⟨b, o, none⟩) n cap)) ∧ NodCells' W (w.heap.size + 2) 6 (nd ns i).id ⟨#[]⟩ (nd ns i).up t A5 0 (rs i).cc (-1) A7 0 (rs i).bc (nd ns i).after (nd ns i).late) := by
    intro W hW
    have k0 := fun (x : Nat) => hW.cell (p := ⟨w.heap.size, x, none⟩) (by show w.heap.size < _; omega)
    have k2 := fun (x : Nat) => hW.cell (p := ⟨w.heap.size + 2, x, none⟩) (by show w.heap.size + 2 < _; omega)
    have m2 := fun (p : Addr) (h : p.block < W2.heap.size) => cell_alloc_lt W2 (Obj.cells #[.int .i64 6, .string (nd ns i).id, .string ⟨#[]⟩, .int .i64 (nd ns i).up, .int .i64 t, .slice A5 0 (rs i).cc, .int .i64 (-1), .slice A7 0 (rs i).bc, .int .i64 (nd ns i).after, .int .i64 (nd ns i).late] 87) p h
    refine ⟨⟨?_, ?_⟩, ?_⟩
    · rw [k0, ← hW3, m2 _ (by show w.heap.size < _; omega), ← hW2]; simp [go_sem]
    · rw [k0, ← hW3, m2 _ (by show w.heap.size < _; omega), ← hW2]; simp [go_sem]
    · rw [← hs2, ← hW3] at k2
      rw [← hs2]
      exact ⟨by rw [k2]; simp [go_sem], by rw [k2]; simp [go_sem], by rw [k2]; simp [go_sem], by rw [k2]; simp [go_sem], by rw [k2]; simp [go_sem], by rw [k2]; simp [go_sem], by rw [k2]; simp [go_sem], by rw [k2]; simp [go_sem], by rw [k2]; simp [go_sem], by rw [k2]; simp [go_sem]⟩
  have HW3 : Hid (W2.alloc (Obj.cells #[.int .i64 6, .string (nd ns i).id, .string ⟨#[]⟩, .int .i64 (nd ns i).up, .int .i64 t, .slice A5 0 (rs i).cc, .int .i64 (-1), .slice A7 0 (rs i).bc, .int .i64 (nd ns i).after, .int .i64 (nd ns i).late] 87) = W3) := hW3
  have HS3 : Hid (W3.heap.size = w.heap.size + 3) := hs3
  have HBX : Hid (∀ W, Below W3.heap.size W3 W → Below w.heap.size w W) := fun W hW => HB3.out.trans (hW.mono (by rw [HS3.out]; omega))
  have y0 : W2.cell? ⟨w.heap.size, 0, none⟩ = some (.string id) := by rw [← hW2]; simp [go_sem]
  have y1 : W2.cell? ⟨w.heap.size, 1, none⟩ = some (.slice (some ⟨b, o, none⟩) n cap) := by rw [← hW2]; simp [go_sem]
  have yn : W2.cell? ⟨w.heap.size + 1, 5, none⟩ = some (.string ⟨#[115, 117, 98]⟩) := by rw [← hW2]; simp [go_sem]
  clear hs3 hW3
  have hq := fun W => quoted_q ⟨#[105, 100]⟩ (nd ns i).id W (by decide) HOk.out.id
  have hz1 := qT_size ⟨#[105, 100]⟩ (nd ns i).id (by decide) HOk.out.id
  obtain ⟨Q1, e1⟩ : ∃ Q, qT ⟨#[105, 100]⟩ (nd ns i).id = Q := ⟨_, rfl⟩
  rw [e1] at hq hz1
  have HQ1 : Hid (qT ⟨#[105, 100]⟩ (nd ns i).id = Q1) := e1
  obtain ⟨T, eT⟩ : ∃ T, timerT ns (nd ns i) = T := ⟨_, rfl⟩
  have HT : Hid (timerT ns (nd ns i) = T) := eT
  rw [eT] at HTm HTz
  clear e1 eT
  go_enter Tryz.func127, Tryz.ntmps127
  go_wp2_with fail
  rw [HW3.out]
  refine (hq W3).mono ?_
  rintro e w4 ⟨rfl, hw4⟩
  rw [hw4]
  obtain ⟨⟨x0, x1⟩, xc⟩ := HX.out W3 (Below.refl _ _)
  obtain ⟨d0, d1, d2, d3, d4, d5, d6, d7, d8, d9⟩ := xc
  clear hW2 c0 c1 c2 c3 c4 c5 c6 c7 c8 c9 y0 y1 yn hw4 hq hs2
  go_wp2_with fail
  refine (HL.out W3 HB3.out).mono ?_
  rintro e w5 ⟨rfl, hb5⟩
  have HB5 : Hid (Below W3.heap.size W3 w5) := hb5
  clear hb5 x0 x1 d0 d1 d2 d3 d4 d5 d6 d7 d8 d9
  obtain ⟨⟨x0, x1⟩, xc⟩ := HX.out w5 HB5.out
  obtain ⟨d0, d1, d2, d3, d4, d5, d6, d7, d8, d9⟩ := xc
  go_wp2_with fail
  refine wp_loop_rounds 1 ?_
  rw [rounds_succ]
  go_wp2_with fail
  refine wp_loop_rounds 1 ?_
  rw [rounds_succ]
  go_wp2_with fail
  refine (HIN.out w5 (HBX.out w5 HB5.out)).mono ?_
  rintro e w7 ⟨rfl, hb7⟩
  have HB7 : Hid (Below W3.heap.size W3 w7) := HB5.out.trans (hb7.mono HB5.out.size)
  clear hb7 x0 x1 d0 d1 d2 d3 d4 d5 d6 d7 d8 d9
  obtain ⟨⟨x0, x1⟩, xc⟩ := HX.out w7 HB7.out
  obtain ⟨d0, d1, d2, d3, d4, d5, d6, d7, d8, d9⟩ := xc
  go_wp2_with fail
  refine (HTm.out w7 (HBX.out w7 HB7.out)).mono ?_
  rintro e w6 ⟨rfl, hb6⟩
  have HB6 : Hid (Below w.heap.size w w6) := (HBX.out w7 HB7.out).trans (hb6.mono (HBX.out w7 HB7.out).size)
  have hTz := HTz.out
  clear hb6
  by_cases he : IN.toList = []
  · have HEq : Hid (nodeT ns inF i = ((((⟨#[60]⟩ ++ ⟨#[115, 117, 98]⟩) ++ Q1) ++ Q2) ++ ⟨#[47, 62]⟩) ++ T) := by
      show nodeT ns inF i = _
      have hx : IN.data.toList = [] := by have := he; rw [ByteArray.toList_eq] at this; exact this
      have hx2 : IN.data = #[] := by cases h : IN.data; rw [h] at hx; simp at hx; rw [hx]
      simp [nodeT, shutT, headT, innerT, elseT, casesT, brT, nmS, ByteArray.toList_eq, HK.out, HTo.out, HEls.out, HCl.out, HBl.out, HNm.out, HQ1.out, HQ2.out, HT.out, HIn.out, hx, hx2]
    have he' : (IN.toList == []) = true := by simpa using he
    clear he
    go_wp2_with fail
    go_ret
    exact ⟨congrArg (fun x => Ending.returned (Value.string x)) HEq.out.symm, HB6.out⟩
  · have HEq : Hid (nodeT ns inF i = (((((((((⟨#[60]⟩ ++ ⟨#[115, 117, 98]⟩) ++ Q1) ++ Q2) ++ ⟨#[62]⟩) ++ IN) ++ ⟨#[60, 47]⟩) ++ ⟨#[115, 117, 98]⟩) ++ ⟨#[62]⟩)) ++ T) := by
      show nodeT ns inF i = _
      have hx : ¬ IN.data.toList = [] := by have := he; rw [ByteArray.toList_eq] at this; exact this
      have hx2 : ¬ IN.data = #[] := fun e => hx (by rw [e])
      simp [nodeT, shutT, headT, innerT, elseT, casesT, brT, nmS, ByteArray.toList_eq, HK.out, HTo.out, HEls.out, HCl.out, HBl.out, HNm.out, HQ1.out, HQ2.out, HT.out, HIn.out, hx, hx2]
    have he' : (IN.toList == []) = false := by simpa using he
    clear he
    go_wp2_with fail
    go_ret
    exact ⟨congrArg (fun x => Ending.returned (Value.string x)) HEq.out.symm, HB6.out⟩
end Go.Proofs.YtjkpbpgeedihhaaGreatDoor
namespace Go.Proofs.YtjkpbpgeedihhaaGreatDoor
open Go.RowKit
open M FerryM
theorem app_ne (a b : ByteArray) (h : 0 < b.size) : ((a ++ b).toList == []) = false := by
  have : ((a ++ b).toList) ≠ [] := by
    rw [ByteArray.toList_eq]
    intro e
    have hl : (a ++ b).data.toList.length = (a ++ b).size := rfl
    rw [e, ByteArray.size_append] at hl
    simp at hl
    omega
  simpa using this
theorem bw_cell {w : World} (y : BW w) {b o : Nat} {v : Value} (h : w.cell? ⟨b, o, none⟩ = some v) : y.val.cell? ⟨b, o, none⟩ = some v := (y.bel.cell (p := ⟨b, o, none⟩) (lt_of_cell h)).trans h
theorem case_way {ns : List Nod} (h : Goods ns) {i : Nat} (hi : i < ns.length) {c : Cas} (hc : c ∈ (nd ns i).cases) : 0 ≤ c.to ∧ c.to < ns.length := by
  obtain ⟨j, hj, e⟩ := List.getElem_of_mem hc
  have hlen : (optL (nd ns i).to).length + j < (outL (nd ns i)).length := by simp [outL, timelyL]; omega
  have := h.lead i hi _ hlen
  have e2 : (outL (nd ns i))[(optL (nd ns i).to).length + j]?.getD 0 = c.to := by
    simp only [outL, timelyL, List.append_assoc]
    rw [List.getElem?_append_right (by omega)]
    simp [List.getElem?_append_left, hj, e]
  rw [e2] at this
  exact ⟨this.1, this.2.1⟩
theorem br_way {ns : List Nod} (h : Goods ns) {i : Nat} (hi : i < ns.length) {x : Int} (hc : x ∈ (nd ns i).branches) : 0 ≤ x ∧ x < ns.length := by
  obtain ⟨j, hj, e⟩ := List.getElem_of_mem hc
  have hlen : (optL (nd ns i).to).length + ((nd ns i).cases.length + ((optL (nd ns i).els).length + j)) < (outL (nd ns i)).length := by simp [outL, timelyL]; omega
  have := h.lead i hi _ hlen
  have e2 : (outL (nd ns i))[(optL (nd ns i).to).length + ((nd ns i).cases.length + ((optL (nd ns i).els).length + j))]?.getD 0 = x := by
    simp only [outL, timelyL, List.append_assoc]
    rw [List.getElem?_append_right (by omega), Nat.add_sub_cancel_left, List.getElem?_append_right (by simp), List.length_map, Nat.add_sub_cancel_left, List.getElem?_append_right (by omega), Nat.add_sub_cancel_left]
    simp [List.getElem?_append_left, hj, e]
  rw [e2] at this
  exact ⟨this.1, this.2.1⟩
theorem els_way {ns : List Nod} (h : Goods ns) {i : Nat} (hi : i < ns.length) (hl : (nd ns i).els ≠ -1) : 0 ≤ (nd ns i).els ∧ (nd ns i).els < ns.length := by
  have hlen : (optL (nd ns i).to).length + ((nd ns i).cases.length) < (outL (nd ns i)).length := by simp [outL, timelyL, optL, hl]
  have := h.lead i hi _ hlen
  have e2 : (outL (nd ns i))[(optL (nd ns i).to).length + (nd ns i).cases.length]?.getD 0 = (nd ns i).els := by
    simp only [outL, timelyL, List.append_assoc]
    rw [List.getElem?_append_right (by omega), Nat.add_sub_cancel_left, List.getElem?_append_right (by simp), List.length_map, Nat.sub_self]
    simp [optL, hl]
  rw [e2] at this
  exact ⟨this.1, this.2.1⟩
theorem case_sz (ns : List Nod) (c : Cas) (hids : ∀ j, (nd ns j).id.size ≤ 40) (hv : -2147483648 ≤ c.val ∧ c.val ≤ 2147483647) : (caseT ns c).size ≤ 1100 := by
  unfold caseT
  have h1 := qT_size ⟨#[118, 97, 114]⟩ (chS c.var) (by decide) (by unfold chS; rw [mkS_size]; simp)
  have h2 := qT_size ⟨#[111, 112]⟩ (opS c.op) (by decide) (by unfold opS; (repeat' split) <;> decide)
  have hd : (mkS (Lib.itoa c.val)).size ≤ 13 := by rw [mkS_size]; exact itoa_len _ (by omega) (by omega)
  have h3 := qT_size ⟨#[118, 97, 108, 117, 101]⟩ (mkS (Lib.itoa c.val)) (by decide) (by omega)
  have h4 := leads_sz (ns := ns) (j := c.to.toNat) (hids _)
  have e1 : (⟨#[60, 119, 104, 101, 110]⟩ : ByteArray).size = 5 := rfl
  have e2 : (⟨#[47, 62]⟩ : ByteArray).size = 2 := rfl
  simp only [ByteArray.size_append]
  omega
theorem casesT_sz (ns : List Nod) (l : List Cas) (hids : ∀ j, (nd ns j).id.size ≤ 40) (hv : ∀ c, c ∈ l → -2147483648 ≤ c.val ∧ c.val ≤ 2147483647) : ∀ k, k ≤ l.length → (casesT ns l k).size ≤ 1100 * k
  | 0, _ => by simp [casesT, ByteArray.size]
  | k + 1, h => by
    have := casesT_sz ns l hids hv k (by omega)
    have h2 := case_sz ns (l.getD k Cas.zero) hids (hv _ (by rw [List.getD_eq_getElem?_getD, List.getElem?_eq_getElem (by omega)]; exact List.getElem_mem _))
    simp only [casesT, ByteArray.size_append]
    omega
set_option maxHeartbeats 4000000 in
set_option maxRecDepth 100000 in
theorem nodeText_k3 (id : ByteArray) (b o cap : Nat) (ns : List Nod) (rs : Nat → Raw) (i : Nat) (inF : Nat → ByteArray) (w : World) (hm : ModIn w (some ⟨b, o, none⟩) ns rs) (hg : Goods ns) (hi : i < ns.length) (hk : (nd ns i).kind = 3) :
    Calls Tryz.prog 127 #[modV id (some ⟨b, o, none⟩) ns.length cap, .int .i64 i] w fun e w' => e = .returned (.string (nodeT ns inF i)) ∧ Below w.heap.size w w' := by
  have hok : NodeOk ns (nd ns i) := nodeOk_of (hg.nodes i hi).1
  have h24 := hg.len
  obtain ⟨n, hn⟩ : ∃ n, ns.length = n := ⟨_, rfl⟩
  have HN : Hid (ns.length = n) := hn
  have HMo : Hid (ModIn w (some ⟨b, o, none⟩) ns rs) := hm
  have HGo : Hid (Goods ns) := hg
  have HOk : Hid (NodeOk ns (nd ns i)) := hok
  have hc : ∀ W, Below w.heap.size w W → NodCells W b (o + i * 10) (nd ns i) (rs i) ∧ NodIn W (nd ns i) (rs i) := by
    intro W hW
    obtain ⟨b', o', e, h⟩ := (hm.below hW).cells i (by omega)
    cases e; exact ⟨h, (hm.below hW).node i (by omega)⟩
  have HC : Hid (∀ W, Below w.heap.size w W → NodCells W b (o + i * 10) (nd ns i) (rs i) ∧ NodIn W (nd ns i) (rs i)) := hc
  have HIds : Hid (∀ j, j < n → (nd ns j).id.size ≤ 40) := fun j hj => (nodeOk_of (ns := ns) (hg.nodes j (by omega)).1).id
  rw [hn] at hi h24
  unfold modV
  simp only [SlV, hn, Option.map_some]
  clear hc hm hn hok hg
  have hib : (i : Int) < n := by omega
  have HAll : Hid (∀ j, (nd ns j).id.size ≤ 40) := fun j => if hj : j < n then HIds.out j hj else by
    have : nd ns j = zN := by unfold nd; rw [List.getD_eq_getElem?_getD, List.getElem?_eq_none (by rw [HN.out]; omega)]; rfl
    rw [this]; decide
  have HLate : Hid ((nd ns i).after ≠ 0 → 0 ≤ (nd ns i).late ∧ (nd ns i).late < ns.length) := fun h => late_way HGo.out (by rw [HN.out]; exact hi) (HOk.out.late h)
  have hto : (nd ns i).to = -1 := HOk.out.noto (by rw [hk]; rfl)
  have HTo : Hid ((nd ns i).to = -1) := hto
  obtain ⟨el, hels, heln⟩ : ∃ t : Nat, (nd ns i).els = (t : Int) ∧ t < n := by
    have := els_way HGo.out (by rw [HN.out]; exact hi) (HOk.out.els hk)
    rw [HN.out] at this
    exact ⟨(nd ns i).els.toNat, by omega, by omega⟩
  have HEls : Hid ((nd ns i).els = (el : Int)) := hels
  have hl := fun W (hW : Below w.heap.size w W) => leads_any id (some ⟨b, o, none⟩) cap ns rs el W (HMo.out.below hW) (by rw [HN.out]; exact heln) (HIds.out el heln)
  unfold modV at hl
  simp only [SlV, HN.out, Option.map_some] at hl
  have hz2 := leads_sz (ns := ns) (j := el) (HIds.out el heln)
  obtain ⟨Q2, e2⟩ : ∃ Q, leadsT ns el = Q := ⟨_, rfl⟩
  rw [e2] at hl hz2
  have HQ2 : Hid (leadsT ns el = Q2) := e2
  have HL := (show Hid (∀ W, Below w.heap.size w W → Calls Tryz.prog 210 #[.agg #[.string id, .slice (some ⟨b, o, none⟩) n cap], .int .i64 el] W fun e w' => e = .returned (.string Q2) ∧ Below W.heap.size W w') from hl)
  clear e2 hl
  obtain ⟨nc, hcl⟩ : ∃ x, (nd ns i).cases.length = x := ⟨_, rfl⟩
  have HCl : Hid ((nd ns i).cases.length = nc) := hcl
  have hnc : nc ≤ 6 := by rw [← hcl]; exact HOk.out.cas
  have HCT : Hid (∀ j W, j < nc → Below w.heap.size w W → Calls Tryz.prog 211 #[.agg #[.string id, .slice (some ⟨b, o, none⟩) n cap], .agg #[.int .u8 ((nd ns i).cases.getD j Cas.zero).var, .int .i64 ((nd ns i).cases.getD j Cas.zero).op, .int .i32 ((nd ns i).cases.getD j Cas.zero).val, .int .i64 ((nd ns i).cases.getD j Cas.zero).to]] W fun e w' => e = .returned (.string (caseT ns ((nd ns i).cases.getD j Cas.zero))) ∧ Below W.heap.size W w') := by
    intro j W hj hW
    have hmem : (nd ns i).cases.getD j Cas.zero ∈ (nd ns i).cases := by rw [List.getD_eq_getElem?_getD, List.getElem?_eq_getElem (by omega)]; exact List.getElem_mem _
    have hco := HOk.out.casok _ hmem
    simp only [casOk, Bool.not_eq_true', Bool.or_eq_false_iff, decide_eq_false_iff_not] at hco
    have := caseText_any id (some ⟨b, o, none⟩) cap ns rs ((nd ns i).cases.getD j Cas.zero) W (HMo.out.below hW) HAll.out (by omega) (by omega) (HGo.out.vals i _ hmem) (case_way HGo.out (by rw [HN.out]; exact hi) hmem)
    unfold modV at this
    simp only [SlV, HN.out, Option.map_some] at this
    exact this
  have HCz : Hid (∀ j, j ≤ nc → (casesT ns (nd ns i).cases j).size ≤ 1100 * j) := fun j hj => casesT_sz ns _ HAll.out (HGo.out.vals i) j (by omega)
  have HCz1 : Hid (∀ j, j < nc → (caseT ns ((nd ns i).cases.getD j Cas.zero)).size ≤ 1100) := fun j hj => case_sz ns _ HAll.out (HGo.out.vals i _ (by rw [List.getD_eq_getElem?_getD, List.getElem?_eq_getElem (by omega)]; exact List.getElem_mem _))
  have hbl : (nd ns i).branches.length = 0 := by rw [HOk.out.nobr (by rw [hk]; decide)]; rfl
  have HBl : Hid ((nd ns i).branches = []) := HOk.out.nobr (by rw [hk]; decide)
  have hnm : (nd ns i).name = ⟨#[]⟩ := bytes_inj (by rw [HOk.out.noname (by rw [hk]; decide), ByteArray.toList_eq])
  have HNm : Hid ((nd ns i).name = ⟨#[]⟩) := hnm
  have HK : Hid ((nd ns i).kind = 3) := hk
  obtain ⟨W2, hW2⟩ : ∃ W2, (w.alloc (Obj.cells #[.string id, .slice (some ⟨b, o, none⟩) n cap] 25)).alloc (Obj.cells #[.string ⟨#[115, 116, 97, 114, 116]⟩, .string ⟨#[116, 97, 115, 107]⟩, .string ⟨#[99, 104, 111, 105, 99, 101]⟩, .string ⟨#[102, 111, 114, 107]⟩, .string ⟨#[106, 111, 105, 110]⟩, .string ⟨#[115, 117, 98]⟩, .string ⟨#[101, 110, 100]⟩] 9) = W2 := ⟨_, rfl⟩
  have HB2 : Hid (Below w.heap.size w W2) := by rw [← hW2]; exact ((Below.refl _ _).alloc (Nat.le_refl _) _).alloc (by simp) _
  have hs2 : W2.heap.size = w.heap.size + 2 := by rw [← hW2]; simp
  obtain ⟨hcell, hnode⟩ := HC.out W2 HB2.out
  obtain ⟨c0, c1, c2, c3, c4, c5, c6, c7, c8, c9⟩ := hcell
  simp only [SlV] at c5 c7
  obtain ⟨A5, hA5⟩ : ∃ A, (rs i).ca = A := ⟨_, rfl⟩
  obtain ⟨A7, hA7⟩ : ∃ A, (rs i).ba = A := ⟨_, rfl⟩
  have HA5 : Hid ((rs i).ca = A5) := hA5
  have HA7 : Hid ((rs i).ba = A7) := hA7
  rw [hA5, hcl] at c5
  rw [hA7, hbl] at c7
  rw [hnm] at c2
  rw [hto] at c4
  rw [hels] at c6
  rw [hk] at c0
  have HTm : Hid (∀ W, Below w.heap.size w W → Calls Tryz.prog 212 #[.agg #[.string id, .slice (some ⟨b, o, none⟩) n cap], .agg #[.int .i64 3, .string (nd ns i).id, .string ⟨#[]⟩, .int .i64 (nd ns i).up, .int .i64 (-1), .slice A5 nc (rs i).cc, .int .i64 el, .slice A7 0 (rs i).bc, .int .i64 (nd ns i).after, .int .i64 (nd ns i).late]] W fun e w' => e = .returned (.string (timerT ns (nd ns i))) ∧ Below W.heap.size W w') := by
    intro W hW
    have := timerText_any id (some ⟨b, o, none⟩) cap ns rs (nd ns i) (rs i) W (HMo.out.below hW) HOk.out.id HAll.out HOk.out.aft HLate.out
    unfold modV nodV at this
    simp only [SlV, HN.out, Option.map_some, hA5, hA7, hcl, hbl, hnm, hto, hels, hk] at this
    exact this
  have HTz : Hid ((timerT ns (nd ns i)).size ≤ 1000) := timer_sz HOk.out HAll.out
  clear hA5 hA7 hnode hk hto hels hcl hbl hnm
  obtain ⟨W3, hW3⟩ : ∃ W3, W2.alloc (Obj.cells #[.int .i64 3, .string (nd ns i).id, .string ⟨#[]⟩, .int .i64 (nd ns i).up, .int .i64 (-1), .slice A5 nc (rs i).cc, .int .i64 el, .slice A7 0 (rs i).bc, .int .i64 (nd ns i).after, .int .i64 (nd ns i).late] 87) = W3 := ⟨_, rfl⟩
  have HB3 : Hid (Below w.heap.size w W3) := by rw [← hW3]; exact HB2.out.alloc (by rw [hs2]; omega) _
  have hs3 : W3.heap.size = w.heap.size + 3 := by rw [← hW3]; simp [hs2]
  have HX : Hid (∀ W, Below W3.heap.size W3 W → (W.cell? ⟨w.heap.size, 0, none⟩ = some (.string id) ∧ W.cell? ⟨w.heap.size, 1, none⟩ = some (.slice (some ⟨b, o, none⟩) n cap)) ∧ NodCells' W (w.heap.size + 2) 3 (nd ns i).id ⟨#[]⟩ (nd ns i).up (-1) A5 nc (rs i).cc el A7 0 (rs i).bc (nd ns i).after (nd ns i).late) := by
    intro W hW
    have k0 := fun (x : Nat) => hW.cell (p := ⟨w.heap.size, x, none⟩) (by show w.heap.size < _; omega)
    have k2 := fun (x : Nat) => hW.cell (p := ⟨w.heap.size + 2, x, none⟩) (by show w.heap.size + 2 < _; omega)
    have m2 := fun (p : Addr) (h : p.block < W2.heap.size) => cell_alloc_lt W2 (Obj.cells #[.int .i64 3, .string (nd ns i).id, .string ⟨#[]⟩, .int .i64 (nd ns i).up, .int .i64 (-1), .slice A5 nc (rs i).cc, .int .i64 el, .slice A7 0 (rs i).bc, .int .i64 (nd ns i).after, .int .i64 (nd ns i).late] 87) p h
    refine ⟨⟨?_, ?_⟩, ?_⟩
    · rw [k0, ← hW3, m2 _ (by show w.heap.size < _; omega), ← hW2]; simp [go_sem]
    · rw [k0, ← hW3, m2 _ (by show w.heap.size < _; omega), ← hW2]; simp [go_sem]
    · rw [← hs2, ← hW3] at k2
      rw [← hs2]
      exact ⟨by rw [k2]; simp [go_sem], by rw [k2]; simp [go_sem], by rw [k2]; simp [go_sem], by rw [k2]; simp [go_sem], by rw [k2]; simp [go_sem], by rw [k2]; simp [go_sem], by rw [k2]; simp [go_sem], by rw [k2]; simp [go_sem], by rw [k2]; simp [go_sem], by rw [k2]; simp [go_sem]⟩
  have HW3 : Hid (W2.alloc (Obj.cells #[.int .i64 3, .string (nd ns i).id, .string ⟨#[]⟩, .int .i64 (nd ns i).up, .int .i64 (-1), .slice A5 nc (rs i).cc, .int .i64 el, .slice A7 0 (rs i).bc, .int .i64 (nd ns i).after, .int .i64 (nd ns i).late] 87) = W3) := hW3
  have HS3 : Hid (W3.heap.size = w.heap.size + 3) := hs3
  have HBX : Hid (∀ W, Below W3.heap.size W3 W → Below w.heap.size w W) := fun W hW => HB3.out.trans (hW.mono (by rw [HS3.out]; omega))
  have y0 : W2.cell? ⟨w.heap.size, 0, none⟩ = some (.string id) := by rw [← hW2]; simp [go_sem]
  have y1 : W2.cell? ⟨w.heap.size, 1, none⟩ = some (.slice (some ⟨b, o, none⟩) n cap) := by rw [← hW2]; simp [go_sem]
  have yn : W2.cell? ⟨w.heap.size + 1, 2, none⟩ = some (.string ⟨#[99, 104, 111, 105, 99, 101]⟩) := by rw [← hW2]; simp [go_sem]
  clear hs3 hW3
  have hq := fun W => quoted_q ⟨#[105, 100]⟩ (nd ns i).id W (by decide) HOk.out.id
  have hz1 := qT_size ⟨#[105, 100]⟩ (nd ns i).id (by decide) HOk.out.id
  obtain ⟨Q1, e1⟩ : ∃ Q, qT ⟨#[105, 100]⟩ (nd ns i).id = Q := ⟨_, rfl⟩
  rw [e1] at hq hz1
  have HQ1 : Hid (qT ⟨#[105, 100]⟩ (nd ns i).id = Q1) := e1
  obtain ⟨T, eT⟩ : ∃ T, timerT ns (nd ns i) = T := ⟨_, rfl⟩
  have HT : Hid (timerT ns (nd ns i) = T) := eT
  rw [eT] at HTm HTz
  clear e1 eT
  go_enter Tryz.func127, Tryz.ntmps127
  go_wp2_with fail
  rw [HW3.out]
  refine (hq W3).mono ?_
  rintro e w4 ⟨rfl, hw4⟩
  rw [hw4]
  obtain ⟨⟨x0, x1⟩, xc⟩ := HX.out W3 (Below.refl _ _)
  obtain ⟨d0, d1, d2, d3, d4, d5, d6, d7, d8, d9⟩ := xc
  clear hW2 c0 c1 c2 c3 c4 c5 c6 c7 c8 c9 y0 y1 yn hw4 hq hs2
  go_wp2_with fail
  clear x0 x1 d0 d1 d2 d3 d4 d5 d6 d7 d8 d9
  go_loopw [11, 12] (fun v q wr => ∃ j : Nat, j ≤ nc ∧ q = .int .i64 j ∧ v = .string (casesT ns (nd ns i).cases j) ∧ Below W3.heap.size W3 wr) (fun _ q _ => nc - (intOf q).toNat)
  case atStart => exact ⟨0, Nat.zero_le _, rfl, rfl, Below.refl _ _⟩
  case round =>
    obtain ⟨j, hj, rfl, rfl, hbw⟩ := hrel
    have HBW : Hid (Below W3.heap.size W3 wr) := hbw
    clear hbw
    obtain ⟨⟨x0, x1⟩, xc⟩ := HX.out wr HBW.out
    obtain ⟨d0, d1, d2, d3, d4, d5, d6, d7, d8, d9⟩ := xc
    have hcz := HCz.out j hj
    by_cases hjc : j < nc
    · have hjb : (j : Int) < nc := by omega
      obtain ⟨cb, co, ec, cc0, cc1, cc2, cc3⟩ := (HC.out wr (HBX.out wr HBW.out)).2.cs j (by rw [HCl.out]; exact hjc)
      have hA5' := HA5.out
      rw [ec] at hA5'
      try simp only [Option.map_some] at hA5'
      rw [← hA5'] at d5
      obtain ⟨C, hC⟩ : ∃ c, (nd ns i).cases.getD j Cas.zero = c := ⟨_, rfl⟩
      have hcl1 := HCz1.out j hjc
      have HCC : Hid (casesT ns (nd ns i).cases (j + 1) = casesT ns (nd ns i).cases j ++ caseT ns C) := by rw [← hC]; exact rfl
      have hct := fun W (hW : Below w.heap.size w W) => HCT.out j W hjc hW
      rw [hC] at cc0 cc1 cc2 cc3 hcl1 hct
      have HCt := (show Hid (∀ y : BW wr, Calls Tryz.prog 211 #[.agg #[.string id, .slice (some ⟨b, o, none⟩) n cap], .agg #[.int .u8 C.var, .int .i64 C.op, .int .i32 C.val, .int .i64 C.to]] y.val fun e w' => e = .returned (.string (caseT ns C)) ∧ Below y.val.heap.size y.val w') from fun y => hct y.val ((HBX.out wr HBW.out).trans (y.bel.mono (HBX.out wr HBW.out).size)))
      have hne : Nonempty (BW wr) := ⟨⟨wr, Below.refl _ _⟩⟩
      have z0 := fun (y : BW wr) => (bw_cell y x0)
      have z1 := fun (y : BW wr) => (bw_cell y x1)
      have z5 := fun (y : BW wr) => (bw_cell y d5)
      have v0 := fun (y : BW wr) => (bw_cell y cc0)
      have v1 := fun (y : BW wr) => (bw_cell y cc1)
      have v2 := fun (y : BW wr) => (bw_cell y cc2)
      have v3 := fun (y : BW wr) => (bw_cell y cc3)
      clear hC hct hA5'
      go_wp2_with fail
      refine wp_region_below (by kernel_rfl) (by kernel_rfl) ?_
      repeat (go_big_quiet_step (first | (go_at_call 211; exact Calls.bw _ (HCt.out _))))
      refine wpQuiet_nil ?_
      intro _ hw'
      obtain ⟨y, rfl⟩ := hw'
      go_wp2_with fail
      exact ⟨⟨j + 1, by omega, by go_num, by rw [HCC.out], HBW.out.trans (y.bel.mono HBW.out.size)⟩, by simp [intOf]; omega⟩
    · obtain rfl : j = nc := by omega
      obtain ⟨CT, hCT⟩ : ∃ x, casesT ns (nd ns i).cases j = x := ⟨_, rfl⟩
      have HCT2 : Hid (casesT ns (nd ns i).cases (nd ns i).cases.length = CT) := by rw [HCl.out]; exact hCT
      rw [hCT] at hcz ⊢
      clear hCT
      obtain ⟨IN, hIN⟩ : ∃ x, (((CT ++ ⟨#[60, 101, 108, 115, 101]⟩) ++ Q2) ++ ⟨#[47, 62]⟩ : ByteArray) = x := ⟨_, rfl⟩
      have HIN : Hid ((((CT ++ ⟨#[60, 101, 108, 115, 101]⟩) ++ Q2) ++ ⟨#[47, 62]⟩ : ByteArray) = IN) := hIN
      have hne2 : (IN.toList == []) = false := by rw [← hIN]; exact app_ne _ _ (by decide)
      have hinz : IN.size ≤ 20000 := by rw [← hIN]; simp only [ByteArray.size_append]; have e1 : (⟨#[60, 101, 108, 115, 101]⟩ : ByteArray).size = 5 := rfl; have e2 : (⟨#[47, 62]⟩ : ByteArray).size = 2 := rfl; omega
      have HEq : Hid (nodeT ns inF i = (((((((⟨#[60]⟩ ++ ⟨#[99, 104, 111, 105, 99, 101]⟩) ++ Q1) ++ ⟨#[62]⟩) ++ IN) ++ ⟨#[60, 47]⟩) ++ ⟨#[99, 104, 111, 105, 99, 101]⟩) ++ ⟨#[62]⟩) ++ T) := by
        show nodeT ns inF i = _
        have hx : ¬ IN.data.toList = [] := by have := hne2; rw [ByteArray.toList_eq] at this; simpa using this
        have hx2 : ¬ IN.data = #[] := fun e => hx (by rw [e])
        have hx3 := HIN.out
        simp [nodeT, shutT, headT, innerT, elseT, brT, nmS, ByteArray.toList_eq, HK.out, HTo.out, HEls.out, HCT2.out, HBl.out, HNm.out, HQ1.out, HQ2.out, HT.out, hx3, hx, hx2]
      go_wp2_with fail
      refine (HL.out wr (HBX.out wr HBW.out)).mono ?_
      rintro e w5 ⟨rfl, hb5⟩
      have HB5 : Hid (Below W3.heap.size W3 w5) := HBW.out.trans (hb5.mono HBW.out.size)
      clear hb5 x0 x1 d0 d1 d2 d3 d4 d5 d6 d7 d8 d9
      obtain ⟨⟨x0, x1⟩, xc⟩ := HX.out w5 HB5.out
      obtain ⟨d0, d1, d2, d3, d4, d5, d6, d7, d8, d9⟩ := xc
      go_wp2_with fail
      clear hIN
      refine wp_loop_rounds 1 ?_
      rw [rounds_succ]
      go_wp2_with fail
      refine (HTm.out w5 (HBX.out w5 HB5.out)).mono ?_
      rintro e w6 ⟨rfl, hb6⟩
      have HB6 : Hid (Below w.heap.size w w6) := (HBX.out w5 HB5.out).trans (hb6.mono (HBX.out w5 HB5.out).size)
      have hTz := HTz.out
      clear hb6
      go_wp2_with fail
      go_ret
      exact ⟨congrArg (fun x => Ending.returned (Value.string x)) HEq.out.symm, HB6.out⟩
end Go.Proofs.YtjkpbpgeedihhaaGreatDoor
