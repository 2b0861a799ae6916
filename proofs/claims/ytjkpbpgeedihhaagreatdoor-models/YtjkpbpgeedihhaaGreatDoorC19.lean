import Derived.Test.YtjkpbpgeedihhaaGreatDoorC07
import Derived.Test.YtjkpbpgeedihhaaGreatDoorC15
import Derived.SizedLaws
import Derived.Deep.Slices
import Derived.Lib.SmallJoins
set_option linter.all false
namespace Go.Proofs.YtjkpbpgeedihhaaGreatDoor
open Go.RowKit
open M
section
variable {H : Type} {enc : TypeId × Value → H} {P : Program} {w : World} {base : Nat} {spare : Nat → Bool} {held : Bool}
/-- A struct whose fields are one cell each: its cells, each with its reading; what each weighs, the whole weighs. -/
theorem open_fields {t : TypeId} {fs : Array Field} {fuel : Nat} {cs : List Value} {x : DataW H × List MemPlace} (ht : P.underlying t = some (.struct fs)) (hone : (fs.toList.zipIdx.all fun p => p.1.offset == p.2 && P.cellsOf p.1.type == 1) = true) (hct : P.cellsOf t = fs.size)
    (h : DataW.trod enc P w base spare held fuel t cs = some x) :
    ∃ n, cs.length = fs.size ∧ ∀ (i : Nat) (f : Field), fs[i]? = some f → ∃ v y, cs[i]? = some v ∧ DataW.trod enc P w base spare held n f.type [v] = some y ∧ ∀ m ∈ y.1.weights P f.type, m ∈ x.1.weights P t := by
  obtain ⟨xs, n, _, hx, hl, hlen, hf⟩ := DataW.trod_struct ht h
  refine ⟨n, hl.trans hct, fun i f hfi => ?_⟩
  have hi : i < fs.size := by
    rcases Nat.lt_or_ge i fs.size with h' | h'
    · exact h'
    · rw [Array.getElem?_eq_none h'] at hfi; cases hfi
  have h1 := List.all_eq_true.1 hone (f, i) (by
    rw [List.mem_zipIdx_iff_getElem?]
    simpa using hfi)
  simp only [Bool.and_eq_true, beq_iff_eq] at h1
  have h2 := hf i f hfi
  rw [h1.1, h1.2] at h2
  have hic : i < cs.length := by omega
  have h3 : (cs.drop i).take 1 = [cs[i]] := by
    rw [List.drop_eq_getElem_cons hic]; rfl
  rw [h3, List.getElem?_eq_getElem (by omega)] at h2
  refine ⟨cs[i], xs[i], List.getElem?_eq_getElem hic, h2, fun m hm => ?_⟩
  rw [hx]
  simp only [DataW.weights, ht]
  exact DataW.weights_mem_each (j := i) (t := f.type) (d := (xs[i]).1) (by simpa using ⟨f, hfi, rfl⟩) (by simp [List.getElem?_eq_getElem (show i < xs.length by omega)]) m hm
theorem all_mem {e : TypeId} : ∀ {l : List (DataW H)} {d : DataW H}, d ∈ l → ∀ n ∈ d.weights P e, n ∈ DataW.weightsAll P e l
  | _ :: r, d, hd, n, hn => by
    simp only [DataW.weightsAll, List.mem_append]
    rcases List.mem_cons.1 hd with rfl | hd
    · exact Or.inl hn
    · exact Or.inr (all_mem hd n hn)
/-- A slice: its elements' cells, each element with its reading and its weight; its own weight. -/
theorem open_elems {t e : TypeId} {S fuel : Nat} {cs : List Value} {x : DataW H × List MemPlace} (ht : P.underlying t = some (.slice e)) (hS : P.cellsOf e = S) (hpos : 0 < S) (h : DataW.trod enc P w base spare held fuel t cs = some x) :
    (cs = [.slice none 0 0]) ∨
    ∃ (a : Addr) (len cap n : Nat), cs = [.slice (some a) len cap] ∧ len * P.bytesOf e ≤ (x.1.weights P t).headD 0 ∧ (x.1.weights P t).headD 0 ∈ x.1.weights P t ∧ len ≤ maxLen ∧
      ∀ i, i < len → ∃ b o cs' y, a = ⟨b, o, none⟩ ∧ cs'.length = S ∧ (∀ j, j < S → w.cell? ⟨b, o + i * S + j, none⟩ = cs'[j]?) ∧ DataW.trod enc P w base spare held n e cs' = some y ∧ ∀ m ∈ y.1.weights P e, m ∈ x.1.weights P t := by
  rcases Deep.open_slice ht h with ⟨h0, _⟩ | ⟨a, len, cap, m, n, D, Pl, rfl, _, hl, hmx, hm, rfl, hx⟩
  · exact Or.inl h0
  · right
    have hlm : len ≤ m := by rw [hm]; split <;> omega
    refine ⟨a, len, cap, n, rfl, ?_, ?_, by omega, fun i hi => ?_⟩
    · simp only [DataW.weights, ht, List.headD_cons, List.length_map, List.length_range]
      exact Nat.mul_le_mul_right _ (by omega)
    · simp only [DataW.weights, ht, List.headD_cons]; exact List.mem_cons_self
    · obtain ⟨cs', h1, h2⟩ := hx i (by omega)
      rw [hS] at h1
      obtain ⟨_, hcl, hc⟩ := World.cells?_some h1
      obtain ⟨cs0, g1, _⟩ := hx 0 (by omega)
      rw [hS] at g1
      obtain ⟨_, gl, gc⟩ := World.cells?_some g1
      have hsp : a.spot = none := by
        have := gc 0 hpos
        rw [List.getElem?_eq_getElem (by omega)] at this
        have h9 := World.cell?_spot this
        simpa [Addr.add] using h9
      obtain ⟨b, o, s⟩ := a
      obtain rfl : s = none := hsp
      refine ⟨b, o, cs', (D i, Pl i), rfl, hcl, fun j hj => ?_, h2, fun q hq => ?_⟩
      · rw [← hc j hj, WideShapes.add_plain, WideShapes.add_plain]
      · simp only [DataW.weights, ht, List.mem_cons, List.mem_append]
        exact Or.inr (Or.inl (all_mem (List.mem_map.2 ⟨i, List.mem_range.2 hi, rfl⟩) q hq))
end
section
variable {H : Type} {enc : TypeId × Value → H} {W : World} {base : Nat} {spare : Nat → Bool} {held : Bool}
theorem Tryz.cells89 : Tryz.prog.cellsOf 89 = 4 := by kernel_rfl
theorem Tryz.cells87 : Tryz.prog.cellsOf 87 = 10 := by kernel_rfl
theorem Tryz.cells3 : Tryz.prog.cellsOf 3 = 1 := by kernel_rfl
theorem Tryz.cells25 : Tryz.prog.cellsOf 25 = 2 := by kernel_rfl
theorem Tryz.bytes89 : Tryz.prog.bytesOf 89 = 32 := by kernel_rfl
theorem Tryz.bytes87 : Tryz.prog.bytesOf 87 = 128 := by kernel_rfl
theorem Tryz.bytes3 : Tryz.prog.bytesOf 3 = 8 := by kernel_rfl
def Fits (l : List Nat) : Prop := ∀ m ∈ l, m ≤ 140737488351232
theorem open_case {fuel : Nat} {cs : List Value} {x : DataW H × List MemPlace} (h : DataW.trod enc Tryz.prog W base spare held fuel 89 cs = some x) :
    ∃ c : Cas, cs = [.int .u8 c.var, .int .i64 c.op, .int .i32 c.val, .int .i64 c.to] ∧ -2147483648 ≤ c.val ∧ c.val ≤ 2147483647 := by
  obtain ⟨n, hl, hf⟩ := open_fields Tryz.underlying89 (by kernel_rfl) (by kernel_rfl) h
  obtain ⟨v0, y0, e0, t0, _⟩ := hf 0 _ rfl
  obtain ⟨v1, y1, e1, t1, _⟩ := hf 1 _ rfl
  obtain ⟨v2, y2, e2, t2, _⟩ := hf 2 _ rfl
  obtain ⟨v3, y3, e3, t3, _⟩ := hf 3 _ rfl
  obtain ⟨z0, k0, _, _⟩ := DataW.trod_int Tryz.underlying5 (show DataW.trod enc Tryz.prog W base spare held n 5 [v0] = some y0 from t0)
  obtain ⟨z1, k1, _, _⟩ := DataW.trod_int Tryz.underlying3 (show DataW.trod enc Tryz.prog W base spare held n 3 [v1] = some y1 from t1)
  obtain ⟨z2, k2, _, w2⟩ := DataW.trod_int Tryz.underlying21 (show DataW.trod enc Tryz.prog W base spare held n 21 [v2] = some y2 from t2)
  obtain ⟨z3, k3, _, _⟩ := DataW.trod_int Tryz.underlying3 (show DataW.trod enc Tryz.prog W base spare held n 3 [v3] = some y3 from t3)
  simp only [List.cons.injEq, and_true] at k0 k1 k2 k3
  subst k0 k1 k2 k3
  refine ⟨⟨z0, z1, z2, z3⟩, ?_, ?_⟩
  · match cs, (show cs.length = 4 from hl), e0, e1, e2, e3 with
    | [a, b, c, d], _, e0, e1, e2, e3 =>
      simp at e0 e1 e2 e3
      rw [e0, e1, e2, e3]
  · simpa [Lit.wf, IntKind.min, IntKind.max, IntKind.signed, IntKind.bits] using w2
theorem getD_range {α : Type} (f : Nat → α) (d : α) {n i : Nat} (hi : i < n) : ((List.range n).map f).getD i d = f i := by
  simp [List.getD, hi]
theorem open_cases {fuel : Nat} {v : Value} {x : DataW H × List MemPlace} (h : DataW.trod enc Tryz.prog W base spare held fuel 85 [v] = some x) (hw : Fits (x.1.weights Tryz.prog 85)) :
    ∃ (a : Option Addr) (c : Nat) (l : List Cas), v = SlV a l.length c ∧ CasesIn W a l ∧ (a = none → c = 0) ∧ l.length * 32 ≤ 140737488351232 ∧ ∀ c ∈ l, -2147483648 ≤ c.val ∧ c.val ≤ 2147483647 := by
  rcases open_elems Tryz.underlying85 Tryz.cells89 (by decide) h with hv | ⟨a, len, cap, n, hv, hlen, hmem, _, hel⟩
  · simp only [List.cons.injEq, and_true] at hv
    exact ⟨none, 0, [], hv, fun i hi => by simp at hi, fun _ => rfl, by simp, fun c hc => by cases hc⟩
  · simp only [List.cons.injEq, and_true] at hv
    have hfit := hw _ hmem
    rw [Tryz.bytes89] at hlen
    obtain ⟨C, hC⟩ : ∃ C : Nat → Cas, ∀ i, i < len → ∃ b o, a = ⟨b, o, none⟩ ∧ (W.cell? ⟨b, o + i * 4, none⟩ = some (.int .u8 (C i).var) ∧ W.cell? ⟨b, o + i * 4 + 1, none⟩ = some (.int .i64 (C i).op) ∧ W.cell? ⟨b, o + i * 4 + 2, none⟩ = some (.int .i32 (C i).val) ∧ W.cell? ⟨b, o + i * 4 + 3, none⟩ = some (.int .i64 (C i).to)) ∧ -2147483648 ≤ (C i).val ∧ (C i).val ≤ 2147483647 := by
      have : ∀ i, ∃ c : Cas, i < len → ∃ b o, a = ⟨b, o, none⟩ ∧ (W.cell? ⟨b, o + i * 4, none⟩ = some (.int .u8 c.var) ∧ W.cell? ⟨b, o + i * 4 + 1, none⟩ = some (.int .i64 c.op) ∧ W.cell? ⟨b, o + i * 4 + 2, none⟩ = some (.int .i32 c.val) ∧ W.cell? ⟨b, o + i * 4 + 3, none⟩ = some (.int .i64 c.to)) ∧ -2147483648 ≤ c.val ∧ c.val ≤ 2147483647 := fun i => by
        by_cases hi : i < len
        · obtain ⟨b, o, cs', y, e, _, hc, ht, _⟩ := hel i hi
          obtain ⟨c, rfl, hr⟩ := open_case ht
          exact ⟨c, fun _ => ⟨b, o, e, ⟨by simpa using hc 0 (by omega), by simpa using hc 1 (by omega), by simpa using hc 2 (by omega), by simpa using hc 3 (by omega)⟩, hr⟩⟩
        · exact ⟨Cas.zero, fun h => absurd h hi⟩
      exact ⟨fun i => (this i).choose, fun i => (this i).choose_spec⟩
    refine ⟨some a, cap, (List.range len).map C, by simpa [SlV] using hv, fun i hi => ?_, fun e => (by cases e), ?_, fun c hc => ?_⟩
    · have hi' : i < len := by simpa using hi
      obtain ⟨b, o, e, hc, _⟩ := hC i hi'
      rw [getD_range C _ hi']
      exact ⟨b, o, by rw [e], hc⟩
    · simp only [List.length_map, List.length_range]; omega
    · obtain ⟨i, hi, rfl⟩ := List.mem_map.1 hc
      obtain ⟨_, _, _, _, h⟩ := hC i (List.mem_range.1 hi)
      exact h
theorem open_branches {fuel : Nat} {v : Value} {x : DataW H × List MemPlace} (h : DataW.trod enc Tryz.prog W base spare held fuel 35 [v] = some x) (hw : Fits (x.1.weights Tryz.prog 35)) :
    ∃ (a : Option Addr) (c : Nat) (l : List Int), v = SlV a l.length c ∧ IntsIn W a l ∧ (a = none → c = 0) ∧ l.length * 8 ≤ 140737488351232 := by
  rcases open_elems Tryz.underlying35 Tryz.cells3 (by decide) h with hv | ⟨a, len, cap, n, hv, hlen, hmem, _, hel⟩
  · simp only [List.cons.injEq, and_true] at hv
    exact ⟨none, 0, [], hv, fun i hi => by simp at hi, fun _ => rfl, by simp⟩
  · simp only [List.cons.injEq, and_true] at hv
    have hfit := hw _ hmem
    rw [Tryz.bytes3] at hlen
    obtain ⟨C, hC⟩ : ∃ C : Nat → Int, ∀ i, i < len → ∃ b o, a = ⟨b, o, none⟩ ∧ W.cell? ⟨b, o + i, none⟩ = some (.int .i64 (C i)) := by
      have : ∀ i, ∃ c : Int, i < len → ∃ b o, a = ⟨b, o, none⟩ ∧ W.cell? ⟨b, o + i, none⟩ = some (.int .i64 c) := fun i => by
        by_cases hi : i < len
        · obtain ⟨b, o, cs', y, e, _, hc, ht, _⟩ := hel i hi
          obtain ⟨z, rfl, _, _⟩ := DataW.trod_int Tryz.underlying3 ht
          exact ⟨z, fun _ => ⟨b, o, e, by simpa using hc 0 (by omega)⟩⟩
        · exact ⟨0, fun h => absurd h hi⟩
      exact ⟨fun i => (this i).choose, fun i => (this i).choose_spec⟩
    refine ⟨some a, cap, (List.range len).map C, by simpa [SlV] using hv, fun i hi => ?_, fun e => (by cases e), ?_⟩
    · have hi' : i < len := by simpa using hi
      obtain ⟨b, o, e, hc⟩ := hC i hi'
      rw [getD_range C _ hi']
      exact ⟨b, o, by rw [e], hc⟩
    · simp only [List.length_map, List.length_range]; omega
/-- One node, read. -/
structure NodeRd (W : World) (n : Nod) (r : Raw) : Prop where
  nin : NodIn W n r
  raw : RawOk r
  sz : NodSz n
  cl : n.cases.length * 32 ≤ 140737488351232
  bl : n.branches.length * 8 ≤ 140737488351232
  vals : ∀ c ∈ n.cases, -2147483648 ≤ c.val ∧ c.val ≤ 2147483647
theorem open_node {fuel : Nat} {cs : List Value} {x : DataW H × List MemPlace} (h : DataW.trod enc Tryz.prog W base spare held fuel 87 cs = some x) (hw : Fits (x.1.weights Tryz.prog 87)) :
    ∃ (n : Nod) (r : Raw), cs = (nodV n r).toList ∧ NodeRd W n r := by
  obtain ⟨n, hl, hf⟩ := open_fields Tryz.underlying87 (by kernel_rfl) (by kernel_rfl) h
  have int3 : ∀ {v : Value} {y : DataW H × List MemPlace}, DataW.trod enc Tryz.prog W base spare held n 3 [v] = some y → ∃ z, v = .int .i64 z := fun ht => by
    obtain ⟨z, k, _, _⟩ := DataW.trod_int Tryz.underlying3 ht
    exact ⟨z, by simpa using k⟩
  have str9 : ∀ {v : Value} {y : DataW H × List MemPlace}, DataW.trod enc Tryz.prog W base spare held n 9 [v] = some y → (∀ m ∈ y.1.weights Tryz.prog 9, m ∈ x.1.weights Tryz.prog 87) → ∃ s : ByteArray, v = .string s ∧ s.size ≤ 140737488355328 := fun ht hm => by
    obtain ⟨s, k, k2, _⟩ := DataW.trod_string Tryz.underlying9 ht
    refine ⟨s, by simpa using k, ?_⟩
    have h1 := hw _ (hm s.data.toList.length (by rw [k2]; simp [DataW.weights]))
    have h2 : s.data.toList.length = s.size := rfl
    omega
  obtain ⟨v0, y0, e0, t0, _⟩ := hf 0 _ rfl
  obtain ⟨v1, y1, e1, t1, m1⟩ := hf 1 _ rfl
  obtain ⟨v2, y2, e2, t2, m2⟩ := hf 2 _ rfl
  obtain ⟨v3, y3, e3, t3, _⟩ := hf 3 _ rfl
  obtain ⟨v4, y4, e4, t4, _⟩ := hf 4 _ rfl
  obtain ⟨v5, y5, e5, t5, m5⟩ := hf 5 _ rfl
  obtain ⟨v6, y6, e6, t6, _⟩ := hf 6 _ rfl
  obtain ⟨v7, y7, e7, t7, m7⟩ := hf 7 _ rfl
  obtain ⟨v8, y8, e8, t8, _⟩ := hf 8 _ rfl
  obtain ⟨v9, y9, e9, t9, _⟩ := hf 9 _ rfl
  obtain ⟨z0, rfl⟩ := int3 t0
  obtain ⟨s1, rfl, l1⟩ := str9 t1 m1
  obtain ⟨s2, rfl, l2⟩ := str9 t2 m2
  obtain ⟨z3, rfl⟩ := int3 t3
  obtain ⟨z4, rfl⟩ := int3 t4
  obtain ⟨a5, c5, L5, rfl, i5, n5, b5, r5⟩ := open_cases t5 (fun m hm => hw m (m5 m hm))
  obtain ⟨z6, rfl⟩ := int3 t6
  obtain ⟨a7, c7, L7, rfl, i7, n7, b7⟩ := open_branches t7 (fun m hm => hw m (m7 m hm))
  obtain ⟨z8, rfl⟩ := int3 t8
  obtain ⟨z9, rfl⟩ := int3 t9
  refine ⟨⟨z0, s1, s2, z3, z4, L5, z6, L7, z8, z9⟩, ⟨a5, c5, a7, c7⟩, ?_, ⟨⟨i5, i7, by unfold maxLen; simp only; omega, by unfold maxLen; simp only; omega⟩, ⟨n5, n7⟩, ⟨l1, l2⟩, b5, b7, r5⟩⟩
  match cs, (show cs.length = 10 from hl), e0, e1, e2, e3, e4, e5, e6, e7, e8, e9 with
  | [a, b, c, d, e, f, g, h, i, j], _, e0, e1, e2, e3, e4, e5, e6, e7, e8, e9 =>
    simp at e0 e1 e2 e3 e4 e5 e6 e7 e8 e9
    rw [e0, e1, e2, e3, e4, e5, e6, e7, e8, e9]
set_option maxRecDepth 100000 in
theorem open_model {r : Reach} {b0 : Nat} {v : Value} {d : DataW H} {p : List MemPlace} (hv : Value.okWide Tryz.prog W r b0 25 v) (h : DataW.Trod enc Tryz.prog W base spare held 25 v d p) (hw : Fits (d.weights Tryz.prog 25)) :
    ∃ (id : ByteArray) (a : Option Addr) (cap : Nat) (ns : List Nod) (rs : Nat → Raw), v = modV id a ns.length cap ∧ ModIn W a ns rs ∧ (∀ i, i < ns.length → RawOk (rs i)) ∧ id.size ≤ maxLen ∧ ns.length * 128 ≤ 140737488351232 ∧
      (∀ i, i < ns.length → (nd ns i).cases.length * 32 ≤ 140737488351232) ∧ (∀ i, i < ns.length → (nd ns i).branches.length * 8 ≤ 140737488351232) ∧ ∀ i c, c ∈ (nd ns i).cases → -2147483648 ≤ c.val ∧ c.val ≤ 2147483647 := by
  obtain ⟨v0, v1, y0, y1, n, rfl, rfl, rfl, h0, h1⟩ := Joins.open_agg2 Tryz.underlying25 (by kernel_rfl) Tryz.cells25 hv h
  obtain ⟨id, k0, _, hid⟩ := DataW.trod_string Tryz.underlying9 (show DataW.trod enc Tryz.prog W base spare held n 9 [v0] = some y0 from h0)
  have h1 : DataW.trod enc Tryz.prog W base spare held n 23 [v1] = some y1 := h1
  simp only [List.cons.injEq, and_true] at k0
  subst k0
  have hw1 : Fits (y1.1.weights Tryz.prog 23) := fun m hm => hw m (by
    simp only [DataW.weights, Tryz.underlying25]
    exact DataW.weights_mem_each (j := 1) (t := 23) (d := y1.1) rfl rfl m hm)
  rcases open_elems Tryz.underlying23 Tryz.cells87 (by decide) h1 with hv1 | ⟨a, len, cap, n', hv1, hlen, hmem, hmx, hel⟩
  · simp only [List.cons.injEq, and_true] at hv1
    subst hv1
    exact ⟨id, none, 0, [], fun _ => ⟨none, 0, none, 0⟩, rfl, ⟨fun i hi => by simp at hi, fun i hi => by simp at hi, fun i hi => by simp at hi, by simp⟩, fun i hi => by simp at hi, hid, by simp, fun i hi => by simp at hi, fun i hi => by simp at hi, fun i c hc => by simp [nd, zN] at hc⟩
  · simp only [List.cons.injEq, and_true] at hv1
    subst hv1
    have hfit := hw1 _ hmem
    rw [Tryz.bytes87] at hlen
    obtain ⟨N, hN⟩ : ∃ N : Nat → Nod × Raw, ∀ i, i < len → ∃ b o, a = ⟨b, o, none⟩ ∧ NodCells W b (o + i * 10) (N i).1 (N i).2 ∧ NodeRd W (N i).1 (N i).2 := by
      have : ∀ i, ∃ N : Nod × Raw, i < len → ∃ b o, a = ⟨b, o, none⟩ ∧ NodCells W b (o + i * 10) N.1 N.2 ∧ NodeRd W N.1 N.2 := fun i => by
        by_cases hi : i < len
        · obtain ⟨b, o, cs', y, e, _, hc, ht, hm⟩ := hel i hi
          obtain ⟨nn, rr, rfl, hrd⟩ := open_node ht (fun m hm' => hw1 m (hm m hm'))
          exact ⟨(nn, rr), fun _ => ⟨b, o, e, ⟨by simpa using hc 0 (by omega), by simpa using hc 1 (by omega), by simpa using hc 2 (by omega), by simpa using hc 3 (by omega), by simpa using hc 4 (by omega), by simpa using hc 5 (by omega), by simpa using hc 6 (by omega), by simpa using hc 7 (by omega), by simpa using hc 8 (by omega), by simpa using hc 9 (by omega)⟩, hrd⟩⟩
        · exact ⟨(zN, ⟨none, 0, none, 0⟩), fun h => absurd h hi⟩
      exact ⟨fun i => (this i).choose, fun i => (this i).choose_spec⟩
    have hnd : ∀ i, i < len → nd ((List.range len).map fun i => (N i).1) i = (N i).1 := fun i hi => getD_range _ _ hi
    have hln : ((List.range len).map fun i => (N i).1).length = len := by simp
    refine ⟨id, some a, cap, (List.range len).map fun i => (N i).1, fun i => (N i).2, by rw [hln]; rfl, ⟨fun i hi => ?_, fun i hi => ?_, fun i hi => ?_, by rw [hln]; omega⟩, fun i hi => ?_, hid, by rw [hln]; omega, fun i hi => ?_, fun i hi => ?_, fun i c hc => ?_⟩
    · rw [hln] at hi; obtain ⟨b, o, e, hc, _⟩ := hN i hi; rw [hnd i hi]; exact ⟨b, o, by rw [e], hc⟩
    · rw [hln] at hi; obtain ⟨b, o, e, _, hr⟩ := hN i hi; rw [hnd i hi]; exact hr.nin
    · rw [hln] at hi; obtain ⟨b, o, e, _, hr⟩ := hN i hi; rw [hnd i hi]; exact hr.sz
    · rw [hln] at hi; obtain ⟨b, o, e, _, hr⟩ := hN i hi; exact hr.raw
    · rw [hln] at hi; obtain ⟨b, o, e, _, hr⟩ := hN i hi; rw [hnd i hi]; exact hr.cl
    · rw [hln] at hi; obtain ⟨b, o, e, _, hr⟩ := hN i hi; rw [hnd i hi]; exact hr.bl
    · by_cases hi : i < len
      · obtain ⟨b, o, e, _, hr⟩ := hN i hi; rw [hnd i hi] at hc; exact hr.vals c hc
      · have : nd ((List.range len).map fun i => (N i).1) i = zN := by simp [nd, List.getD, hi]
        rw [this] at hc
        simp [zN] at hc
end
end Go.Proofs.YtjkpbpgeedihhaaGreatDoor
