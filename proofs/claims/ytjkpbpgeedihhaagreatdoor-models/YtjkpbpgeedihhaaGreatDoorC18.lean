import Derived.Test.YtjkpbpgeedihhaaGreatDoorC17
import Derived.Laws.CopyOwn
set_option linter.all false
namespace Go.Proofs.YtjkpbpgeedihhaaGreatDoor
open Go.RowKit
open M FerryM
/-- copy of elements of several cells into a row that is known whole. -/
theorem run_copy_wide {P : Program} (w : World) (dT sT ty elem S : Nat) (g dLen dCap : Nat) (a : Addr) (sLen sCap : Nat) (cur : Array Value) (t : TypeId) (cs : List Value)
    (hu : P.underlying dT = some (.slice elem)) (hs : (P.info? elem).map (·.size) = some S)
    (hg : w.heap[g]? = some (.cells cur t (0, 0))) (hn : cs.length = Nat.min sLen dLen * S)
    (hsrc : ∀ j v, cs[j]? = some v → w.cell? (a.add j) = some v) (hfit : cs.length ≤ cur.size) (h1 : ∀ v ∈ cs, v.oneCell' = true) :
    (Builtin.copy_ #[dT, sT] ty #[.slice (some ⟨g, 0, none⟩) dLen dCap, .slice (some a) sLen sCap]).run P w =
      .ok (goInt (Nat.min sLen dLen)) (w.setRow g (cs ++ cur.toList.drop cs.length).toArray) := by
  have hl := run_loadCells_list (P := P) w a cs hsrc
  have hst := run_storeCells_at P g 0 t cs 0 cur w hg (by simpa using hfit) h1
  cases hq : P.info? elem with
  | none => simp [hq] at hs
  | some i =>
    have hi : i.size = S := by simpa [hq] using hs
    simp at hst
    simp [Builtin.copy_, run_underlying hu, Builtin.lenOf, Builtin.firstCells, sizeOf, typeInfo, hq, hi, ← hn, hl, hst]
theorem run_copy_wide0 {P : Program} (w : World) (dT sT ty elem S : Nat) (d a : Option Addr) (dLen dCap sLen sCap : Nat) (hu : P.underlying dT = some (.slice elem)) (hs : (P.info? elem).map (·.size) = some S) (hn : Nat.min sLen dLen = 0) :
    (Builtin.copy_ #[dT, sT] ty #[.slice d dLen dCap, .slice a sLen sCap]).run P w = .ok (goInt 0) w := by
  cases hq : P.info? elem with
  | none => simp [hq] at hs
  | some i =>
    have hl : ∀ (x : Addr), (loadCells x 0).run P w = .ok #[] w := fun x => by simpa using run_loadCells_list (P := P) w x [] (by simp)
    cases d <;> cases a <;> simp [Builtin.copy_, run_underlying hu, Builtin.lenOf, Builtin.firstCells, sizeOf, typeInfo, hq, hn, storeCells, hl]
/-- .. as a law for the walk: the source may be nil. -/
theorem wpList_copy_wide {P : Program} {w : World} {ops : Array Oper} {rest : List Oper} {o : Oper} {a : Act} {Q : Exit → Act → World → Prop} (hgd : o.guard = none) (d s : Operand) (dT sT : TypeId)
    (ho : o.op = .call { callee := .builtin .copy, args := #[d, s], argTypes := #[dT, sT] }) (elem : TypeId) (S : Nat) (hu : P.underlying dT = some (.slice elem)) (hsz : (P.info? elem).map (·.size) = some S)
    (g : Nat) (sp : Option Addr) (dLen dCap sLen sCap : Nat) (hd : a.eval d = .slice (some ⟨g, 0, none⟩) dLen dCap) (hs : a.eval s = .slice sp sLen sCap) (hle : sLen ≤ dLen)
    (cur : Array Value) (t : TypeId) (hg : w.heap[g]? = some (.cells cur t (0, 0))) (cs : List Value) (hn : cs.length = sLen * S)
    (hpos : 0 < sLen → ∃ ad, sp = some ad ∧ ∀ j v, cs[j]? = some v → w.cell? (ad.add j) = some v)
    (hfit : cs.length ≤ cur.size) (h1 : ∀ v ∈ cs, v.oneCell' = true)
    (h : ∀ w', w'.heap[g]? = some (.cells (cs ++ cur.toList.drop cs.length).toArray t (0, 0)) → w.grownBy w' (some g) → wpList P ops Q rest (a.put o.dst (goInt sLen)) w') :
    wpList P ops Q (o :: rest) a w := by
  refine wpList_plain hgd fun K hK => ?_
  have hmin : Nat.min sLen dLen = sLen := Nat.min_eq_left hle
  by_cases h0 : sLen = 0
  · have hcs : cs = [] := List.eq_nil_of_length_eq_zero (by rw [hn, h0]; omega)
    have hrun := run_copy_wide0 (P := P) w dT sT o.type elem S (some ⟨g, 0, none⟩) sp dLen dCap sLen sCap hu hsz (by rw [hmin]; exact h0)
    unfold Oper.wp
    simp [execOp, ho, resolve, invoke, builtin, hd, hs, hrun, Result.andThen]
    have := h w (by rw [hcs]; simpa using hg) ⟨rfl, rfl, rfl, Nat.le_refl _, fun _ _ _ => rfl⟩
    rw [h0] at this
    exact hK _ _ this
  · obtain ⟨ad, rfl, hsrc⟩ := hpos (by omega)
    have hrun := run_copy_wide (P := P) w dT sT o.type elem S g dLen dCap ad sLen sCap cur t cs hu hsz hg (by rw [hmin]; exact hn) hsrc hfit h1
    rw [hmin] at hrun
    unfold Oper.wp
    simp [execOp, ho, resolve, invoke, builtin, hd, hs, hrun, Result.andThen]
    exact hK _ _ (h _ (setRow_heap w g _ _ t _ hg) ⟨rfl, rfl, rfl, by simp [World.setRow], fun k hk hne => setRow_other w g k _ (fun e => hne (by rw [e]))⟩)
/-- .. as an equation at one world: what is left is a letter. -/
theorem copy_runs {P : Program} (w : World) (dT sT ty elem S : Nat) (g dLen dCap : Nat) (sp : Option Addr) (sLen sCap : Nat) (cur : List Value) (t : TypeId) (cs : List Value)
    (hu : P.underlying dT = some (.slice elem)) (hs : (P.info? elem).map (·.size) = some S) (hle : sLen ≤ dLen)
    (hg : w.heap[g]? = some (.cells cur.toArray t (0, 0))) (hn : cs.length = sLen * S)
    (hpos : 0 < sLen → ∃ ad, sp = some ad ∧ ∀ j v, cs[j]? = some v → w.cell? (ad.add j) = some v) (hfit : cs.length ≤ cur.length) (h1 : ∀ v ∈ cs, v.oneCell' = true) :
    ∃ X, (Builtin.copy_ #[dT, sT] ty #[.slice (some ⟨g, 0, none⟩) dLen dCap, .slice sp sLen sCap]).run P w = .ok (goInt sLen) X ∧ X.heap[g]? = some (.cells (cs ++ cur.drop cs.length).toArray t (0, 0)) ∧ w.grownBy X (some g) ∧ X.heap.size = w.heap.size := by
  have hmin : Nat.min sLen dLen = sLen := Nat.min_eq_left hle
  by_cases h0 : sLen = 0
  · have hcs : cs = [] := List.eq_nil_of_length_eq_zero (by rw [hn, h0]; omega)
    have hrun := run_copy_wide0 (P := P) w dT sT ty elem S (some ⟨g, 0, none⟩) sp dLen dCap sLen sCap hu hs (by rw [hmin]; exact h0)
    refine ⟨w, by rw [hrun, h0]; rfl, by rw [hcs]; simpa using hg, ⟨rfl, rfl, rfl, Nat.le_refl _, fun _ _ _ => rfl⟩, rfl⟩
  · obtain ⟨ad, rfl, hsrc⟩ := hpos (by omega)
    have hrun := run_copy_wide (P := P) w dT sT ty elem S g dLen dCap ad sLen sCap cur.toArray t cs hu hs hg (by rw [hmin]; exact hn) hsrc (by simpa using hfit) h1
    rw [hmin] at hrun
    exact ⟨_, hrun, setRow_heap w g _ _ t _ hg, ⟨rfl, rfl, rfl, by simp [World.setRow], fun k hk hne => setRow_other w g k _ (fun e => hne (by rw [e]))⟩, by simp [World.setRow]⟩
end Go.Proofs.YtjkpbpgeedihhaaGreatDoor
namespace Go.Proofs.YtjkpbpgeedihhaaGreatDoor
open Go.RowKit
open M FerryM
/-- The cells of one case; of a list of cases. -/
def casC (c : Cas) : List Value := [.int .u8 c.var, .int .i64 c.op, .int .i32 c.val, .int .i64 c.to]
def casL (l : List Cas) : List Value := l.flatMap casC
theorem casL_len : ∀ l : List Cas, (casL l).length = l.length * 4
  | [] => rfl
  | c :: r => by have := casL_len r; simp only [casL, List.flatMap_cons, List.length_append, List.length_cons] at this ⊢; rw [this]; simp [casC]; omega
theorem casL_one (l : List Cas) : ∀ v ∈ casL l, v.oneCell' = true := by
  intro v hv
  simp only [casL, List.mem_flatMap, casC] at hv
  obtain ⟨c, _, hc⟩ := hv
  simp at hc
  rcases hc with rfl | rfl | rfl | rfl <;> rfl
theorem casL_get : ∀ (l : List Cas) (i j : Nat), i < l.length → j < 4 → (casL l)[i * 4 + j]? = (casC (l.getD i Cas.zero))[j]?
  | c :: r, 0, j, _, hj => by
    simp only [casL, List.flatMap_cons, Nat.zero_mul, Nat.zero_add]
    rw [List.getElem?_append_left (by simp [casC]; omega)]
    rfl
  | c :: r, i + 1, j, hi, hj => by
    have := casL_get r i j (by simpa using hi) hj
    simp only [casL, List.flatMap_cons] at this ⊢
    rw [List.getElem?_append_right (by simp [casC]; omega)]
    simp only [casC, List.length_cons, List.length_nil]
    rw [show (i + 1) * 4 + j - (0 + 1 + 1 + 1 + 1) = i * 4 + j by omega, this]
    rfl
/-- What lies in the list of cases that was handed in, and behind its end. -/
def casAll (l : List Cas) : List Value := casL l ++ [.int .u8 0, .int .i64 0, .int .i32 0, .int .i64 (-77)]
def intAll (l : List Int) : List Value := iv l ++ [.int .i64 (-77)]
/-- A node's cells, by their place. -/
structure NodF (f : Nat → Value) (o : Nat) (n : Nod) (r : Raw) : Prop where
  c0 : f o = .int .i64 n.kind
  c1 : f (o + 1) = .string n.id
  c2 : f (o + 2) = .string n.name
  c3 : f (o + 3) = .int .i64 n.up
  c4 : f (o + 4) = .int .i64 n.to
  c5 : f (o + 5) = SlV r.ca n.cases.length r.cc
  c6 : f (o + 6) = .int .i64 n.els
  c7 : f (o + 7) = SlV r.ba n.branches.length r.bc
  c8 : f (o + 8) = .int .i64 n.after
  c9 : f (o + 9) = .int .i64 n.late
def rawH (ns : List Nod) (cb bb : Nat → Nat) (j : Nat) : Raw := ⟨some ⟨cb j, 0, none⟩, (nd ns j).cases.length + 1, some ⟨bb j, 0, none⟩, (nd ns j).branches.length + 1⟩
def lstIs (W : World) (b t : Nat) (l : List Value) : Prop := W.heap[b]? = some (.cells l.toArray t (0, 0))
theorem lstIs.lt {W : World} {b t : Nat} {l : List Value} (h : lstIs W b t l) : b < W.heap.size := lt_of_block h
theorem lstIs.cell {W : World} {b t : Nat} {l : List Value} (h : lstIs W b t l) {i : Nat} {v : Value} (hv : l[i]? = some v) : W.cell? ⟨b, i, none⟩ = some v := by
  unfold lstIs at h
  simp [World.cell?, h, hv]
theorem lstIs.free {W : World} {b t : Nat} {l : List Value} (h : lstIs W b t l) (i : Nat) : W.frozen? ⟨b, i, none⟩ = false := by
  unfold lstIs at h
  simp [World.frozen?, h]
theorem lstIs.at {W X : World} {b t : Nat} {l : List Value} (h : lstIs W b t l) (e : X.heap[b]? = W.heap[b]?) : lstIs X b t l := e.trans h
theorem lstIs.grown {W X : World} {b t : Nat} {l : List Value} {r : Option Nat} (h : lstIs W b t l) (hg : W.grownBy X r) (hne : some b ≠ r) : lstIs X b t l := h.at (hg.block b h.lt hne)
theorem lstIs.set {W : World} {b t : Nat} {l : List Value} (h : lstIs W b t l) (i : Nat) (v : Value) : lstIs (W.setCell ⟨b, i, none⟩ v) b t (l.set i v) := by
  unfold lstIs at h ⊢
  simp [World.setCell, Array.getElem?_modify, h]
theorem lstIs.other {W : World} {b t : Nat} {l : List Value} (h : lstIs W b t l) {a : Addr} (ha : b ≠ a.block) (v : Value) : lstIs (W.setCell a v) b t l := h.at (Below.heap_setCell _ _ _ _ ha)
theorem lstIs.alloc {W : World} {b t : Nat} {l : List Value} (h : lstIs W b t l) (o : Obj) : lstIs (W.alloc o) b t l := h.at (Below.heap_alloc _ _ _ h.lt)
theorem lstIs.new (W : World) (l : List Value) (t : Nat) : lstIs (W.alloc (.cells l.toArray t)) W.heap.size t l := heap_alloc_new _ _
/-- The lists in which the first k nodes (kc lists of cases, ki of ints) have been handed in. B: the heap's size when the call began. -/
structure HandAt (w W : World) (B : Nat) (id : ByteArray) (a : Option Addr) (cap : Nat) (ns : List Nod) (k kc ki : Nat) (vc vi : Value) (cb bb : Nat → Nat) : Prop where
  mb : lstIs W B 25 [.string id, .slice a ns.length cap]
  rb : lstIs W (B + 1) 25 [.string ⟨#[]⟩, .slice none 0 0]
  hb : lstIs W (B + 3) 154 [.slice (some ⟨B + 2, 0, none⟩) (ns.length + 1) (ns.length + 1), vc, vi]
  gb : ∃ f, W.rowIs (B + 2) 87 ((ns.length + 1) * 10) f ∧ ∀ j, j < k → NodF f (j * 10) (nd ns j) (rawH ns cb bb j)
  cr : W.ownsRow (B + 4) 85 1 vc kc ((List.range kc).map fun j => Value.slice (some ⟨cb j, 0, none⟩) ((nd ns j).cases.length + 1) ((nd ns j).cases.length + 1))
  ir : W.ownsRow (B + 4) 35 1 vi ki ((List.range ki).map fun j => Value.slice (some ⟨bb j, 0, none⟩) ((nd ns j).branches.length + 1) ((nd ns j).branches.length + 1))
  cs : ∀ j, j < kc → lstIs W (cb j) 89 (casAll (nd ns j).cases)
  bs : ∀ j, j < ki → lstIs W (bb j) 3 (intAll (nd ns j).branches)
  cge : ∀ j, j < kc → B + 4 ≤ cb j
  bge : ∀ j, j < ki → B + 4 ≤ bb j
  bel : Below B w W
  sz : B + 4 ≤ W.heap.size
theorem grown_below {W X : World} (h : Below W.heap.size W X) : W.grownBy X none := ⟨h.os, h.tape, h.output, h.size, fun k hk _ => h.block k hk⟩
section
variable {w W X Y : World} {B : Nat} {id : ByteArray} {a : Option Addr} {cap : Nat} {ns : List Nod} {k kc ki : Nat} {vc vi : Value} {cb bb : Nat → Nat}
/-- Nothing of it is written: new blocks alone, and one that is none of its own. -/
theorem HandAt.grown {r : Option Nat} (h : HandAt w W B id a cap ns k kc ki vc vi cb bb) (hg : W.grownBy X r) (hr : ∀ q, r = some q → W.heap.size ≤ q) : HandAt w X B id a cap ns k kc ki vc vi cb bb := by
  have hs := h.sz
  have hne : ∀ q, q < W.heap.size → some q ≠ r := fun q hq e => by have := hr q e.symm; omega
  obtain ⟨f, hf, hn⟩ := h.gb
  refine ⟨h.mb.grown hg (hne _ (by omega)), h.rb.grown hg (hne _ (by omega)), h.hb.grown hg (hne _ (by omega)), ⟨f, hf.of_block (hg.block _ hf.lt (hne _ hf.lt)), hn⟩, h.cr.kept hg ?_, h.ir.kept hg ?_, fun j hj => (h.cs j hj).grown hg (hne _ (h.cs j hj).lt), fun j hj => (h.bs j hj).grown hg (hne _ (h.bs j hj).lt), h.cge, h.bge, h.bel.grown hg (by omega) (fun q e => by have := hr q e; omega), Nat.le_trans hs hg.size⟩
  · cases e : vc.ownBlock with
    | none => exact Or.inl rfl
    | some q => exact Or.inr (hne q (h.cr.lt q e).2)
  · cases e : vi.ownBlock with
    | none => exact Or.inl rfl
    | some q => exact Or.inr (hne q (h.ir.lt q e).2)
theorem HandAt.below (h : HandAt w W B id a cap ns k kc ki vc vi cb bb) (hb : Below W.heap.size W X) : HandAt w X B id a cap ns k kc ki vc vi cb bb :=
  h.grown (grown_below hb) (fun q e => by cases e)
/-- A block of another element type is none of an own row's. -/
theorem own_ne {W : World} {base e size n b t : Nat} {v : Value} {xs l : List Value} (h : W.ownsRow base e size v n xs) (hl : lstIs W b t l) (hte : t ≠ e) : some b ≠ v.ownBlock := by
  intro eq
  rcases h with ⟨_, ⟨rfl, _⟩ | ⟨g, c, cur, rfl, _, hg, _⟩⟩
  · cases eq
  · simp only [Value.ownBlock, Option.some.injEq] at eq
    subst eq
    unfold lstIs at hl
    rw [hg] at hl
    simp at hl
    exact hte hl.2.symm
theorem own_ne' {W : World} {base e size n b t m : Nat} {v : Value} {xs : List Value} {f : Nat → Value} (h : W.ownsRow base e size v n xs) (hl : W.rowIs b t m f) (hte : t ≠ e) : some b ≠ v.ownBlock := by
  obtain ⟨c, hc, _⟩ := hl
  exact own_ne (l := c.toList) h (by unfold lstIs; simpa using hc) hte
theorem own_own {W : World} {base e size n base' e' size' n' : Nat} {v v' : Value} {xs xs' : List Value} (h : W.ownsRow base e size v n xs) (h' : W.ownsRow base' e' size' v' n' xs') (hte : e ≠ e') : v.ownBlock = none ∨ v.ownBlock ≠ v'.ownBlock := by
  rcases h with ⟨_, ⟨rfl, _⟩ | ⟨g, c, cur, rfl, _, hg, _⟩⟩
  · exact Or.inl rfl
  · refine Or.inr ?_
    refine own_ne (l := cur.toList) h' (by unfold lstIs; simpa using hg) hte
theorem lstIs_of_row {W : World} {base e n : Nat} {g c : Nat} {xs : List Value} (h : W.ownsRow base e 1 (.slice (some ⟨g, 0, none⟩) n c) n xs) : base ≤ g := (h.lt g rfl).1
def upN (f : Nat → Nat) (k x : Nat) : Nat → Nat := fun j => if j = k then x else f j
theorem NodF.congr {f : Nat → Value} {o : Nat} {n : Nod} {r r' : Raw} (h : NodF f o n r) (e : r = r') : NodF f o n r' := e ▸ h
theorem rawH_up {cb bb : Nat → Nat} {c x : Nat} {j : Nat} (hj : j ≠ c) : rawH ns (upN cb c x) bb j = rawH ns cb bb j := by simp [rawH, upN, hj]
theorem rawH_up' {cb bb : Nat → Nat} {c x : Nat} {j : Nat} (hj : j ≠ c) : rawH ns cb (upN bb c x) j = rawH ns cb bb j := by simp [rawH, upN, hj]
/-- One list of cases more: appended, and stored into the struct. -/
theorem HandAt.addC {vc' : Value} {x N : Nat} {xs : List Value} (h : HandAt w W B id a cap ns k kc ki vc vi cb bb) (hk : k ≤ kc) (hx : lstIs W x 89 (casAll (nd ns kc).cases)) (hxB : B + 4 ≤ x)
    (hown : X.ownsRow (B + 4) 85 1 vc' N xs) (hN : N = kc + 1) (hxs : xs = ((List.range kc).map fun j => Value.slice (some ⟨cb j, 0, none⟩) ((nd ns j).cases.length + 1) ((nd ns j).cases.length + 1)) ++ [.slice (some ⟨x, 0, none⟩) ((nd ns kc).cases.length + 1) ((nd ns kc).cases.length + 1)]) (hg : W.grownBy X vc.ownBlock) :
    HandAt w (X.setCell ⟨B + 3, 1, none⟩ vc') B id a cap ns k (kc + 1) ki vc' vi (upN cb kc x) bb := by
  subst hN hxs
  have hge : ∀ q, vc.ownBlock = some q → B + 4 ≤ q := fun q e => (h.cr.lt q e).1
  have hge' : ∀ q, vc'.ownBlock = some q → B + 4 ≤ q := fun q e => (hown.lt q e).1
  have hne : ∀ q, q < B + 4 → some q ≠ vc.ownBlock := fun q hq e => by have := hge q e.symm; omega
  obtain ⟨f, hf, hn⟩ := h.gb
  have hs := h.sz
  have e : (List.range (kc + 1)).map (fun j => Value.slice (some ⟨upN cb kc x j, 0, none⟩) ((nd ns j).cases.length + 1) ((nd ns j).cases.length + 1)) = ((List.range kc).map fun j => Value.slice (some ⟨cb j, 0, none⟩) ((nd ns j).cases.length + 1) ((nd ns j).cases.length + 1)) ++ [.slice (some ⟨x, 0, none⟩) ((nd ns kc).cases.length + 1) ((nd ns kc).cases.length + 1)] := by
    rw [List.range_succ, List.map_append]
    congr 1
    · apply List.map_congr_left
      intro q hq
      have : q ≠ kc := by have := List.mem_range.1 hq; omega
      simp [upN, this]
    · simp [upN]
  refine ⟨(h.mb.grown hg (hne _ (by omega))).other (by simp <;> omega) _, (h.rb.grown hg (hne _ (by omega))).other (by simp) _, ?_, ⟨f, (hf.of_block (hg.block _ hf.lt (hne _ (by omega)))).setOther (by simp) _, fun j hj => (hn j hj).congr (rawH_up (by omega)).symm⟩, ?_, ?_, fun j hj => ?_, fun j hj => ?_, fun j hj => ?_, h.bge, ?_, ?_⟩
  · exact (h.hb.grown hg (hne _ (by omega))).set 1 vc'
  · rw [e]; exact ownsRow_setCell_other hown (fun e' => by have := hge' _ e'; simp at this <;> omega) _
  · refine ownsRow_setCell_other (h.ir.kept hg (own_own h.ir h.cr (by decide))) (fun e' => by have := (h.ir.lt _ e').1; simp at this <;> omega) _
  · by_cases ej : j = kc
    · subst ej
      simp only [upN, if_true]
      exact (hx.grown hg (own_ne h.cr hx (by decide))).other (by simp <;> omega) _
    · simp only [upN, if_neg ej]
      have hj' := h.cs j (by omega)
      have hjb := h.cge j (by omega)
      exact (hj'.grown hg (own_ne h.cr hj' (by decide))).other (by simp <;> omega) _
  · have hj' := h.bs j hj
    have hjb := h.bge j hj
    exact (hj'.grown hg (own_ne h.cr hj' (by decide))).other (by simp <;> omega) _
  · by_cases ej : j = kc
    · simp only [upN, if_pos ej]; exact hxB
    · simp only [upN, if_neg ej]; exact h.cge j (by omega)
  · exact (h.bel.grown hg (by omega) (fun q e => by have := hge q e; omega)).setCell (by simp <;> omega) _
  · have := hg.size; simp [World.setCell]; omega
theorem HandAt.addI {vi' : Value} {x N : Nat} {xs : List Value} (h : HandAt w W B id a cap ns k kc ki vc vi cb bb) (hk : k ≤ ki) (hx : lstIs W x 3 (intAll (nd ns ki).branches)) (hxB : B + 4 ≤ x)
    (hown : X.ownsRow (B + 4) 35 1 vi' N xs) (hN : N = ki + 1) (hxs : xs = ((List.range ki).map fun j => Value.slice (some ⟨bb j, 0, none⟩) ((nd ns j).branches.length + 1) ((nd ns j).branches.length + 1)) ++ [.slice (some ⟨x, 0, none⟩) ((nd ns ki).branches.length + 1) ((nd ns ki).branches.length + 1)]) (hg : W.grownBy X vi.ownBlock) :
    HandAt w (X.setCell ⟨B + 3, 2, none⟩ vi') B id a cap ns k kc (ki + 1) vc vi' cb (upN bb ki x) := by
  subst hN hxs
  have hge : ∀ q, vi.ownBlock = some q → B + 4 ≤ q := fun q e => (h.ir.lt q e).1
  have hge' : ∀ q, vi'.ownBlock = some q → B + 4 ≤ q := fun q e => (hown.lt q e).1
  have hne : ∀ q, q < B + 4 → some q ≠ vi.ownBlock := fun q hq e => by have := hge q e.symm; omega
  obtain ⟨f, hf, hn⟩ := h.gb
  have hs := h.sz
  have e : (List.range (ki + 1)).map (fun j => Value.slice (some ⟨upN bb ki x j, 0, none⟩) ((nd ns j).branches.length + 1) ((nd ns j).branches.length + 1)) = ((List.range ki).map fun j => Value.slice (some ⟨bb j, 0, none⟩) ((nd ns j).branches.length + 1) ((nd ns j).branches.length + 1)) ++ [.slice (some ⟨x, 0, none⟩) ((nd ns ki).branches.length + 1) ((nd ns ki).branches.length + 1)] := by
    rw [List.range_succ, List.map_append]
    congr 1
    · apply List.map_congr_left
      intro q hq
      have : q ≠ ki := by have := List.mem_range.1 hq; omega
      simp [upN, this]
    · simp [upN]
  refine ⟨(h.mb.grown hg (hne _ (by omega))).other (by simp <;> omega) _, (h.rb.grown hg (hne _ (by omega))).other (by simp) _, ?_, ⟨f, (hf.of_block (hg.block _ hf.lt (hne _ (by omega)))).setOther (by simp) _, fun j hj => (hn j hj).congr (rawH_up' (by omega)).symm⟩, ?_, ?_, fun j hj => ?_, fun j hj => ?_, h.cge, fun j hj => ?_, ?_, ?_⟩
  · exact (h.hb.grown hg (hne _ (by omega))).set 2 vi'
  · refine ownsRow_setCell_other (h.cr.kept hg (own_own h.cr h.ir (by decide))) (fun e' => by have := (h.cr.lt _ e').1; simp at this <;> omega) _
  · rw [e]; exact ownsRow_setCell_other hown (fun e' => by have := hge' _ e'; simp at this <;> omega) _
  · have hj' := h.cs j hj
    have hjb := h.cge j hj
    exact (hj'.grown hg (own_ne h.ir hj' (by decide))).other (by simp <;> omega) _
  · by_cases ej : j = ki
    · subst ej
      simp only [upN, if_true]
      exact (hx.grown hg (own_ne h.ir hx (by decide))).other (by simp <;> omega) _
    · simp only [upN, if_neg ej]
      have hj' := h.bs j (by omega)
      have hjb := h.bge j (by omega)
      exact (hj'.grown hg (own_ne h.ir hj' (by decide))).other (by simp <;> omega) _
  · by_cases ej : j = ki
    · simp only [upN, if_pos ej]; exact hxB
    · simp only [upN, if_neg ej]; exact h.bge j (by omega)
  · exact (h.bel.grown hg (by omega) (fun q e => by have := hge q e; omega)).setCell (by simp <;> omega) _
  · have := hg.size; simp [World.setCell]; omega
/-- A store into a block of the round's own variable. -/
theorem HandAt.other43 {x : Nat} {l : List Value} (h : HandAt w W B id a cap ns k kc ki vc vi cb bb) (hx : lstIs W x 87 l) (hxB : B + 4 ≤ x) (i : Nat) (v : Value) : HandAt w (W.setCell ⟨x, i, none⟩ v) B id a cap ns k kc ki vc vi cb bb := by
  obtain ⟨f, hf, hn⟩ := h.gb
  refine ⟨h.mb.other (by simp <;> omega) _, h.rb.other (by simp <;> omega) _, h.hb.other (by simp <;> omega) _, ⟨f, hf.setOther (by simp <;> omega) _, hn⟩, ownsRow_setCell_other h.cr (fun e => own_ne h.cr hx (by decide) e.symm) _, ownsRow_setCell_other h.ir (fun e => own_ne h.ir hx (by decide) e.symm) _, fun j hj => (h.cs j hj).other ?_ _, fun j hj => (h.bs j hj).other ?_ _, h.cge, h.bge, h.bel.setCell (by simp <;> omega) _, by have := h.sz; simpa [World.setCell] using this⟩
  · intro e
    have := h.cs j hj
    simp only at e
    unfold lstIs at this hx
    rw [e, hx] at this
    simp at this
  · intro e
    have := h.bs j hj
    simp only at e
    unfold lstIs at this hx
    rw [e, hx] at this
    simp at this
/-- The node's cells are stored. -/
theorem HandAt.addN {F : Nat → Value} (h : HandAt w W B id a cap ns k kc ki vc vi cb bb) (hX : Below (B + 2) W X) (hX2 : ∀ q, B + 3 ≤ q → X.heap[q]? = W.heap[q]?) (hF : X.rowIs (B + 2) 87 ((ns.length + 1) * 10) F) (hj : ∀ j, j < k + 1 → NodF F (j * 10) (nd ns j) (rawH ns cb bb j)) (hsz : X.heap.size = W.heap.size) :
    HandAt w X B id a cap ns (k + 1) kc ki vc vi cb bb := by
  have hk : ∀ q, q ≠ B + 2 → X.heap[q]? = W.heap[q]? := fun q hq => if hlt : q < B + 2 then hX.block q hlt else hX2 q (by omega)
  have hg : W.grownBy X (some (B + 2)) := ⟨hX.os, hX.tape, hX.output, hX.size, fun q _ hne => hk q (fun e => hne (by rw [e]))⟩
  have own : ∀ {v : Value} {e n : Nat} {xs : List Value}, W.ownsRow (B + 4) e 1 v n xs → X.ownsRow (B + 4) e 1 v n xs := fun {v e n xs} hr => hr.kept hg (by
    cases e : v.ownBlock with
    | none => exact Or.inl rfl
    | some q => exact Or.inr (fun e' => by have := (hr.lt q e).1; cases e'; omega))
  refine ⟨h.mb.at (hk _ (by omega)), h.rb.at (hk _ (by omega)), h.hb.at (hk _ (by omega)), ⟨F, hF, hj⟩, own h.cr, own h.ir, fun j hj' => (h.cs j hj').at (hk _ (by have := h.cge j hj'; omega)), fun j hj' => (h.bs j hj').at (hk _ (by have := h.bge j hj'; omega)), h.cge, h.bge, h.bel.trans (hX.mono (by omega)), by have := h.sz; omega⟩
end
/-- Ten cells in a row are stored. -/
def setTen (W : World) (G o : Nat) (v0 v1 v2 v3 v4 v5 v6 v7 v8 v9 : Value) : World :=
  (((((((((W.setCell ⟨G, o, none⟩ v0).setCell ⟨G, o + 1, none⟩ v1).setCell ⟨G, o + 2, none⟩ v2).setCell ⟨G, o + 3, none⟩ v3).setCell ⟨G, o + 4, none⟩ v4).setCell ⟨G, o + 5, none⟩ v5).setCell ⟨G, o + 6, none⟩ v6).setCell ⟨G, o + 7, none⟩ v7).setCell ⟨G, o + 8, none⟩ v8).setCell ⟨G, o + 9, none⟩ v9
def tenF (f : Nat → Value) (o : Nat) (v0 v1 v2 v3 v4 v5 v6 v7 v8 v9 : Value) : Nat → Value := fun j =>
  if j = o + 9 then v9 else if j = o + 8 then v8 else if j = o + 7 then v7 else if j = o + 6 then v6 else if j = o + 5 then v5 else if j = o + 4 then v4 else if j = o + 3 then v3 else if j = o + 2 then v2 else if j = o + 1 then v1 else if j = o then v0 else f j
theorem setTen_row {W : World} {G t n : Nat} {f : Nat → Value} (h : W.rowIs G t n f) (o : Nat) (v0 v1 v2 v3 v4 v5 v6 v7 v8 v9 : Value) : (setTen W G o v0 v1 v2 v3 v4 v5 v6 v7 v8 v9).rowIs G t n (tenF f o v0 v1 v2 v3 v4 v5 v6 v7 v8 v9) := by
  unfold setTen tenF
  have h0 := h.set o v0
  have h1 := h0.set (o + 1) v1
  have h2 := h1.set (o + 2) v2
  have h3 := h2.set (o + 3) v3
  have h4 := h3.set (o + 4) v4
  have h5 := h4.set (o + 5) v5
  have h6 := h5.set (o + 6) v6
  have h7 := h6.set (o + 7) v7
  have h8 := h7.set (o + 8) v8
  exact h8.set (o + 9) v9
theorem setTen_other (W : World) (G o : Nat) (v0 v1 v2 v3 v4 v5 v6 v7 v8 v9 : Value) (q : Nat) (h : q ≠ G) : (setTen W G o v0 v1 v2 v3 v4 v5 v6 v7 v8 v9).heap[q]? = W.heap[q]? := by
  unfold setTen
  rw [Below.heap_setCell _ _ _ _ h, Below.heap_setCell _ _ _ _ h, Below.heap_setCell _ _ _ _ h, Below.heap_setCell _ _ _ _ h, Below.heap_setCell _ _ _ _ h, Below.heap_setCell _ _ _ _ h, Below.heap_setCell _ _ _ _ h, Below.heap_setCell _ _ _ _ h, Below.heap_setCell _ _ _ _ h, Below.heap_setCell _ _ _ _ h]
theorem setTen_size (W : World) (G o : Nat) (v0 v1 v2 v3 v4 v5 v6 v7 v8 v9 : Value) : (setTen W G o v0 v1 v2 v3 v4 v5 v6 v7 v8 v9).heap.size = W.heap.size := by simp [setTen, World.setCell]
theorem sc_os (W : World) (a : Addr) (v : Value) : (W.setCell a v).os = W.os := rfl
theorem sc_tape (W : World) (a : Addr) (v : Value) : (W.setCell a v).tape = W.tape := rfl
theorem sc_out (W : World) (a : Addr) (v : Value) : (W.setCell a v).output = W.output := rfl
theorem setTen_same (W : World) (G o : Nat) (v0 v1 v2 v3 v4 v5 v6 v7 v8 v9 : Value) : (setTen W G o v0 v1 v2 v3 v4 v5 v6 v7 v8 v9).os = W.os ∧ (setTen W G o v0 v1 v2 v3 v4 v5 v6 v7 v8 v9).tape = W.tape ∧ (setTen W G o v0 v1 v2 v3 v4 v5 v6 v7 v8 v9).output = W.output := by
  unfold setTen
  exact ⟨by simp only [sc_os], by simp only [sc_tape], by simp only [sc_out]⟩
theorem tenF_far (f : Nat → Value) (o : Nat) (v0 v1 v2 v3 v4 v5 v6 v7 v8 v9 : Value) {j : Nat} (h : j < o ∨ o + 9 < j) : tenF f o v0 v1 v2 v3 v4 v5 v6 v7 v8 v9 j = f j := by
  unfold tenF
  rw [if_neg (by omega), if_neg (by omega), if_neg (by omega), if_neg (by omega), if_neg (by omega), if_neg (by omega), if_neg (by omega), if_neg (by omega), if_neg (by omega), if_neg (by omega)]
theorem NodF.far {f : Nat → Value} {o p : Nat} {n : Nod} {r : Raw} (h : NodF f o n r) (v0 v1 v2 v3 v4 v5 v6 v7 v8 v9 : Value) (hp : o + 10 ≤ p) : NodF (tenF f p v0 v1 v2 v3 v4 v5 v6 v7 v8 v9) o n r :=
  ⟨by rw [tenF_far _ _ _ _ _ _ _ _ _ _ _ _ (by omega)]; exact h.c0, by rw [tenF_far _ _ _ _ _ _ _ _ _ _ _ _ (by omega)]; exact h.c1, by rw [tenF_far _ _ _ _ _ _ _ _ _ _ _ _ (by omega)]; exact h.c2, by rw [tenF_far _ _ _ _ _ _ _ _ _ _ _ _ (by omega)]; exact h.c3, by rw [tenF_far _ _ _ _ _ _ _ _ _ _ _ _ (by omega)]; exact h.c4, by rw [tenF_far _ _ _ _ _ _ _ _ _ _ _ _ (by omega)]; exact h.c5, by rw [tenF_far _ _ _ _ _ _ _ _ _ _ _ _ (by omega)]; exact h.c6, by rw [tenF_far _ _ _ _ _ _ _ _ _ _ _ _ (by omega)]; exact h.c7, by rw [tenF_far _ _ _ _ _ _ _ _ _ _ _ _ (by omega)]; exact h.c8, by rw [tenF_far _ _ _ _ _ _ _ _ _ _ _ _ (by omega)]; exact h.c9⟩
theorem NodF.new (f : Nat → Value) (o : Nat) (n : Nod) (r : Raw) : NodF (tenF f o (.int .i64 n.kind) (.string n.id) (.string n.name) (.int .i64 n.up) (.int .i64 n.to) (SlV r.ca n.cases.length r.cc) (.int .i64 n.els) (SlV r.ba n.branches.length r.bc) (.int .i64 n.after) (.int .i64 n.late)) o n r := by
  constructor <;> simp [tenF]
section
variable {w W X Y : World} {B : Nat} {id : ByteArray} {a : Option Addr} {cap : Nat} {ns : List Nod} {k kc ki : Nat} {vc vi : Value} {cb bb : Nat → Nat}
theorem HandAt.putN (h : HandAt w W B id a cap ns k (k + 1) (k + 1) vc vi cb bb) {v5 v7 : Value} (h5 : v5 = .slice (some ⟨cb k, 0, none⟩) (nd ns k).cases.length ((nd ns k).cases.length + 1)) (h7 : v7 = .slice (some ⟨bb k, 0, none⟩) (nd ns k).branches.length ((nd ns k).branches.length + 1)) :
    HandAt w (setTen W (B + 2) (k * 10) (.int .i64 (nd ns k).kind) (.string (nd ns k).id) (.string (nd ns k).name) (.int .i64 (nd ns k).up) (.int .i64 (nd ns k).to) v5 (.int .i64 (nd ns k).els) v7 (.int .i64 (nd ns k).after) (.int .i64 (nd ns k).late)).drew B id a cap ns (k + 1) (k + 1) (k + 1) vc vi cb bb := by
  obtain ⟨f, hf, hn⟩ := h.gb
  have e1 := fun q (hq : q ≠ B + 2) => setTen_other W (B + 2) (k * 10) (.int .i64 (nd ns k).kind) (.string (nd ns k).id) (.string (nd ns k).name) (.int .i64 (nd ns k).up) (.int .i64 (nd ns k).to) v5 (.int .i64 (nd ns k).els) v7 (.int .i64 (nd ns k).after) (.int .i64 (nd ns k).late) q hq
  have e2 := setTen_size W (B + 2) (k * 10) (.int .i64 (nd ns k).kind) (.string (nd ns k).id) (.string (nd ns k).name) (.int .i64 (nd ns k).up) (.int .i64 (nd ns k).to) v5 (.int .i64 (nd ns k).els) v7 (.int .i64 (nd ns k).after) (.int .i64 (nd ns k).late)
  have e3 := setTen_row hf (k * 10) (.int .i64 (nd ns k).kind) (.string (nd ns k).id) (.string (nd ns k).name) (.int .i64 (nd ns k).up) (.int .i64 (nd ns k).to) v5 (.int .i64 (nd ns k).els) v7 (.int .i64 (nd ns k).after) (.int .i64 (nd ns k).late)
  have e4 := setTen_same W (B + 2) (k * 10) (.int .i64 (nd ns k).kind) (.string (nd ns k).id) (.string (nd ns k).name) (.int .i64 (nd ns k).up) (.int .i64 (nd ns k).to) v5 (.int .i64 (nd ns k).els) v7 (.int .i64 (nd ns k).after) (.int .i64 (nd ns k).late)
  have e5 := NodF.new f (k * 10) (nd ns k) (rawH ns cb bb k)
  have e6 : ∀ j, j < k → NodF (tenF f (k * 10) (.int .i64 (nd ns k).kind) (.string (nd ns k).id) (.string (nd ns k).name) (.int .i64 (nd ns k).up) (.int .i64 (nd ns k).to) v5 (.int .i64 (nd ns k).els) v7 (.int .i64 (nd ns k).after) (.int .i64 (nd ns k).late)) (j * 10) (nd ns j) (rawH ns cb bb j) := fun j hj => (hn j hj).far _ _ _ _ _ _ _ _ _ _ (by omega)
  rw [show SlV (rawH ns cb bb k).ca (nd ns k).cases.length (rawH ns cb bb k).cc = v5 from h5.symm, show SlV (rawH ns cb bb k).ba (nd ns k).branches.length (rawH ns cb bb k).bc = v7 from h7.symm] at e5
  generalize setTen W (B + 2) (k * 10) (.int .i64 (nd ns k).kind) (.string (nd ns k).id) (.string (nd ns k).name) (.int .i64 (nd ns k).up) (.int .i64 (nd ns k).to) v5 (.int .i64 (nd ns k).els) v7 (.int .i64 (nd ns k).after) (.int .i64 (nd ns k).late) = T at *
  generalize tenF f (k * 10) (.int .i64 (nd ns k).kind) (.string (nd ns k).id) (.string (nd ns k).name) (.int .i64 (nd ns k).up) (.int .i64 (nd ns k).to) v5 (.int .i64 (nd ns k).els) v7 (.int .i64 (nd ns k).after) (.int .i64 (nd ns k).late) = F at *
  refine h.addN (X := T.drew) (F := F) ⟨e4.1, e4.2.1, e4.2.2, Nat.le_of_eq e2.symm, fun q hq => e1 q (by omega)⟩ (fun q hq => e1 q (by omega)) e3 (fun j hj => ?_) e2
  by_cases e : j = k
  · subst e; exact e5
  · exact e6 j (by omega)
/-- What has been handed in, whole: it is left behind the call. -/
structure Handed (w W : World) (B : Nat) (ns : List Nod) (vc vi : Value) (cb bb : Nat → Nat) : Prop where
  hb : lstIs W (B + 3) 154 [.slice (some ⟨B + 2, 0, none⟩) (ns.length + 1) (ns.length + 1), vc, vi]
  gb : ∃ f, W.rowIs (B + 2) 87 ((ns.length + 1) * 10) f ∧ (∀ j, j < ns.length → NodF f (j * 10) (nd ns j) (rawH ns cb bb j)) ∧ f (ns.length * 10 + 3) = .int .i64 (-77)
  cr : W.ownsRow (B + 4) 85 1 vc ns.length ((List.range ns.length).map fun j => Value.slice (some ⟨cb j, 0, none⟩) ((nd ns j).cases.length + 1) ((nd ns j).cases.length + 1))
  ir : W.ownsRow (B + 4) 35 1 vi ns.length ((List.range ns.length).map fun j => Value.slice (some ⟨bb j, 0, none⟩) ((nd ns j).branches.length + 1) ((nd ns j).branches.length + 1))
  cs : ∀ j, j < ns.length → lstIs W (cb j) 89 (casAll (nd ns j).cases)
  bs : ∀ j, j < ns.length → lstIs W (bb j) 3 (intAll (nd ns j).branches)
  bel : Below B w W
theorem Handed.of (h : HandAt w W B id a cap ns ns.length ns.length ns.length vc vi cb bb) (hX : ∀ q, q ≠ B → q ≠ B + 1 → X.heap[q]? = (setTen W (B + 2) (ns.length * 10) (.int .i64 0) (.string ⟨#[]⟩) (.string ⟨#[]⟩) (.int .i64 (-77)) (.int .i64 0) (.slice none 0 0) (.int .i64 0) (.slice none 0 0) (.int .i64 0) (.int .i64 0)).heap[q]?) (hb : Below B W X) : Handed w X B ns vc vi cb bb := by
  obtain ⟨f, hf, hn⟩ := h.gb
  have hk : ∀ q, q ≠ B → q ≠ B + 1 → q ≠ B + 2 → X.heap[q]? = W.heap[q]? := fun q h0 h1 h2 => (hX q h0 h1).trans (setTen_other _ _ _ _ _ _ _ _ _ _ _ _ _ q h2)
  have own : ∀ {v : Value} {e n : Nat} {xs : List Value}, W.ownsRow (B + 4) e 1 v n xs → X.ownsRow (B + 4) e 1 v n xs := fun {v e n xs} hr => by
    rcases hr with ⟨h1, h2 | ⟨g, c, cur, rfl, hBg, hg, hr⟩⟩
    · exact ⟨h1, Or.inl h2⟩
    · exact ⟨h1, Or.inr ⟨g, c, cur, rfl, hBg, (hk g (by omega) (by omega) (by omega)).trans hg, hr⟩⟩
  refine ⟨h.hb.at (hk _ (by omega) (by omega) (by omega)), ⟨_, (setTen_row hf (ns.length * 10) (.int .i64 0) (.string ⟨#[]⟩) (.string ⟨#[]⟩) (.int .i64 (-77)) (.int .i64 0) (.slice none 0 0) (.int .i64 0) (.slice none 0 0) (.int .i64 0) (.int .i64 0)).of_block (hX _ (by omega) (by omega)), fun j hj => (hn j hj).far _ _ _ _ _ _ _ _ _ _ (by omega), by simp [tenF]⟩, own h.cr, own h.ir, fun j hj => (h.cs j hj).at (hk _ ?_ ?_ ?_), fun j hj => (h.bs j hj).at (hk _ ?_ ?_ ?_), h.bel.trans hb⟩
  all_goals first | (have := h.cge j hj; omega) | (have := h.bge j hj; omega)
end
end Go.Proofs.YtjkpbpgeedihhaaGreatDoor
