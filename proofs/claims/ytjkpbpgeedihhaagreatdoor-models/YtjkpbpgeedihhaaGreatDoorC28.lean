import Derived.Test.YtjkpbpgeedihhaaGreatDoorC27
import Derived.Maps.AppendAt
import Derived.Test.YtjkpbpgeedihhaaGreatDoorC16
set_option linter.all false
namespace Go.Proofs.YtjkpbpgeedihhaaGreatDoor
open Go.RowKit
open M
structure E3 where
  nm : ByteArray
  A1 : Option Addr
  n1 : Nat
  c1 : Nat
  A2 : Option Addr
  n2 : Nat
  c2 : Nat
def noE : E3 := ⟨⟨#[]⟩, none, 0, 0, none, 0, 0⟩
def eC (e : E3) : List Value := [.string e.nm, .slice e.A1 e.n1 e.c1, .slice e.A2 e.n2 e.c2]
abbrev eV (e : E3) : Value := .agg #[.string e.nm, .slice e.A1 e.n1 e.c1, .slice e.A2 e.n2 e.c2]
def eL (l : List E3) : List Value := l.flatMap eC
theorem eL_len : ∀ l : List E3, (eL l).length = l.length * 3
  | [] => rfl
  | c :: r => by have := eL_len r; simp only [eL, List.flatMap_cons, List.length_append, List.length_cons] at this ⊢; rw [this]; simp [eC]; omega
theorem eL_app (a b : List E3) : eL a ++ eL b = eL (a ++ b) := by simp [eL]
theorem eL_one (l : List E3) : ∀ v ∈ eL l, v.oneCell' = true := by
  intro v hv
  simp only [eL, List.mem_flatMap] at hv
  obtain ⟨c, _, hc⟩ := hv
  simp [eC] at hc
  rcases hc with rfl | rfl | rfl <;> rfl
theorem eL_get : ∀ (l : List E3) (i : Nat), i < l.length → (eL l)[i * 3]? = some (.string (l.getD i noE).nm) ∧ (eL l)[i * 3 + 1]? = some (.slice (l.getD i noE).A1 (l.getD i noE).n1 (l.getD i noE).c1) ∧ (eL l)[i * 3 + 2]? = some (.slice (l.getD i noE).A2 (l.getD i noE).n2 (l.getD i noE).c2)
  | c :: r, 0, _ => by simp [eL, eC]
  | c :: r, i + 1, hi => by
    obtain ⟨h1, h2, h3⟩ := eL_get r i (by simpa using hi)
    have e1 : eL (c :: r) = eC c ++ eL r := by simp [eL]
    have e2 : (eC c).length = 3 := rfl
    rw [e1, List.getElem?_append_right (by rw [e2]; omega), List.getElem?_append_right (by rw [e2]; omega), List.getElem?_append_right (by rw [e2]; omega), e2]
    rw [show (i + 1) * 3 - 3 = i * 3 by omega, show (i + 1) * 3 + 1 - 3 = i * 3 + 1 by omega, show (i + 1) * 3 + 2 - 3 = i * 3 + 2 by omega, h1, h2, h3]
    exact ⟨rfl, rfl, rfl⟩
theorem Tryz.info207 : (Tryz.prog.info? 207).map (fun i => (i.zero, i.size, i.bytes)) = some (some (.agg #[.string ⟨#[]⟩, .slice none 0 0, .slice none 0 0]), 3, 64) := by kernel_rfl
/-- The elements es, with their texts: each with blocks of its own from B on, none of them 'own'. -/
def EAll (Z W : World) (B : Nat) (own : Option Nat) (es : List E3) (Ts : List (List UInt8)) : Prop :=
  es.length = Ts.length ∧ ∀ i, i < Ts.length → ∃ fp : Nat → Prop, WritesAt Z W fp (eV (es.getD i noE)) (Ts.getD i []) ∧ ∀ k, fp k → B ≤ k ∧ some k ≠ own
theorem EAll.keep {Z W W' : World} {B : Nat} {own own' : Option Nat} {es : List E3} {Ts : List (List UInt8)} (h : EAll Z W B own es Ts) (hs : W.heap.size ≤ W'.heap.size) (hk : ∀ k, k < W.heap.size → B ≤ k → some k ≠ own → W'.heap[k]? = W.heap[k]? ∧ some k ≠ own') : EAll Z W' B own' es Ts := by
  refine ⟨h.1, fun i hi => ?_⟩
  obtain ⟨fp, hw, hf⟩ := h.2 i hi
  exact ⟨fp, hw.keep (fun k hk' => (hk k (hw.lt k hk') (hf k hk').1 (hf k hk').2).1) hs, fun k hk' => ⟨(hf k hk').1, (hk k (hw.lt k hk') (hf k hk').1 (hf k hk').2).2⟩⟩
theorem EAll.base {Z W : World} {B B' : Nat} {own : Option Nat} {es : List E3} {Ts : List (List UInt8)} (h : EAll Z W B own es Ts) (hB : B' ≤ B) : EAll Z W B' own es Ts :=
  ⟨h.1, fun i hi => by obtain ⟨fp, hw, hf⟩ := h.2 i hi; exact ⟨fp, hw, fun k hk => ⟨Nat.le_trans hB (hf k hk).1, (hf k hk).2⟩⟩⟩
theorem EAll.app {Z W : World} {B : Nat} {own : Option Nat} {es fs : List E3} {Ts Us : List (List UInt8)} (h : EAll Z W B own es Ts) (g : EAll Z W B own fs Us) : EAll Z W B own (es ++ fs) (Ts ++ Us) := by
  refine ⟨by simp [h.1, g.1], fun i hi => ?_⟩
  by_cases hlt : i < Ts.length
  · have e1 : (es ++ fs).getD i noE = es.getD i noE := by simp [List.getD_eq_getElem?_getD, List.getElem?_append_left (show i < es.length by rw [h.1]; exact hlt)]
    have e2 : (Ts ++ Us).getD i [] = Ts.getD i [] := by simp [List.getD_eq_getElem?_getD, List.getElem?_append_left hlt]
    rw [e1, e2]
    exact h.2 i hlt
  · have hi2 : i - Ts.length < Us.length := by simp at hi; omega
    have e1 : (es ++ fs).getD i noE = fs.getD (i - Ts.length) noE := by simp [List.getD_eq_getElem?_getD, List.getElem?_append_right (show es.length ≤ i by rw [h.1]; omega), h.1]
    have e2 : (Ts ++ Us).getD i [] = Us.getD (i - Ts.length) [] := by simp [List.getD_eq_getElem?_getD, List.getElem?_append_right (show Ts.length ≤ i by omega)]
    rw [e1, e2]
    exact g.2 _ hi2
/-- A list of elements that is being made. -/
structure Els (Z : World) (B : Nat) (w W : World) (v : Value) (Ts : List (List UInt8)) : Prop where
  ex : ∃ es, W.ownsRow B 207 3 v Ts.length (eL es) ∧ EAll Z W B v.ownBlock es Ts
  bel : Below B w W
  sz : B ≤ W.heap.size
theorem Els.nil {Z : World} {B : Nat} {w : World} (h : B ≤ w.heap.size) : Els Z B w w (.slice none 0 0) [] := ⟨⟨[], World.ownsRow_nil _ _ _ _, rfl, fun i hi => by simp at hi⟩, Below.refl _ _, h⟩
theorem Els.on {Z : World} {B : Nat} {w W X : World} {v : Value} {Ts : List (List UInt8)} (h : Els Z B w W v Ts) (hb : Below W.heap.size W X) : Els Z B w X v Ts := by
  obtain ⟨es, h1, h2⟩ := h.ex
  exact ⟨⟨es, own_below h1 hb, h2.keep hb.size (fun k hk _ hne => ⟨hb.block k hk, hne⟩)⟩, h.bel.trans (hb.mono h.sz), Nat.le_trans h.sz hb.size⟩
theorem Els.here {Z : World} {B B' : Nat} {w W X : World} {v : Value} {Ts : List (List UInt8)} (h : Els Z B w W v Ts) (hB : B' ≤ B) (hx : Below B' X w) : Els Z B' X W v Ts := by
  obtain ⟨es, h1, h2⟩ := h.ex
  exact ⟨⟨es, own_base h1 hB, h2.base hB⟩, hx.trans (h.bel.mono hB), Nat.le_trans hB h.sz⟩
/-- Elements as they are handed to an append: none, or in an array. -/
def ETail (Z W : World) (B : Nat) (own : Option Nat) (v2 : Value) (Us : List (List UInt8)) : Prop :=
  (v2 = .slice none 0 0 ∧ Us = []) ∨ ∃ p c es, v2 = .slice (some ⟨p, 0, none⟩) Us.length c ∧ (∀ j u, (eL es)[j]? = some u → W.cell? ⟨p, j, none⟩ = some u) ∧ EAll Z W B own es Us
theorem Els.joined {Z : World} {B : Nat} {w W w' : World} {v v' : Value} {Ts Us : List (List UInt8)} {es fs : List E3} (h : Els Z B w W v Ts) (h1 : W.ownsRow B 207 3 v Ts.length (eL es)) (h2 : EAll Z W B v.ownBlock es Ts) (h3 : EAll Z W B v.ownBlock fs Us)
    (hown : w'.ownsRow B 207 3 v' (Ts.length + Us.length) (eL es ++ eL fs)) (hg : W.grownBy w' v.ownBlock) (hat : v'.ownBlock = v.ownBlock ∨ v'.ownBlock = some W.heap.size) : Els Z B w w' v' (Ts ++ Us) := by
  refine ⟨⟨es ++ fs, by rw [← eL_app, List.length_append]; exact hown, ?_⟩, h.bel.grown hg h.sz (fun k hk => (h1.lt k hk).1), Nat.le_trans h.sz hg.size⟩
  refine (h2.app h3).keep hg.size (fun k hk hB hne => ⟨hg.block k hk hne, ?_⟩)
  rcases hat with e | e
  · rw [e]; exact hne
  · rw [e]; intro e2; cases e2; omega
theorem wpList_append_els {Z W : World} {ops : Array Oper} {rest : List Oper} {o : Oper} {a : Act} {Q : Exit → Act → World → Prop} (hgd : o.guard = none) (s x : Operand)
    (ho : o.op = .call { callee := .builtin .append, args := #[s, x], argTypes := #[205, 205] }) (B : Nat) (w : World) (v : Value) (Ts : List (List UInt8)) (hs : a.eval s = v) (hO : Els Z B w W v Ts)
    (v2 : Value) (Us : List (List UInt8)) (hx : a.eval x = v2) (h2 : ETail Z W B v.ownBlock v2 Us) (hlen : Ts.length + Us.length ≤ 1000)
    (h : ∀ v' w', Els Z B w w' v' (Ts ++ Us) → W.grownBy w' v.ownBlock → wpList Tryz.prog ops Q rest (a.put o.dst v') w') : wpList Tryz.prog ops Q (o :: rest) a W := by
  obtain ⟨i0, hi, hz0, hz1, hz2⟩ := info_parts Tryz.info207
  obtain ⟨es, h1, h3⟩ := hO.ex
  rcases h2 with ⟨rfl, rfl⟩ | ⟨p, c, fs, rfl, hcl, hal⟩
  · refine wpList_append_own_none hgd s x 205 ho B 207 i0 3 Tryz.underlying205 hi v _ _ hs h1 hx ?_
    exact h v W (by rw [List.append_nil]; exact hO) ⟨rfl, rfl, rfl, Nat.le_refl _, fun _ _ _ => rfl⟩
  · refine wpList_append_own_at _ hgd s x 205 ho B 207 i0 _ 3 64 Tryz.underlying205 hi hz0 hz1 hz2 rfl (by decide) v _ _ hs h1 ⟨p, 0, none⟩ Us.length c (eL fs) hx (by rw [eL_len, hal.1]) (fun j u hj => by rw [addr_add0]; exact hcl j u hj) (eL_one fs) (by unfold maxLen; omega) (by omega) hO.sz ?_
    intro v' w' hown hg _ hat
    exact h v' w' (hO.joined h1 h3 hal hown hg hat) hg
theorem step_append_els {Z W : World} {ops : Array Oper} {o : Oper} {a : Act} {K : Act → World → Prop} {Q : Exit → Act → World → Prop} {E : Prop} (hgd : o.guard = none) (s x : Operand)
    (ho : o.op = .call { callee := .builtin .append, args := #[s, x], argTypes := #[205, 205] }) (B : Nat) (w : World) (v : Value) (Ts : List (List UInt8)) (hs : a.eval s = v) (hO : Els Z B w W v Ts)
    (v2 : Value) (Us : List (List UInt8)) (hx : a.eval x = v2) (h2 : ETail Z W B v.ownBlock v2 Us) (hlen : Ts.length + Us.length ≤ 1000)
    (h : ∀ v' w', Els Z B w w' v' (Ts ++ Us) → W.grownBy w' v.ownBlock → K (a.put o.dst v') w') : if Region.wanted o (yielded ops a.tmps) = true then Oper.wp Tryz.prog o a W K Q else E := by
  have hw : Region.wanted o (yielded ops a.tmps) = true := by simp [Region.wanted, hgd]
  rw [if_pos hw]
  obtain ⟨i0, hi, hz0, hz1, hz2⟩ := info_parts Tryz.info207
  obtain ⟨es, h1, h3⟩ := hO.ex
  rcases h2 with ⟨rfl, rfl⟩ | ⟨p, c, fs, rfl, hcl, hal⟩
  · have hrun := run_append_owned_none (P := Tryz.prog) (w := W) B 205 o.type 207 i0 3 Tryz.underlying205 hi v _ _ h1
    have hk := h v W (by rw [List.append_nil]; exact hO) ⟨rfl, rfl, rfl, Nat.le_refl _, fun _ _ _ => rfl⟩
    unfold Oper.wp
    simp [execOp, ho, resolve, invoke, builtin, hs, hx, hrun, Result.andThen]
    exact hk
  · obtain ⟨v', w', hr, hown, hg, _, hat⟩ := run_append_own_at (P := Tryz.prog) W B 205 o.type 207 i0 _ 3 64 Tryz.underlying205 hi hz0 hz1 hz2 rfl (by decide) v _ _ h1 ⟨p, 0, none⟩ Us.length c (eL fs) (by rw [eL_len, hal.1]) (fun j u hj => by rw [addr_add0]; exact hcl j u hj) (eL_one fs) (by unfold maxLen; omega) (by omega) hO.sz
    have hk := h v' w' (hO.joined h1 h3 hal hown hg hat) hg
    unfold Oper.wp execOp
    simp only [ho, resolve, invoke, builtin, Sem.run_bind, Sem.run_pure, Result.andThen_ok, List.map_toArray, List.map_cons, List.map_nil, hs, hx, hr]
    exact hk
/-- One element in a block of its own. -/
theorem one_tail {Z W : World} {B H : Nat} {own : Option Nat} {e : E3} {T : List UInt8} {fp : Nat → Prop} (hw : WritesAt Z W fp (eV e) T) (hf : ∀ k, fp k → B ≤ k ∧ some k ≠ own) (hH : W.heap.size = H) : ETail Z (W.alloc (.cells #[.string e.nm, .slice e.A1 e.n1 e.c1, .slice e.A2 e.n2 e.c2] 207)) B own (.slice (some ⟨H, 0, none⟩) 1 1) [T] := by
  subst hH
  refine Or.inr ⟨W.heap.size, 1, [e], rfl, fun j u hj => (lstIs.new W (eC e) 207).cell (by simpa [eL] using hj), rfl, fun i hi => ?_⟩
  obtain rfl : i = 0 := by simpa using hi
  exact ⟨fp, hw.below (b1 _ _), hf⟩
/-- A list that another call has made. -/
theorem Els.tail {Z : World} {B C : Nat} {w W : World} {v : Value} {Us : List (List UInt8)} {own : Option Nat} (h : Els Z C w W v Us) (hB : B ≤ C) (ho : ∀ k, own = some k → k < C) : ETail Z W B own v Us := by
  obtain ⟨es, h1, h2⟩ := h.ex
  have ha : EAll Z W B own es Us := by
    refine ⟨h2.1, fun i hi => ?_⟩
    obtain ⟨fp, hw, hf⟩ := h2.2 i hi
    exact ⟨fp, hw, fun k hk => ⟨Nat.le_trans hB (hf k hk).1, fun e => by have := ho k e.symm; have := (hf k hk).1; omega⟩⟩
  rcases h1 with ⟨hlen, ⟨e, h0⟩ | ⟨g, cap, cur, e, hr⟩⟩
  · exact Or.inl ⟨e, List.eq_nil_of_length_eq_zero h0⟩
  · refine Or.inr ⟨g, cap, es, e, fun j u hj => ?_, ha⟩
    have hown : W.ownsRow C 207 3 v Us.length (eL es) := ⟨hlen, Or.inr ⟨g, cap, cur, e, hr⟩⟩
    have := hown.cells (g := g) (by rw [e]; rfl) j u hj
    rwa [addr_add0] at this
/-- An element without others within it. -/
theorem leaf_writes {Z W : World} {nm : ByteArray} {l : List AttP} {B g c : Nat} (hL : Laid Z) (h : W.ownsRow B 236 2 (.slice (some ⟨g, 0, none⟩) l.length c) l.length (attC l)) (hok : ∀ p ∈ l, AttOk p) (hl : l.length ≤ 1000) :
    WritesAt Z W (fun k => k = g) (eV ⟨nm, some ⟨g, 0, none⟩, l.length, c, none, 0, 0⟩) (eltT nm l []) :=
  write_any Z W (fun k => k = g) nm l [] (some ⟨g, 0, none⟩) none c 0 hL (fun k hk => by subst hk; exact (h.lt k rfl).2) (own_atts h rfl) hok (fun i hi => by simp at hi) hl (by simp)
end Go.Proofs.YtjkpbpgeedihhaaGreatDoor
namespace Go.Proofs.YtjkpbpgeedihhaaGreatDoor
open Go.RowKit
open M FerryM
def sVar : ByteArray := ⟨#[118, 97, 114]⟩
def sOp : ByteArray := ⟨#[111, 112]⟩
def sValue : ByteArray := ⟨#[118, 97, 108, 117, 101]⟩
def idOf (ns : List Nod) (t : Int) : ByteArray := (nd ns t.toNat).id
def whenA (ns : List Nod) (c : Cas) : List AttP := [(⟨#[118, 97, 114]⟩, Utf8.encode c.var), (⟨#[111, 112]⟩, opNameF c.op), (⟨#[118, 97, 108, 117, 101]⟩, mkS (Lib.itoa c.val)), (⟨#[116, 111]⟩, idOf ns c.to)]
def whenE (ns : List Nod) (c : Cas) : List UInt8 := eltT ⟨#[119, 104, 101, 110]⟩ (whenA ns c) []
def elseE (ns : List Nod) (t : Int) : List UInt8 := eltT ⟨#[101, 108, 115, 101]⟩ [(⟨#[116, 111]⟩, idOf ns t)] []
def brE (ns : List Nod) (t : Int) : List UInt8 := eltT ⟨#[98, 114, 97, 110, 99, 104]⟩ [(⟨#[116, 111]⟩, idOf ns t)] []
def elsL (ns : List Nod) (t : Int) : List (List UInt8) := if t = -1 then [] else [elseE ns t]
def partsL (ns : List Nod) (n : Nod) : List (List UInt8) := (n.cases.map (whenE ns) ++ elsL ns n.els) ++ n.branches.map (brE ns)
/-- What the writer may lean on. -/
structure WOk (ns : List Nod) (nn : Nod) : Prop where
  len : ns.length ≤ 24
  ids : ∀ j, j < ns.length → AttOk (⟨#[]⟩, (nd ns j).id)
  cl : nn.cases.length ≤ 6
  bl : nn.branches.length ≤ 6
  cas : ∀ c ∈ nn.cases, (97 ≤ c.var ∧ c.var ≤ 104) ∧ (1 ≤ c.op ∧ c.op ≤ 3) ∧ (-2147483648 ≤ c.val ∧ c.val ≤ 2147483647) ∧ 0 ≤ c.to ∧ c.to < ns.length
  els : nn.els ≠ -1 → 0 ≤ nn.els ∧ nn.els < ns.length
  brs : ∀ t ∈ nn.branches, 0 ≤ t ∧ t < ns.length
theorem asc_valid : ∀ l : List UInt8, (∀ b ∈ l, b.toNat < 128) → Lib.validD l = true
  | [], _ => rfl
  | b :: t, h => by rw [Lib.validD_cons b t (h b (by simp))]; exact asc_valid t (fun c hc => h c (by simp [hc]))
theorem asc_ok {n s : ByteArray} (h : ∀ b ∈ s.data.toList, b.toNat < 128) (hs : s.size ≤ 40) : AttOk (n, s) := ⟨asc_valid _ h, hs⟩
theorem ba_size (s : ByteArray) : s.size = s.data.toList.length := rfl
theorem var_ok {v : Int} (n : ByteArray) (h : 97 ≤ v ∧ v ≤ 104) : AttOk (n, Utf8.encode v) := by
  obtain ⟨k, rfl⟩ : ∃ k : Nat, v = k := ⟨v.toNat, by omega⟩
  have e := enc_one k (by omega)
  refine asc_ok (fun b hb => ?_) ?_
  · rw [e] at hb
    simp at hb
    subst hb
    rw [UInt8.toNat_ofNat']; omega
  · rw [ba_size, e]; exact Nat.le_of_ble_eq_true rfl
theorem op_ok {k : Int} (n : ByteArray) (h : 1 ≤ k ∧ k ≤ 3) : AttOk (n, opNameF k) := by
  rcases (by omega : k = 1 ∨ k = 2 ∨ k = 3) with rfl | rfl | rfl
  · exact asc_ok (by decide : ∀ b ∈ (opNameF 1).data.toList, b.toNat < 128) (by decide : (opNameF 1).size ≤ 40)
  · exact asc_ok (by decide : ∀ b ∈ (opNameF 2).data.toList, b.toNat < 128) (by decide : (opNameF 2).size ≤ 40)
  · exact asc_ok (by decide : ∀ b ∈ (opNameF 3).data.toList, b.toNat < 128) (by decide : (opNameF 3).size ≤ 40)
theorem dec_asc : ∀ (m n : Nat), n ≤ m → ∀ b ∈ Lib.decDigits n, b.toNat < 128
  | m, n, hm, b, hb => by
    rw [Lib.decDigits] at hb
    split at hb
    · rw [List.mem_singleton.1 hb, UInt8.toNat_ofNat']; omega
    · rw [List.mem_append] at hb
      rcases hb with hb | hb
      · match m, hm with
        | m' + 1, hm => exact dec_asc m' (n / 10) (by omega) b hb
        | 0, hm => omega
      · rw [List.mem_singleton.1 hb, UInt8.toNat_ofNat']; omega
theorem itoa_ok {v : Int} (n : ByteArray) (h : -2147483648 ≤ v ∧ v ≤ 2147483647) : AttOk (n, mkS (Lib.itoa v)) := by
  refine asc_ok (fun b hb => ?_) ?_
  · rw [mkS_list] at hb
    unfold Lib.itoa at hb
    split at hb
    · rcases List.mem_cons.1 hb with rfl | hb
      · decide
      · exact dec_asc _ _ (Nat.le_refl _) b hb
    · exact dec_asc _ _ (Nat.le_refl _) b hb
  · rw [mkS_size]
    have := itoa_len v (by omega) (by omega)
    omega
theorem id_ok {s : ByteArray} (n : ByteArray) (h : isIdB s.data.toList = true) : AttOk (n, s) := by
  simp only [isIdB, Bool.and_eq_true, decide_eq_true_eq] at h
  refine asc_ok (fun b hb => ?_) (by rw [ba_size]; omega)
  have h1 := List.all_eq_true.1 h.1 b hb
  rw [idCh_iff] at h1
  omega
theorem AttOk.name {n m s : ByteArray} (h : AttOk (n, s)) : AttOk (m, s) := h
theorem WOk.id {ns : List Nod} {nn : Nod} (h : WOk ns nn) {t : Int} (ht : 0 ≤ t ∧ t < ns.length) : AttOk (⟨#[116, 111]⟩, idOf ns t) := h.ids t.toNat (by omega)
theorem WOk.whenA {ns : List Nod} {nn : Nod} (h : WOk ns nn) {c : Cas} (hc : c ∈ nn.cases) : ∀ p ∈ whenA ns c, AttOk p := by
  obtain ⟨h1, h2, h3, h4⟩ := h.cas c hc
  intro p hp
  unfold Go.Proofs.YtjkpbpgeedihhaaGreatDoor.whenA at hp
  simp at hp
  rcases hp with rfl | rfl | rfl | rfl
  · exact var_ok _ h1
  · exact op_ok _ h2
  · exact itoa_ok _ h3
  · exact h.id h4
end Go.Proofs.YtjkpbpgeedihhaaGreatDoor
namespace Go.Proofs.YtjkpbpgeedihhaaGreatDoor
open Go.RowKit
open M FerryM
theorem Els.grown_lst {Z : World} {B q t : Nat} {w W w' : World} {v : Value} {Ts : List (List UInt8)} {l : List Value} (h : Els Z B w W v Ts) (hl : lstIs W q t l) (ht : t ≠ 207) (hg : W.grownBy w' v.ownBlock) : lstIs w' q t l := by
  obtain ⟨es, h1, _⟩ := h.ex
  exact hl.grown hg (own_ne h1 hl ht)
theorem Els.own_lt {Z : World} {B : Nat} {w W : World} {v : Value} {Ts : List (List UInt8)} (h : Els Z B w W v Ts) : ∀ q, v.ownBlock = some q → q < W.heap.size := by
  obtain ⟨es, h1, _⟩ := h.ex
  exact fun q hq => (h1.lt q hq).2
/-- New of literal attributes: an element that is written so. -/
theorem new_lit {Z : World} (hL : Laid Z) (nm : ByteArray) (l : List AttP) (X : World) (hok : ∀ p ∈ l, AttOk p) (hl : l.length ≤ 8) (own : Option Nat) (B : Nat) (hB : B ≤ X.heap.size) (ho : ∀ q, own = some q → q < X.heap.size) :
    Calls Tryz.prog 123 #[.string nm, .slice (some ⟨X.heap.size, 0, none⟩) l.length l.length] (X.alloc (.cells (attC l).toArray 236)) fun e w' => ∃ g c, e = .returned (.agg #[.string nm, .slice (some ⟨g, 0, none⟩) l.length c, .slice none 0 0]) ∧ WritesAt Z w' (fun k => k = g) (eV ⟨nm, some ⟨g, 0, none⟩, l.length, c, none, 0, 0⟩) (eltT nm l []) ∧ (∀ k, k = g → B ≤ k ∧ some k ≠ own) ∧ Below X.heap.size X w' := by
  refine (new_any nm _ l (X.alloc (.cells (attC l).toArray 236)) (Or.inr ⟨X.heap.size, l.length, rfl, lstIs.new _ _ _⟩) hl).mono ?_
  rintro e w' ⟨g, c, rfl, ho2, hb⟩
  have hge := (ho2.lt g rfl).1
  have hs : (X.alloc (.cells (attC l).toArray 236)).heap.size = X.heap.size + 1 := by simp
  refine ⟨g, c, rfl, leaf_writes hL ho2 hok (by omega), ?_, (b1 _ _).trans (hb.mono (by omega))⟩
  rintro k rfl
  refine ⟨by omega, fun e => ?_⟩
  have := ho k e.symm
  omega
set_option maxHeartbeats 8000000 in
set_option maxRecDepth 100000 in
theorem parts_any (Z : World) (tb : Nat) (a : Option Addr) (cap : Nat) (ns : List Nod) (rs : Nat → Raw) (nn : Nod) (rr : Raw) (w : World) (hZ : Below Z.heap.size Z w) (hL : Laid Z) (hm : ModIn w a ns rs) (hn : NodIn w nn rr) (hk : WOk ns nn) :
    Calls Tryz.prog 289 #[chkV tb a ns.length cap, .agg (nodV nn rr)] w fun e w' => ∃ v, e = .returned v ∧ Els Z w.heap.size w w' v (partsL ns nn) := by
  obtain ⟨n, hnn⟩ : ∃ n, ns.length = n := ⟨_, rfl⟩
  have HN : Hid (ns.length = n) := hnn
  have HLZ : Hid (Laid Z) := hL
  have HK : Hid (WOk ns nn) := hk
  obtain ⟨A, hA⟩ : ∃ A, a = A := ⟨_, rfl⟩
  have HA : Hid (a = A) := hA
  obtain ⟨W1, hW1⟩ : ∃ W1, w.alloc (Obj.cells #[.slice (some ⟨tb, 0, none⟩) 12 12, .slice A n cap] 234) = W1 := ⟨_, rfl⟩
  have HB1 : Hid (Below w.heap.size w W1) := by rw [← hW1]; exact b1 _ _
  have HX1 : Hid (ChkBox W1 w.heap.size tb A n cap) := by rw [← hW1]; exact ChkBox.new _ _ _ _ _ _
  obtain ⟨W2, hW2⟩ : ∃ W2, W1.alloc (.cells (nodV nn rr) 87) = W2 := ⟨_, rfl⟩
  have HB2 : Hid (Below W1.heap.size W1 W2) := by rw [← hW2]; exact b1 _ _
  have HX2 : Hid (NodBox W2 W1.heap.size nn rr) := by rw [← hW2]; exact NodBox.new _ _ _
  have Hw2 : Hid (Below w.heap.size w W2) := HB1.out.trans (HB2.out.mono HB1.out.size)
  have HChk : Hid (∀ X, Below W2.heap.size W2 X → ChkBox X w.heap.size tb A n cap) := fun X hX => (HX1.out.below HB2.out).below hX
  have HNod : Hid (∀ X, Below W2.heap.size W2 X → NodBox X W1.heap.size nn rr) := fun X hX => HX2.out.below hX
  have HNi : Hid (∀ X, Below W2.heap.size W2 X → NodIn X nn rr) := fun X hX => (hn.below Hw2.out).below hX
  have HLd : Hid (∀ X, Below W2.heap.size W2 X → Laid X) := fun X hX => ((hL.below hZ).below Hw2.out).below hX
  have HTo : Hid (∀ X (t : Int), Below W2.heap.size W2 X → 0 ≤ t → t < n → Calls Tryz.prog 207 #[.agg #[.slice (some ⟨tb, 0, none⟩) 12 12, .slice A n cap], .int .i64 t] X fun e w' => e = .returned (attV ⟨#[116, 111]⟩ (idOf ns t)) ∧ Below X.heap.size X w') := fun X t hX h0 h1 => by
    obtain ⟨j, rfl⟩ : ∃ j : Nat, t = j := ⟨t.toNat, by omega⟩
    have h := wto_any tb a cap ns rs j X ((hm.below Hw2.out).below hX) (by omega)
    unfold chkV tabV at h
    simp only [SlV] at h
    rw [hA, hnn] at h
    exact h
  have HE0 : Hid (Els Z W2.heap.size W2 W2 (.slice none 0 0) []) := Els.nil (Nat.le_refl _)
  have HEnd : Hid (∀ X v Ts, Els Z W2.heap.size W2 X v Ts → Els Z w.heap.size w X v Ts) := fun X v Ts h => h.here Hw2.out.size Hw2.out
  obtain ⟨nc, hnc⟩ : ∃ x, nn.cases.length = x := ⟨_, rfl⟩
  have HNC : Hid (nn.cases.length = nc ∧ nc ≤ 6) := ⟨hnc, by rw [← hnc]; exact hk.cl⟩
  obtain ⟨nb, hnb⟩ : ∃ x, nn.branches.length = x := ⟨_, rfl⟩
  have HNB : Hid (nn.branches.length = nb ∧ nb ≤ 6) := ⟨hnb, by rw [← hnb]; exact hk.bl⟩
  have hnc6 : nc ≤ 6 := HNC.out.2
  have hnb6 : nb ≤ 6 := HNB.out.2
  obtain ⟨y0, y1, y2, y3, y4, y5, y6, y7, y8, y9⟩ := HX2.out
  simp only [SlV] at y5 y7
  unfold chkV tabV nodV
  unfold nodV at hW2
  simp only [SlV] at hW2 ⊢
  rw [hnc] at y5
  rw [hnb] at y7
  rw [hnc, hnb] at hW2 ⊢
  rw [hA, hnn]
  clear hZ hL hm hn hk hnn hA hnc hnb
  go_enter Tryz.func289, Tryz.ntmps289
  go_wp2_with fail
  clear hW1 hW2 y0 y1 y2 y3 y4 y5 y6 y7 y8 y9
  go_loopw [5, 13] (fun v i wr => ∃ k : Nat, k ≤ nc ∧ i = .int .i64 k ∧ Els Z W2.heap.size W2 wr v ((nn.cases.take k).map (whenE ns))) (fun _ i _ => nc - (intOf i).toNat)
  case atStart => exact ⟨0, by omega, rfl, HE0.out⟩
  case round =>
    obtain ⟨k, hk, rfl, hE⟩ := hrel
    have HE : Hid (Els Z W2.heap.size W2 wr u5 ((nn.cases.take k).map (whenE ns))) := hE
    clear hE
    by_cases hlt : k < nc
    · obtain ⟨cb, co, ec, d0, d1, d2, d3⟩ := (HNi.out wr HE.out.bel).cs k (by rw [HNC.out.1]; exact hlt)
      rw [ec]
      try simp only [Option.map_some]
      obtain ⟨c, hc⟩ : ∃ x, nn.cases.getD k Cas.zero = x := ⟨_, rfl⟩
      have hcm : c ∈ nn.cases := by rw [← hc, List.getD_eq_getElem?_getD, List.getElem?_eq_getElem (by rw [HNC.out.1]; exact hlt)]; exact List.getElem_mem _
      rw [hc] at d0 d1 d2 d3
      have htk : (nn.cases.take (k + 1)).map (whenE ns) = (nn.cases.take k).map (whenE ns) ++ [whenE ns c] := by
        rw [take_getD_succ Cas.zero _ k (by rw [HNC.out.1]; exact hlt), hc]; simp
      have HTk : Hid ((nn.cases.take (k + 1)).map (whenE ns) = (nn.cases.take k).map (whenE ns) ++ [whenE ns c]) := htk
      have HLen : Hid (((nn.cases.take k).map (whenE ns)).length + [whenE ns c].length ≤ 1000) := by
        show _ ≤ _
        have := HNC.out.1
        simp; omega
      obtain ⟨hc1, hc2, hc3, hc4⟩ := HK.out.cas c hcm
      rw [HN.out] at hc4
      have HAo : Hid (∀ p ∈ whenA ns c, AttOk p) := HK.out.whenA hcm
      clear htk hc hcm
      have hkb : (k : Int) < nc := by omega
      obtain ⟨Y, hY⟩ : ∃ Y, wr.alloc (.cells #[.int .u8 c.var, .int .i64 c.op, .int .i32 c.val, .int .i64 c.to] 89) = Y := ⟨_, rfl⟩
      have HYb : Hid (Below wr.heap.size wr Y) := by rw [← hY]; exact b1 _ _
      have HYl : Hid (lstIs Y wr.heap.size 89 [.int .u8 c.var, .int .i64 c.op, .int .i32 c.val, .int .i64 c.to]) := by rw [← hY]; exact lstIs.new _ _ _
      have HEY : Hid (Els Z W2.heap.size W2 Y u5 ((nn.cases.take k).map (whenE ns))) := HE.out.on HYb.out
      have HS : Hid (∀ X, lstIs X wr.heap.size 89 [.int .u8 c.var, .int .i64 c.op, .int .i32 c.val, .int .i64 c.to] → Below W2.heap.size W2 X → X.cell? ⟨wr.heap.size, 0, none⟩ = some (.int .u8 c.var) ∧ X.cell? ⟨wr.heap.size, 1, none⟩ = some (.int .i64 c.op) ∧ X.cell? ⟨wr.heap.size, 2, none⟩ = some (.int .i32 c.val) ∧ X.cell? ⟨wr.heap.size, 3, none⟩ = some (.int .i64 c.to) ∧ X.cell? ⟨w.heap.size, 0, none⟩ = some (.slice (some ⟨tb, 0, none⟩) 12 12) ∧ X.cell? ⟨w.heap.size, 1, none⟩ = some (.slice A n cap)) := fun X h1 h2 => ⟨h1.cell rfl, h1.cell rfl, h1.cell rfl, h1.cell rfl, (HChk.out X h2).c0, (HChk.out X h2).c1⟩
      have HS0 : Hid (∀ X, Below Y.heap.size Y X → X.cell? ⟨wr.heap.size, 0, none⟩ = some (.int .u8 c.var) ∧ X.cell? ⟨wr.heap.size, 1, none⟩ = some (.int .i64 c.op) ∧ X.cell? ⟨wr.heap.size, 2, none⟩ = some (.int .i32 c.val) ∧ X.cell? ⟨wr.heap.size, 3, none⟩ = some (.int .i64 c.to) ∧ X.cell? ⟨w.heap.size, 0, none⟩ = some (.slice (some ⟨tb, 0, none⟩) 12 12) ∧ X.cell? ⟨w.heap.size, 1, none⟩ = some (.slice A n cap)) := fun X hX => HS.out X (HYl.out.at (hX.block _ HYl.out.lt)) (HEY.out.bel.trans (hX.mono HEY.out.sz))
      have H2 : Hid (∀ X, Below Y.heap.size Y X → Below W2.heap.size W2 X) := fun X hX => HEY.out.bel.trans (hX.mono HEY.out.sz)
      have H19 : Hid (∀ X (p q : ByteArray), Below Y.heap.size Y X → Calls Tryz.prog 124 #[.string p, .string q] X fun e w' => e = .returned (.agg #[.string p, .string q]) ∧ Below Y.heap.size Y w') := fun X p q hX => (attr_any p q X).mono fun e w' ⟨he, hb⟩ => ⟨he, hX.trans (hb.mono hX.size)⟩
      have H77 : Hid (∀ X, Below Y.heap.size Y X → Calls Tryz.prog 353 #[.int .i64 c.op] X fun e w' => e = .returned (.string (opNameF c.op)) ∧ Below Y.heap.size Y w') := fun X hX => (opName_any c.op X (HLd.out X (H2.out X hX)).ops).mono fun e w' ⟨he, hw⟩ => ⟨he, by rw [hw]; exact hX⟩
      have H44 : Hid (∀ X, Below Y.heap.size Y X → Calls Tryz.prog 206 #[.int .i64 c.val] X fun e w' => e = .returned (.string (mkS (Lib.itoa c.val))) ∧ Below Y.heap.size Y w') := fun X hX => (itoa_any c.val X (by omega) (by omega) (HLd.out X (H2.out X hX))).mono fun e w' ⟨he, hb⟩ => ⟨he, hX.trans (hb.mono hX.size)⟩
      have H45 : Hid (∀ X, Below Y.heap.size Y X → Calls Tryz.prog 207 #[.agg #[.slice (some ⟨tb, 0, none⟩) 12 12, .slice A n cap], .int .i64 c.to] X fun e w' => e = .returned (.agg #[.string ⟨#[116, 111]⟩, .string (idOf ns c.to)]) ∧ Below Y.heap.size Y w') := fun X hX => (HTo.out X c.to (H2.out X hX) hc4.1 hc4.2).mono fun e w' ⟨he, hb⟩ => ⟨he, hX.trans (hb.mono hX.size)⟩
      have hown := HEY.out.own_lt
      obtain ⟨OB, hOB⟩ : ∃ x, u5.ownBlock = x := ⟨_, rfl⟩
      have H18 : Hid (∀ X, Below Y.heap.size Y X → Calls Tryz.prog 123 #[.string ⟨#[119, 104, 101, 110]⟩, .slice (some ⟨X.heap.size, 0, none⟩) 4 4] (X.alloc (.cells #[.string ⟨#[118, 97, 114]⟩, .string (Utf8.encode c.var), .string ⟨#[111, 112]⟩, .string (opNameF c.op), .string ⟨#[118, 97, 108, 117, 101]⟩, .string (mkS (Lib.itoa c.val)), .string ⟨#[116, 111]⟩, .string (idOf ns c.to)] 236)) fun e w' => ∃ g cc, e = .returned (.agg #[.string ⟨#[119, 104, 101, 110]⟩, .slice (some ⟨g, 0, none⟩) 4 cc, .slice none 0 0]) ∧ WritesAt Z w' (fun k => k = g) (eV ⟨⟨#[119, 104, 101, 110]⟩, some ⟨g, 0, none⟩, 4, cc, none, 0, 0⟩) (whenE ns c) ∧ (∀ k, k = g → W2.heap.size ≤ k ∧ some k ≠ u5.ownBlock) ∧ Below Y.heap.size Y w') := fun X hX =>
        (new_lit HLZ.out ⟨#[119, 104, 101, 110]⟩ (whenA ns c) X HAo.out (by simp [whenA]) u5.ownBlock W2.heap.size (Nat.le_trans HEY.out.sz hX.size) (fun q hq => Nat.lt_of_lt_of_le (hown q hq) hX.size)).mono fun e w' ⟨g, cc, he, h1, h2, h3⟩ => ⟨g, cc, he, h1, h2, hX.trans (h3.mono hX.size)⟩
      have hwv : IntKind.i32.wrap c.var = c.var := by rw [IntKind.wrap_i32]; omega
      have hwl : IntKind.i64.wrap c.val = c.val := by rw [IntKind.wrap_i64]; omega
      clear hown hOB
      go_wp2_with fail
      clear hY d0 d1 d2 d3
      have HBX : Hid (Below Y.heap.size Y Y.drew) := below_drewN (Below.refl _ _) 1
      go_region_held3 (fun X => X.cell? ⟨wr.heap.size, 0, none⟩ = some (.int .u8 c.var) ∧ X.cell? ⟨wr.heap.size, 1, none⟩ = some (.int .i64 c.op) ∧ X.cell? ⟨wr.heap.size, 2, none⟩ = some (.int .i32 c.val) ∧ X.cell? ⟨wr.heap.size, 3, none⟩ = some (.int .i64 c.to) ∧ X.cell? ⟨w.heap.size, 0, none⟩ = some (.slice (some ⟨tb, 0, none⟩) 12 12) ∧ X.cell? ⟨w.heap.size, 1, none⟩ = some (.slice A n cap))
        ((first | exact HS0.out _ HBX.out | exact HS0.out _ (HBX.out.alloc HBX.out.size _) | exact HSe.out | fail))
        ((first
          | (go_at_call 124; refine (H19.out _ _ _ HBX.out).mono ?_; rintro e x ⟨rfl, hb⟩; replace HBX : Hid (Below Y.heap.size Y x) := hb; clear hb)
          | (go_at_call 353; refine (H77.out _ HBX.out).mono ?_; rintro e x ⟨rfl, hb⟩; replace HBX : Hid (Below Y.heap.size Y x) := hb; clear hb)
          | (go_at_call 206; refine (H44.out _ HBX.out).mono ?_; rintro e x ⟨rfl, hb⟩; replace HBX : Hid (Below Y.heap.size Y x) := hb; clear hb)
          | (go_at_call 207; refine (H45.out _ HBX.out).mono ?_; rintro e x ⟨rfl, hb⟩; replace HBX : Hid (Below Y.heap.size Y x) := hb; clear hb)
          | (go_at_call 123; refine (H18.out _ HBX.out).mono ?_; rintro e x7 ⟨g, cc, rfl, hwt, hfp, hb⟩; replace HBX : Hid (Below Y.heap.size Y x7) := hb; have HWt : Hid (WritesAt Z x7 (fun k => k = g) (eV ⟨⟨#[119, 104, 101, 110]⟩, some ⟨g, 0, none⟩, 4, cc, none, 0, 0⟩) (whenE ns c)) := hwt; have HFp : Hid (∀ k, k = g → W2.heap.size ≤ k ∧ some k ≠ u5.ownBlock) := hfp; clear hb hwt hfp)
          | (have hq := HWt.out; clear hq; refine step_append_els (by rfl) (.tmp 17) (.tmp 38) (by rfl) W2.heap.size W2 _ _ (by rfl) ((HEY.out.on HBX.out).on (b1 _ _)) _ [whenE ns c] (by rfl) (one_tail HWt.out HFp.out (by rfl)) HLen.out ?_; intro v8 x8 hE8 hg8; have HE8 : Hid (Els Z W2.heap.size W2 x8 v8 ((nn.cases.take k).map (whenE ns) ++ [whenE ns c])) := hE8; have HSe : Hid (_ ∧ _ ∧ _ ∧ _ ∧ _ ∧ _) := HS.out x8 (((HEY.out.on HBX.out).on (b1 _ _)).grown_lst ((HYl.out.at (HBX.out.block _ HYl.out.lt)).alloc _) (by decide) hg8) hE8.bel; clear hE8 hg8)
          | fail))
      all_goals (
        go_wp2_with fail
        exact ⟨⟨k + 1, by omega, by go_num, by rw [HTk.out]; exact HE8.out⟩, by simp [intOf]; omega⟩)
    · have hE := HE.out
      rw [List.take_of_length_le (by rw [HNC.out.1]; omega)] at hE
      obtain ⟨L1, hL1⟩ : ∃ x, nn.cases.map (whenE ns) = x := ⟨_, rfl⟩
      have HL1 : Hid (nn.cases.map (whenE ns) = L1 ∧ L1.length ≤ 6) := ⟨hL1, by rw [← hL1]; simp; rw [HNC.out.1]; omega⟩
      rw [hL1] at hE
      have HE1 : Hid (Els Z W2.heap.size W2 wr u5 L1) := hE
      clear hE hL1 HE
      obtain ⟨L2, hL2⟩ : ∃ x, L1 ++ elsL ns nn.els = x := ⟨_, rfl⟩
      have HPa : Hid (partsL ns nn = L2 ++ nn.branches.map (brE ns)) := by rw [← hL2, ← HL1.out.1]; exact rfl
      have HL2 : Hid (L2.length ≤ 7) := by
        show _ ≤ _
        have h1 := HL1.out.2
        have h2 : (elsL ns nn.els).length ≤ 1 := by unfold elsL; split <;> simp
        rw [← hL2, List.length_append]; omega
      obtain ⟨z0, z1, z2, z3, z4, z5, z6, z7, z8, z9⟩ := HNod.out wr HE1.out.bel
      simp only [SlV] at z5 z7
      rw [HNB.out.1] at z7
      by_cases he : nn.els = -1
      · have d : (nn.els != -1) = false := by simp [he]
        have HE2 : Hid (Els Z W2.heap.size W2 wr u5 L2) := by rw [← hL2]; unfold elsL; rw [if_pos he, List.append_nil]; exact HE1.out
        clear he hL2
        go_wp2_with fail
        clear z0 z1 z2 z3 z4 z5 z6 z7 z8 z9
        go_loopw [5, 56] (fun v i wr => ∃ k : Nat, k ≤ nb ∧ i = .int .i64 k ∧ Els Z W2.heap.size W2 wr v (L2 ++ (nn.branches.take k).map (brE ns))) (fun _ i _ => nb - (intOf i).toNat)
        case atStart => exact ⟨0, by omega, rfl, by simpa using HE2.out⟩
        case round =>
          obtain ⟨j, hj, rfl, hE3⟩ := hrel
          have HE3 : Hid (Els Z W2.heap.size W2 wr u5 (L2 ++ (nn.branches.take j).map (brE ns))) := hE3
          clear hE3
          by_cases hjl : j < nb
          · obtain ⟨bb, bo, eb, hbc⟩ := (HNi.out wr HE3.out.bel).bs j (by rw [HNB.out.1]; exact hjl)
            rw [eb]
            try simp only [Option.map_some]
            obtain ⟨t, ht⟩ : ∃ t, nn.branches.getD j 0 = t := ⟨_, rfl⟩
            have htm : t ∈ nn.branches := by rw [← ht, List.getD_eq_getElem?_getD, List.getElem?_eq_getElem (by rw [HNB.out.1]; exact hjl)]; exact List.getElem_mem _
            have hr := HK.out.brs t htm
            have HAo : Hid (∀ p ∈ [((⟨#[116, 111]⟩, idOf ns t) : AttP)], AttOk p) := fun p hp => by rw [List.mem_singleton.1 hp]; exact HK.out.id hr
            rw [HN.out] at hr
            rw [ht] at hbc
            have htk : L2 ++ (nn.branches.take (j + 1)).map (brE ns) = (L2 ++ (nn.branches.take j).map (brE ns)) ++ [brE ns t] := by
              rw [take_getD_succ 0 _ j (by rw [HNB.out.1]; exact hjl), ht]; simp
            have HTk : Hid (L2 ++ (nn.branches.take (j + 1)).map (brE ns) = (L2 ++ (nn.branches.take j).map (brE ns)) ++ [brE ns t]) := htk
            have HLen : Hid ((L2 ++ (nn.branches.take j).map (brE ns)).length + [brE ns t].length ≤ 1000) := by
              show _ ≤ _
              have h1 := HNB.out.1
              have h2 := HL2.out
              simp; omega
            clear htk ht htm
            have hjb : (j : Int) < nb := by omega
            have hto := HTo.out wr t HE3.out.bel hr.1 hr.2
            obtain ⟨q0, q1⟩ := HChk.out wr HE3.out.bel
            go_wp2_with fail
            refine hto.mono ?_
            rintro e x1 ⟨rfl, hb1⟩
            have HBX : Hid (Below wr.heap.size wr x1) := hb1
            have hnw := new_lit HLZ.out ⟨#[98, 114, 97, 110, 99, 104]⟩ [(⟨#[116, 111]⟩, idOf ns t)] x1 HAo.out (by simp) u5.ownBlock W2.heap.size (Nat.le_trans HE3.out.sz hb1.size) (fun q hq => Nat.lt_of_lt_of_le (HE3.out.own_lt q hq) hb1.size)
            clear hto hb1 q0 q1 hbc
            go_wp2_with fail
            refine hnw.mono ?_
            rintro e x2 ⟨g, cc, rfl, hwt, hfp, hb2⟩
            have HWt : Hid (WritesAt Z x2 (fun k => k = g) (eV ⟨⟨#[98, 114, 97, 110, 99, 104]⟩, some ⟨g, 0, none⟩, 1, cc, none, 0, 0⟩) (brE ns t)) := hwt
            have HFp : Hid (∀ k, k = g → W2.heap.size ≤ k ∧ some k ≠ u5.ownBlock) := hfp
            have HE4 : Hid (Els Z W2.heap.size W2 x2 u5 (L2 ++ (nn.branches.take j).map (brE ns))) := HE3.out.on (HBX.out.trans (hb2.mono HBX.out.size))
            clear hnw hwt hfp hb2
            simp only [List.length_cons, List.length_nil, Nat.zero_add]
            go_wp2_with (at_builtin; go_must (refine wpList_append_els rfl (.tmp 60) (.tmp 66) rfl W2.heap.size W2 _ _ rfl (HE4.out.on (b1 _ _)) _ [brE ns t] rfl (one_tail HWt.out HFp.out rfl) HLen.out ?_))
            intro v5 x5 hE5 _
            have HE5 : Hid (Els Z W2.heap.size W2 x5 v5 ((L2 ++ (nn.branches.take j).map (brE ns)) ++ [brE ns t])) := by rw [List.map_take, List.append_assoc]; exact hE5
            clear hE5
            go_wp2_with fail
            exact ⟨⟨j + 1, by omega, by go_num, by rw [HTk.out]; exact HE5.out⟩, by simp [intOf]; omega⟩
          · have hE3 := HE3.out
            rw [List.take_of_length_le (by rw [HNB.out.1]; omega)] at hE3
            have HEf : Hid (Els Z W2.heap.size W2 wr u5 (L2 ++ nn.branches.map (brE ns))) := hE3
            clear hE3
            go_wp2_with fail
            go_ret
            exact ⟨_, rfl, by rw [HPa.out]; exact HEnd.out _ _ _ HEf.out⟩
      · have d : (nn.els != -1) = true := by simp [he]
        have hr := HK.out.els he
        have HAo : Hid (∀ p ∈ [((⟨#[116, 111]⟩, idOf ns nn.els) : AttP)], AttOk p) := fun p hp => by rw [List.mem_singleton.1 hp]; exact HK.out.id hr
        rw [HN.out] at hr
        have HLe : Hid (L1 ++ [elseE ns nn.els] = L2) := by rw [← hL2]; unfold elsL; rw [if_neg he]; exact rfl
        clear he hL2
        have hto := HTo.out wr nn.els HE1.out.bel hr.1 hr.2
        obtain ⟨q0, q1⟩ := HChk.out wr HE1.out.bel
        go_wp2_with fail
        refine hto.mono ?_
        rintro e x1 ⟨rfl, hb1⟩
        have HBX : Hid (Below wr.heap.size wr x1) := hb1
        have hnw := new_lit HLZ.out ⟨#[101, 108, 115, 101]⟩ [(⟨#[116, 111]⟩, idOf ns nn.els)] x1 HAo.out (by simp) u5.ownBlock W2.heap.size (Nat.le_trans HE1.out.sz hb1.size) (fun q hq => Nat.lt_of_lt_of_le (HE1.out.own_lt q hq) hb1.size)
        clear hto hb1 q0 q1
        go_wp2_with fail
        refine hnw.mono ?_
        rintro e x2 ⟨g, cc, rfl, hwt, hfp, hb2⟩
        have HWt : Hid (WritesAt Z x2 (fun k => k = g) (eV ⟨⟨#[101, 108, 115, 101]⟩, some ⟨g, 0, none⟩, 1, cc, none, 0, 0⟩) (elseE ns nn.els)) := hwt
        have HFp : Hid (∀ k, k = g → W2.heap.size ≤ k ∧ some k ≠ u5.ownBlock) := hfp
        have HE4 : Hid (Els Z W2.heap.size W2 x2 u5 L1) := HE1.out.on (HBX.out.trans (hb2.mono HBX.out.size))
        have HLen : Hid (L1.length + [elseE ns nn.els].length ≤ 1000) := by
          show _ ≤ _
          have := HL1.out.2
          simp; omega
        clear hnw hwt hfp hb2
        simp only [List.length_cons, List.length_nil, Nat.zero_add]
        go_wp2_with (at_builtin; go_must (refine wpList_append_els rfl (.tmp 44) (.tmp 51) rfl W2.heap.size W2 _ _ rfl (HE4.out.on (b1 _ _)) _ [elseE ns nn.els] rfl (one_tail HWt.out HFp.out rfl) HLen.out ?_))
        intro v5 x5 hE5 _
        have HE2 : Hid (Els Z W2.heap.size W2 x5 v5 L2) := by rw [← HLe.out]; exact hE5
        clear hE5 z0 z1 z2 z3 z4 z5 z6 z7 z8 z9
        obtain ⟨z0, z1, z2, z3, z4, z5, z6, z7, z8, z9⟩ := HNod.out x5 HE2.out.bel
        simp only [SlV] at z5 z7
        rw [HNB.out.1] at z7
        go_wp2_with fail
        clear z0 z1 z2 z3 z4 z5 z6 z7 z8 z9
        go_loopw [5, 56] (fun v i wr => ∃ k : Nat, k ≤ nb ∧ i = .int .i64 k ∧ Els Z W2.heap.size W2 wr v (L2 ++ (nn.branches.take k).map (brE ns))) (fun _ i _ => nb - (intOf i).toNat)
        case atStart => exact ⟨0, by omega, rfl, by simpa using HE2.out⟩
        case round =>
          obtain ⟨j, hj, rfl, hE3⟩ := hrel
          have HE3 : Hid (Els Z W2.heap.size W2 wr u5 (L2 ++ (nn.branches.take j).map (brE ns))) := hE3
          clear hE3
          by_cases hjl : j < nb
          · obtain ⟨bb, bo, eb, hbc⟩ := (HNi.out wr HE3.out.bel).bs j (by rw [HNB.out.1]; exact hjl)
            rw [eb]
            try simp only [Option.map_some]
            obtain ⟨t, ht⟩ : ∃ t, nn.branches.getD j 0 = t := ⟨_, rfl⟩
            have htm : t ∈ nn.branches := by rw [← ht, List.getD_eq_getElem?_getD, List.getElem?_eq_getElem (by rw [HNB.out.1]; exact hjl)]; exact List.getElem_mem _
            have hr := HK.out.brs t htm
            have HAo : Hid (∀ p ∈ [((⟨#[116, 111]⟩, idOf ns t) : AttP)], AttOk p) := fun p hp => by rw [List.mem_singleton.1 hp]; exact HK.out.id hr
            rw [HN.out] at hr
            rw [ht] at hbc
            have htk : L2 ++ (nn.branches.take (j + 1)).map (brE ns) = (L2 ++ (nn.branches.take j).map (brE ns)) ++ [brE ns t] := by
              rw [take_getD_succ 0 _ j (by rw [HNB.out.1]; exact hjl), ht]; simp
            have HTk : Hid (L2 ++ (nn.branches.take (j + 1)).map (brE ns) = (L2 ++ (nn.branches.take j).map (brE ns)) ++ [brE ns t]) := htk
            have HLen : Hid ((L2 ++ (nn.branches.take j).map (brE ns)).length + [brE ns t].length ≤ 1000) := by
              show _ ≤ _
              have h1 := HNB.out.1
              have h2 := HL2.out
              simp; omega
            clear htk ht htm
            have hjb : (j : Int) < nb := by omega
            have hto := HTo.out wr t HE3.out.bel hr.1 hr.2
            obtain ⟨q0, q1⟩ := HChk.out wr HE3.out.bel
            go_wp2_with fail
            refine hto.mono ?_
            rintro e x1 ⟨rfl, hb1⟩
            have HBX : Hid (Below wr.heap.size wr x1) := hb1
            have hnw := new_lit HLZ.out ⟨#[98, 114, 97, 110, 99, 104]⟩ [(⟨#[116, 111]⟩, idOf ns t)] x1 HAo.out (by simp) u5.ownBlock W2.heap.size (Nat.le_trans HE3.out.sz hb1.size) (fun q hq => Nat.lt_of_lt_of_le (HE3.out.own_lt q hq) hb1.size)
            clear hto hb1 q0 q1 hbc
            go_wp2_with fail
            refine hnw.mono ?_
            rintro e x2 ⟨g, cc, rfl, hwt, hfp, hb2⟩
            have HWt : Hid (WritesAt Z x2 (fun k => k = g) (eV ⟨⟨#[98, 114, 97, 110, 99, 104]⟩, some ⟨g, 0, none⟩, 1, cc, none, 0, 0⟩) (brE ns t)) := hwt
            have HFp : Hid (∀ k, k = g → W2.heap.size ≤ k ∧ some k ≠ u5.ownBlock) := hfp
            have HE4 : Hid (Els Z W2.heap.size W2 x2 u5 (L2 ++ (nn.branches.take j).map (brE ns))) := HE3.out.on (HBX.out.trans (hb2.mono HBX.out.size))
            clear hnw hwt hfp hb2
            simp only [List.length_cons, List.length_nil, Nat.zero_add]
            go_wp2_with (at_builtin; go_must (refine wpList_append_els rfl (.tmp 60) (.tmp 66) rfl W2.heap.size W2 _ _ rfl (HE4.out.on (b1 _ _)) _ [brE ns t] rfl (one_tail HWt.out HFp.out rfl) HLen.out ?_))
            intro v5 x5 hE5 _
            have HE5 : Hid (Els Z W2.heap.size W2 x5 v5 ((L2 ++ (nn.branches.take j).map (brE ns)) ++ [brE ns t])) := by rw [List.map_take, List.append_assoc]; exact hE5
            clear hE5
            go_wp2_with fail
            exact ⟨⟨j + 1, by omega, by go_num, by rw [HTk.out]; exact HE5.out⟩, by simp [intOf]; omega⟩
          · have hE3 := HE3.out
            rw [List.take_of_length_le (by rw [HNB.out.1]; omega)] at hE3
            have HEf : Hid (Els Z W2.heap.size W2 wr u5 (L2 ++ nn.branches.map (brE ns))) := hE3
            clear hE3
            go_wp2_with fail
            go_ret
            exact ⟨_, rfl, by rw [HPa.out]; exact HEnd.out _ _ _ HEf.out⟩
end Go.Proofs.YtjkpbpgeedihhaaGreatDoor
namespace Go.Proofs.YtjkpbpgeedihhaaGreatDoor
open Go.RowKit
open M FerryM
def timA (ns : List Nod) (nn : Nod) : List AttP := [(⟨#[111, 110]⟩, nn.id), (⟨#[97, 102, 116, 101, 114]⟩, mkS (Lib.itoa nn.after)), (⟨#[116, 111]⟩, idOf ns nn.late)]
def timE (ns : List Nod) (nn : Nod) : List UInt8 := eltT ⟨#[116, 105, 109, 101, 114]⟩ (timA ns nn) []
def timL (ns : List Nod) (nn : Nod) : List (List UInt8) := if 0 < nn.after then [timE ns nn] else []
def lvl (ns : List Nod) (NT : Nat → List UInt8) (up : Int) : Nat → List (List UInt8)
  | 0 => []
  | k + 1 => lvl ns NT up k ++ (if upF ns k = up then NT k :: timL ns (nd ns k) else [])
theorem lvl_len (ns : List Nod) (NT : Nat → List UInt8) (up : Int) : ∀ k, (lvl ns NT up k).length ≤ 2 * k
  | 0 => Nat.le_refl _
  | k + 1 => by
    have := lvl_len ns NT up k
    unfold lvl
    rw [List.length_append]
    split
    · have : (timL ns (nd ns k)).length ≤ 1 := by unfold timL; split <;> simp
      simp; omega
    · simp; omega
structure WLv (ns : List Nod) : Prop where
  len : ns.length ≤ 24
  ids : ∀ j, j < ns.length → AttOk (⟨#[]⟩, (nd ns j).id)
  aft : ∀ j, j < ns.length → 0 ≤ (nd ns j).after ∧ (nd ns j).after ≤ 1000 ∧ (0 < (nd ns j).after → 0 ≤ (nd ns j).late ∧ (nd ns j).late < ns.length)
/-- What the call of node answers. -/
def NodeC (Z X : World) (T : List UInt8) (e : Ending) (w' : World) : Prop := ∃ (e3 : E3) (fp : Nat → Prop), e = .returned (.agg #[.string e3.nm, .slice e3.A1 e3.n1 e3.c1, .slice e3.A2 e3.n2 e3.c2]) ∧ WritesAt Z w' fp (eV e3) T ∧ (∀ k, fp k → X.heap.size ≤ k) ∧ Below X.heap.size X w'
set_option maxHeartbeats 8000000 in
set_option maxRecDepth 100000 in
theorem level_step (Z : World) (tb : Nat) (a : Option Addr) (cap : Nat) (ns : List Nod) (rs : Nat → Raw) (up : Int) (NT : Nat → List UInt8) (w : World) (hZ : Below Z.heap.size Z w) (hL : Laid Z) (hm : ModIn w a ns rs) (hk : WLv ns)
    (hN : ∀ X, Below w.heap.size w X → ∀ i, i < ns.length → upF ns i = up → Calls Tryz.prog 205 #[chkV tb a ns.length cap, .int .i64 (i : Nat)] X (NodeC Z X (NT i))) :
    Calls Tryz.prog 125 #[chkV tb a ns.length cap, .int .i64 up] w fun e w' => ∃ v, e = .returned v ∧ Els Z w.heap.size w w' v (lvl ns NT up ns.length) := by
  obtain ⟨n, hnn⟩ : ∃ n, ns.length = n := ⟨_, rfl⟩
  have HN : Hid (ns.length = n) := hnn
  have HLZ : Hid (Laid Z) := hL
  have HK : Hid (WLv ns) := hk
  have h24 : n ≤ 24 := by rw [← hnn]; exact hk.len
  obtain ⟨A, hA⟩ : ∃ A, a = A := ⟨_, rfl⟩
  have HA : Hid (a = A) := hA
  obtain ⟨W2, hW2⟩ : ∃ W1, w.alloc (Obj.cells #[.slice (some ⟨tb, 0, none⟩) 12 12, .slice A n cap] 234) = W1 := ⟨_, rfl⟩
  have Hw2 : Hid (Below w.heap.size w W2) := by rw [← hW2]; exact b1 _ _
  have HX2 : Hid (ChkBox W2 w.heap.size tb A n cap) := by rw [← hW2]; exact ChkBox.new _ _ _ _ _ _
  have HChk : Hid (∀ X, Below W2.heap.size W2 X → ChkBox X w.heap.size tb A n cap) := fun X hX => HX2.out.below hX
  have HMo : Hid (∀ X, Below W2.heap.size W2 X → ModIn X a ns rs) := fun X hX => (hm.below Hw2.out).below hX
  have HLd : Hid (∀ X, Below W2.heap.size W2 X → Laid X) := fun X hX => ((hL.below hZ).below Hw2.out).below hX
  have HTo : Hid (∀ X (t : Int), Below W2.heap.size W2 X → 0 ≤ t → t < n → Calls Tryz.prog 207 #[.agg #[.slice (some ⟨tb, 0, none⟩) 12 12, .slice A n cap], .int .i64 t] X fun e w' => e = .returned (attV ⟨#[116, 111]⟩ (idOf ns t)) ∧ Below X.heap.size X w') := fun X t hX h0 h1 => by
    obtain ⟨j, rfl⟩ : ∃ j : Nat, t = j := ⟨t.toNat, by omega⟩
    have h := wto_any tb a cap ns rs j X ((hm.below Hw2.out).below hX) (by omega)
    unfold chkV tabV at h
    simp only [SlV] at h
    rw [hA, hnn] at h
    exact h
  have HNd : Hid (∀ X, Below W2.heap.size W2 X → ∀ i, i < n → upF ns i = up → Calls Tryz.prog 205 #[.agg #[.slice (some ⟨tb, 0, none⟩) 12 12, .slice A n cap], .int .i64 (i : Nat)] X (NodeC Z X (NT i))) := fun X hX i hi hu => by
    have h := hN X (Hw2.out.trans (hX.mono Hw2.out.size)) i (by omega) hu
    unfold chkV tabV at h
    simp only [SlV] at h
    rw [hA, hnn] at h
    exact h
  have HE0 : Hid (Els Z W2.heap.size W2 W2 (.slice none 0 0) []) := Els.nil (Nat.le_refl _)
  have HEnd : Hid (∀ X v Ts, Els Z W2.heap.size W2 X v Ts → Els Z w.heap.size w X v Ts) := fun X v Ts h => h.here Hw2.out.size Hw2.out
  obtain ⟨x0, x1⟩ := HX2.out
  unfold chkV tabV
  simp only [SlV]
  rw [hA, hnn]
  clear hZ hL hm hk hnn hA hN
  go_enter Tryz.func125, Tryz.ntmps125
  go_wp2_with fail
  clear hW2 x0 x1
  go_loopw [5, 11] (fun v i wr => ∃ k : Nat, k ≤ n ∧ i = .int .i64 k ∧ Els Z W2.heap.size W2 wr v (lvl ns NT up k)) (fun _ i _ => n - (intOf i).toNat)
  case atStart => exact ⟨0, by omega, rfl, HE0.out⟩
  case round =>
    obtain ⟨k, hk, rfl, hE⟩ := hrel
    have HE : Hid (Els Z W2.heap.size W2 wr u5 (lvl ns NT up k)) := hE
    clear hE
    have hll := lvl_len ns NT up k
    obtain ⟨L0, hL0⟩ : ∃ x, lvl ns NT up k = x := ⟨_, rfl⟩
    have HL0 : Hid (lvl ns NT up (k + 1) = L0 ++ (if upF ns k = up then NT k :: timL ns (nd ns k) else [])) := by rw [← hL0]; exact rfl
    rw [hL0] at HE hll
    by_cases hlt : k < n
    · obtain ⟨b, o, ha, hcell⟩ := (HMo.out wr HE.out.bel).cells k (by rw [HN.out]; exact hlt)
      have hAa := HA.out
      rw [ha] at hAa
      try simp only [Option.map_some] at hAa
      subst hAa
      have HUp : Hid (upF ns k = (nd ns k).up) := rfl
      have hwl := HK.out.aft k (by rw [HN.out]; exact hlt)
      have HId : Hid (AttOk (⟨#[]⟩, (nd ns k).id)) := HK.out.ids k (by rw [HN.out]; exact hlt)
      obtain ⟨nn, hnn⟩ : ∃ x, nd ns k = x := ⟨_, rfl⟩
      rw [hnn] at hcell HUp hwl HL0 HId
      rw [HN.out] at hwl
      obtain ⟨rr, hrr⟩ : ∃ x, rs k = x := ⟨_, rfl⟩
      rw [hrr] at hcell
      clear hnn hrr ha hL0
      obtain ⟨c0, c1, c2, c3, c4, c5, c6, c7, c8, c9⟩ := hcell
      simp only [SlV] at c5 c7
      have hkb : (k : Int) < n := by omega
      obtain ⟨Y, hY⟩ : ∃ W3, wr.alloc (.cells (nodV nn rr) 87) = W3 := ⟨_, rfl⟩
      have HYb : Hid (Below wr.heap.size wr Y) := by rw [← hY]; exact b1 _ _
      have HYl : Hid (NodBox Y wr.heap.size nn rr) := by rw [← hY]; exact NodBox.new _ _ _
      have HYk : Hid (lstIs Y wr.heap.size 87 (nodV nn rr).toList) := by rw [← hY]; exact lstIs.new _ _ _
      have HEY : Hid (Els Z W2.heap.size W2 Y u5 L0) := HE.out.on HYb.out
      have y3 := HYl.out.c3
      simp only [nodV, SlV] at hY
      by_cases hu : nn.up = up
      · have du : (nn.up != up) = false := by simp [hu]
        have HL1 : Hid (lvl ns NT up (k + 1) = L0 ++ (NT k :: timL ns nn)) := by rw [HL0.out, HUp.out, if_pos hu]; exact rfl
        obtain ⟨q0, q1⟩ := HChk.out Y HEY.out.bel
        have hnd := HNd.out Y HEY.out.bel k hlt (by rw [HUp.out]; exact hu)
        clear hu
        go_wp2_with fail
        refine hnd.mono ?_
        rintro e x1 ⟨e3, fp, rfl, hwt, hfp, hb1⟩
        have HWt : Hid (WritesAt Z x1 fp (eV e3) (NT k)) := hwt
        have HE1 : Hid (Els Z W2.heap.size W2 x1 u5 L0) := HEY.out.on hb1
        have HFp : Hid (∀ k, fp k → W2.heap.size ≤ k ∧ some k ≠ u5.ownBlock) := fun k hk => ⟨Nat.le_trans HEY.out.sz (hfp k hk), fun e => by have := HEY.out.own_lt k e.symm; have := hfp k hk; omega⟩
        have HY1 : Hid (lstIs x1 wr.heap.size 87 (nodV nn rr).toList) := HYk.out.at (hb1.block _ HYk.out.lt)
        have HLen : Hid (L0.length + [NT k].length ≤ 1000) := by
          show _ ≤ _
          simp; omega
        clear hnd hwt hfp hb1 q0 q1 y3 hY c0 c1 c2 c3 c4 c5 c6 c7 c8 c9
        go_wp2_with (at_builtin; go_must (refine wpList_append_els rfl (.tmp 20) (.tmp 24) rfl W2.heap.size W2 _ _ rfl (HE1.out.on (b1 _ _)) _ [NT k] rfl (one_tail HWt.out HFp.out rfl) HLen.out ?_))
        intro v2 x2 hE2 hg2
        have HE2 : Hid (Els Z W2.heap.size W2 x2 v2 (L0 ++ [NT k])) := hE2
        have HY2 : Hid (lstIs x2 wr.heap.size 87 (nodV nn rr).toList) := (HE1.out.on (b1 _ _)).grown_lst (HY1.out.alloc _) (by decide) hg2
        clear hE2 hg2
        have HC2 : Hid (∀ X, lstIs X wr.heap.size 87 (nodV nn rr).toList → Below W2.heap.size W2 X → X.cell? ⟨wr.heap.size, 1, none⟩ = some (.string nn.id) ∧ X.cell? ⟨wr.heap.size, 8, none⟩ = some (.int .i64 nn.after) ∧ X.cell? ⟨wr.heap.size, 9, none⟩ = some (.int .i64 nn.late) ∧ X.cell? ⟨w.heap.size, 0, none⟩ = some (.slice (some ⟨tb, 0, none⟩) 12 12) ∧ X.cell? ⟨w.heap.size, 1, none⟩ = some (.slice (some ⟨b, o, none⟩) n cap)) := fun X h1 h2 => ⟨h1.cell rfl, h1.cell rfl, h1.cell rfl, (HChk.out X h2).c0, (HChk.out X h2).c1⟩
        obtain ⟨y1, y8, y9, q0, q1⟩ := HC2.out x2 HY2.out HE2.out.bel
        by_cases haf : 0 < nn.after
        · have da : decide (0 < nn.after) = true := by simpa using haf
          have HL2 : Hid (lvl ns NT up (k + 1) = (L0 ++ [NT k]) ++ [timE ns nn]) := by rw [HL1.out]; unfold timL; rw [if_pos haf, List.append_assoc]; exact rfl
          obtain ⟨hl0, hl1⟩ := hwl.2.2 haf
          have HAo : Hid (∀ p ∈ timA ns nn, AttOk p) := fun p hp => by
            unfold timA at hp
            simp at hp
            rcases hp with rfl | rfl | rfl
            · exact HId.out
            · exact itoa_ok _ ⟨by omega, by omega⟩
            · exact HK.out.ids nn.late.toNat (by rw [HN.out]; omega)
          have HLen2 : Hid ((L0 ++ [NT k]).length + [timE ns nn].length ≤ 1000) := by
            show _ ≤ _
            simp; omega
          have HS0 : Hid (∀ X, Below x2.heap.size x2 X → X.cell? ⟨wr.heap.size, 1, none⟩ = some (.string nn.id) ∧ X.cell? ⟨wr.heap.size, 8, none⟩ = some (.int .i64 nn.after) ∧ X.cell? ⟨wr.heap.size, 9, none⟩ = some (.int .i64 nn.late) ∧ X.cell? ⟨w.heap.size, 0, none⟩ = some (.slice (some ⟨tb, 0, none⟩) 12 12) ∧ X.cell? ⟨w.heap.size, 1, none⟩ = some (.slice (some ⟨b, o, none⟩) n cap)) := fun X hX => HC2.out X (HY2.out.at (hX.block _ HY2.out.lt)) (HE2.out.bel.trans (hX.mono HE2.out.sz))
          have H2 : Hid (∀ X, Below x2.heap.size x2 X → Below W2.heap.size W2 X) := fun X hX => HE2.out.bel.trans (hX.mono HE2.out.sz)
          have H19 : Hid (∀ X (p q : ByteArray), Below x2.heap.size x2 X → Calls Tryz.prog 124 #[.string p, .string q] X fun e w' => e = .returned (.agg #[.string p, .string q]) ∧ Below x2.heap.size x2 w') := fun X p q hX => (attr_any p q X).mono fun e w' ⟨he, hb⟩ => ⟨he, hX.trans (hb.mono hX.size)⟩
          have H44 : Hid (∀ X, Below x2.heap.size x2 X → Calls Tryz.prog 206 #[.int .i64 nn.after] X fun e w' => e = .returned (.string (mkS (Lib.itoa nn.after))) ∧ Below x2.heap.size x2 w') := fun X hX => (itoa_any nn.after X (by omega) (by omega) (HLd.out X (H2.out X hX))).mono fun e w' ⟨he, hb⟩ => ⟨he, hX.trans (hb.mono hX.size)⟩
          have H45 : Hid (∀ X, Below x2.heap.size x2 X → Calls Tryz.prog 207 #[.agg #[.slice (some ⟨tb, 0, none⟩) 12 12, .slice (some ⟨b, o, none⟩) n cap], .int .i64 nn.late] X fun e w' => e = .returned (.agg #[.string ⟨#[116, 111]⟩, .string (idOf ns nn.late)]) ∧ Below x2.heap.size x2 w') := fun X hX => (HTo.out X nn.late (H2.out X hX) hl0 hl1).mono fun e w' ⟨he, hb⟩ => ⟨he, hX.trans (hb.mono hX.size)⟩
          have hown := HE2.out.own_lt
          have H18 : Hid (∀ X, Below x2.heap.size x2 X → Calls Tryz.prog 123 #[.string ⟨#[116, 105, 109, 101, 114]⟩, .slice (some ⟨X.heap.size, 0, none⟩) 3 3] (X.alloc (.cells #[.string ⟨#[111, 110]⟩, .string nn.id, .string ⟨#[97, 102, 116, 101, 114]⟩, .string (mkS (Lib.itoa nn.after)), .string ⟨#[116, 111]⟩, .string (idOf ns nn.late)] 236)) fun e w' => ∃ g cc, e = .returned (.agg #[.string ⟨#[116, 105, 109, 101, 114]⟩, .slice (some ⟨g, 0, none⟩) 3 cc, .slice none 0 0]) ∧ WritesAt Z w' (fun k => k = g) (eV ⟨⟨#[116, 105, 109, 101, 114]⟩, some ⟨g, 0, none⟩, 3, cc, none, 0, 0⟩) (timE ns nn) ∧ (∀ k, k = g → W2.heap.size ≤ k ∧ some k ≠ v2.ownBlock) ∧ Below x2.heap.size x2 w') := fun X hX =>
            (new_lit HLZ.out ⟨#[116, 105, 109, 101, 114]⟩ (timA ns nn) X HAo.out (by simp [timA]) v2.ownBlock W2.heap.size (Nat.le_trans HE2.out.sz hX.size) (fun q hq => Nat.lt_of_lt_of_le (hown q hq) hX.size)).mono fun e w' ⟨g, cc, he, h1, h2, h3⟩ => ⟨g, cc, he, h1, h2, hX.trans (h3.mono hX.size)⟩
          clear hown haf hl0 hl1
          go_wp2_with fail
          clear y1 y8 y9 q0 q1
          have HBX : Hid (Below x2.heap.size x2 x2.drew) := below_drewN (Below.refl _ _) 1
          go_region_held3 (fun X => X.cell? ⟨wr.heap.size, 1, none⟩ = some (.string nn.id) ∧ X.cell? ⟨wr.heap.size, 8, none⟩ = some (.int .i64 nn.after) ∧ X.cell? ⟨wr.heap.size, 9, none⟩ = some (.int .i64 nn.late) ∧ X.cell? ⟨w.heap.size, 0, none⟩ = some (.slice (some ⟨tb, 0, none⟩) 12 12) ∧ X.cell? ⟨w.heap.size, 1, none⟩ = some (.slice (some ⟨b, o, none⟩) n cap))
            ((first | exact HS0.out _ HBX.out | exact HS0.out _ (HBX.out.alloc HBX.out.size _) | exact HSe.out | fail))
            ((first
              | (go_at_call 124; refine (H19.out _ _ _ HBX.out).mono ?_; rintro e x ⟨rfl, hb⟩; replace HBX : Hid (Below x2.heap.size x2 x) := hb; clear hb)
              | (go_at_call 206; refine (H44.out _ HBX.out).mono ?_; rintro e x ⟨rfl, hb⟩; replace HBX : Hid (Below x2.heap.size x2 x) := hb; clear hb)
              | (go_at_call 207; refine (H45.out _ HBX.out).mono ?_; rintro e x ⟨rfl, hb⟩; replace HBX : Hid (Below x2.heap.size x2 x) := hb; clear hb)
              | (go_at_call 123; refine (H18.out _ HBX.out).mono ?_; rintro e x7 ⟨g, cc, rfl, hwt, hfp, hb⟩; replace HBX : Hid (Below x2.heap.size x2 x7) := hb; have HWt7 : Hid (WritesAt Z x7 (fun k => k = g) (eV ⟨⟨#[116, 105, 109, 101, 114]⟩, some ⟨g, 0, none⟩, 3, cc, none, 0, 0⟩) (timE ns nn)) := hwt; have HFp7 : Hid (∀ k, k = g → W2.heap.size ≤ k ∧ some k ≠ v2.ownBlock) := hfp; clear hb hwt hfp)
              | (have hq := HWt7.out; clear hq; refine step_append_els (by rfl) (.tmp 29) (.tmp 43) (by rfl) W2.heap.size W2 _ _ (by rfl) ((HE2.out.on HBX.out).on (b1 _ _)) _ [timE ns nn] (by rfl) (one_tail HWt7.out HFp7.out (by rfl)) HLen2.out ?_; intro v8 x8 hE8 hg8; have HE8 : Hid (Els Z W2.heap.size W2 x8 v8 ((L0 ++ [NT k]) ++ [timE ns nn])) := hE8; have HSe : Hid (_ ∧ _ ∧ _ ∧ _ ∧ _) := HC2.out x8 (((HE2.out.on HBX.out).on (b1 _ _)).grown_lst ((HY2.out.at (HBX.out.block _ HY2.out.lt)).alloc _) (by decide) hg8) hE8.bel; clear hE8 hg8)
              | fail))
          all_goals (
            go_wp2_with fail
            exact ⟨⟨k + 1, by omega, by go_num, by rw [HL2.out]; exact HE8.out⟩, by simp [intOf]; omega⟩)
        · have da : decide (0 < nn.after) = false := by simpa using haf
          have HL2 : Hid (lvl ns NT up (k + 1) = L0 ++ [NT k]) := by rw [HL1.out]; unfold timL; rw [if_neg haf]; exact rfl
          clear haf
          go_wp2_with fail
          exact ⟨⟨k + 1, by omega, by go_num, by rw [HL2.out]; exact HE2.out⟩, by simp [intOf]; omega⟩
      · have du : (nn.up != up) = true := by simp [hu]
        have HL1 : Hid (lvl ns NT up (k + 1) = L0) := by rw [HL0.out, HUp.out, if_neg hu, List.append_nil]; exact rfl
        clear hu
        go_wp2_with fail
        exact ⟨⟨k + 1, by omega, by go_num, by rw [HL1.out]; exact HEY.out⟩, by simp [intOf]; omega⟩
    · obtain rfl : k = n := by omega
      have HL00 : Hid (lvl ns NT up k = L0) := hL0
      clear hL0
      go_wp2_with fail
      go_ret
      exact ⟨_, rfl, by rw [HL00.out]; exact HEnd.out _ _ _ HE.out⟩
end Go.Proofs.YtjkpbpgeedihhaaGreatDoor
namespace Go.Proofs.YtjkpbpgeedihhaaGreatDoor
open Go.RowKit
open M FerryM
/-- How many attributes a kind has in the table. -/
def naK (k : Int) : Nat := if k = 2 then 3 else if k = 1 ∨ k = 5 ∨ k = 6 then 2 else 1
def nameA (nn : Nod) : List AttP := if nn.name.toList = [] then [] else [(⟨#[110, 97, 109, 101]⟩, nn.name)]
def accA (ns : List Nod) (nn : Nod) : Nat → List AttP
  | 0 => []
  | 1 => [(⟨#[105, 100]⟩, nn.id)]
  | 2 => [(⟨#[105, 100]⟩, nn.id), (⟨#[116, 111]⟩, idOf ns nn.to)]
  | _ => [(⟨#[105, 100]⟩, nn.id), (⟨#[116, 111]⟩, idOf ns nn.to)] ++ nameA nn
def nodE (ns : List Nod) (nn : Nod) (Ls : List (List UInt8)) : List UInt8 := eltT (tName (idxK nn.kind)) (accA ns nn (naK nn.kind)) (partsL ns nn ++ Ls)
def att3 : Nat → ByteArray
  | 0 => ⟨#[105, 100]⟩
  | 1 => ⟨#[116, 111]⟩
  | _ => ⟨#[110, 97, 109, 101]⟩
theorem att_at {k : Int} (h : 1 ≤ k ∧ k ≤ 7) : (tAtt (idxK k)).length = naK k ∧ ∀ j, j < naK k → ∃ f, (atV (tAtt (idxK k)))[j * 2]? = some (.string (att3 j)) ∧ (atV (tAtt (idxK k)))[j * 2 + 1]? = some (.bool f) := by
  rcases (by omega : k = 1 ∨ k = 2 ∨ k = 3 ∨ k = 4 ∨ k = 5 ∨ k = 6 ∨ k = 7) with rfl | rfl | rfl | rfl | rfl | rfl | rfl
  · refine ⟨rfl, fun j hj => ?_⟩
    have : j < 2 := hj
    rcases (by omega : j = 0 ∨ j = 1) with rfl | rfl <;> exact ⟨_, rfl, rfl⟩
  · refine ⟨rfl, fun j hj => ?_⟩
    have : j < 3 := hj
    rcases (by omega : j = 0 ∨ j = 1 ∨ j = 2) with rfl | rfl | rfl <;> exact ⟨_, rfl, rfl⟩
  · refine ⟨rfl, fun j hj => ?_⟩
    have : j < 1 := hj
    obtain rfl : j = 0 := by omega
    exact ⟨_, rfl, rfl⟩
  · refine ⟨rfl, fun j hj => ?_⟩
    have : j < 1 := hj
    obtain rfl : j = 0 := by omega
    exact ⟨_, rfl, rfl⟩
  · refine ⟨rfl, fun j hj => ?_⟩
    have : j < 2 := hj
    rcases (by omega : j = 0 ∨ j = 1) with rfl | rfl <;> exact ⟨_, rfl, rfl⟩
  · refine ⟨rfl, fun j hj => ?_⟩
    have : j < 2 := hj
    rcases (by omega : j = 0 ∨ j = 1) with rfl | rfl <;> exact ⟨_, rfl, rfl⟩
  · refine ⟨rfl, fun j hj => ?_⟩
    have : j < 1 := hj
    obtain rfl : j = 0 := by omega
    exact ⟨_, rfl, rfl⟩
theorem naK_le (k : Int) : 1 ≤ naK k ∧ naK k ≤ 3 := by unfold naK; split <;> (try split) <;> omega
/-- The attributes that an element is being given. -/
structure Atts (B : Nat) (W : World) (EB : Nat) (nm : ByteArray) (v : Value) (acc : List AttP) : Prop where
  row : W.ownsRow B 236 2 v acc.length (attC acc)
  box : lstIs W EB 207 [.string nm, v, .slice none 0 0]
  lt : B ≤ W.heap.size
theorem Atts.on {B EB : Nat} {W X : World} {nm : ByteArray} {v : Value} {acc : List AttP} (h : Atts B W EB nm v acc) (hb : Below W.heap.size W X) : Atts B X EB nm v acc := ⟨own_below h.row hb, h.box.at (hb.block _ h.box.lt), Nat.le_trans h.lt hb.size⟩
/-- An attribute is added and stored. -/
theorem step_append_att {W : World} {ops : Array Oper} {o : Oper} {a : Act} {K : Act → World → Prop} {Q : Exit → Act → World → Prop} {E : Prop} (hgd : o.guard = none) (s x : Operand)
    (ho : o.op = .call { callee := .builtin .append, args := #[s, x], argTypes := #[204, 204] }) (B EB : Nat) (nm : ByteArray) (v : Value) (acc : List AttP) (hs : a.eval s = v) (hA : Atts B W EB nm v acc)
    (p : AttP) (H : Nat) (hx : a.eval x = .slice (some ⟨H, 0, none⟩) 1 1) (hl : lstIs W H 236 [.string p.1, .string p.2]) (hlen : acc.length ≤ 100) (hne : v ≠ .slice none 0 0)
    (h : ∀ g c w', w'.ownsRow B 236 2 (.slice (some ⟨g, 0, none⟩) (acc.length + 1) c) (acc.length + 1) (attC (acc ++ [p])) → lstIs w' EB 207 [.string nm, v, .slice none 0 0] → W.grownBy w' v.ownBlock → w'.cell? ⟨EB, 1, none⟩ = some v → w'.frozen? ⟨EB, 1, none⟩ = false → K (a.put o.dst (.slice (some ⟨g, 0, none⟩) (acc.length + 1) c)) w') : if Region.wanted o (yielded ops a.tmps) = true then Oper.wp Tryz.prog o a W K Q else E := by
  have hw : Region.wanted o (yielded ops a.tmps) = true := by simp [Region.wanted, hgd]
  rw [if_pos hw]
  obtain ⟨i0, hi, hz0, hz1, hz2⟩ := info_parts Tryz.info236
  refine wp_append_own _ s x 204 ho B 236 i0 _ 2 32 Tryz.underlying204 hi hz0 hz1 hz2 rfl (by decide) v _ _ hs hA.row ⟨H, 0, none⟩ 1 1 (attC [p]) hx (by simp [attC]) (fun j u hj => by rw [addr_add0]; exact hl.cell (by simpa [attC] using hj)) (attC_one [p]) (by unfold maxLen; omega) (by omega) hA.lt ?_
  intro v' w' hown hg hnil
  rw [attC_app] at hown
  have hb := hA.box.grown hg (own_ne hA.row hA.box (by decide))
  obtain ⟨g, c, rfl⟩ : ∃ g c, v' = .slice (some ⟨g, 0, none⟩) (acc.length + 1) c := by
    rcases hown with ⟨_, ⟨e, _⟩ | ⟨g, c, cur, e, _⟩⟩
    · exact absurd (hnil.1 e).1 hne
    · exact ⟨g, c, e⟩
  exact h g c w' hown hb hg (hb.cell rfl) (hb.free 1)
theorem Atts.stored {B EB g c : Nat} {W : World} {nm : ByteArray} {v : Value} {acc : List AttP} (h : W.ownsRow B 236 2 (.slice (some ⟨g, 0, none⟩) acc.length c) acc.length (attC acc)) (hb : lstIs W EB 207 [.string nm, v, .slice none 0 0]) (hs : B ≤ W.heap.size) : Atts B (W.setCell ⟨EB, 1, none⟩ (.slice (some ⟨g, 0, none⟩) acc.length c)) EB nm (.slice (some ⟨g, 0, none⟩) acc.length c) acc :=
  ⟨ownsRow_setCell_other h (fun e => own_ne h hb (by decide) e.symm) _, hb.set 1 _, by simpa [World.setCell] using hs⟩
theorem Els.shape {Z : World} {B : Nat} {w W : World} {v : Value} {Ts : List (List UInt8)} (h : Els Z B w W v Ts) : ∃ A c, v = .slice A Ts.length c := by
  obtain ⟨es, h1, _⟩ := h.ex
  rcases h1 with ⟨_, ⟨rfl, h0⟩ | ⟨g, c, cur, rfl, _⟩⟩
  · exact ⟨none, 0, by rw [h0]⟩
  · exact ⟨_, c, rfl⟩
theorem els_set {Z : World} {B q : Nat} {W : World} {v : Value} {Ts : List (List UInt8)} (h : ∃ es, W.ownsRow B 207 3 v Ts.length (eL es) ∧ EAll Z W B v.ownBlock es Ts) (hq : q < B) (i : Nat) (u : Value) : ∃ es, (W.setCell ⟨q, i, none⟩ u).ownsRow B 207 3 v Ts.length (eL es) ∧ EAll Z (W.setCell ⟨q, i, none⟩ u) B v.ownBlock es Ts := by
  obtain ⟨es, h1, h2⟩ := h
  refine ⟨es, ownsRow_setCell_other h1 (fun e => by have := (h1.lt q e).1; omega) _, h2.keep (by simp [World.setCell]) (fun k hk hB hne => ⟨Below.heap_setCell _ _ _ _ (by intro e; simp at e; omega), hne⟩)⟩
/-- The node's element, at the end. -/
theorem node_writes {Z W : World} {B C g c : Nat} {nm : ByteArray} {acc : List AttP} {v : Value} {Ts : List (List UInt8)} {A2 : Option Addr} {c2 : Nat} (hL : Laid Z) (hrow : W.ownsRow C 236 2 (.slice (some ⟨g, 0, none⟩) acc.length c) acc.length (attC acc)) (hBC : B ≤ C) (hok : ∀ p ∈ acc, AttOk p) (hacc : acc.length ≤ 1000)
    (hv : v = .slice A2 Ts.length c2) {D : Nat} (hBD : B ≤ D) (hex : ∃ es, W.ownsRow D 207 3 v Ts.length (eL es) ∧ EAll Z W D v.ownBlock es Ts) (ht : Ts.length ≤ 1000) :
    WritesAt Z W (fun k => B ≤ k ∧ k < W.heap.size) (eV ⟨nm, some ⟨g, 0, none⟩, acc.length, c, A2, Ts.length, c2⟩) (eltT nm acc Ts) := by
  subst hv
  obtain ⟨es, h1, h2⟩ := hex
  have hg := hrow.lt g rfl
  refine write_any Z W _ nm acc Ts (some ⟨g, 0, none⟩) A2 c c2 hL (fun k hk => hk.2) (own_atts hrow ⟨by omega, hg.2⟩) hok (fun i hi => ?_) hacc ht
  obtain ⟨fp, hw, hf⟩ := h2.2 i hi
  rcases h1 with ⟨hlen, ⟨e, h0⟩ | ⟨g2, cap2, cur, e, hr⟩⟩
  · omega
  · have hown : W.ownsRow D 207 3 (.slice A2 Ts.length c2) Ts.length (eL es) := ⟨hlen, Or.inr ⟨g2, cap2, cur, e, hr⟩⟩
    simp only [Value.slice.injEq] at e
    obtain ⟨rfl, _, rfl⟩ := e
    have hg2 := hown.lt g2 rfl
    obtain ⟨e1, e2, e3⟩ := eL_get es i (by rw [h2.1]; exact hi)
    have k := fun j u hj => hown.cells (g := g2) rfl j u hj
    have k1 := k _ _ e1
    have k2 := k _ _ e2
    have k3 := k _ _ e3
    rw [addr_add0] at k1 k2 k3
    exact ⟨g2, 0, rfl, ⟨by omega, hg2.2⟩, ⟨_, _, _, _, _, _, _, fp, by simpa using k1, by simpa using k2, by simpa using k3, fun q hq => ⟨by have := (hf q hq).1; omega, hw.lt q hq⟩, hw⟩⟩
end Go.Proofs.YtjkpbpgeedihhaaGreatDoor
