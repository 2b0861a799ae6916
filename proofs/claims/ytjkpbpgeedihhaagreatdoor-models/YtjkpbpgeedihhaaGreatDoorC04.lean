import Derived.Test.YtjkpbpgeedihhaaGreatDoorC03
import Derived.Laws.StructEq
set_option linter.all false
namespace Go.Proofs.YtjkpbpgeedihhaaGreatDoor
open Go.RowKit
open M
open Classical
structure Cas where
  var : Int
  op : Int
  val : Int
  to : Int
def Cas.zero : Cas := ⟨0, 0, 0, 0⟩
/-- Cases that stand in an array. -/
def CasesIn (w : World) (a : Option Addr) (l : List Cas) : Prop := ∀ i, i < l.length → ∃ b o, a = some ⟨b, o, none⟩ ∧
  w.cell? ⟨b, o + i * 4, none⟩ = some (.int .u8 (l.getD i .zero).var) ∧ w.cell? ⟨b, o + i * 4 + 1, none⟩ = some (.int .i64 (l.getD i .zero).op) ∧
  w.cell? ⟨b, o + i * 4 + 2, none⟩ = some (.int .i32 (l.getD i .zero).val) ∧ w.cell? ⟨b, o + i * 4 + 3, none⟩ = some (.int .i64 (l.getD i .zero).to)

/-- '!=' of two cases. -/
theorem neq_case (w : World) (a1 a2 a3 a4 b1 b2 b3 b4 : Int) : (binOp .neq 89 (.agg #[.int .u8 a1, .int .i64 a2, .int .i32 a3, .int .i64 a4]) (.agg #[.int .u8 b1, .int .i64 b2, .int .i32 b3, .int .i64 b4])).run Tryz.prog w = .ok (.bool (!(a1 == b1 && (a2 == b2 && (a3 == b3 && a4 == b4))))) w := by
  have u3 := Tryz.underlying3
  have u5 := Tryz.underlying5
  have u21 := Tryz.underlying21
  have hS : Tryz.prog.underlying 89 = some (.struct (Tryz.prog.fieldsOf 89)) := by kernel_rfl
  have hp : Tryz.prog.stoodInHeld 89 = false := by kernel_rfl
  rw [run_neq_struct, show (10000 : Nat) = 9999 + 1 from rfl, run_equalIn_agg w 9999 89 _ _ hS hp]
  simp only [Program.fieldsOf, Tryz.underlying89]
  go_simp
  by_cases h1 : a1 = b1 <;> by_cases h2 : a2 = b2 <;> by_cases h3 : a3 = b3 <;> by_cases h4 : a4 = b4 <;> simp [h1, h2, h3, h4]
theorem guard_case : Tryz.prog.eqGuardType Tryz.prog.depth 89 = false := by kernel_rfl

theorem cas_next {la lb : List Cas} {k n : Nat} (HN : Hid (la.length = n ∧ lb.length = n)) (HT : Hid (la.take k = lb.take k)) (hlt : k < n)
    (h : (!(la[k]?.getD Cas.zero).var == (lb[k]?.getD Cas.zero).var) = false ∧ (!(la[k]?.getD Cas.zero).op == (lb[k]?.getD Cas.zero).op) = false ∧ (!(la[k]?.getD Cas.zero).val == (lb[k]?.getD Cas.zero).val) = false ∧ (!(la[k]?.getD Cas.zero).to == (lb[k]?.getD Cas.zero).to) = false) : la.take (k + 1) = lb.take (k + 1) := by
  have h' : la.getD k .zero = lb.getD k .zero := by
    simp at h
    obtain ⟨h1, h2, h3, h4⟩ := h
    simp only [List.getD]
    cases e1 : la[k]?.getD Cas.zero
    cases e2 : lb[k]?.getD Cas.zero
    simp_all
  rw [take_getD_succ Cas.zero la k (by rw [HN.out.1]; exact hlt), take_getD_succ Cas.zero lb k (by rw [HN.out.2]; exact hlt), HT.out, h']
theorem cas_ne {la lb : List Cas} {k : Nat}
    (h : (!(la[k]?.getD Cas.zero).var == (lb[k]?.getD Cas.zero).var) = true ∨ (!(la[k]?.getD Cas.zero).op == (lb[k]?.getD Cas.zero).op) = true ∨ (!(la[k]?.getD Cas.zero).val == (lb[k]?.getD Cas.zero).val) = true ∨ (!(la[k]?.getD Cas.zero).to == (lb[k]?.getD Cas.zero).to) = true) : decide (la = lb) = false := by
  rw [decide_eq_false_iff_not]; rintro rfl; simp at h

set_option maxHeartbeats 400000 in
theorem sameCases_any (a b : Option Addr) (ca cb : Nat) (la lb : List Cas) (w : World) (ha : CasesIn w a la) (hb : CasesIn w b lb) (hla : la.length ≤ maxLen) :
    Calls Tryz.prog 72 #[SlV a la.length ca, SlV b lb.length cb] w fun e w' => e = .returned (.bool (decide (la = lb))) ∧ ∃ n, w' = w.drewN n := by
  unfold maxLen at hla
  by_cases hlen : la.length = lb.length
  · obtain ⟨n, hn⟩ : ∃ n, la.length = n := ⟨_, rfl⟩
    have HN : Hid (la.length = n ∧ lb.length = n) := ⟨hn, by omega⟩
    simp only [SlV]
    rw [hn, HN.out.2]
    have hle : n ≤ 9223372036854775807 := by omega
    clear hn hlen hla
    go_enter Tryz.func72, Tryz.ntmps72
    go_wp2
    go_loopw [5] (fun i wr => ∃ k q : Nat, k ≤ n ∧ i = .int .i64 k ∧ wr = w.drewN q ∧ la.take k = lb.take k) (fun i _ => n - (intOf i).toNat)
    case atStart => exact ⟨0, 0, Nat.zero_le _, rfl, rfl, rfl⟩
    case round =>
      obtain ⟨k, q, hk, rfl, rfl, htk⟩ := hrel
      have HT : Hid (la.take k = lb.take k) := htk
      clear htk
      by_cases hlt : k < n
      · obtain ⟨ba, oa, rfl, hca0, hca1, hca2, hca3⟩ := ha k (by rw [HN.out.1]; exact hlt)
        obtain ⟨bb, ob, rfl, hcb0, hcb1, hcb2, hcb3⟩ := hb k (by rw [HN.out.2]; exact hlt)
        have hb1 : (k : Int) < (n : Int) := by omega
        go_wp2
        have ncq := neq_case
        go_quiet (fail)
        clear ncq
        go_wp2
        · go_ret
          exact ⟨ret_bool' (cas_ne ‹_›).symm, _, World.drewN_drewN _ _ _⟩
        · refine ⟨⟨k + 1, _, by omega, by go_num, rfl, cas_next HN HT hlt ‹_›⟩, ?_⟩
          simp [intOf]; omega
      · go_wp2
        go_ret
        exact ⟨ret_bool' (by symm; rw [decide_eq_true_iff]; have := HT.out; rwa [List.take_of_length_le (by rw [HN.out.1]; omega), List.take_of_length_le (by rw [HN.out.2]; omega)] at this), q, rfl⟩
  · have H : ((la.length : Int) == (lb.length : Int)) = false := by simp; omega
    simp only [SlV]
    go_enter Tryz.func72, Tryz.ntmps72
    go_wp2
    go_ret
    exact ⟨ret_bool' (by symm; rw [decide_eq_false_iff_not]; intro e; exact hlen (by rw [e])), 0, rfl⟩
end Go.Proofs.YtjkpbpgeedihhaaGreatDoor
namespace Go.Proofs.YtjkpbpgeedihhaaGreatDoor
open Go.RowKit
open M
open Classical
structure Nod where
  kind : Int
  id : ByteArray
  name : ByteArray
  up : Int
  to : Int
  cases : List Cas
  els : Int
  branches : List Int
  after : Int
  late : Int
/-- Where a node's two lists lie. -/
structure Raw where
  ca : Option Addr
  cc : Nat
  ba : Option Addr
  bc : Nat
abbrev nodV (n : Nod) (r : Raw) : Array Value := #[.int .i64 n.kind, .string n.id, .string n.name, .int .i64 n.up, .int .i64 n.to, SlV r.ca n.cases.length r.cc, .int .i64 n.els, SlV r.ba n.branches.length r.bc, .int .i64 n.after, .int .i64 n.late]
theorem lt_of_cell {w : World} {b o : Nat} {v : Value} (h : w.cell? ⟨b, o, none⟩ = some v) : b < w.heap.size := by
  unfold World.cell? at h
  by_cases hb : b < w.heap.size
  · exact hb
  · simp [Array.getElem?_eq_none (by omega : w.heap.size ≤ b)] at h
theorem IntsIn.below {w w' : World} {a : Option Addr} {l : List Int} (h : IntsIn w a l) (hb : Below w.heap.size w w') : IntsIn w' a l := by
  intro i hi
  obtain ⟨b, o, rfl, hc⟩ := h i hi
  exact ⟨b, o, rfl, by rw [hb.cell (p := ⟨b, o + i, none⟩) (lt_of_cell hc)]; exact hc⟩
theorem CasesIn.below {w w' : World} {a : Option Addr} {l : List Cas} (h : CasesIn w a l) (hb : Below w.heap.size w w') : CasesIn w' a l := by
  intro i hi
  obtain ⟨b, o, rfl, h0, h1, h2, h3⟩ := h i hi
  exact ⟨b, o, rfl, by rw [hb.cell (p := ⟨b, _, none⟩) (lt_of_cell h0)]; exact h0, by rw [hb.cell (p := ⟨b, _, none⟩) (lt_of_cell h1)]; exact h1,
    by rw [hb.cell (p := ⟨b, _, none⟩) (lt_of_cell h2)]; exact h2, by rw [hb.cell (p := ⟨b, _, none⟩) (lt_of_cell h3)]; exact h3⟩
structure NodIn (w : World) (n : Nod) (r : Raw) : Prop where
  cs : CasesIn w r.ca n.cases
  bs : IntsIn w r.ba n.branches
  cl : n.cases.length ≤ maxLen
  bl : n.branches.length ≤ maxLen
theorem NodIn.below {w w' : World} {n : Nod} {r : Raw} (h : NodIn w n r) (hb : Below w.heap.size w w') : NodIn w' n r := ⟨h.cs.below hb, h.bs.below hb, h.cl, h.bl⟩

theorem bytes_inj {a b : ByteArray} (h : a.toList = b.toList) : a = b := by
  rw [ByteArray.toList_eq, ByteArray.toList_eq] at h
  obtain ⟨⟨x⟩⟩ := a; obtain ⟨⟨y⟩⟩ := b
  simp at h; simp [h]
theorem nod_eq {n m : Nod} (h1 : n.kind = m.kind) (h2 : n.id.toList = m.id.toList) (h3 : n.name.toList = m.name.toList) (h4 : n.cases = m.cases) (h5 : n.branches = m.branches) (h6 : n.up = m.up) (h7 : n.to = m.to) (h8 : n.els = m.els) (h9 : n.after = m.after) :
    (n.late == m.late) = decide (n = m) := by
  have h2 := bytes_inj h2
  have h3 := bytes_inj h3
  cases n; cases m
  simp_all
  rw [Bool.eq_iff_iff]; simp
theorem nod_ne {n m : Nod} (h : n ≠ m) : false = decide (n = m) := by symm; rw [decide_eq_false_iff_not]; exact h

set_option maxHeartbeats 1000000 in
theorem sameNode_any (n m : Nod) (r s : Raw) (w : World) (hn : NodIn w n r) (hm : NodIn w m s) :
    Calls Tryz.prog 70 #[.agg (nodV n r), .agg (nodV m s)] w fun e w' => e = .returned (.bool (decide (n = m))) ∧ Below w.heap.size w w' := by
  have b2 : ∀ o1 o2, Below w.heap.size w ((w.alloc o1).alloc o2) := fun o1 o2 => (((Below.refl _ _).alloc (Nat.le_refl _) _).alloc (by simp) _)
  have hc := fun o1 o2 => sameCases_any r.ca s.ca r.cc s.cc n.cases m.cases ((w.alloc o1).alloc o2) (hn.cs.below (b2 o1 o2)) (hm.cs.below (b2 o1 o2)) hn.cl
  have hi := fun o1 o2 q => sameInts_any r.ba s.ba r.bc s.bc n.branches m.branches (((w.alloc o1).alloc o2).drewN q) (hn.bs.below (below_drewN (b2 o1 o2) q)) (hm.bs.below (below_drewN (b2 o1 o2) q)) hn.bl
  clear hn hm
  go_enter Tryz.func70, Tryz.ntmps70
  go_wp2_with (first | (go_at_call 72; go_must (refine (hc _ _).mono ?_; rintro e w1 ⟨rfl, n1, rfl⟩)) | (go_at_call 73; go_must (refine (hi _ _ _).mono ?_; rintro e w1 ⟨rfl, n1, rfl⟩)))
  all_goals
    go_ret
    refine ⟨ret_bool' ?_, below_drewN (b2 _ _) _⟩
    first
    | exact nod_eq ‹_› ‹_› ‹_› ‹_› ‹_› ‹_› ‹_› ‹_› ‹_›
    | exact nod_ne (by rintro rfl; contradiction)
end Go.Proofs.YtjkpbpgeedihhaaGreatDoor
namespace Go.Proofs.YtjkpbpgeedihhaaGreatDoor
open Go.RowKit
open M
def followsF (c : Int) : Int × Int :=
  if c < 128 then (0, 0) else if 192 ≤ c ∧ c < 224 then (1, 128) else if 224 ≤ c ∧ c < 240 then (2, 2048) else if 240 ≤ c ∧ c < 248 then (3, 65536) else (-1, 0)
theorem ret_two {a b c d : Int} (h : (a, b) = (c, d)) : Ending.returned (.tuple #[.int .i64 a, .int .i64 b]) = .returned (.tuple #[.int .i64 c, .int .i64 d]) := by
  simp only [Prod.mk.injEq] at h; rw [h.1, h.2]
set_option maxHeartbeats 400000 in
theorem follows_any (c : Int) (w : World) :
    Calls Tryz.prog 190 #[.int .i64 c] w fun e w' => e = .returned (.tuple #[.int .i64 (followsF c).1, .int .i64 (followsF c).2]) ∧ w' = w := by
  go_enter Tryz.func190, Tryz.ntmps190
  go_wp2
  all_goals go_ret2
  all_goals refine ⟨ret_two ?_, rfl⟩
  all_goals (unfold followsF; (repeat' split) <;> first | rfl | omega)

def goesB (k : Int) : Bool := k == 3 || k == 4 || k == 5 || k == 6
set_option maxHeartbeats 400000 in
theorem goes_any (k : Int) (w : World) :
    Calls Tryz.prog 204 #[.int .i64 k] w fun e w' => e = .returned (.bool (goesB k)) ∧ w' = w := by
  go_enter Tryz.func204, Tryz.ntmps204
  go_wp2
  all_goals go_ret
  all_goals refine ⟨ret_bool' ?_, rfl⟩
  all_goals (unfold goesB; simp_all)

def casOk (c : Cas) : Bool := !(decide (c.var < 97) || decide (104 < c.var) || decide (c.op < 1) || decide (3 < c.op))
def rightCasesB (l : List Cas) : Bool := l.all casOk && decide (l.length ≤ 6)
/-- All of the first k. -/
def allTo {α : Type} (p : α → Bool) (l : List α) (k : Nat) : Bool := (l.take k).all p
theorem allTo_zero {α : Type} (p : α → Bool) (l : List α) : allTo p l 0 = true := rfl
theorem allTo_next {α : Type} (d : α) {p : α → Bool} {l : List α} {k : Nat} (h : k < l.length) (h1 : allTo p l k = true) (h2 : p (l[k]?.getD d) = true) : allTo p l (k + 1) = true := by
  unfold allTo at h1 ⊢
  rw [take_getD_succ d l k h, List.all_append, h1]; simpa [List.getD] using h2
theorem allTo_end {α : Type} {p : α → Bool} {l : List α} {k : Nat} (h : l.length ≤ k) (h1 : allTo p l k = true) : l.all p = true := by
  unfold allTo at h1; rwa [List.take_of_length_le h] at h1
theorem all_false_at {α : Type} (d : α) {p : α → Bool} {l : List α} {k : Nat} (h : k < l.length) (h2 : p (l[k]?.getD d) = false) : l.all p = false := by
  rw [List.all_eq_false]
  refine ⟨l[k]?.getD d, ?_, by rw [h2]; simp⟩
  simp [List.getElem?_eq_getElem h]
theorem casOk_true {c : Cas} (h : ((97 ≤ c.var ∧ c.var ≤ 104) ∧ 1 ≤ c.op) ∧ c.op ≤ 3) : casOk c = true := by simp [casOk]; omega
theorem casOk_false {c : Cas} (h : c.var < 97 ∨ 104 < c.var ∨ c.op < 1 ∨ 3 < c.op) : casOk c = false := by simp [casOk]; omega
set_option maxHeartbeats 400000 in
theorem rightCases_any (a : Option Addr) (ca : Nat) (l : List Cas) (w : World) (ha : CasesIn w a l) (hl : l.length ≤ maxLen) :
    Calls Tryz.prog 200 #[SlV a l.length ca] w fun e w' => e = .returned (.bool (rightCasesB l)) ∧ w' = w := by
  unfold maxLen at hl
  obtain ⟨n, hn⟩ : ∃ n, l.length = n := ⟨_, rfl⟩
  have HN : Hid (l.length = n) := hn
  simp only [SlV]
  rw [hn]
  have hle : n ≤ 9223372036854775807 := by omega
  clear hn hl
  go_enter Tryz.func200, Tryz.ntmps200
  go_wp2
  go_loop [3] (fun i => ∃ k : Nat, k ≤ n ∧ i = .int .i64 k ∧ allTo casOk l k = true) (fun i => n - (intOf i).toNat)
  case atStart => exact ⟨0, Nat.zero_le _, rfl, rfl⟩
  case round =>
    obtain ⟨k, hk, rfl, hall⟩ := hrel
    have HT : Hid (allTo casOk l k = true) := hall
    clear hall
    by_cases hlt : k < n
    · obtain ⟨ba, oa, rfl, hca0, hca1, hca2, hca3⟩ := ha k (by rw [HN.out]; exact hlt)
      have hb1 : (k : Int) < (n : Int) := by omega
      clear ha
      go_wp2
      all_goals first
        | (go_ret; exact ⟨ret_bool' (by unfold rightCasesB; rw [all_false_at .zero (by rw [HN.out]; exact hlt) (casOk_false (by omega))]; rfl), rfl⟩)
        | (refine ⟨⟨k + 1, by omega, by go_num, allTo_next .zero (by rw [HN.out]; exact hlt) HT.out (casOk_true (by omega))⟩, ?_⟩; simp [intOf]; omega)
    · go_wp2
      go_ret
      exact ⟨ret_bool' (by unfold rightCasesB; rw [allTo_end (by rw [HN.out]; omega) HT.out, HN.out, Bool.eq_iff_iff]; simp; omega), rfl⟩
end Go.Proofs.YtjkpbpgeedihhaaGreatDoor
