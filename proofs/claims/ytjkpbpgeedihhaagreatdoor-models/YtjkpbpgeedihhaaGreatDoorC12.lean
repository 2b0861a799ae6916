import Derived.Test.YtjkpbpgeedihhaaGreatDoorC07
import Derived.Lib.ItoaNum
import Derived.Laws.IdiomStrings
set_option linter.all false
namespace Go.Proofs.YtjkpbpgeedihhaaGreatDoor
open Go.RowKit
open M
/-- 'string([]byte{c})'. -/
theorem conv1 (w : World) (c : UInt8) : (convert 217 9 (.slice (some ⟨w.heap.size, 0, none⟩) 1 1)).run Tryz.prog (w.alloc (.cells #[.int .u8 (c.toNat : Int)] 5)) = .ok (.string (mkS [c])) (w.alloc (.cells #[.int .u8 (c.toNat : Int)] 5)) :=
  run_convert_bytes_back _ 217 9 5 ⟨w.heap.size, 0, none⟩ 1 [c] Tryz.underlying217 Tryz.underlying5 Tryz.underlying9 (by
    intro j hj
    have : j = 0 := by simp at hj; omega
    subst this
    simp [go_sem])
theorem below_alloc1 (w : World) (o : Obj) : Below w.heap.size w (w.alloc o) := (Below.refl _ _).alloc (Nat.le_refl _) _
theorem dec_small {n : Nat} (h : n < 10) : Lib.decDigits n = [UInt8.ofNat (48 + n)] := by rw [Lib.decDigits, dif_pos h]
theorem dec_big {n : Nat} (h : ¬ n < 10) : Lib.decDigits n = Lib.decDigits (n / 10) ++ [UInt8.ofNat (48 + n % 10)] := by rw [Lib.decDigits, dif_neg h]
theorem dec_len : ∀ (k n : Nat), n < 10 ^ (k + 1) → (Lib.decDigits n).length ≤ k + 1
  | 0, n, h => by rw [dec_small (by omega)]; simp
  | k + 1, n, h => by
    by_cases h10 : n < 10
    · rw [dec_small h10]; simp
    · rw [dec_big h10, List.length_append]
      have := dec_len k (n / 10) (by rw [Nat.pow_succ] at h; omega)
      simp; omega
theorem ec10 (n : Nat) : ((UInt8.ofNat (48 + n % 10)).toNat : Int) = 48 + (n : Int) % 10 := by simp; omega
set_option maxHeartbeats 400000 in
set_option maxRecDepth 100000 in
theorem digits_small (n : Nat) (w : World) (h10 : n < 10) :
    Calls Tryz.prog 198 #[.int .i64 n] w fun e w' => e = .returned (.string (mkS (Lib.decDigits n))) ∧ Below w.heap.size w w' := by
  have kc := conv1 w (UInt8.ofNat (48 + n % 10))
  rw [ec10] at kc
  rw [dec_small h10]
  have e0 : 48 + n = 48 + n % 10 := by omega
  rw [e0]
  clear e0
  obtain ⟨S, hS⟩ : ∃ S, mkS [UInt8.ofNat (48 + n % 10)] = S := ⟨_, rfl⟩
  rw [hS] at kc ⊢
  clear hS
  go_enter Tryz.func198, Tryz.ntmps198
  go_wp2_with fail
  go_ret
  exact ⟨rfl, below_alloc1 _ _⟩
set_option maxHeartbeats 400000 in
set_option maxRecDepth 100000 in
theorem digits_nat (k : Nat) : ∀ (n : Nat) (w : World), n < 10 ^ (k + 1) → n < 1000000000000 →
    Calls Tryz.prog 198 #[.int .i64 n] w fun e w' => e = .returned (.string (mkS (Lib.decDigits n))) ∧ Below w.heap.size w w' := by
  induction k with
  | zero => exact fun n w hk _ => digits_small n w (by omega)
  | succ k ih =>
    intro n w hk hn
    by_cases h10 : n < 10
    · exact digits_small n w h10
    · have kc := conv1 w (UInt8.ofNat (48 + n % 10))
      rw [ec10] at kc
      have hlen := dec_len 11 (n / 10) (by omega)
      have ihn := fun o => ih (n / 10) (w.alloc o) (by rw [Nat.pow_succ] at hk; omega) (by omega)
      rw [dec_big h10, ← mkS_app]
      obtain ⟨S, hS⟩ : ∃ S, mkS [UInt8.ofNat (48 + n % 10)] = S := ⟨_, rfl⟩
      have hSz : S.size = 1 := by rw [← hS]; rfl
      obtain ⟨T, hT⟩ : ∃ T, mkS (Lib.decDigits (n / 10)) = T := ⟨_, rfl⟩
      have hTz : T.size ≤ 12 := by rw [← hT, mkS_size]; exact hlen
      rw [hS] at kc ⊢
      rw [hT] at ihn ⊢
      clear hS hT hlen hk ih
      have h10' : ¬ (n : Int) < 10 := by omega
      have e10 : ((n / 10 : Nat) : Int) = (n : Int) / 10 := by omega
      rw [e10] at ihn
      clear e10
      go_enter Tryz.func198, Tryz.ntmps198
      go_wp2_with (go_at_call 198; go_must (refine (ihn _).mono ?_; rintro e w1 ⟨rfl, hb1⟩))
      go_ret
      exact ⟨rfl, (below_alloc1 _ _).trans (hb1.mono (by simp))⟩
set_option maxHeartbeats 400000 in
set_option maxRecDepth 100000 in
theorem digits_any (n : Int) (w : World) (h0 : -100000000000 < n) (h1 : n < 100000000000) :
    Calls Tryz.prog 198 #[.int .i64 n] w fun e w' => e = .returned (.string (mkS (Lib.itoa n))) ∧ Below w.heap.size w w' := by
  by_cases hneg : n < 0
  · obtain ⟨m, rfl⟩ : ∃ m : Nat, n = -(m : Int) := ⟨n.natAbs, by omega⟩
    have e1 : Lib.itoa (-(m : Int)) = [45] ++ Lib.decDigits m := by unfold Lib.itoa; rw [if_pos hneg]; simp
    have hm := digits_nat 11 m w (by omega) (by omega)
    have hlen := dec_len 11 m (by omega)
    rw [e1, ← mkS_app]
    obtain ⟨T, hT⟩ : ∃ T, mkS (Lib.decDigits m) = T := ⟨_, rfl⟩
    have hTz : T.size ≤ 12 := by rw [← hT, mkS_size]; exact hlen
    rw [hT] at hm ⊢
    clear hT hlen e1
    go_enter Tryz.func198, Tryz.ntmps198
    go_wp2_with (go_at_call 198; go_must (refine hm.mono ?_; rintro e w1 ⟨rfl, hb1⟩))
    go_ret
    exact ⟨rfl, hb1⟩
  · obtain ⟨m, rfl⟩ : ∃ m : Nat, n = m := ⟨n.toNat, by omega⟩
    have e1 : Lib.itoa (m : Int) = Lib.decDigits m := by unfold Lib.itoa; rw [if_neg hneg]; simp
    rw [e1]
    exact digits_nat 11 m w (by omega) (by omega)
end Go.Proofs.YtjkpbpgeedihhaaGreatDoor
namespace Go.Proofs.YtjkpbpgeedihhaaGreatDoor
open Go.RowKit
open M
/-- An attribute as it is written. -/
def qT (nm s : ByteArray) : ByteArray := mkS (quotedL nm.data.toList (escTo s s.size))
theorem qT_size (nm s : ByteArray) (hn : nm.size ≤ 12) (hs : s.size ≤ 40) : (qT nm s).size ≤ 260 := by
  unfold qT
  rw [mkS_size]
  have := escTo_len s s.size (Nat.le_refl _)
  have h2 : nm.data.toList.length = nm.size := rfl
  simp only [quotedL, List.length_append, List.length_cons, List.length_nil]
  omega
theorem quoted_q (nm s : ByteArray) (w : World) (hn : nm.size ≤ 12) (hs : s.size ≤ 40) :
    Calls Tryz.prog 74 #[.string nm, .string s] w fun e w' => e = .returned (.string (qT nm s)) ∧ w' = w := quoted_any nm s w hn hs
def sTo : ByteArray := ⟨#[116, 111]⟩
/-- The text of the way to node j. -/
def leadsT (ns : List Nod) (j : Nat) : ByteArray := qT ⟨#[116, 111]⟩ (nd ns j).id
set_option maxHeartbeats 400000 in
theorem leads_any (id : ByteArray) (a : Option Addr) (cap : Nat) (ns : List Nod) (rs : Nat → Raw) (j : Nat) (w : World) (hm : ModIn w a ns rs) (hj : j < ns.length) (hid : (nd ns j).id.size ≤ 40) :
    Calls Tryz.prog 210 #[modV id a ns.length cap, .int .i64 j] w fun e w' => e = .returned (.string (leadsT ns j)) ∧ Below w.heap.size w w' := by
  have hl := hm.len
  obtain ⟨b, o, rfl, hc⟩ := hm.cells j hj
  have hc1 := hc.c1
  have hbw : b < w.heap.size := lt_of_cell hc1
  obtain ⟨n, hn⟩ : ∃ n, ns.length = n := ⟨_, rfl⟩
  rw [hn] at hj hl
  unfold modV
  simp only [SlV, hn, Option.map_some]
  have hq := fun W => quoted_q ⟨#[116, 111]⟩ (nd ns j).id W (by decide) hid
  have hjb : (j : Int) < n := by omega
  unfold leadsT
  obtain ⟨Q, hQ⟩ : ∃ Q, qT ⟨#[116, 111]⟩ (nd ns j).id = Q := ⟨_, rfl⟩
  rw [hQ] at hq ⊢
  clear hc hm hn hQ
  go_enter Tryz.func210, Tryz.ntmps210
  go_wp2_with (go_at_call 74; go_must (refine (hq _).mono ?_; rintro e w1 ⟨rfl, rfl⟩))
  go_ret
  exact ⟨rfl, b1 _ _⟩

def catS (l : List ByteArray) : ByteArray := l.foldl (· ++ ·) ByteArray.empty
/-- A node's timer. -/
def timerT (ns : List Nod) (n : Nod) : ByteArray :=
  if n.after = 0 then ⟨#[]⟩ else (((⟨#[60, 116, 105, 109, 101, 114]⟩ ++ qT ⟨#[111, 110]⟩ n.id) ++ qT ⟨#[97, 102, 116, 101, 114]⟩ (mkS (Lib.itoa n.after))) ++ leadsT ns n.late.toNat) ++ ⟨#[47, 62]⟩
theorem itoa_len (n : Int) (h0 : -100000000000 < n) (h1 : n < 100000000000) : (Lib.itoa n).length ≤ 13 := by
  unfold Lib.itoa
  split
  · have := dec_len 11 n.natAbs (by omega); simp; omega
  · have := dec_len 11 n.toNat (by omega); omega
theorem leads_sz {ns : List Nod} {j : Nat} (hid : (nd ns j).id.size ≤ 40) : (leadsT ns j).size ≤ 260 := qT_size _ _ (by decide) hid
set_option maxHeartbeats 1000000 in
set_option maxRecDepth 100000 in
theorem timerText_any (id : ByteArray) (a : Option Addr) (cap : Nat) (ns : List Nod) (rs : Nat → Raw) (nn : Nod) (r : Raw) (w : World) (hm : ModIn w a ns rs)
    (hid : nn.id.size ≤ 40) (hids : ∀ j, (nd ns j).id.size ≤ 40) (haf : 0 ≤ nn.after ∧ nn.after ≤ 1000) (hlate : nn.after ≠ 0 → 0 ≤ nn.late ∧ nn.late < ns.length) :
    Calls Tryz.prog 212 #[modV id a ns.length cap, .agg (nodV nn r)] w fun e w' => e = .returned (.string (timerT ns nn)) ∧ Below w.heap.size w w' := by
  have b2 : ∀ o1 o2, Below w.heap.size w ((w.alloc o1).alloc o2) := fun o1 o2 => (((Below.refl _ _).alloc (Nat.le_refl _) _).alloc (by simp) _)
  unfold timerT modV nodV
  by_cases h0 : nn.after = 0
  · rw [if_pos h0, h0]
    simp only [SlV]
    go_enter Tryz.func212, Tryz.ntmps212
    go_wp2_with fail
    go_ret
    exact ⟨rfl, b2 _ _⟩
  · rw [if_neg h0]
    obtain ⟨j, hj⟩ : ∃ j : Nat, nn.late = j := ⟨nn.late.toNat, by have := (hlate h0).1; omega⟩
    have hjn : j < ns.length := by have := (hlate h0).2; omega
    rw [hj, Int.toNat_natCast]
    have hq1 := fun W => quoted_q ⟨#[111, 110]⟩ nn.id W (by decide) hid
    have hz1 := qT_size ⟨#[111, 110]⟩ nn.id (by decide) hid
    have hd := fun W => digits_any nn.after W (by omega) (by omega)
    have hdl : (mkS (Lib.itoa nn.after)).size ≤ 13 := by rw [mkS_size]; exact itoa_len _ (by omega) (by omega)
    have hq2 := fun W => quoted_q ⟨#[97, 102, 116, 101, 114]⟩ (mkS (Lib.itoa nn.after)) W (by decide) (by omega)
    have hz2 := qT_size ⟨#[97, 102, 116, 101, 114]⟩ (mkS (Lib.itoa nn.after)) (by decide) (by omega)
    have hl := fun W (hW : Below w.heap.size w W) => leads_any id a cap ns rs j W (hm.below hW) hjn (hids j)
    have hz3 := leads_sz (ns := ns) (j := j) (hids j)
    obtain ⟨Q1, e1⟩ : ∃ Q, qT ⟨#[111, 110]⟩ nn.id = Q := ⟨_, rfl⟩
    obtain ⟨Q2, e2⟩ : ∃ Q, qT ⟨#[97, 102, 116, 101, 114]⟩ (mkS (Lib.itoa nn.after)) = Q := ⟨_, rfl⟩
    obtain ⟨Q3, e3⟩ : ∃ Q, leadsT ns j = Q := ⟨_, rfl⟩
    obtain ⟨D, e4⟩ : ∃ D, mkS (Lib.itoa nn.after) = D := ⟨_, rfl⟩
    rw [e1] at hq1 hz1 ⊢
    rw [e2] at hq2 hz2 ⊢
    rw [e3] at hl hz3 ⊢
    rw [e4] at hd hq2 hdl
    clear e1 e2 e3 e4 hlate hm hids
    have h0' : (nn.after == 0) = false := by simpa using h0
    simp only [SlV]
    have HL : Hid (∀ W, Below w.heap.size w W → Calls Tryz.prog 210 #[.agg #[.string id, .slice a ns.length cap], .int .i64 j] W fun e w' => e = .returned (.string Q3) ∧ Below W.heap.size W w') := hl
    clear hl h0
    obtain ⟨V, hV⟩ : ∃ V, Value.slice a ns.length cap = V := ⟨_, rfl⟩
    rw [hV] at HL ⊢
    obtain ⟨V5, hV5⟩ : ∃ V, Value.slice r.ca nn.cases.length r.cc = V := ⟨_, rfl⟩
    obtain ⟨V7, hV7⟩ : ∃ V, Value.slice r.ba nn.branches.length r.bc = V := ⟨_, rfl⟩
    rw [hV5, hV7]
    clear hV hV5 hV7 hj
    obtain ⟨W2, hW2⟩ : ∃ W2, (w.alloc (Obj.cells #[.string id, V] 25)).alloc (Obj.cells #[.int .i64 nn.kind, .string nn.id, .string nn.name, .int .i64 nn.up, .int .i64 nn.to, V5, .int .i64 nn.els, V7, .int .i64 nn.after, .int .i64 j] 87) = W2 := ⟨_, rfl⟩
    have HB2 : Hid (Below w.heap.size w W2) := by rw [← hW2]; exact b2 _ _
    have hs2 : W2.heap.size = w.heap.size + 2 := by rw [← hW2]; simp
    have HX : Hid (∀ W, Below W2.heap.size W2 W → W.cell? ⟨w.heap.size, 0, none⟩ = some (.string id) ∧ W.cell? ⟨w.heap.size, 1, none⟩ = some V ∧ W.cell? ⟨w.heap.size + 1, 1, none⟩ = some (.string nn.id) ∧ W.cell? ⟨w.heap.size + 1, 8, none⟩ = some (.int .i64 nn.after) ∧ W.cell? ⟨w.heap.size + 1, 9, none⟩ = some (.int .i64 j)) := by
      intro W hW
      have e0 := hW.cell (p := ⟨w.heap.size, 0, none⟩) (by show w.heap.size < _; omega)
      have e1 := hW.cell (p := ⟨w.heap.size, 1, none⟩) (by show w.heap.size < _; omega)
      have e2 := hW.cell (p := ⟨w.heap.size + 1, 9, none⟩) (by show w.heap.size + 1 < _; omega)
      have e3 := hW.cell (p := ⟨w.heap.size + 1, 1, none⟩) (by show w.heap.size + 1 < _; omega)
      have e4 := hW.cell (p := ⟨w.heap.size + 1, 8, none⟩) (by show w.heap.size + 1 < _; omega)
      rw [e0, e1, e2, e3, e4, ← hW2]
      exact ⟨by simp [go_sem], by simp [go_sem], by simp [go_sem], by simp [go_sem], by simp [go_sem]⟩
    have hle2 : w.heap.size ≤ W2.heap.size := by omega
    have HS2 : Hid (w.heap.size ≤ W2.heap.size) := hle2
    clear hs2 hle2
    obtain ⟨y0, y1, y2, y8, y9⟩ := HX.out W2 (Below.refl _ _)
    go_enter Tryz.func212, Tryz.ntmps212
    go_wp2_with (go_at_call 74; go_must (refine (hq1 _).mono ?_; rintro e w1 ⟨rfl, rfl⟩))
    refine (hd _).mono ?_
    rintro e w3 ⟨rfl, hb3⟩
    clear hW2
    have HB3 : Hid (Below w1.heap.size w1 w3) := hb3
    have HB3' : Hid (Below w.heap.size w w3) := HB2.out.trans (hb3.mono HS2.out)
    clear hb3
    obtain ⟨hx0, hx1, _, _, hx9⟩ := HX.out w3 HB3.out
    go_wp2_with (go_at_call 74; go_must (refine (hq2 _).mono ?_; rintro e w4 ⟨rfl, rfl⟩))
    refine (HL.out _ HB3'.out).mono ?_
    rintro e w5 ⟨rfl, hb5⟩
    go_wp2_with fail
    go_ret
    exact ⟨rfl, HB3'.out.trans (hb5.mono HB3'.out.size)⟩
end Go.Proofs.YtjkpbpgeedihhaaGreatDoor
namespace Go.Proofs.YtjkpbpgeedihhaaGreatDoor
open Go.RowKit
open M
def opS (k : Int) : ByteArray := if k = 1 then ⟨#[108, 116]⟩ else if k = 2 then ⟨#[101, 113]⟩ else ⟨#[103, 116]⟩
def chS (v : Int) : ByteArray := mkS [UInt8.ofNat v.toNat]
/-- A case as it is written. -/
def caseT (ns : List Nod) (c : Cas) : ByteArray :=
  ((((⟨#[60, 119, 104, 101, 110]⟩ ++ qT ⟨#[118, 97, 114]⟩ (chS c.var)) ++ qT ⟨#[111, 112]⟩ (opS c.op)) ++ qT ⟨#[118, 97, 108, 117, 101]⟩ (mkS (Lib.itoa c.val))) ++ leadsT ns c.to.toNat) ++ ⟨#[47, 62]⟩
theorem conv1i (w : World) (v : Int) (h0 : 0 ≤ v) (h1 : v < 256) : (convert 217 9 (.slice (some ⟨w.heap.size, 0, none⟩) 1 1)).run Tryz.prog (w.alloc (.cells #[.int .u8 v] 5)) = .ok (.string (chS v)) (w.alloc (.cells #[.int .u8 v] 5)) := by
  have := conv1 w (UInt8.ofNat v.toNat)
  have e : ((UInt8.ofNat v.toNat).toNat : Int) = v := by simp; omega
  rw [e] at this
  exact this
set_option maxHeartbeats 1000000 in
set_option maxRecDepth 100000 in
theorem caseText_op (K : Int) (hK : K = 1 ∨ K = 2 ∨ K = 3) (id : ByteArray) (a : Option Addr) (cap : Nat) (ns : List Nod) (rs : Nat → Raw) (c : Cas) (w : World) (hm : ModIn w a ns rs)
    (hids : ∀ j, (nd ns j).id.size ≤ 40) (hv : 97 ≤ c.var ∧ c.var ≤ 104) (hop : c.op = K) (hval : -2147483648 ≤ c.val ∧ c.val ≤ 2147483647) (hto : 0 ≤ c.to ∧ c.to < ns.length) :
    Calls Tryz.prog 211 #[modV id a ns.length cap, .agg #[.int .u8 c.var, .int .i64 c.op, .int .i32 c.val, .int .i64 c.to]] w fun e w' => e = .returned (.string (caseT ns c)) ∧ Below w.heap.size w w' := by
  unfold caseT modV
  obtain ⟨j, hj⟩ : ∃ j : Nat, c.to = j := ⟨c.to.toNat, by omega⟩
  have hjn : j < ns.length := by omega
  rw [hj, Int.toNat_natCast]
  have hch : (chS c.var).size ≤ 40 := by unfold chS; rw [mkS_size]; simp
  have hq1 := fun W => quoted_q ⟨#[118, 97, 114]⟩ (chS c.var) W (by decide) hch
  have hz1 := qT_size ⟨#[118, 97, 114]⟩ (chS c.var) (by decide) hch
  have hos : (opS c.op).size ≤ 40 := by unfold opS; (repeat' split) <;> decide
  have hq2 := fun W => quoted_q ⟨#[111, 112]⟩ (opS c.op) W (by decide) hos
  have hz2 := qT_size ⟨#[111, 112]⟩ (opS c.op) (by decide) hos
  have hd := fun W => digits_any c.val W (by omega) (by omega)
  have hdl : (mkS (Lib.itoa c.val)).size ≤ 13 := by rw [mkS_size]; exact itoa_len _ (by omega) (by omega)
  have hq3 := fun W => quoted_q ⟨#[118, 97, 108, 117, 101]⟩ (mkS (Lib.itoa c.val)) W (by decide) (by omega)
  have hz3 := qT_size ⟨#[118, 97, 108, 117, 101]⟩ (mkS (Lib.itoa c.val)) (by decide) (by omega)
  have hl := fun W (hW : Below w.heap.size w W) => leads_any id a cap ns rs j W (hm.below hW) hjn (hids j)
  have hz4 := leads_sz (ns := ns) (j := j) (hids j)
  have hcv := fun W => conv1i W c.var (by omega) (by omega)
  obtain ⟨Q1, e1⟩ : ∃ Q, qT ⟨#[118, 97, 114]⟩ (chS c.var) = Q := ⟨_, rfl⟩
  obtain ⟨Q2, e2⟩ : ∃ Q, qT ⟨#[111, 112]⟩ (opS c.op) = Q := ⟨_, rfl⟩
  obtain ⟨Q3, e3⟩ : ∃ Q, qT ⟨#[118, 97, 108, 117, 101]⟩ (mkS (Lib.itoa c.val)) = Q := ⟨_, rfl⟩
  obtain ⟨Q4, e4⟩ : ∃ Q, leadsT ns j = Q := ⟨_, rfl⟩
  obtain ⟨D, e5⟩ : ∃ D, mkS (Lib.itoa c.val) = D := ⟨_, rfl⟩
  obtain ⟨C, e6⟩ : ∃ D, chS c.var = D := ⟨_, rfl⟩
  rw [e1] at hq1 hz1 ⊢
  rw [e2] at hq2 hz2 ⊢
  rw [e3] at hq3 hz3 ⊢
  rw [e4] at hl hz4 ⊢
  rw [e5] at hd hq3 hdl
  rw [e6] at hcv hq1 hch
  rw [hop] at hq2 ⊢
  clear e1 e2 e3 e4 e5 e6 hm hids hj hos hop
  simp only [SlV]
  have HL : Hid (∀ W, Below w.heap.size w W → Calls Tryz.prog 210 #[.agg #[.string id, .slice a ns.length cap], .int .i64 j] W fun e w' => e = .returned (.string Q4) ∧ Below W.heap.size W w') := hl
  clear hl
  obtain ⟨V, hV⟩ : ∃ V, Value.slice a ns.length cap = V := ⟨_, rfl⟩
  rw [hV] at HL ⊢
  clear hV hto hjn
  have HXT : ∀ (W2 w3 : World), W2 = (w.alloc (Obj.cells #[.string id, V] 25)).alloc (Obj.cells #[.int .u8 c.var, .int .i64 K, .int .i32 c.val, .int .i64 j] 89) → ∀ o1 o2, Below ((W2.alloc o1).alloc o2).heap.size ((W2.alloc o1).alloc o2) w3 →
      w3.cell? ⟨w.heap.size, 0, none⟩ = some (.string id) ∧ w3.cell? ⟨w.heap.size, 1, none⟩ = some V ∧ w3.cell? ⟨w.heap.size + 1, 3, none⟩ = some (.int .i64 j) ∧ Below w.heap.size w w3 := by
    intro W2 w3 e o1 o2 hb
    have hz : W2.heap.size = w.heap.size + 2 := by rw [e]; simp
    have hz2 : ((W2.alloc o1).alloc o2).heap.size = w.heap.size + 4 := by simp [hz]
    have e0 := hb.cell (p := ⟨w.heap.size, 0, none⟩) (by show w.heap.size < _; omega)
    have e1 := hb.cell (p := ⟨w.heap.size, 1, none⟩) (by show w.heap.size < _; omega)
    have e2 := hb.cell (p := ⟨w.heap.size + 1, 3, none⟩) (by show w.heap.size + 1 < _; omega)
    rw [e0, e1, e2, e]
    refine ⟨by simp [go_sem], by simp [go_sem], by simp [go_sem], ?_⟩
    have hbb : Below w.heap.size w ((W2.alloc o1).alloc o2) := by rw [e]; exact ((((Below.refl _ _).alloc (Nat.le_refl _) _).alloc (by simp) _).alloc (by simp; omega) _).alloc (by simp; omega) _
    exact hbb.trans (hb.mono hbb.size)
  have HX : Hid (∀ (W2 w3 : World), W2 = (w.alloc (Obj.cells #[.string id, V] 25)).alloc (Obj.cells #[.int .u8 c.var, .int .i64 K, .int .i32 c.val, .int .i64 j] 89) → ∀ o1 o2, Below ((W2.alloc o1).alloc o2).heap.size ((W2.alloc o1).alloc o2) w3 →
      w3.cell? ⟨w.heap.size, 0, none⟩ = some (.string id) ∧ w3.cell? ⟨w.heap.size, 1, none⟩ = some V ∧ w3.cell? ⟨w.heap.size + 1, 3, none⟩ = some (.int .i64 j) ∧ Below w.heap.size w w3) := HXT
  clear HXT
  have hcv3 : ∀ o1 o2 o3, (convert 217 9 (.slice (some ⟨w.heap.size + 1 + 1 + 1, 0, none⟩) 1 1)).run Tryz.prog ((((w.alloc o1).alloc o2).alloc o3).alloc (.cells #[.int .u8 c.var] 5)) = .ok (.string C) ((((w.alloc o1).alloc o2).alloc o3).alloc (.cells #[.int .u8 c.var] 5)) := by
    intro o1 o2 o3
    have := hcv (((w.alloc o1).alloc o2).alloc o3)
    simp only [World.size_alloc] at this
    exact this
  clear hcv
  rcases hK with rfl | rfl | rfl
  all_goals
    simp only [opS, if_true] at hq2
    go_enter Tryz.func211, Tryz.ntmps211
    go_wp2_with fail
    refine (hq1 _).mono ?_
    rintro e w1 ⟨rfl, hw1⟩
    rw [hw1]
    clear hw1
    go_wp2_with fail
    refine (hq2 _).mono ?_
    rintro e w2 ⟨rfl, hw2⟩
    rw [hw2]
    clear hw2
    go_wp2_with fail
    refine (hd _).mono ?_
    rintro e w3 ⟨rfl, hb3⟩
    obtain ⟨hx0, hx1, hx3, hbw⟩ := HX.out _ w3 rfl _ _ hb3
    have HB3 : Hid (Below w.heap.size w w3) := hbw
    clear hb3 hbw
    go_wp2_with fail
    refine (hq3 _).mono ?_
    rintro e w4 ⟨rfl, hw4⟩
    rw [hw4]
    clear hw4
    go_wp2_with fail
    refine (HL.out _ HB3.out).mono ?_
    rintro e w5 ⟨rfl, hb5⟩
    go_wp2_with fail
    go_ret
    exact ⟨rfl, HB3.out.trans (hb5.mono HB3.out.size)⟩
theorem caseText_any (id : ByteArray) (a : Option Addr) (cap : Nat) (ns : List Nod) (rs : Nat → Raw) (c : Cas) (w : World) (hm : ModIn w a ns rs)
    (hids : ∀ j, (nd ns j).id.size ≤ 40) (hv : 97 ≤ c.var ∧ c.var ≤ 104) (hop : 1 ≤ c.op ∧ c.op ≤ 3) (hval : -2147483648 ≤ c.val ∧ c.val ≤ 2147483647) (hto : 0 ≤ c.to ∧ c.to < ns.length) :
    Calls Tryz.prog 211 #[modV id a ns.length cap, .agg #[.int .u8 c.var, .int .i64 c.op, .int .i32 c.val, .int .i64 c.to]] w fun e w' => e = .returned (.string (caseT ns c)) ∧ Below w.heap.size w w' :=
  caseText_op c.op (by omega) id a cap ns rs c w hm hids hv rfl hval hto
end Go.Proofs.YtjkpbpgeedihhaaGreatDoor
