import Derived.Test.YtjkpbpgeedihhaaGreatDoorC18
import Derived.Laws.ResultCell
set_option linter.all false
namespace Go.Proofs.YtjkpbpgeedihhaaGreatDoor
open Go.RowKit
open M FerryM
theorem Tryz.info87 : (Tryz.prog.info? 87).map (fun i => (i.zero, i.size, i.bytes)) = some (some (.agg #[.int .i64 0, .string ⟨#[]⟩, .string ⟨#[]⟩, .int .i64 0, .int .i64 0, .slice none 0 0, .int .i64 0, .slice none 0 0, .int .i64 0, .int .i64 0]), 10, 128) := by kernel_rfl
theorem Tryz.info89 : (Tryz.prog.info? 89).map (fun i => (i.zero, i.size, i.bytes)) = some (some (.agg #[.int .u8 0, .int .i64 0, .int .i32 0, .int .i64 0]), 4, 32) := by kernel_rfl
theorem Tryz.info85 : (Tryz.prog.info? 85).map (fun i => (i.zero, i.size, i.bytes)) = some (some (.slice none 0 0), 1, 24) := by kernel_rfl
theorem Tryz.info35 : (Tryz.prog.info? 35).map (fun i => (i.zero, i.size, i.bytes)) = some (some (.slice none 0 0), 1, 24) := by kernel_rfl
/-- 'make' of elements of several cells: for every world. -/
theorem run_make_wide {P : Program} (t e : Nat) (z : Value) (size bytes : Nat) (ht : P.underlying t = some (.slice e)) (hinfo : (P.info? e).map (fun i => (i.zero, i.size, i.bytes)) = some (some z, size, bytes)) (kl kc : IntKind) (n : Nat) (hbytes : bytes * n ≤ 281474976710656) (h63 : n ≤ 9223372036854775807) (w : World) :
    (Instr.makeSlice t (.int kl (n : Int)) (.int kc (n : Int))).run P w = .ok (.slice (some ⟨w.heap.size, 0, none⟩) n n) (w.alloc (.cells (madeCells z.cells (n * size)) e)) := by
  obtain ⟨i, hi, hzz⟩ := Option.map_eq_some_iff.1 hinfo
  simp only [Prod.mk.injEq] at hzz
  obtain ⟨hz, hs, hb⟩ := hzz
  have hb' : (i.bytes : Int) * (n : Int) ≤ 281474976710656 := by
    rw [hb]
    have h : ((bytes * n : Nat) : Int) ≤ 281474976710656 := by omega
    rwa [Int.natCast_mul] at h
  have hr := run_make (P := P) w t e i z ht hi hz kl kc n n (by omega) (Int.le_refl _) hb' (by omega)
  simp only [Int.toNat_natCast, hs] at hr
  exact hr
theorem run_make_wide1 {P : Program} (t e : Nat) (z : Value) (size bytes : Nat) (ht : P.underlying t = some (.slice e)) (hinfo : (P.info? e).map (fun i => (i.zero, i.size, i.bytes)) = some (some z, size, bytes)) (kl kc : IntKind) (n : Nat) (hbytes : bytes * (n + 1) ≤ 281474976710656) (h63 : n + 1 ≤ 9223372036854775807) (w : World) :
    (Instr.makeSlice t (.int kl ((n : Int) + 1)) (.int kc ((n : Int) + 1))).run P w = .ok (.slice (some ⟨w.heap.size, 0, none⟩) (n + 1) (n + 1)) (w.alloc (.cells (madeCells z.cells ((n + 1) * size)) e)) :=
  run_make_wide t e z size bytes ht hinfo kl kc (n + 1) hbytes h63 w
theorem cas_src {W : World} {a : Option Addr} {l : List Cas} {A5 : Option Addr} {lc : Nat} (h : CasesIn W a l) (hA : a = A5) (hl : l.length = lc) (h0 : 0 < lc) : ∃ ad, A5 = some ad ∧ ∀ j v, (casL l)[j]? = some v → W.cell? (ad.add j) = some v := by
  obtain ⟨b, o, rfl, _⟩ := h 0 (by omega)
  refine ⟨⟨b, o, none⟩, hA.symm, fun j v hj => ?_⟩
  have hjl : j < l.length * 4 := by
    have := (List.getElem?_eq_some_iff.1 hj).1
    rwa [casL_len] at this
  obtain ⟨b', o', e, h0', h1', h2', h3'⟩ := h (j / 4) (by omega)
  cases e
  have ea : (⟨b, o, none⟩ : Addr).add j = ⟨b, o + j, none⟩ := by unfold Addr.add; split <;> simp_all
  rw [ea]
  have hg := casL_get l (j / 4) (j % 4) (by omega) (by omega)
  rw [show j / 4 * 4 + j % 4 = j by omega, hj] at hg
  have hlt : j % 4 < 4 := by omega
  have ej : o + j = o + j / 4 * 4 + j % 4 := by omega
  rw [ej]
  rcases (by omega : j % 4 = 0 ∨ j % 4 = 1 ∨ j % 4 = 2 ∨ j % 4 = 3) with e | e | e | e <;> rw [e] at hg ⊢ <;> simp [casC] at hg <;> rw [hg]
  · simpa [List.getD] using h0'
  · simpa [List.getD] using h1'
  · simpa [List.getD] using h2'
  · simpa [List.getD] using h3'
theorem set_four {c : List Value} {n : Nat} {d0 d1 d2 d3 a0 a1 a2 a3 : Value} (h : c.length = n) : ((((c ++ [d0, d1, d2, d3]).set n a0).set (n + 1) a1).set (n + 2) a2).set (n + 3) a3 = c ++ [a0, a1, a2, a3] := by
  subst h
  simp [List.set_append]
theorem set_one {c : List Value} {n : Nat} {d0 a0 : Value} (h : c.length = n) : (c ++ [d0]).set n a0 = c ++ [a0] := by
  subst h
  simp
theorem one_of {l : List Value} {n : Nat} (h : l.length = n + 1) : ∃ a, l.drop n = [a] := by
  have hl : (l.drop n).length = 1 := by simp; omega
  match h' : l.drop n, hl with
  | [a], _ => exact ⟨a, rfl⟩
theorem int_src {W : World} {a : Option Addr} {l : List Int} {A : Option Addr} {lb : Nat} (h : IntsIn W a l) (hA : a = A) (hl : l.length = lb) (h0 : 0 < lb) : ∃ ad, A = some ad ∧ ∀ j v, (iv l)[j]? = some v → W.cell? (ad.add j) = some v := by
  obtain ⟨b, o, rfl, _⟩ := h 0 (by omega)
  exact ⟨⟨b, o, none⟩, hA.symm, ints_c1 h⟩
theorem slc_c1' (W : World) (s : Value) (t H : Nat) (hH : W.heap.size = H) : ∀ j u, ([s] : List Value)[j]? = some u → (W.alloc (.cells #[s] t)).cell? ((⟨H, 0, none⟩ : Addr).add j) = some u := by
  intro j u hj
  subst hH
  match j, hj with
  | 0, hj => simp at hj; subst hj; simp [Addr.add, go_sem]
theorem row_shape {W : World} {base e : Nat} {v : Value} {n : Nat} {xs : List Value} (h : W.ownsRow base e 1 v n xs) (hn : 0 < n) : ∃ g c, v = .slice (some ⟨g, 0, none⟩) n c := by
  rcases h with ⟨_, ⟨_, h0⟩ | ⟨g, c, cur, e, _⟩⟩
  · omega
  · exact ⟨g, c, e⟩
theorem four_of {l : List Value} {n : Nat} (h : l.length = n + 4) : ∃ a b c d, l.drop n = [a, b, c, d] := by
  have hl : (l.drop n).length = 4 := by simp; omega
  match h' : l.drop n, hl with
  | [a, b, c, d], _ => exact ⟨a, b, c, d, rfl⟩
theorem hand_start (w : World) (id : ByteArray) (A : Option Addr) (cap : Nat) (ns : List Nod) (Z : Array Value) (n : Nat) (hn : ns.length = n) (hZ : Z.size = (ns.length + 1) * 10) :
    HandAt w ((((w.alloc (Obj.cells #[.string id, .slice A n cap] 25)).alloc (Obj.cells #[.string ⟨#[]⟩, .slice none 0 0] 25)).alloc (Obj.cells Z 87)).alloc (Obj.cells #[.slice (some ⟨w.heap.size + 2, 0, none⟩) (n + 1) (n + 1), .slice none 0 0, .slice none 0 0] 154)) w.heap.size id A cap ns 0 0 0 (.slice none 0 0) (.slice none 0 0) (fun _ => 0) (fun _ => 0) := by
  subst hn
  obtain ⟨w1, h1⟩ : ∃ x, w.alloc (Obj.cells #[.string id, .slice A ns.length cap] 25) = x := ⟨_, rfl⟩
  have s1 : w1.heap.size = w.heap.size + 1 := by rw [← h1]; simp
  have m1 : lstIs w1 w.heap.size 25 [.string id, .slice A ns.length cap] := by rw [← h1]; exact lstIs.new _ _ _
  have b1' : Below w.heap.size w w1 := by rw [← h1]; exact b1 _ _
  rw [h1]
  obtain ⟨w2, h2⟩ : ∃ x, w1.alloc (Obj.cells #[.string ⟨#[]⟩, .slice none 0 0] 25) = x := ⟨_, rfl⟩
  have s2 : w2.heap.size = w.heap.size + 2 := by rw [← h2]; simp [s1]
  have r2 : lstIs w2 (w.heap.size + 1) 25 [.string ⟨#[]⟩, .slice none 0 0] := by rw [← h2, ← s1]; exact lstIs.new _ _ _
  have m2 : lstIs w2 w.heap.size 25 [.string id, .slice A ns.length cap] := by rw [← h2]; exact m1.alloc _
  have b2' : Below w.heap.size w w2 := by rw [← h2]; exact b1'.alloc (by omega) _
  rw [h2]
  obtain ⟨w3, h3⟩ : ∃ x, w2.alloc (Obj.cells Z 87) = x := ⟨_, rfl⟩
  have s3 : w3.heap.size = w.heap.size + 3 := by rw [← h3]; simp [s2]
  have g3 : w3.rowIs (w.heap.size + 2) 87 ((ns.length + 1) * 10) (fun i => Z.getD i undef) := by
    rw [← h3, ← s2, ← hZ]
    exact World.rowIs_alloc _ _ _ _ (fun i hi => by simp [Array.getD, hi])
  have r3 : lstIs w3 (w.heap.size + 1) 25 [.string ⟨#[]⟩, .slice none 0 0] := by rw [← h3]; exact r2.alloc _
  have m3 : lstIs w3 w.heap.size 25 [.string id, .slice A ns.length cap] := by rw [← h3]; exact m2.alloc _
  have b3' : Below w.heap.size w w3 := by rw [← h3]; exact b2'.alloc (by omega) _
  rw [h3]
  refine ⟨m3.alloc _, r3.alloc _, by rw [← s3]; exact lstIs.new _ _ _, ⟨_, g3.alloc _, fun j hj => by omega⟩, World.ownsRow_nil _ _ _ _, World.ownsRow_nil _ _ _ _, fun j hj => by omega, fun j hj => by omega, fun j hj => by omega, fun j hj => by omega, b3'.alloc (by omega) _, by simp [s3]⟩
set_option maxHeartbeats 4000000 in
set_option maxRecDepth 100000 in
theorem handed_any (id : ByteArray) (a : Option Addr) (cap : Nat) (ns : List Nod) (rs : Nat → Raw) (w : World) (hm : ModIn w a ns rs)
    (hN : ns.length * 128 ≤ 140737488351232) (hC : ∀ i, i < ns.length → (nd ns i).cases.length * 32 ≤ 140737488351232) (hB : ∀ i, i < ns.length → (nd ns i).branches.length * 8 ≤ 140737488351232) :
    Calls Tryz.prog 20 #[modV id a ns.length cap] w fun e w' => ∃ cb bb, e = .returned (.tuple #[modV id (some ⟨w.heap.size + 2, 0, none⟩) ns.length (ns.length + 1), .pointer (some ⟨w.heap.size + 3, 0, none⟩)]) ∧ ∃ vc vi, Handed w w' w.heap.size ns vc vi cb bb := by
  obtain ⟨n, hn⟩ : ∃ n, ns.length = n := ⟨_, rfl⟩
  have HN : Hid (ns.length = n) := hn
  have HMo : Hid (ModIn w a ns rs) := hm
  rw [hn] at hN
  unfold modV
  simp only [SlV, hn, Option.map_some]
  obtain ⟨A, hA⟩ : ∃ A, a = A := ⟨_, rfl⟩
  have HA : Hid (a = A) := hA
  rw [hA]
  clear hA hn hm
  have hmk := run_make_wide1 (P := Tryz.prog) 23 87 _ 10 128 Tryz.underlying23 Tryz.info87 .i64 .i64 n (by omega) (by omega)
  obtain ⟨Z, hZ⟩ : ∃ Z, madeCells (Value.agg #[.int .i64 0, .string ⟨#[]⟩, .string ⟨#[]⟩, .int .i64 0, .int .i64 0, .slice none 0 0, .int .i64 0, .slice none 0 0, .int .i64 0, .int .i64 0]).cells ((n + 1) * 10) = Z := ⟨_, rfl⟩
  have HZ : Hid (Z.size = (n + 1) * 10) := by rw [← hZ]; exact size_madeCells _ _
  rw [hZ] at hmk
  clear hZ
  obtain ⟨W0, hW0⟩ : ∃ W, (((w.alloc (Obj.cells #[.string id, .slice A n cap] 25)).alloc (Obj.cells #[.string ⟨#[]⟩, .slice none 0 0] 25)).alloc (Obj.cells Z 87)).alloc (Obj.cells #[.slice (some ⟨w.heap.size + 2, 0, none⟩) (n + 1) (n + 1), .slice none 0 0, .slice none 0 0] 154) = W := ⟨_, rfl⟩
  have HStart : Hid (HandAt w W0 w.heap.size id A cap ns 0 0 0 (.slice none 0 0) (.slice none 0 0) (fun _ => 0) (fun _ => 0)) := by
    rw [← hW0]
    refine hand_start w id A cap ns Z _ HN.out ?_
    rw [HN.out]; exact HZ.out
  go_enter Tryz.func20, Tryz.ntmps20
  go_wp2_with fail
  rw [show w.heap.size + 1 + 1 + 1 = w.heap.size + 3 from rfl, show w.heap.size + 1 + 1 = w.heap.size + 2 from rfl]
  clear hW0 hmk HZ
  go_loopw [6] (fun i wr => ∃ (k : Nat) (vc vi : Value) (cb bb : Nat → Nat), k ≤ n ∧ i = .int .i64 k ∧ HandAt w wr w.heap.size id A cap ns k k k vc vi cb bb) (fun i _ => n - (intOf i).toNat)
  case atStart => exact ⟨0, _, _, _, _, by omega, rfl, HStart.out⟩
  case round =>
    obtain ⟨k, vc, vi, cb, bb, hk, rfl, hh⟩ := hrel
    have HH : Hid (HandAt w wr w.heap.size id A cap ns k k k vc vi cb bb) := hh
    have hx1 : wr.cell? ⟨w.heap.size, 1, none⟩ = some (.slice A n cap) := by have := hh.mb.cell (i := 1) rfl; rw [HN.out] at this; exact this
    by_cases hlt : k < n
    · obtain ⟨b, o, hao, hcell⟩ := (HMo.out.below hh.bel).cells k (by rw [HN.out]; exact hlt)
      have hnode := (HMo.out.below hh.bel).node k (by rw [HN.out]; exact hlt)
      have hAa := HA.out
      rw [hao] at hAa
      try simp only [Option.map_some] at hAa
      subst hAa
      have hkb : (k : Int) < n := by omega
      obtain ⟨c0, c1, c2, c3, c4, c5, c6, c7, c8, c9⟩ := hcell
      simp only [SlV] at c5 c7
      obtain ⟨A5, hA5⟩ : ∃ A, (rs k).ca = A := ⟨_, rfl⟩
      obtain ⟨A7, hA7⟩ : ∃ A, (rs k).ba = A := ⟨_, rfl⟩
      have HA5 : Hid ((rs k).ca = A5) := hA5
      have HA7 : Hid ((rs k).ba = A7) := hA7
      obtain ⟨lc, hlc⟩ : ∃ x, (nd ns k).cases.length = x := ⟨_, rfl⟩
      obtain ⟨lb, hlb⟩ : ∃ x, (nd ns k).branches.length = x := ⟨_, rfl⟩
      have HLc : Hid ((nd ns k).cases.length = lc) := hlc
      have HLb : Hid ((nd ns k).branches.length = lb) := hlb
      have hCk := hC k (by rw [HN.out]; exact hlt)
      have hBk := hB k (by rw [HN.out]; exact hlt)
      rw [hA5, hlc] at c5
      rw [hA7, hlb] at c7
      rw [hlc] at hCk
      rw [hlb] at hBk
      have HNd : Hid (NodIn wr (nd ns k) (rs k)) := hnode
      clear hA5 hA7 hlc hlb hh hao hnode
      have hmk2 := run_make_wide1 (P := Tryz.prog) 85 89 _ 4 32 Tryz.underlying85 Tryz.info89 .i64 .i64 lc (by omega) (by omega)
      have hmk3 := run_make_wide1 (P := Tryz.prog) 35 3 _ 1 8 Tryz.underlying35 Tryz.info3 .i64 .i64 lb (by omega) (by omega)
      obtain ⟨ZC, hZC⟩ : ∃ Z, madeCells (Value.agg #[.int .u8 0, .int .i64 0, .int .i32 0, .int .i64 0]).cells ((lc + 1) * 4) = Z := ⟨_, rfl⟩
      have HZC : Hid (ZC.size = (lc + 1) * 4) := by rw [← hZC]; exact size_madeCells _ _
      rw [hZC] at hmk2
      obtain ⟨ZB, hZB⟩ : ∃ Z, madeCells (Value.int .i64 0).cells ((lb + 1) * 1) = Z := ⟨_, rfl⟩
      have HZB : Hid (ZB.size = lb + 1) := by rw [← hZB]; exact (size_madeCells _ _).trans (Nat.mul_one _)
      rw [hZB] at hmk3
      clear hZC hZB
      obtain ⟨X2, hX2⟩ : ∃ x, (wr.alloc (Obj.cells #[.int .i64 (nd ns k).kind, .string (nd ns k).id, .string (nd ns k).name, .int .i64 (nd ns k).up, .int .i64 (nd ns k).to, .slice A5 lc (rs k).cc, .int .i64 (nd ns k).els, .slice A7 lb (rs k).bc, .int .i64 (nd ns k).after, .int .i64 (nd ns k).late] 87)).alloc (Obj.cells ZC 89) = x := ⟨_, rfl⟩
      have HB2 : Hid (Below wr.heap.size wr X2) := by rw [← hX2]; exact ((Below.refl _ _).alloc (Nat.le_refl _) _).alloc (by simp) _
      have HS2 : Hid (X2.heap.size = wr.heap.size + 2) := by rw [← hX2]; show _ = _; simp
      have HXx : Hid (lstIs X2 wr.heap.size 87 [.int .i64 (nd ns k).kind, .string (nd ns k).id, .string (nd ns k).name, .int .i64 (nd ns k).up, .int .i64 (nd ns k).to, .slice A5 lc (rs k).cc, .int .i64 (nd ns k).els, .slice A7 lb (rs k).bc, .int .i64 (nd ns k).after, .int .i64 (nd ns k).late]) := by rw [← hX2]; exact (lstIs.new _ _ _).alloc _
      have HXc : Hid (lstIs X2 (wr.heap.size + 1) 89 ZC.toList) := by rw [← hX2]; show _ = _; have := heap_alloc_new (wr.alloc (Obj.cells #[.int .i64 (nd ns k).kind, .string (nd ns k).id, .string (nd ns k).name, .int .i64 (nd ns k).up, .int .i64 (nd ns k).to, .slice A5 lc (rs k).cc, .int .i64 (nd ns k).els, .slice A7 lb (rs k).bc, .int .i64 (nd ns k).after, .int .i64 (nd ns k).late] 87)) (Obj.cells ZC 89); simpa using this
      have HSrc : Hid (0 < lc → ∃ ad, A5 = some ad ∧ ∀ j v, (casL (nd ns k).cases)[j]? = some v → X2.cell? (ad.add j) = some v) := fun h0 => cas_src (HNd.out.below HB2.out).cs HA5.out HLc.out h0
      have hx5 := HXx.out.cell (i := 5) rfl
      obtain ⟨X3, hcp, hc3, hg3, hs3⟩ := copy_runs (P := Tryz.prog) X2 85 85 3 89 4 (wr.heap.size + 1) (lc + 1) (lc + 1) A5 lc (rs k).cc ZC.toList 89 (casL (nd ns k).cases) Tryz.underlying85 (by kernel_rfl) (by omega) HXc.out (by rw [casL_len, HLc.out]) HSrc.out (by rw [casL_len, HLc.out]; simp [HZC.out]; omega) (casL_one _)
      have HS3 : Hid (X3.heap.size = wr.heap.size + 2) := hs3.trans HS2.out
      obtain ⟨d0, d1, d2, d3, hD⟩ := four_of (l := ZC.toList) (n := (casL (nd ns k).cases).length) (by rw [casL_len, HLc.out]; simp [HZC.out]; omega)
      rw [hD] at hc3
      have HC3 : Hid (lstIs X3 (wr.heap.size + 1) 89 (casL (nd ns k).cases ++ [d0, d1, d2, d3])) := hc3
      have HB3 : Hid (Below wr.heap.size wr X3) := HB2.out.grown hg3 (by rw [HS2.out]; omega) (fun q e => by cases e; omega)
      have HX3 : Hid (lstIs X3 wr.heap.size 87 [.int .i64 (nd ns k).kind, .string (nd ns k).id, .string (nd ns k).name, .int .i64 (nd ns k).up, .int .i64 (nd ns k).to, .slice A5 lc (rs k).cc, .int .i64 (nd ns k).els, .slice A7 lb (rs k).bc, .int .i64 (nd ns k).after, .int .i64 (nd ns k).late]) := HXx.out.grown hg3 (by simp)
      have HL4 : Hid ((casL (nd ns k).cases).length = lc * 4) := by show _ = _; rw [casL_len, HLc.out]
      have e0 : X3.cell? ⟨wr.heap.size + 1, lc * 4, none⟩ = some d0 := HC3.out.cell (by rw [← HL4.out]; simp)
      have e1 : X3.cell? ⟨wr.heap.size + 1, lc * 4 + 1, none⟩ = some d1 := HC3.out.cell (by rw [← HL4.out]; simp)
      have e2 : X3.cell? ⟨wr.heap.size + 1, lc * 4 + 2, none⟩ = some d2 := HC3.out.cell (by rw [← HL4.out]; simp)
      have e3 : X3.cell? ⟨wr.heap.size + 1, lc * 4 + 3, none⟩ = some d3 := HC3.out.cell (by rw [← HL4.out]; simp)
      have f0 := HC3.out.free (lc * 4)
      have f1 := HC3.out.free (lc * 4 + 1)
      have f2 := HC3.out.free (lc * 4 + 2)
      have f3 := HC3.out.free (lc * 4 + 3)
      have g5 := HX3.out.cell (i := 5) rfl
      have hlcb : (lc : Int) < (lc : Int) + 1 := by omega
      have hlbb : (lb : Int) < (lb : Int) + 1 := by omega
      obtain ⟨X4, hX4⟩ : ∃ x, (((X3.setCell ⟨wr.heap.size + 1, lc * 4, none⟩ (.int .u8 0)).setCell ⟨wr.heap.size + 1, lc * 4 + 1, none⟩ (.int .i64 0)).setCell ⟨wr.heap.size + 1, lc * 4 + 2, none⟩ (.int .i32 0)).setCell ⟨wr.heap.size + 1, lc * 4 + 3, none⟩ (.int .i64 (-77)) = x := ⟨_, rfl⟩
      have HC4 : Hid (lstIs X4 (wr.heap.size + 1) 89 (casAll (nd ns k).cases)) := by
        rw [← hX4]
        have := (((HC3.out.set (lc * 4) (.int .u8 0)).set (lc * 4 + 1) (.int .i64 0)).set (lc * 4 + 2) (.int .i32 0)).set (lc * 4 + 3) (.int .i64 (-77))
        rw [set_four HL4.out] at this
        exact this
      have HX4 : Hid (lstIs X4 wr.heap.size 87 [.int .i64 (nd ns k).kind, .string (nd ns k).id, .string (nd ns k).name, .int .i64 (nd ns k).up, .int .i64 (nd ns k).to, .slice A5 lc (rs k).cc, .int .i64 (nd ns k).els, .slice A7 lb (rs k).bc, .int .i64 (nd ns k).after, .int .i64 (nd ns k).late]) := by
        rw [← hX4]
        exact (((HX3.out.other (by simp) _).other (by simp) _).other (by simp) _).other (by simp) _
      have HB4 : Hid (Below wr.heap.size wr X4) := by
        rw [← hX4]
        exact (((HB3.out.setCell (by simp) _).setCell (by simp) _).setCell (by simp) _).setCell (by simp) _
      have hs4 : X4.heap.size = wr.heap.size + 2 := by rw [← hX4]; simpa [World.setCell] using HS3.out
      have HS4 : Hid (X4.heap.size = wr.heap.size + 2) := hs4
      have p7 := HX4.out.cell (i := 7) rfl
      obtain ⟨X5, hX5⟩ : ∃ x, X4.alloc (Obj.cells ZB 3) = x := ⟨_, rfl⟩
      have HB5 : Hid (Below wr.heap.size wr X5) := by rw [← hX5]; exact HB4.out.alloc (by rw [hs4]; omega) _
      have HS5 : Hid (X5.heap.size = wr.heap.size + 3) := by rw [← hX5]; show _ = _; simp [hs4]
      have HX5 : Hid (lstIs X5 wr.heap.size 87 [.int .i64 (nd ns k).kind, .string (nd ns k).id, .string (nd ns k).name, .int .i64 (nd ns k).up, .int .i64 (nd ns k).to, .slice A5 lc (rs k).cc, .int .i64 (nd ns k).els, .slice A7 lb (rs k).bc, .int .i64 (nd ns k).after, .int .i64 (nd ns k).late]) := by rw [← hX5]; exact HX4.out.alloc _
      have HC5 : Hid (lstIs X5 (wr.heap.size + 1) 89 (casAll (nd ns k).cases)) := by rw [← hX5]; exact HC4.out.alloc _
      have HD5 : Hid (lstIs X5 (wr.heap.size + 2) 3 ZB.toList) := by rw [← hX5, ← hs4]; show _ = _; have := heap_alloc_new X4 (Obj.cells ZB 3); simpa using this
      have p57 := HX5.out.cell (i := 7) rfl
      have HSrc2 : Hid (0 < lb → ∃ ad, A7 = some ad ∧ ∀ j v, (iv (nd ns k).branches)[j]? = some v → X5.cell? (ad.add j) = some v) := fun h0 => int_src (HNd.out.below HB5.out).bs HA7.out HLb.out h0
      obtain ⟨X6, hcp6, hc6, hg6, hs6⟩ := copy_runs (P := Tryz.prog) X5 35 35 3 3 1 (wr.heap.size + 2) (lb + 1) (lb + 1) A7 lb (rs k).bc ZB.toList 3 (iv (nd ns k).branches) Tryz.underlying35 (by kernel_rfl) (by omega) HD5.out (by rw [iv_len, HLb.out]; omega) HSrc2.out (by rw [iv_len, HLb.out]; simp [HZB.out]) (ints_c2 _)
      obtain ⟨d5, hD5⟩ := one_of (l := ZB.toList) (n := (iv (nd ns k).branches).length) (by rw [iv_len, HLb.out]; simp [HZB.out])
      rw [hD5] at hc6
      have HS6 : Hid (X6.heap.size = wr.heap.size + 3) := hs6.trans HS5.out
      have HC6 : Hid (lstIs X6 (wr.heap.size + 2) 3 (iv (nd ns k).branches ++ [d5])) := hc6
      have HB6 : Hid (Below wr.heap.size wr X6) := HB5.out.grown hg6 (by rw [HS5.out]; omega) (fun q e => by cases e; omega)
      have HX6 : Hid (lstIs X6 wr.heap.size 87 [.int .i64 (nd ns k).kind, .string (nd ns k).id, .string (nd ns k).name, .int .i64 (nd ns k).up, .int .i64 (nd ns k).to, .slice A5 lc (rs k).cc, .int .i64 (nd ns k).els, .slice A7 lb (rs k).bc, .int .i64 (nd ns k).after, .int .i64 (nd ns k).late]) := HX5.out.grown hg6 (by simp)
      have HCc6 : Hid (lstIs X6 (wr.heap.size + 1) 89 (casAll (nd ns k).cases)) := HC5.out.grown hg6 (by simp)
      have HLI : Hid ((iv (nd ns k).branches).length = lb) := by show _ = _; rw [iv_len, HLb.out]
      have e6 : X6.cell? ⟨wr.heap.size + 2, lb, none⟩ = some d5 := HC6.out.cell (by rw [← HLI.out]; simp)
      have f6 := HC6.out.free lb
      have p67 := HX6.out.cell (i := 7) rfl
      obtain ⟨X7, hX7⟩ : ∃ x, X6.setCell ⟨wr.heap.size + 2, lb, none⟩ (.int .i64 (-77)) = x := ⟨_, rfl⟩
      have HI7 : Hid (lstIs X7 (wr.heap.size + 2) 3 (intAll (nd ns k).branches)) := by
        rw [← hX7]
        have := HC6.out.set lb (.int .i64 (-77))
        rw [set_one HLI.out] at this
        exact this
      have HX7 : Hid (lstIs X7 wr.heap.size 87 [.int .i64 (nd ns k).kind, .string (nd ns k).id, .string (nd ns k).name, .int .i64 (nd ns k).up, .int .i64 (nd ns k).to, .slice A5 lc (rs k).cc, .int .i64 (nd ns k).els, .slice A7 lb (rs k).bc, .int .i64 (nd ns k).after, .int .i64 (nd ns k).late]) := by rw [← hX7]; exact HX6.out.other (by simp) _
      have HC7 : Hid (lstIs X7 (wr.heap.size + 1) 89 (casAll (nd ns k).cases)) := by rw [← hX7]; exact HCc6.out.other (by simp) _
      have HB7 : Hid (Below wr.heap.size wr X7) := by rw [← hX7]; exact HB6.out.setCell (by simp) _
      have hs7 : X7.heap.size = wr.heap.size + 3 := by rw [← hX7]; simpa [World.setCell] using HS6.out
      have HS7 : Hid (X7.heap.size = wr.heap.size + 3) := hs7
      have HH7 : Hid (HandAt w X7 w.heap.size id (some ⟨b, o, none⟩) cap ns k k k vc vi cb bb) := HH.out.below HB7.out
      have q1 := HH7.out.hb.cell (i := 1) rfl
      have q2 := HH7.out.hb.cell (i := 2) rfl
      have hszr := HH.out.sz
      clear hc6 hg6 hs6 hD5
      obtain ⟨i0, hi, hz0, hz1, hz2⟩ := info_parts Tryz.info85
      go_wp2_with (at_builtin; go_must (refine wpList_append_own _ rfl (.tmp 61) (.tmp 63) 151 rfl (w.heap.size + 4) 85 i0 (.slice none 0 0) 1 24 Tryz.underlying151 hi hz0 hz1 hz2 rfl (by decide) _ _ _ rfl (HH7.out.cr.alloc _) ⟨wr.heap.size + 3, 0, none⟩ 1 1 [.slice (some ⟨wr.heap.size + 1, 0, none⟩) (lc + 1) (lc + 1)] rfl rfl (slc_c1' _ _ _ _ HS7.out) (slc_c2 _ _ _) (by unfold maxLen; omega) (by omega) (by have := HS7.out; simp <;> omega) ?_))
      intro v9 w9 hown9 hg9 _
      have HH8 : Hid (HandAt w (X7.alloc (Obj.cells #[.slice (some ⟨wr.heap.size + 1, 0, none⟩) (lc + 1) (lc + 1)] 85)) w.heap.size id (some ⟨b, o, none⟩) cap ns k k k vc vi cb bb) := HH7.out.below (b1 _ _)
      obtain ⟨g9, cp9, rfl⟩ := row_shape hown9 (by omega)
      have HA10 : Hid (HandAt w (w9.setCell ⟨w.heap.size + 3, 1, none⟩ (.slice (some ⟨g9, 0, none⟩) (k + 1) cp9)) w.heap.size id (some ⟨b, o, none⟩) cap ns k (k + 1) k (.slice (some ⟨g9, 0, none⟩) (k + 1) cp9) vi (upN cb k (wr.heap.size + 1)) bb) := HH8.out.addC (Nat.le_refl _) (HC7.out.alloc _) (by omega) hown9 rfl (by rw [HLc.out]) hg9
      have HX9 : Hid (lstIs w9 wr.heap.size 87 [.int .i64 (nd ns k).kind, .string (nd ns k).id, .string (nd ns k).name, .int .i64 (nd ns k).up, .int .i64 (nd ns k).to, .slice A5 lc (rs k).cc, .int .i64 (nd ns k).els, .slice A7 lb (rs k).bc, .int .i64 (nd ns k).after, .int .i64 (nd ns k).late]) := (HX7.out.alloc _).grown hg9 (own_ne HH8.out.cr (HX7.out.alloc _) (by decide))
      have HI9 : Hid (lstIs w9 (wr.heap.size + 2) 3 (intAll (nd ns k).branches)) := (HI7.out.alloc _).grown hg9 (own_ne HH8.out.cr (HI7.out.alloc _) (by decide))
      have HHb9 : Hid (lstIs w9 (w.heap.size + 3) 154 [.slice (some ⟨w.heap.size + 2, 0, none⟩) (ns.length + 1) (ns.length + 1), vc, vi]) := HH8.out.hb.grown hg9 (own_ne HH8.out.cr HH8.out.hb (by decide))
      have r1 := HHb9.out.cell (i := 1) rfl
      have r1f := HHb9.out.free 1
      obtain ⟨X10, hX10⟩ : ∃ x, w9.setCell ⟨w.heap.size + 3, 1, none⟩ (.slice (some ⟨g9, 0, none⟩) (k + 1) cp9) = x := ⟨_, rfl⟩
      rw [hX10] at HA10
      have HX10 : Hid (lstIs X10 wr.heap.size 87 [.int .i64 (nd ns k).kind, .string (nd ns k).id, .string (nd ns k).name, .int .i64 (nd ns k).up, .int .i64 (nd ns k).to, .slice A5 lc (rs k).cc, .int .i64 (nd ns k).els, .slice A7 lb (rs k).bc, .int .i64 (nd ns k).after, .int .i64 (nd ns k).late]) := by rw [← hX10]; exact HX9.out.other (by simp <;> omega) _
      have HI10 : Hid (lstIs X10 (wr.heap.size + 2) 3 (intAll (nd ns k).branches)) := by rw [← hX10]; exact HI9.out.other (by simp <;> omega) _
      have HS10 : Hid (wr.heap.size + 3 ≤ X10.heap.size) := by
        rw [← hX10]
        have h1 := hg9.size
        have h2 := HS7.out
        show _ ≤ _
        simp [World.setCell] at h1 ⊢
        omega
      have r2 := HA10.out.hb.cell (i := 2) rfl
      clear hown9 hg9 q1 q2 hX7 hs7 p67 e6 f6 hcp6 hX5 p57 p7 hs4 hX4 g5 f0 f1 f2 f3 e0 e1 e2 e3 hcp hx5 hX2 hmk2 hmk3 c0 c1 c2 c3 c4 c5 c6 c7 c8 c9 hx1
      obtain ⟨i1, hi', hz0', hz1', hz2'⟩ := info_parts Tryz.info35
      go_wp2_with (at_builtin; go_must (refine wpList_append_own _ rfl (.tmp 71) (.tmp 73) 152 rfl (w.heap.size + 4) 35 i1 (.slice none 0 0) 1 24 Tryz.underlying152 hi' hz0' hz1' hz2' rfl (by decide) _ _ _ rfl (HA10.out.ir.alloc _) ⟨X10.heap.size, 0, none⟩ 1 1 [.slice (some ⟨wr.heap.size + 2, 0, none⟩) (lb + 1) (lb + 1)] rfl rfl (slc_c1' _ _ _ _ rfl) (slc_c2 _ _ _) (by unfold maxLen; omega) (by omega) (by have := HS10.out; simp <;> omega) ?_))
      intro v12 w12 hown12 hg12 _
      have HH11 : Hid (HandAt w (X10.alloc (Obj.cells #[.slice (some ⟨wr.heap.size + 2, 0, none⟩) (lb + 1) (lb + 1)] 35)) w.heap.size id (some ⟨b, o, none⟩) cap ns k (k + 1) k (.slice (some ⟨g9, 0, none⟩) (k + 1) cp9) vi (upN cb k (wr.heap.size + 1)) bb) := HA10.out.below (b1 _ _)
      obtain ⟨g12, cp12, rfl⟩ := row_shape hown12 (by omega)
      have HA13 : Hid (HandAt w (w12.setCell ⟨w.heap.size + 3, 2, none⟩ (.slice (some ⟨g12, 0, none⟩) (k + 1) cp12)) w.heap.size id (some ⟨b, o, none⟩) cap ns k (k + 1) (k + 1) (.slice (some ⟨g9, 0, none⟩) (k + 1) cp9) (.slice (some ⟨g12, 0, none⟩) (k + 1) cp12) (upN cb k (wr.heap.size + 1)) (upN bb k (wr.heap.size + 2))) := HH11.out.addI (Nat.le_refl _) (HI10.out.alloc _) (by omega) hown12 rfl (by rw [HLb.out]) hg12
      have HX12 : Hid (lstIs w12 wr.heap.size 87 [.int .i64 (nd ns k).kind, .string (nd ns k).id, .string (nd ns k).name, .int .i64 (nd ns k).up, .int .i64 (nd ns k).to, .slice A5 lc (rs k).cc, .int .i64 (nd ns k).els, .slice A7 lb (rs k).bc, .int .i64 (nd ns k).after, .int .i64 (nd ns k).late]) := (HX10.out.alloc _).grown hg12 (own_ne HH11.out.ir (HX10.out.alloc _) (by decide))
      have HHb12 : Hid (lstIs w12 (w.heap.size + 3) 154 [.slice (some ⟨w.heap.size + 2, 0, none⟩) (ns.length + 1) (ns.length + 1), .slice (some ⟨g9, 0, none⟩) (k + 1) cp9, vi]) := HH11.out.hb.grown hg12 (own_ne HH11.out.ir HH11.out.hb (by decide))
      have s2 := HHb12.out.cell (i := 2) rfl
      have s2f := HHb12.out.free 2
      obtain ⟨X13, hX13⟩ : ∃ x, w12.setCell ⟨w.heap.size + 3, 2, none⟩ (.slice (some ⟨g12, 0, none⟩) (k + 1) cp12) = x := ⟨_, rfl⟩
      rw [hX13] at HA13
      have HX13 : Hid (lstIs X13 wr.heap.size 87 [.int .i64 (nd ns k).kind, .string (nd ns k).id, .string (nd ns k).name, .int .i64 (nd ns k).up, .int .i64 (nd ns k).to, .slice A5 lc (rs k).cc, .int .i64 (nd ns k).els, .slice A7 lb (rs k).bc, .int .i64 (nd ns k).after, .int .i64 (nd ns k).late]) := by rw [← hX13]; exact HX12.out.other (by simp <;> omega) _
      have t5 := HX13.out.cell (i := 5) rfl
      have t7 := HX13.out.cell (i := 7) rfl
      have t5f := HX13.out.free 5
      have t7f := HX13.out.free 7
      clear hown12 hg12 r1 r1f r2 hX10
      obtain ⟨X15, hX15⟩ : ∃ x, (X13.setCell ⟨wr.heap.size, 5, none⟩ (.slice (some ⟨wr.heap.size + 1, 0, none⟩) lc (lc + 1))).setCell ⟨wr.heap.size, 7, none⟩ (.slice (some ⟨wr.heap.size + 2, 0, none⟩) lb (lb + 1)) = x := ⟨_, rfl⟩
      have HX15 : Hid (lstIs X15 wr.heap.size 87 [.int .i64 (nd ns k).kind, .string (nd ns k).id, .string (nd ns k).name, .int .i64 (nd ns k).up, .int .i64 (nd ns k).to, .slice (some ⟨wr.heap.size + 1, 0, none⟩) lc (lc + 1), .int .i64 (nd ns k).els, .slice (some ⟨wr.heap.size + 2, 0, none⟩) lb (lb + 1), .int .i64 (nd ns k).after, .int .i64 (nd ns k).late]) := by
        rw [← hX15]
        exact (HX13.out.set 5 _).set 7 _
      have HA15 : Hid (HandAt w X15 w.heap.size id (some ⟨b, o, none⟩) cap ns k (k + 1) (k + 1) (.slice (some ⟨g9, 0, none⟩) (k + 1) cp9) (.slice (some ⟨g12, 0, none⟩) (k + 1) cp12) (upN cb k (wr.heap.size + 1)) (upN bb k (wr.heap.size + 2))) := by
        rw [← hX15]
        exact (HA13.out.other43 HX13.out (by omega) 5 _).other43 (HX13.out.set 5 _) (by omega) 7 _
      have HS15 : Hid True := trivial
      obtain ⟨f, GF, hNF⟩ := HA15.out.gb
      have HGF : Hid (X15.rowIs (w.heap.size + 2) 87 ((ns.length + 1) * 10) f) := GF
      have HNF : Hid (∀ j, j < k → NodF f (j * 10) (nd ns j) (rawH ns (upN cb k (wr.heap.size + 1)) (upN bb k (wr.heap.size + 2)) j)) := hNF
      have hh0 : X15.cell? ⟨w.heap.size + 3, 0, none⟩ = some (.slice (some ⟨w.heap.size + 2, 0, none⟩) (n + 1) (n + 1)) := by have := HA15.out.hb.cell (i := 0) rfl; rw [HN.out] at this; exact this
      have gc0 := GF.cell (i := k * 10) (by rw [HN.out]; omega)
      have gz0 := GF.frozen (k * 10)
      have gc1 := GF.cell (i := k * 10 + 1) (by rw [HN.out]; omega)
      have gz1 := GF.frozen (k * 10 + 1)
      have gc2 := GF.cell (i := k * 10 + 2) (by rw [HN.out]; omega)
      have gz2 := GF.frozen (k * 10 + 2)
      have gc3 := GF.cell (i := k * 10 + 3) (by rw [HN.out]; omega)
      have gz3 := GF.frozen (k * 10 + 3)
      have gc4 := GF.cell (i := k * 10 + 4) (by rw [HN.out]; omega)
      have gz4 := GF.frozen (k * 10 + 4)
      have gc5 := GF.cell (i := k * 10 + 5) (by rw [HN.out]; omega)
      have gz5 := GF.frozen (k * 10 + 5)
      have gc6 := GF.cell (i := k * 10 + 6) (by rw [HN.out]; omega)
      have gz6 := GF.frozen (k * 10 + 6)
      have gc7 := GF.cell (i := k * 10 + 7) (by rw [HN.out]; omega)
      have gz7 := GF.frozen (k * 10 + 7)
      have gc8 := GF.cell (i := k * 10 + 8) (by rw [HN.out]; omega)
      have gz8 := GF.frozen (k * 10 + 8)
      have gc9 := GF.cell (i := k * 10 + 9) (by rw [HN.out]; omega)
      have gz9 := GF.frozen (k * 10 + 9)
      have xc0 := HX15.out.cell (i := 0) rfl
      have xc1 := HX15.out.cell (i := 1) rfl
      have xc2 := HX15.out.cell (i := 2) rfl
      have xc3 := HX15.out.cell (i := 3) rfl
      have xc4 := HX15.out.cell (i := 4) rfl
      have xc5 := HX15.out.cell (i := 5) rfl
      have xc6 := HX15.out.cell (i := 6) rfl
      have xc7 := HX15.out.cell (i := 7) rfl
      have xc8 := HX15.out.cell (i := 8) rfl
      have xc9 := HX15.out.cell (i := 9) rfl
      have hkb1 : (k : Int) < (n : Int) + 1 := by omega
      clear GF hNF
      go_wp2_with fail
      clear hX15 t5 t7 t5f t7f s2 s2f hX13
      go_region
      all_goals go_wp2_with fail
      all_goals exact ⟨⟨k + 1, _, _, _, _, by omega, by go_num, HA15.out.putN (by simp [upN, HLc.out]) (by simp [upN, HLb.out])⟩, by simp [intOf]; omega⟩
    · obtain rfl : k = n := by omega
      obtain ⟨f, GF, hNF⟩ := HH.out.gb
      have hh0 : wr.cell? ⟨w.heap.size + 3, 0, none⟩ = some (.slice (some ⟨w.heap.size + 2, 0, none⟩) (k + 1) (k + 1)) := by have := HH.out.hb.cell (i := 0) rfl; rw [HN.out] at this; exact this
      have gc0 := GF.cell (i := k * 10) (by rw [HN.out]; omega)
      have gz0 := GF.frozen (k * 10)
      have gc1 := GF.cell (i := k * 10 + 1) (by rw [HN.out]; omega)
      have gz1 := GF.frozen (k * 10 + 1)
      have gc2 := GF.cell (i := k * 10 + 2) (by rw [HN.out]; omega)
      have gz2 := GF.frozen (k * 10 + 2)
      have gc3 := GF.cell (i := k * 10 + 3) (by rw [HN.out]; omega)
      have gz3 := GF.frozen (k * 10 + 3)
      have gc4 := GF.cell (i := k * 10 + 4) (by rw [HN.out]; omega)
      have gz4 := GF.frozen (k * 10 + 4)
      have gc5 := GF.cell (i := k * 10 + 5) (by rw [HN.out]; omega)
      have gz5 := GF.frozen (k * 10 + 5)
      have gc6 := GF.cell (i := k * 10 + 6) (by rw [HN.out]; omega)
      have gz6 := GF.frozen (k * 10 + 6)
      have gc7 := GF.cell (i := k * 10 + 7) (by rw [HN.out]; omega)
      have gz7 := GF.frozen (k * 10 + 7)
      have gc8 := GF.cell (i := k * 10 + 8) (by rw [HN.out]; omega)
      have gz8 := GF.frozen (k * 10 + 8)
      have gc9 := GF.cell (i := k * 10 + 9) (by rw [HN.out]; omega)
      have gz9 := GF.frozen (k * 10 + 9)
      have hkb1 : (k : Int) < (k : Int) + 1 := by omega
      have m0 := HH.out.mb.cell (i := 0) rfl
      have m1f := HH.out.mb.free 1
      have rb0 := HH.out.rb.cell (i := 0) rfl
      have rb1 := HH.out.rb.cell (i := 1) rfl
      have rb0f := HH.out.rb.free 0
      have rb1f := HH.out.rb.free 1
      clear GF hNF hh
      go_wp2_with fail
      refine bodyPost_ret (v := .tuple #[.agg #[.string id, .slice (some ⟨w.heap.size + 2, 0, none⟩) k (k + 1)], .pointer (some ⟨w.heap.size + 3, 0, none⟩)]) ?_ rfl ?_
      · rw [results_cell_tmp rfl]
        go_simp
      · refine ⟨cb, bb, rfl, vc, vi, Handed.of (W := wr) (id := id) (a := A) (cap := cap) ?_ (fun q h0 h1 => ?_) ?_⟩
        · rw [HN.out]; exact HH.out
        · rw [HN.out]
          rw [Below.heap_setCell _ _ _ _ (by simpa using h1), Below.heap_setCell _ _ _ _ (by simpa using h1), Below.heap_setCell _ _ _ _ (by simpa using h0)]
          exact congrArg (fun W : World => W.heap[q]?) (by unfold setTen; rfl)
        · exact ((((((((((((Below.refl _ _).setCell (by simp) _).setCell (by simp) _).setCell (by simp) _).setCell (by simp) _).setCell (by simp) _).setCell (by simp) _).setCell (by simp) _).setCell (by simp) _).setCell (by simp) _).setCell (by simp) _).setCell (by simp) _).setCell (by simp) _ |>.setCell (by simp) _
end Go.Proofs.YtjkpbpgeedihhaaGreatDoor
