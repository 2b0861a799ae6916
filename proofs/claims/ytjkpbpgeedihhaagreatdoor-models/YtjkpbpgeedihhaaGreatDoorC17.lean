import Derived.Test.YtjkpbpgeedihhaaGreatDoorC16
set_option linter.all false
namespace Go.Proofs.YtjkpbpgeedihhaaGreatDoor
open Go.RowKit
open M FerryM
theorem brT_sz (ns : List Nod) (l : List Int) (hids : ∀ j, (nd ns j).id.size ≤ 40) : ∀ k, (brT ns l ⟨#[]⟩ k).size ≤ 300 * k
  | 0 => by simp [brT, ByteArray.size]
  | k + 1 => by
    have := brT_sz ns l hids k
    have h2 := leads_sz (ns := ns) (j := (l.getD k 0).toNat) (hids _)
    have e1 : (⟨#[60, 98, 114, 97, 110, 99, 104]⟩ : ByteArray).size = 7 := rfl
    have e2 : (⟨#[47, 62]⟩ : ByteArray).size = 2 := rfl
    simp only [brT, ByteArray.size_append]
    omega
theorem brT_ne (ns : List Nod) (l : List Int) (c : ByteArray) (k : Nat) (hk : 0 < k) : ((brT ns l c k).toList == []) = false := by
  cases k with
  | zero => omega
  | succ k => exact app_ne _ _ (by decide)
theorem rn_br {n : Nod} (h : rightNodeB n = true) (hk : n.kind = 4) : 2 ≤ n.branches.length := by
  unfold rightNodeB at h
  split at h
  · cases h
  split at h
  · cases h
  split at h
  · cases h
  rename_i h3
  omega
set_option maxHeartbeats 4000000 in
set_option maxRecDepth 100000 in
theorem nodeText_k4 (id : ByteArray) (b o cap : Nat) (ns : List Nod) (rs : Nat → Raw) (i : Nat) (inF : Nat → ByteArray) (w : World) (hm : ModIn w (some ⟨b, o, none⟩) ns rs) (hg : Goods ns) (hi : i < ns.length) (hk : (nd ns i).kind = 4) :
    Calls Tryz.prog 127 #[modV id (some ⟨b, o, none⟩) ns.length cap, .int .i64 i] w fun e w' => e = .returned (.string (nodeT ns inF i)) ∧ Below w.heap.size w w' := by
  have hok : NodeOk ns (nd ns i) := nodeOk_of (hg.nodes i hi).1
  have h24 := hg.len
  have hrn := (hg.nodes i hi).1
  obtain ⟨n, hn⟩ : ∃ n, ns.length = n := ⟨_, rfl⟩
  have HN : Hid (ns.length = n) := hn
  have HMo : Hid (ModIn w (some ⟨b, o, none⟩) ns rs) := hm
  have HGo : Hid (Goods ns) := hg
  have HOk : Hid (NodeOk ns (nd ns i)) := hok
  have hc : ∀ W, Below w.heap.size w W → NodCells W b (o + i * 10) (nd ns i) (rs i) ∧ NodIn W (nd ns i) (rs i) := by
    intro W hW
    obtain ⟨b', o', e, h⟩ := (hm.below hW).cells i (by omega)
    cases e; exact ⟨h, (hm.below hW).node i (by omega)⟩
  have HC : Hid (∀ W, Below w.heap.size w W → NodCells W b (o + i * 10) (nd ns i) (rs i) ∧ NodIn W (nd ns i) (rs i)) := hc
  have HIds : Hid (∀ j, j < n → (nd ns j).id.size ≤ 40) := fun j hj => (nodeOk_of (ns := ns) (hg.nodes j (by omega)).1).id
  rw [hn] at hi h24
  unfold modV
  simp only [SlV, hn, Option.map_some]
  clear hc hm hn hok hg
  have hib : (i : Int) < n := by omega
  have HAll : Hid (∀ j, (nd ns j).id.size ≤ 40) := fun j => if hj : j < n then HIds.out j hj else by
    have : nd ns j = zN := by unfold nd; rw [List.getD_eq_getElem?_getD, List.getElem?_eq_none (by rw [HN.out]; omega)]; rfl
    rw [this]; decide
  have HLate : Hid ((nd ns i).after ≠ 0 → 0 ≤ (nd ns i).late ∧ (nd ns i).late < ns.length) := fun h => late_way HGo.out (by rw [HN.out]; exact hi) (HOk.out.late h)
  have hto : (nd ns i).to = -1 := HOk.out.noto (by rw [hk]; rfl)
  have HTo : Hid ((nd ns i).to = -1) := hto
  have hels : (nd ns i).els = -1 := HOk.out.noels (by rw [hk]; decide)
  have HEls : Hid ((nd ns i).els = -1) := hels
  have hcl : (nd ns i).cases.length = 0 := by rw [HOk.out.nocas (by rw [hk]; decide)]; rfl
  have HCl : Hid ((nd ns i).cases = []) := HOk.out.nocas (by rw [hk]; decide)
  obtain ⟨nb, hbl⟩ : ∃ x, (nd ns i).branches.length = x := ⟨_, rfl⟩
  have HBl : Hid ((nd ns i).branches.length = nb) := hbl
  have hnb : nb ≤ 6 := by rw [← hbl]; exact HOk.out.br
  have hnb0 : 0 < nb := by have := rn_br hrn hk; omega
  have HLB : Hid (∀ j W, j < nb → Below w.heap.size w W → ∃ t : Nat, (nd ns i).branches.getD j 0 = (t : Int) ∧ (t : Int) < n ∧ Calls Tryz.prog 210 #[.agg #[.string id, .slice (some ⟨b, o, none⟩) n cap], .int .i64 t] W fun e w' => e = .returned (.string (leadsT ns t)) ∧ Below W.heap.size W w') := by
    intro j W hj hW
    have hmem : (nd ns i).branches.getD j 0 ∈ (nd ns i).branches := by rw [List.getD_eq_getElem?_getD, List.getElem?_eq_getElem (by omega)]; exact List.getElem_mem _
    have hway := br_way HGo.out (by rw [HN.out]; exact hi) hmem
    rw [HN.out] at hway
    obtain ⟨t, ht⟩ : ∃ t : Nat, (nd ns i).branches.getD j 0 = t := ⟨((nd ns i).branches.getD j 0).toNat, by omega⟩
    have htn : t < n := by omega
    have := leads_any id (some ⟨b, o, none⟩) cap ns rs t W (HMo.out.below hW) (by rw [HN.out]; exact htn) (HIds.out t htn)
    unfold modV at this
    simp only [SlV, HN.out, Option.map_some] at this
    exact ⟨t, ht, by omega, this⟩
  have HBz : Hid (∀ j, (brT ns (nd ns i).branches ⟨#[]⟩ j).size ≤ 300 * j) := fun j => brT_sz ns _ HAll.out j
  have hnm : (nd ns i).name = ⟨#[]⟩ := bytes_inj (by rw [HOk.out.noname (by rw [hk]; decide), ByteArray.toList_eq])
  have HNm : Hid ((nd ns i).name = ⟨#[]⟩) := hnm
  clear hrn
  have HK : Hid ((nd ns i).kind = 4) := hk
  obtain ⟨W2, hW2⟩ : ∃ W2, (w.alloc (Obj.cells #[.string id, .slice (some ⟨b, o, none⟩) n cap] 25)).alloc (Obj.cells #[.string ⟨#[115, 116, 97, 114, 116]⟩, .string ⟨#[116, 97, 115, 107]⟩, .string ⟨#[99, 104, 111, 105, 99, 101]⟩, .string ⟨#[102, 111, 114, 107]⟩, .string ⟨#[106, 111, 105, 110]⟩, .string ⟨#[115, 117, 98]⟩, .string ⟨#[101, 110, 100]⟩] 9) = W2 := ⟨_, rfl⟩
  have HB2 : Hid (Below w.heap.size w W2) := by rw [← hW2]; exact ((Below.refl _ _).alloc (Nat.le_refl _) _).alloc (by simp) _
  have hs2 : W2.heap.size = w.heap.size + 2 := by rw [← hW2]; simp
  obtain ⟨hcell, hnode⟩ := HC.out W2 HB2.out
  obtain ⟨c0, c1, c2, c3, c4, c5, c6, c7, c8, c9⟩ := hcell
  simp only [SlV] at c5 c7
  obtain ⟨A5, hA5⟩ : ∃ A, (rs i).ca = A := ⟨_, rfl⟩
  obtain ⟨A7, hA7⟩ : ∃ A, (rs i).ba = A := ⟨_, rfl⟩
  have HA5 : Hid ((rs i).ca = A5) := hA5
  have HA7 : Hid ((rs i).ba = A7) := hA7
  rw [hA5, hcl] at c5
  rw [hA7, hbl] at c7
  rw [hnm] at c2
  rw [hto] at c4
  rw [hels] at c6
  rw [hk] at c0
  have HTm : Hid (∀ W, Below w.heap.size w W → Calls Tryz.prog 212 #[.agg #[.string id, .slice (some ⟨b, o, none⟩) n cap], .agg #[.int .i64 4, .string (nd ns i).id, .string ⟨#[]⟩, .int .i64 (nd ns i).up, .int .i64 (-1), .slice A5 0 (rs i).cc, .int .i64 (-1), .slice A7 nb (rs i).bc, .int .i64 (nd ns i).after, .int .i64 (nd ns i).late]] W fun e w' => e = .returned (.string (timerT ns (nd ns i))) ∧ Below W.heap.size W w') := by
    intro W hW
    have := timerText_any id (some ⟨b, o, none⟩) cap ns rs (nd ns i) (rs i) W (HMo.out.below hW) HOk.out.id HAll.out HOk.out.aft HLate.out
    unfold modV nodV at this
    simp only [SlV, HN.out, Option.map_some, hA5, hA7, hcl, hbl, hnm, hto, hels, hk] at this
    exact this
  have HTz : Hid ((timerT ns (nd ns i)).size ≤ 1000) := timer_sz HOk.out HAll.out
  clear hA5 hA7 hnode hk hto hels hcl hbl hnm
  obtain ⟨W3, hW3⟩ : ∃ W3, W2.alloc (Obj.cells #[.int .i64 4, .string (nd ns i).id, .string ⟨#[]⟩, .int .i64 (nd ns i).up, .int .i64 (-1), .slice A5 0 (rs i).cc, .int .i64 (-1), .slice A7 nb (rs i).bc, .int .i64 (nd ns i).after, .int .i64 (nd ns i).late] 87) = W3 := ⟨_, rfl⟩
  have HB3 : Hid (Below w.heap.size w W3) := by rw [← hW3]; exact HB2.out.alloc (by rw [hs2]; omega) _
  have hs3 : W3.heap.size = w.heap.size + 3 := by rw [← hW3]; simp [hs2]
  have HX : Hid (∀ W, Below W3.heap.size W3 W → (W.cell? ⟨w.heap.size, 0, none⟩ = some (.string id) ∧ W.cell? ⟨w.heap.size, 1, none⟩ = some (.slice (some ⟨b, o, none⟩) n cap)) ∧ NodCells' W (w.heap.size + 2) 4 (nd ns i).id ⟨#[]⟩ (nd ns i).up (-1) A5 0 (rs i).cc (-1) A7 nb (rs i).bc (nd ns i).after (nd ns i).late) := by
    intro W hW
    have k0 := fun (x : Nat) => hW.cell (p := ⟨w.heap.size, x, none⟩) (by show w.heap.size < _; omega)
    have k2 := fun (x : Nat) => hW.cell (p := ⟨w.heap.size + 2, x, none⟩) (by show w.heap.size + 2 < _; omega)
    have m2 := fun (p : Addr) (h : p.block < W2.heap.size) => cell_alloc_lt W2 (Obj.cells #[.int .i64 4, .string (nd ns i).id, .string ⟨#[]⟩, .int .i64 (nd ns i).up, .int .i64 (-1), .slice A5 0 (rs i).cc, .int .i64 (-1), .slice A7 nb (rs i).bc, .int .i64 (nd ns i).after, .int .i64 (nd ns i).late] 87) p h
    refine ⟨⟨?_, ?_⟩, ?_⟩
    · rw [k0, ← hW3, m2 _ (by show w.heap.size < _; omega), ← hW2]; simp [go_sem]
    · rw [k0, ← hW3, m2 _ (by show w.heap.size < _; omega), ← hW2]; simp [go_sem]
    · rw [← hs2, ← hW3] at k2
      rw [← hs2]
      exact ⟨by rw [k2]; simp [go_sem], by rw [k2]; simp [go_sem], by rw [k2]; simp [go_sem], by rw [k2]; simp [go_sem], by rw [k2]; simp [go_sem], by rw [k2]; simp [go_sem], by rw [k2]; simp [go_sem], by rw [k2]; simp [go_sem], by rw [k2]; simp [go_sem], by rw [k2]; simp [go_sem]⟩
  have HW3 : Hid (W2.alloc (Obj.cells #[.int .i64 4, .string (nd ns i).id, .string ⟨#[]⟩, .int .i64 (nd ns i).up, .int .i64 (-1), .slice A5 0 (rs i).cc, .int .i64 (-1), .slice A7 nb (rs i).bc, .int .i64 (nd ns i).after, .int .i64 (nd ns i).late] 87) = W3) := hW3
  have HS3 : Hid (W3.heap.size = w.heap.size + 3) := hs3
  have HBX : Hid (∀ W, Below W3.heap.size W3 W → Below w.heap.size w W) := fun W hW => HB3.out.trans (hW.mono (by rw [HS3.out]; omega))
  have y0 : W2.cell? ⟨w.heap.size, 0, none⟩ = some (.string id) := by rw [← hW2]; simp [go_sem]
  have y1 : W2.cell? ⟨w.heap.size, 1, none⟩ = some (.slice (some ⟨b, o, none⟩) n cap) := by rw [← hW2]; simp [go_sem]
  have yn : W2.cell? ⟨w.heap.size + 1, 3, none⟩ = some (.string ⟨#[102, 111, 114, 107]⟩) := by rw [← hW2]; simp [go_sem]
  clear hs3 hW3
  have hq := fun W => quoted_q ⟨#[105, 100]⟩ (nd ns i).id W (by decide) HOk.out.id
  have hz1 := qT_size ⟨#[105, 100]⟩ (nd ns i).id (by decide) HOk.out.id
  obtain ⟨Q1, e1⟩ : ∃ Q, qT ⟨#[105, 100]⟩ (nd ns i).id = Q := ⟨_, rfl⟩
  rw [e1] at hq hz1
  have HQ1 : Hid (qT ⟨#[105, 100]⟩ (nd ns i).id = Q1) := e1
  obtain ⟨T, eT⟩ : ∃ T, timerT ns (nd ns i) = T := ⟨_, rfl⟩
  have HT : Hid (timerT ns (nd ns i) = T) := eT
  rw [eT] at HTm HTz
  clear e1 eT
  go_enter Tryz.func127, Tryz.ntmps127
  go_wp2_with fail
  rw [HW3.out]
  refine (hq W3).mono ?_
  rintro e w4 ⟨rfl, hw4⟩
  rw [hw4]
  obtain ⟨⟨x0, x1⟩, xc⟩ := HX.out W3 (Below.refl _ _)
  obtain ⟨d0, d1, d2, d3, d4, d5, d6, d7, d8, d9⟩ := xc
  clear hW2 c0 c1 c2 c3 c4 c5 c6 c7 c8 c9 y0 y1 yn hw4 hq hs2
  go_wp2_with fail
  refine wp_loop_rounds 1 ?_
  rw [rounds_succ]
  go_wp2_with fail
  clear x0 x1 d0 d1 d2 d3 d4 d5 d6 d7 d8 d9
  go_loopw [11, 15] (fun v q wr => ∃ j : Nat, j ≤ nb ∧ q = .int .i64 j ∧ v = .string (brT ns (nd ns i).branches ⟨#[]⟩ j) ∧ Below W3.heap.size W3 wr) (fun _ q _ => nb - (intOf q).toNat)
  case atStart => exact ⟨0, Nat.zero_le _, rfl, rfl, Below.refl _ _⟩
  case round =>
    obtain ⟨j, hj, rfl, rfl, hbw⟩ := hrel
    have HBW : Hid (Below W3.heap.size W3 wr) := hbw
    clear hbw
    obtain ⟨⟨x0, x1⟩, xc⟩ := HX.out wr HBW.out
    obtain ⟨d0, d1, d2, d3, d4, d5, d6, d7, d8, d9⟩ := xc
    have hcz := HBz.out j
    by_cases hjc : j < nb
    · have hjb : (j : Int) < nb := by omega
      obtain ⟨cb, co, ec, cc0⟩ := (HC.out wr (HBX.out wr HBW.out)).2.bs j (by rw [HBl.out]; exact hjc)
      have hA7' := HA7.out
      rw [ec] at hA7'
      try simp only [Option.map_some] at hA7'
      rw [← hA7'] at d7
      obtain ⟨t, ht, htn, _⟩ := HLB.out j wr hjc (HBX.out wr HBW.out)
      have HCt : Hid (∀ y : BW wr, Calls Tryz.prog 210 #[.agg #[.string id, .slice (some ⟨b, o, none⟩) n cap], .int .i64 t] y.val fun e w' => e = .returned (.string (leadsT ns t)) ∧ Below y.val.heap.size y.val w') := by
        intro y
        obtain ⟨t', ht', _, h'⟩ := HLB.out j y.val hjc ((HBX.out wr HBW.out).trans (y.bel.mono (HBX.out wr HBW.out).size))
        have : t' = t := by omega
        rw [this] at h'
        exact h'
      have hcl1 := leads_sz (ns := ns) (j := t) (HAll.out t)
      obtain ⟨LT, hLT⟩ : ∃ x, leadsT ns t = x := ⟨_, rfl⟩
      have HCC : Hid (brT ns (nd ns i).branches ⟨#[]⟩ (j + 1) = ((brT ns (nd ns i).branches ⟨#[]⟩ j ++ ⟨#[60, 98, 114, 97, 110, 99, 104]⟩) ++ LT) ++ ⟨#[47, 62]⟩) := by
        show ((brT ns (nd ns i).branches ⟨#[]⟩ j ++ ⟨#[60, 98, 114, 97, 110, 99, 104]⟩) ++ leadsT ns ((nd ns i).branches.getD j 0).toNat) ++ ⟨#[47, 62]⟩ = _
        rw [ht, Int.toNat_natCast, hLT]
      rw [ht] at cc0
      rw [hLT] at HCt hcl1
      have hne : Nonempty (BW wr) := ⟨⟨wr, Below.refl _ _⟩⟩
      have z0 := fun (y : BW wr) => (bw_cell y x0)
      have z1 := fun (y : BW wr) => (bw_cell y x1)
      have z7 := fun (y : BW wr) => (bw_cell y d7)
      have v0 := fun (y : BW wr) => (bw_cell y cc0)
      clear ht hLT hA7' ec
      go_wp2_with fail
      refine wp_region_below (by kernel_rfl) (by kernel_rfl) ?_
      repeat (go_big_quiet_step (first | (go_at_call 210; exact Calls.bw _ (HCt.out _))))
      refine wpQuiet_nil ?_
      intro _ hw'
      obtain ⟨y, rfl⟩ := hw'
      go_wp2_with fail
      exact ⟨⟨j + 1, by omega, by go_num, by rw [HCC.out], HBW.out.trans (y.bel.mono HBW.out.size)⟩, by simp [intOf]; omega⟩
    · obtain rfl : j = nb := by omega
      obtain ⟨IN, hIN⟩ : ∃ x, brT ns (nd ns i).branches ⟨#[]⟩ j = x := ⟨_, rfl⟩
      have HIN : Hid (brT ns (nd ns i).branches ⟨#[]⟩ (nd ns i).branches.length = IN) := by rw [HBl.out]; exact hIN
      have hne2 : (IN.toList == []) = false := by rw [← hIN]; exact brT_ne _ _ _ _ hnb0
      rw [hIN] at hcz ⊢
      clear hIN
      have HB5 : Hid (Below W3.heap.size W3 wr) := HBW.out
      have HEq : Hid (nodeT ns inF i = (((((((⟨#[60]⟩ ++ ⟨#[102, 111, 114, 107]⟩) ++ Q1) ++ ⟨#[62]⟩) ++ IN) ++ ⟨#[60, 47]⟩) ++ ⟨#[102, 111, 114, 107]⟩) ++ ⟨#[62]⟩) ++ T) := by
        show nodeT ns inF i = _
        have hx : ¬ IN.data.toList = [] := by have := hne2; rw [ByteArray.toList_eq] at this; simpa using this
        have hx2 : ¬ IN.data = #[] := fun e => hx (by rw [e])
        have hx3 := HIN.out
        simp [nodeT, shutT, headT, innerT, elseT, casesT, nmS, ByteArray.toList_eq, HK.out, HTo.out, HEls.out, HCl.out, HNm.out, HQ1.out, HT.out, hx3, hx, hx2]
      go_wp2_with fail
      refine (HTm.out wr (HBX.out wr HB5.out)).mono ?_
      rintro e w6 ⟨rfl, hb6⟩
      have HB6 : Hid (Below w.heap.size w w6) := (HBX.out wr HB5.out).trans (hb6.mono (HBX.out wr HB5.out).size)
      have hTz := HTz.out
      clear hb6
      go_wp2_with fail
      go_ret
      exact ⟨congrArg (fun x => Ending.returned (Value.string x)) HEq.out.symm, HB6.out⟩
theorem nodeText_any (id : ByteArray) (b o cap : Nat) (ns : List Nod) (rs : Nat → Raw) (i : Nat) (inF : Nat → ByteArray) (w : World) (hm : ModIn w (some ⟨b, o, none⟩) ns rs) (hg : Goods ns) (hi : i < ns.length)
    (hin : (nd ns i).kind = 6 → (inF i).size ≤ 100000000000000 ∧ ∀ W, Below w.heap.size w W → Calls Tryz.prog 75 #[modV id (some ⟨b, o, none⟩) ns.length cap, .int .i64 i] W fun e w' => e = .returned (.string (inF i)) ∧ Below W.heap.size W w') :
    Calls Tryz.prog 127 #[modV id (some ⟨b, o, none⟩) ns.length cap, .int .i64 i] w fun e w' => e = .returned (.string (nodeT ns inF i)) ∧ Below w.heap.size w w' := by
  have hok : NodeOk ns (nd ns i) := nodeOk_of (hg.nodes i hi).1
  have hk := hok.kind
  by_cases h1 : (nd ns i).kind = 1
  · exact nodeText_k1 id b o cap ns rs i inF w hm hg hi h1
  by_cases h2 : (nd ns i).kind = 2
  · by_cases hn : (nd ns i).name.toList = []
    · exact nodeText_k2 id b o cap ns rs i inF w hm hg hi h2 (bytes_inj (by rw [hn, ByteArray.toList_eq]))
    · exact nodeText_k2n id b o cap ns rs i inF w hm hg hi h2 hn
  by_cases h3 : (nd ns i).kind = 3
  · exact nodeText_k3 id b o cap ns rs i inF w hm hg hi h3
  by_cases h4 : (nd ns i).kind = 4
  · exact nodeText_k4 id b o cap ns rs i inF w hm hg hi h4
  by_cases h5 : (nd ns i).kind = 5
  · exact nodeText_k5 id b o cap ns rs i inF w hm hg hi h5
  by_cases h6 : (nd ns i).kind = 6
  · exact nodeText_k6 id b o cap ns rs i inF w hm hg hi h6 (hin h6).1 (hin h6).2
  · exact nodeText_k7 id b o cap ns rs i inF w hm hg hi (by omega)
end Go.Proofs.YtjkpbpgeedihhaaGreatDoor
namespace Go.Proofs.YtjkpbpgeedihhaaGreatDoor
open Go.RowKit
open M FerryM
/-- What stands in a sub (or in none), of the first k nodes; a node's text is given. -/
def withinTo (ns : List Nod) (g : Nat → ByteArray) (up : Int) : Nat → ByteArray
  | 0 => ⟨#[]⟩
  | k + 1 => if upF ns k = up then withinTo ns g up k ++ g k else withinTo ns g up k
def withinT (ns : List Nod) : Nat → Int → ByteArray
  | 0, _ => ⟨#[]⟩
  | f + 1, up => withinTo ns (nodeT ns (fun i => withinT ns f i)) up ns.length
def bnd : Nat → Nat
  | 0 => 0
  | f + 1 => 24 * (12000 + bnd f)
theorem elseT_sz {ns : List Nod} (hids : ∀ j, (nd ns j).id.size ≤ 40) (n : Nod) (c : ByteArray) : (elseT ns n c).size ≤ c.size + 267 := by
  unfold elseT
  split
  · omega
  · have h2 := leads_sz (ns := ns) (j := n.els.toNat) (hids _)
    have e1 : (⟨#[60, 101, 108, 115, 101]⟩ : ByteArray).size = 5 := rfl
    have e2 : (⟨#[47, 62]⟩ : ByteArray).size = 2 := rfl
    simp only [ByteArray.size_append]
    omega
theorem brT_sz2 {ns : List Nod} (l : List Int) (c : ByteArray) (hids : ∀ j, (nd ns j).id.size ≤ 40) : ∀ k, (brT ns l c k).size ≤ c.size + 300 * k
  | 0 => by simp [brT]
  | k + 1 => by
    have := brT_sz2 l c hids k
    have h2 := leads_sz (ns := ns) (j := (l.getD k 0).toNat) (hids _)
    have e1 : (⟨#[60, 98, 114, 97, 110, 99, 104]⟩ : ByteArray).size = 7 := rfl
    have e2 : (⟨#[47, 62]⟩ : ByteArray).size = 2 := rfl
    simp only [brT, ByteArray.size_append]
    omega
theorem nmS_sz (k : Int) : (nmS k).size ≤ 6 := by unfold nmS; (repeat' split) <;> decide
theorem headT_sz {ns : List Nod} (hids : ∀ j, (nd ns j).id.size ≤ 40) {n : Nod} (h : NodeOk ns n) : (headT ns n).size ≤ 800 := by
  have h1 := qT_size ⟨#[105, 100]⟩ n.id (by decide) h.id
  have h2 := leads_sz (ns := ns) (j := n.to.toNat) (hids _)
  have h3 := qT_size ⟨#[110, 97, 109, 101]⟩ n.name (by decide) h.name
  have h4 := nmS_sz n.kind
  have e1 : (⟨#[60]⟩ : ByteArray).size = 1 := rfl
  unfold headT
  simp only
  split <;> split <;> simp only [ByteArray.size_append] <;> omega
theorem innerT_sz {ns : List Nod} (hids : ∀ j, (nd ns j).id.size ≤ 40) {n : Nod} (h : NodeOk ns n) (hv : ∀ c, c ∈ n.cases → -2147483648 ≤ c.val ∧ c.val ≤ 2147483647) : (innerT ns n).size ≤ 9000 := by
  have h1 := casesT_sz ns n.cases hids hv n.cases.length (Nat.le_refl _)
  have h2 := elseT_sz hids n (casesT ns n.cases n.cases.length)
  have h3 := brT_sz2 (ns := ns) n.branches (elseT ns n (casesT ns n.cases n.cases.length)) hids n.branches.length
  have h4 := h.cas
  have h5 := h.br
  unfold innerT
  omega
theorem shutT_sz {ns : List Nod} (hids : ∀ j, (nd ns j).id.size ≤ 40) {n : Nod} (h : NodeOk ns n) (inn : ByteArray) : (shutT ns n inn).size ≤ 2000 + inn.size := by
  have h1 := headT_sz hids h
  have h2 := timer_sz h hids
  have h4 := nmS_sz n.kind
  have e1 : (⟨#[62]⟩ : ByteArray).size = 1 := rfl
  have e2 : (⟨#[47, 62]⟩ : ByteArray).size = 2 := rfl
  have e3 : (⟨#[60, 47]⟩ : ByteArray).size = 2 := rfl
  unfold shutT
  split <;> simp only [ByteArray.size_append] <;> omega
theorem ids_all {ns : List Nod} (h : Goods ns) : ∀ j, (nd ns j).id.size ≤ 40 := fun j =>
  if hj : j < ns.length then (nodeOk_of (ns := ns) (h.nodes j hj).1).id else by
    have : nd ns j = zN := by unfold nd; rw [List.getD_eq_getElem?_getD, List.getElem?_eq_none (by omega)]; rfl
    rw [this]; decide
theorem nodeT_sz {ns : List Nod} (h : Goods ns) (inF : Nat → ByteArray) {i : Nat} (hi : i < ns.length) : (nodeT ns inF i).size ≤ 12000 + (inF i).size := by
  have hok : NodeOk ns (nd ns i) := nodeOk_of (h.nodes i hi).1
  unfold nodeT
  split
  · have := shutT_sz (ids_all h) hok (inF i); omega
  · have h1 := shutT_sz (ids_all h) hok (innerT ns (nd ns i))
    have h2 := innerT_sz (ids_all h) hok (h.vals i)
    omega
theorem withinTo_sz {ns : List Nod} (g : Nat → ByteArray) (up : Int) (B : Nat) : ∀ k, (∀ i, i < k → (g i).size ≤ B) → (withinTo ns g up k).size ≤ k * B
  | 0, _ => by simp [withinTo, ByteArray.size]
  | k + 1, h => by
    have := withinTo_sz (ns := ns) g up B k (fun i hi => h i (by omega))
    have h2 := h k (by omega)
    have e : (k + 1) * B = k * B + B := by rw [Nat.add_mul]; omega
    unfold withinTo
    split
    · rw [ByteArray.size_append]; omega
    · omega
theorem withinT_sz {ns : List Nod} (h : Goods ns) : ∀ f up, (withinT ns f up).size ≤ bnd f
  | 0, _ => by simp [withinT, bnd, ByteArray.size]
  | f + 1, up => by
    have h1 := withinTo_sz (ns := ns) (nodeT ns (fun i => withinT ns f i)) up (12000 + bnd f) ns.length (fun i hi => by
      have := nodeT_sz h (fun i => withinT ns f i) hi
      have h2 := withinT_sz h f i
      omega)
    have h2 := Nat.mul_le_mul_right (12000 + bnd f) h.len
    show (withinTo ns _ up ns.length).size ≤ 24 * (12000 + bnd f)
    omega
theorem bnd_le : ∀ f, f ≤ 5 → bnd f ≤ 1000000000000
  | 0, _ => by decide
  | 1, _ => by decide
  | 2, _ => by decide
  | 3, _ => by decide
  | 4, _ => by decide
  | 5, _ => by decide
  | f + 6, h => by omega
end Go.Proofs.YtjkpbpgeedihhaaGreatDoor
namespace Go.Proofs.YtjkpbpgeedihhaaGreatDoor
open Go.RowKit
open M FerryM
theorem withinTo_yes {ns : List Nod} {g : Nat → ByteArray} {up : Int} {k : Nat} (h : upF ns k = up) : withinTo ns g up (k + 1) = withinTo ns g up k ++ g k := by show (if _ then _ else _) = _; rw [if_pos h]
theorem withinTo_no {ns : List Nod} {g : Nat → ByteArray} {up : Int} {k : Nat} (h : upF ns k ≠ up) : withinTo ns g up (k + 1) = withinTo ns g up k := by show (if _ then _ else _) = _; rw [if_neg h]
set_option maxHeartbeats 4000000 in
set_option maxRecDepth 100000 in
/-- One level: each node's text is given. -/
theorem within_step (id : ByteArray) (b o cap : Nat) (ns : List Nod) (rs : Nat → Raw) (up : Int) (g : Nat → ByteArray) (w : World) (hm : ModIn w (some ⟨b, o, none⟩) ns rs) (h24 : ns.length ≤ 24)
    (hz : ∀ i, i < ns.length → (g i).size ≤ 2000000000000)
    (hg : ∀ i, i < ns.length → upF ns i = up → ∀ W, Below w.heap.size w W → Calls Tryz.prog 127 #[modV id (some ⟨b, o, none⟩) ns.length cap, .int .i64 i] W fun e w' => e = .returned (.string (g i)) ∧ Below W.heap.size W w') :
    Calls Tryz.prog 75 #[modV id (some ⟨b, o, none⟩) ns.length cap, .int .i64 up] w fun e w' => e = .returned (.string (withinTo ns g up ns.length)) ∧ Below w.heap.size w w' := by
  obtain ⟨n, hn⟩ : ∃ n, ns.length = n := ⟨_, rfl⟩
  have HN : Hid (ns.length = n) := hn
  have HZ : Hid (∀ k, k ≤ n → (withinTo ns g up k).size ≤ k * 2000000000000) := fun k hk => withinTo_sz g up _ k (fun i hi => hz i (by omega))
  have HZ1 : Hid (∀ k, k < n → (g k).size ≤ 2000000000000) := fun k hk => hz k (by omega)
  have hc : ∀ W, Below w.heap.size w W → ∀ j, j < n → W.cell? ⟨b, o + j * 10 + 3, none⟩ = some (.int .i64 (upF ns j)) := by
    intro W hW j hj
    obtain ⟨b', o', e, h⟩ := (hm.below hW).cells j (by omega)
    cases e; exact h.c3
  have HC : Hid (∀ W, Below w.heap.size w W → ∀ j, j < n → W.cell? ⟨b, o + j * 10 + 3, none⟩ = some (.int .i64 (upF ns j))) := hc
  unfold modV at hg
  unfold modV
  simp only [SlV, hn, Option.map_some] at hg ⊢
  have HG := (show Hid (∀ i, i < n → upF ns i = up → ∀ W, Below w.heap.size w W → Calls Tryz.prog 127 #[.agg #[.string id, .slice (some ⟨b, o, none⟩) n cap], .int .i64 i] W fun e w' => e = .returned (.string (g i)) ∧ Below W.heap.size W w') from hg)
  rw [hn] at h24
  clear hc hm hn hz hg
  obtain ⟨W1, hW1⟩ : ∃ W1, w.alloc (Obj.cells #[.string id, .slice (some ⟨b, o, none⟩) n cap] 25) = W1 := ⟨_, rfl⟩
  have HB1 : Hid (Below w.heap.size w W1) := by rw [← hW1]; exact b1 _ _
  have hs1 : W1.heap.size = w.heap.size + 1 := by rw [← hW1]; simp
  have HS1 : Hid (W1.heap.size = w.heap.size + 1) := hs1
  clear hs1
  have HX : Hid (∀ W, Below W1.heap.size W1 W → W.cell? ⟨w.heap.size, 0, none⟩ = some (.string id) ∧ W.cell? ⟨w.heap.size, 1, none⟩ = some (.slice (some ⟨b, o, none⟩) n cap)) := by
    intro W hW
    have e0 := hW.cell (p := ⟨w.heap.size, 0, none⟩) (by show w.heap.size < _; rw [HS1.out]; omega)
    have e1 := hW.cell (p := ⟨w.heap.size, 1, none⟩) (by show w.heap.size < _; rw [HS1.out]; omega)
    rw [e0, e1, ← hW1]
    exact ⟨by simp [go_sem], by simp [go_sem]⟩
  go_enter Tryz.func75, Tryz.ntmps75
  go_wp2_with fail
  clear hW1
  go_loopw [5, 6] (fun v i wr => ∃ k : Nat, k ≤ n ∧ i = .int .i64 k ∧ v = .string (withinTo ns g up k) ∧ Below W1.heap.size W1 wr) (fun _ i _ => n - (intOf i).toNat)
  case atStart => exact ⟨0, by omega, rfl, rfl, Below.refl _ _⟩
  case round =>
    obtain ⟨k, hk, rfl, rfl, hbw⟩ := hrel
    have HBW : Hid (Below W1.heap.size W1 wr) := hbw
    have HBw : Hid (Below w.heap.size w wr) := HB1.out.trans (hbw.mono (by rw [HS1.out]; omega))
    clear hbw
    obtain ⟨hx0, hx1⟩ := HX.out wr HBW.out
    have hwz := HZ.out k hk
    by_cases hlt : k < n
    · have hkb : (k : Int) < n := by omega
      have c3 := HC.out wr HBw.out k hlt
      have hgz := HZ1.out k hlt
      by_cases hu : upF ns k = up
      · have HY : Hid (withinTo ns g up (k + 1) = withinTo ns g up k ++ g k) := withinTo_yes hu
        have hcall := HG.out k hlt hu wr HBw.out
        rw [hu] at c3
        obtain ⟨S, hS⟩ : ∃ x, withinTo ns g up k = x := ⟨_, rfl⟩
        obtain ⟨G, hG⟩ : ∃ x, g k = x := ⟨_, rfl⟩
        rw [hS, hG] at HY
        rw [hS] at hwz ⊢
        rw [hG] at hcall hgz
        clear hS hG hu
        go_wp2_with fail
        refine hcall.mono ?_
        rintro e w3 ⟨rfl, hb3⟩
        have HB3 : Hid (Below W1.heap.size W1 w3) := HBW.out.trans (hb3.mono HBW.out.size)
        clear hb3 hcall
        go_wp2_with fail
        exact ⟨⟨k + 1, by omega, by go_num, by rw [HY.out], HB3.out⟩, by simp [intOf]; omega⟩
      · have HY : Hid (withinTo ns g up (k + 1) = withinTo ns g up k) := withinTo_no hu
        have hu' : (upF ns k == up) = false := by simpa using hu
        clear hu
        go_wp2_with fail
        exact ⟨⟨k + 1, by omega, by go_num, by rw [HY.out], HBW.out⟩, by simp [intOf]; omega⟩
    · obtain rfl : k = n := by omega
      go_wp2_with fail
      go_ret
      exact ⟨rfl, HBw.out⟩
/-- How deep the nodes in a sub stand. -/
def depF (ns : List Nod) (up : Int) : Nat := if up < 0 then 0 else (A (upF ns) up.toNat).length + 1
theorem dep_kid {ns : List Nod} (h : AskedTo ns ns.length) {i : Nat} (hi : i < ns.length) : (A (upF ns) i).length = depF ns (upF ns i) ∧ (A (upF ns) i).length ≤ 4 := by
  refine ⟨?_, (h i hi).2.2⟩
  rw [A_eq _ (fun j hj => ahead_of_asked h j (by omega))]
  unfold depF
  split <;> rfl
theorem withinTo_none {ns : List Nod} {g : Nat → ByteArray} {up : Int} : ∀ k, (∀ i, i < k → upF ns i ≠ up) → withinTo ns g up k = ⟨#[]⟩
  | 0, _ => rfl
  | k + 1, h => by rw [withinTo_no (h k (by omega))]; exact withinTo_none k (fun i hi => h i (by omega))
theorem within_any (id : ByteArray) (b o cap : Nat) (ns : List Nod) (rs : Nat → Raw) (hg : Goods ns) (ha : AskedTo ns ns.length) : ∀ (f : Nat) (up : Int) (w : World), f + depF ns up = 5 → ModIn w (some ⟨b, o, none⟩) ns rs →
    Calls Tryz.prog 75 #[modV id (some ⟨b, o, none⟩) ns.length cap, .int .i64 up] w fun e w' => e = .returned (.string (withinT ns f up)) ∧ Below w.heap.size w w'
  | 0, up, w, hf, hm => by
    have hno : ∀ i, i < ns.length → upF ns i ≠ up := fun i hi e => by
      have := dep_kid ha hi
      rw [e] at this
      omega
    have := within_step id b o cap ns rs up (fun _ => ⟨#[]⟩) w hm hg.len (fun i hi => by decide) (fun i hi e => absurd e (hno i hi))
    rw [withinTo_none _ hno] at this
    exact this
  | f + 1, up, w, hf, hm => by
    refine within_step id b o cap ns rs up (nodeT ns (fun i => withinT ns f i)) w hm hg.len (fun i hi => ?_) (fun i hi e W hW => ?_)
    · have h1 := nodeT_sz hg (fun i => withinT ns f i) hi
      have h2 := withinT_sz hg f i
      have h3 := bnd_le f (by omega)
      omega
    · refine nodeText_any id b o cap ns rs i _ W (hm.below hW) hg hi (fun h6 => ⟨?_, fun W' hW' => ?_⟩)
      · have h2 := withinT_sz hg f i
        have h3 := bnd_le f (by omega)
        show (withinT ns f i).size ≤ _
        omega
      · refine within_any id b o cap ns rs hg ha f i W' ?_ ((hm.below hW).below hW')
        have := dep_kid ha hi
        rw [e] at this
        have h7 : depF ns (i : Int) = (A (upF ns) i).length + 1 := by unfold depF; rw [if_neg (by omega)]; simp
        omega
end Go.Proofs.YtjkpbpgeedihhaaGreatDoor
namespace Go.Proofs.YtjkpbpgeedihhaaGreatDoor
open Go.RowKit
open M FerryM
/-- A model as the document writes it. -/
def modelT (id : ByteArray) (ns : List Nod) : ByteArray := (((⟨#[60, 112, 114, 111, 99, 101, 115, 115]⟩ ++ qT ⟨#[105, 100]⟩ id) ++ ⟨#[62]⟩) ++ withinT ns 5 (-1)) ++ ⟨#[60, 47, 112, 114, 111, 99, 101, 115, 115, 62]⟩
set_option maxHeartbeats 4000000 in
set_option maxRecDepth 100000 in
theorem refWrite_any (id : ByteArray) (a : Option Addr) (cap : Nat) (ns : List Nod) (rs : Nat → Raw) (w : World) (hm : ModIn w a ns rs) (hr : ∀ i, i < ns.length → RawOk (rs i)) (hid : id.size ≤ maxLen)
    (hvals : ∀ i c, c ∈ (nd ns i).cases → -2147483648 ≤ c.val ∧ c.val ≤ 2147483647) :
    Calls Tryz.prog 23 #[modV id a ns.length cap] w fun e w' => e = .returned (.tuple #[.string (if (dB (RightP id ns) (Classical.propDecidable _)) then modelT id ns else ⟨#[]⟩), .int .i64 (if (dB (RightP id ns) (Classical.propDecidable _)) then 0 else 3)]) ∧ Below w.heap.size w w' := by
  have hright := fun W (hW : Below w.heap.size w W) => right_any id a cap ns rs W (hm.below hW) hr hid
  cases hR : (dB (RightP id ns) (Classical.propDecidable _)) with
  | false =>
    rw [hR] at hright
    unfold modV at hright ⊢
    simp only [SlV] at hright ⊢
    obtain ⟨V, hV⟩ : ∃ V, Value.slice a ns.length cap = V := ⟨_, rfl⟩
    rw [hV] at hright ⊢
    have HR := (show Hid (∀ W, Below w.heap.size w W → Calls Tryz.prog 69 #[.agg #[.string id, V]] W fun e w' => e = .returned (.bool false) ∧ Below W.heap.size W w') from hright)
    clear hV hright hm hR hr hvals
    go_enter Tryz.func23, Tryz.ntmps23
    go_wp2_with fail
    refine (HR.out _ (b1 _ _)).mono ?_
    rintro e w2 ⟨rfl, hb2⟩
    have HB2 : Hid (Below w.heap.size w w2) := (b1 _ _).trans (hb2.mono (by simp))
    clear hb2
    go_wp2_with fail
    go_ret2
    exact ⟨rfl, HB2.out⟩
  | true =>
    rw [hR] at hright
    have hP := rightB_iff.1 hR
    have hg : Goods ns := ⟨hP.len, hP.nodes, hP.lead, hvals⟩
    have h0 : 0 < ns.length := by
      cases h : ns.length with
      | zero => have := hP.scopes; rw [List.eq_nil_of_length_eq_zero h] at this; simp only [List.length_nil, Nat.zero_add] at this; rw [scopes_nil] at this; cases this
      | succ k => omega
    obtain ⟨b, o, rfl, _⟩ := hm.cells 0 h0
    have hw := fun W (hW : Below w.heap.size w W) => within_any id b o cap ns rs hg hP.ups 5 (-1) W rfl (hm.below hW)
    have hidz : id.size ≤ 40 := by
      have a1 := hP.id
      simp only [isIdB, Bool.and_eq_true, decide_eq_true_eq] at a1
      have : id.data.toList.length = id.size := rfl
      omega
    have hq := fun W => quoted_q ⟨#[105, 100]⟩ id W (by decide) hidz
    have hz1 := qT_size ⟨#[105, 100]⟩ id (by decide) hidz
    have hz2 := withinT_sz hg 5 (-1)
    have hz3 := bnd_le 5 (by omega)
    have hz : (withinT ns 5 (-1)).size ≤ 1000000000000 := by omega
    unfold modV at hright hw ⊢
    simp only [SlV, Option.map_some, if_true] at hright hw ⊢
    unfold modelT
    obtain ⟨V, hV⟩ : ∃ V, Value.slice (some ⟨b, o, none⟩) ns.length cap = V := ⟨_, rfl⟩
    obtain ⟨Q, hQ⟩ : ∃ V, qT ⟨#[105, 100]⟩ id = V := ⟨_, rfl⟩
    obtain ⟨S, hS⟩ : ∃ V, withinT ns 5 (-1) = V := ⟨_, rfl⟩
    rw [hV] at hright hw ⊢
    rw [hQ] at hq hz1 ⊢
    rw [hS] at hw hz ⊢
    have HR := (show Hid (∀ W, Below w.heap.size w W → Calls Tryz.prog 69 #[.agg #[.string id, V]] W fun e w' => e = .returned (.bool true) ∧ Below W.heap.size W w') from hright)
    have HW := (show Hid (∀ W, Below w.heap.size w W → Calls Tryz.prog 75 #[.agg #[.string id, V], .int .i64 (-1)] W fun e w' => e = .returned (.string S) ∧ Below W.heap.size W w') from hw)
    clear hV hright hm hR hr hvals hP hg h0 hw hz2 hz3 hQ hS
    obtain ⟨W1, hW1⟩ : ∃ W1, w.alloc (Obj.cells #[.string id, V] 25) = W1 := ⟨_, rfl⟩
    have HB1 : Hid (Below w.heap.size w W1) := by rw [← hW1]; exact b1 _ _
    have hs1 : W1.heap.size = w.heap.size + 1 := by rw [← hW1]; simp
    have HX : Hid (∀ W, Below W1.heap.size W1 W → W.cell? ⟨w.heap.size, 0, none⟩ = some (.string id) ∧ W.cell? ⟨w.heap.size, 1, none⟩ = some V) := by
      intro W hW
      have e0 := hW.cell (p := ⟨w.heap.size, 0, none⟩) (by show w.heap.size < _; omega)
      have e1 := hW.cell (p := ⟨w.heap.size, 1, none⟩) (by show w.heap.size < _; omega)
      rw [e0, e1, ← hW1]
      exact ⟨by simp [go_sem], by simp [go_sem]⟩
    clear hs1
    obtain ⟨x0, x1⟩ := HX.out W1 (Below.refl _ _)
    go_enter Tryz.func23, Tryz.ntmps23
    go_wp2_with fail
    clear hW1
    refine (HR.out W1 HB1.out).mono ?_
    rintro e w2 ⟨rfl, hb2⟩
    have HB2 : Hid (Below w.heap.size w w2) := HB1.out.trans (hb2.mono HB1.out.size)
    obtain ⟨y0, y1⟩ := HX.out w2 hb2
    clear hb2
    go_wp2_with (go_at_call 74; go_must (refine (hq _).mono ?_; rintro e w4 ⟨rfl, h4⟩; rw [h4]; clear h4))
    refine (HW.out w2 HB2.out).mono ?_
    rintro e w3 ⟨rfl, hb3⟩
    have HB3 : Hid (Below w.heap.size w w3) := HB2.out.trans (hb3.mono HB2.out.size)
    clear hb3
    go_wp2_with fail
    go_ret2
    exact ⟨rfl, HB3.out⟩
end Go.Proofs.YtjkpbpgeedihhaaGreatDoor
namespace Go.Proofs.YtjkpbpgeedihhaaGreatDoor
open Go.RowKit
open M FerryM
/-- The fields of a node as the code's bits. -/
def fld (b1 b2 b3 b4 b5 b6 : Bool) : Nat := (if b1 then 1 else 0) + (if b2 then 2 else 0) + (if b3 then 4 else 0) + (if b4 then 8 else 0) + (if b5 then 16 else 0) + (if b6 then 32 else 0)
def mustF (k : Nat) : Nat := match k with | 1 => 1 | 2 => 1 | 3 => 8 | 4 => 16 | 5 => 1 | 6 => 1 | _ => 0
def mayF (k : Nat) : Nat := match k with | 2 => 34 | 3 => 4 | 6 => 32 | _ => 0
def timB (n : Nod) : Bool := decide (n.after ≠ 0) || decide (n.late ≠ -1)
def fieldsF (n : Nod) : Nat := fld (decide (n.to ≠ -1)) (decide (n.name.toList ≠ [])) (decide (0 < n.cases.length)) (decide (n.els ≠ -1)) (decide (0 < n.branches.length)) (timB n)
/-- The bits fit the row of their kind. -/
def maskB (f must may : Nat) : Bool := (f &&& must == must) && (f &&& (must ||| may) == f)
def boundsB (n : Nod) : Bool := rightNameB n.name && (rightCasesB n.cases && (decide (n.branches.length ≠ 1) && (decide (n.branches.length ≤ 6) && (!timB n || (decide (1 ≤ n.after) && (decide (n.after ≤ 1000) && decide (n.late ≠ -1)))))))
def fitB (n : Nod) : Bool := decide (1 ≤ n.kind ∧ n.kind ≤ 7) && (isIdB n.id.data.toList && (boundsB n && maskB (fieldsF n) (mustF n.kind.toNat) (mayF n.kind.toNat)))
theorem mask_is : ∀ k : Fin 8, 1 ≤ k.val → ∀ b1 b2 b3 b4 b5 b6 : Bool, maskB (fld b1 b2 b3 b4 b5 b6) (mustF k.val) (mayF k.val) = ((b1 == (k.val == 1 || k.val == 2 || k.val == 5 || k.val == 6)) && (!b2 || k.val == 2) && (!b3 || k.val == 3) && (b4 == (k.val == 3)) && (b5 == (k.val == 4)) && (!b6 || (k.val == 2 || k.val == 6))) := by decide
theorem fit_right (n : Nod) : fitB n = rightNodeB n := by
  unfold fitB rightNodeB boundsB
  by_cases hk : 1 ≤ n.kind ∧ n.kind ≤ 7
  · obtain ⟨k, hk1, hk2⟩ : ∃ k : Nat, n.kind = k ∧ k < 8 := ⟨n.kind.toNat, by omega, by omega⟩
    have hm := mask_is ⟨k, hk2⟩ (by show 1 ≤ k; omega) (decide (n.to ≠ -1)) (decide (n.name.toList ≠ [])) (decide (0 < n.cases.length)) (decide (n.els ≠ -1)) (decide (0 < n.branches.length)) (timB n)
    unfold fieldsF
    rw [show n.kind.toNat = k by omega, hm]
    cases hI : isIdB n.id.data.toList
    · simp
    cases hN : rightNameB n.name
    · simp
    cases hC : rightCasesB n.cases
    · simp
    simp only [hk1, toB, timedB, timB]
    have e1 : ((k : Int) == 1) = (k == 1) := by rw [Bool.eq_iff_iff]; simp; omega
    have e2 : ((k : Int) == 2) = (k == 2) := by rw [Bool.eq_iff_iff]; simp; omega
    have e5 : ((k : Int) == 5) = (k == 5) := by rw [Bool.eq_iff_iff]; simp; omega
    have e6 : ((k : Int) == 6) = (k == 6) := by rw [Bool.eq_iff_iff]; simp; omega
    rw [e1, e2, e5, e6]
    have hk1' : 1 ≤ k := by omega
    clear hm hk hk1 e1 e2 e5 e6 hI hN hC
    generalize n.cases.length = cl
    generalize n.branches.length = bl
    generalize n.after = af
    generalize n.to = tt
    generalize n.els = ee
    generalize n.late = ll
    generalize n.name.toList = nm
    by_cases t1 : tt = -1 <;> by_cases t2 : nm = [] <;> by_cases t4 : ee = -1 <;> by_cases t5 : ll = -1
    all_goals (
      simp only [t1, t2, t4, t5]
      rw [Bool.eq_iff_iff]
      rcases (by omega : k = 1 ∨ k = 2 ∨ k = 3 ∨ k = 4 ∨ k = 5 ∨ k = 6 ∨ k = 7) with rfl | rfl | rfl | rfl | rfl | rfl | rfl
      all_goals (simp [t2] <;> (try split) <;> (try simp [t2]) <;> omega))
  · have h1 : decide (1 ≤ n.kind ∧ n.kind ≤ 7) = false := by simpa using hk
    rw [h1, if_pos (by omega)]
    rfl
/-- One start, and an end: in each sub and in none. -/
def begunB (ns : List Nod) : Bool := (cnt ns 1 (-1) ns.length == 1) && (!(cnt ns 7 (-1) ns.length == 0))
def subsTo (ns : List Nod) (k : Nat) : Prop := ∀ i, i < k → kdF ns i = 6 → cnt ns 1 (i : Int) ns.length = 1 ∧ cnt ns 7 (i : Int) ns.length ≠ 0
theorem begun_scopes (ns : List Nod) : scopesTo ns (ns.length + 1) = true ↔ (begunB ns = true ∧ subsTo ns ns.length) := by
  simp only [scopesTo, decide_eq_true_eq, begunB, Bool.and_eq_true, subsTo]
  constructor
  · intro h
    refine ⟨?_, fun i hi h6 => ?_⟩
    · have := h 0 (by omega)
      unfold scOk at this
      simp at this ⊢
      omega
    · have := h (i + 1) (by omega)
      unfold scOk at this
      rw [show ((i + 1 : Nat) : Int) - 1 = i by omega] at this
      simp [h6] at this
      omega
  · rintro ⟨h1, h2⟩ t ht
    unfold scOk
    cases t with
    | zero => simp at h1 ⊢; omega
    | succ i =>
      rw [show ((i + 1 : Nat) : Int) - 1 = i by omega]
      by_cases h6 : kdF ns i = 6
      · have := h2 i (by omega) h6
        simp [h6]; omega
      · simp [h6]
/-- What the code's passes ask. -/
def goF (ns : List Nod) (i : Nat) : Bool := goesB (kdF ns i)
def tmF (ns : List Nod) (i : Nat) : List Nat := (timelyL (nd ns i)).map Int.toNat
def CalmTo (ns : List Nod) : Prop := ∀ i, i < ns.length → passes (goF ns) (tmF ns) ns.length ns.length (fun _ => false) i = true
theorem nd_ge {ns : List Nod} {i : Nat} (h : ns.length ≤ i) : nd ns i = zN := by unfold nd; rw [List.getD_eq_getElem?_getD, List.getElem?_eq_none h]; rfl
theorem timely_ok {ns : List Nod} (h : LeadTo ns ns.length) {i : Nat} (hi : i < ns.length) {t : Int} (ht : t ∈ timelyL (nd ns i)) : WayOk ns i t := by
  have hm : t ∈ outL (nd ns i) := by unfold outL; exact List.mem_append_left _ ht
  obtain ⟨j, hj, e⟩ := List.getElem_of_mem hm
  have := h i hi j hj
  rw [List.getElem?_eq_getElem hj] at this
  simpa [e] using this
theorem goF_lt {ns : List Nod} {i : Nat} (h : goF ns i = true) : i < ns.length := by
  by_cases hi : i < ns.length
  · exact hi
  · unfold goF kdF at h; rw [nd_ge (by omega)] at h; simp [zN, goesB] at h
theorem calm_round {ns : List Nod} (h : LeadTo ns ns.length) : CalmTo ns ↔ (dB (∃ i, i < ns.length ∧ wK ns.length ns.length (edgeF ns) i i = true) (Classical.propDecidable _)) = false := by
  unfold CalmTo
  rw [calm_iff (goF ns) (tmF ns) (L := edgeF ns)]
  · unfold dB
    rw [@decide_eq_false_iff_not _ (Classical.propDecidable _)]
    constructor
    · rintro hh ⟨i, hi, hw⟩; rw [hh i hi] at hw; cases hw
    · intro hh i hi
      cases hw : wK ns.length ns.length (edgeF ns) i i with
      | false => rfl
      | true => exact absurd ⟨i, hi, hw⟩ hh
  · intro i hi _ j hj
    obtain ⟨t, ht, rfl⟩ := List.mem_map.1 hj
    have := timely_ok h hi ht
    have h1 := this.1; have h2 := this.2.1
    omega
  · intro i j
    unfold edgeF edgeQ FerryM.Edge
    rw [List.take_length]
    simp only [Bool.and_eq_true, decide_eq_true_eq]
    constructor
    · rintro ⟨⟨h1, h2⟩, h3⟩
      exact ⟨goF_lt h1, goF_lt h3, h1, h3, List.mem_map.2 ⟨_, h2, by simp⟩⟩
    · rintro ⟨hi, _, h1, h3, h2⟩
      obtain ⟨t, ht, e⟩ := List.mem_map.1 h2
      have := (timely_ok h hi ht).1
      refine ⟨⟨h1, ?_⟩, h3⟩
      rw [show (j : Int) = t by omega]; exact ht
/-- WHAT THE CODE ASKS OF A MODEL IS WHAT THE DOCUMENT's ANSWER ASKS. -/
structure CodeP (id : ByteArray) (ns : List Nod) : Prop where
  id : isIdB id.data.toList = true
  len : ns.length ≤ 24
  fit : ∀ i, i < ns.length → fitB (nd ns i) = true
  ids : ∀ i, i < ns.length → ∀ j, j < i → (nd ns j).id ≠ (nd ns i).id
  nested : nest (upF ns) (subF ns) ns.length 0 [] = true
  lead : LeadTo ns ns.length
  begun : begunB ns = true ∧ subsTo ns ns.length
  enough : EnoughTo ns ns.length
  calm : CalmTo ns
theorem code_right (id : ByteArray) (ns : List Nod) : CodeP id ns ↔ RightP id ns := by
  constructor
  · intro h
    exact ⟨h.id, h.len, fun i hi => ⟨by rw [← fit_right]; exact h.fit i hi, h.ids i hi⟩, (nest_asked (upF ns) (subF ns) ns.length).1 h.nested, h.lead, h.enough, (begun_scopes ns).2 h.begun, (calm_round h.lead).1 h.calm⟩
  · intro h
    exact ⟨h.id, h.len, fun i hi => by rw [fit_right]; exact (h.nodes i hi).1, fun i hi => (h.nodes i hi).2, (nest_asked (upF ns) (subF ns) ns.length).2 h.ups, h.lead, (begun_scopes ns).1 h.scopes, h.enough, (calm_round h.lead).2 h.calm⟩
end Go.Proofs.YtjkpbpgeedihhaaGreatDoor
