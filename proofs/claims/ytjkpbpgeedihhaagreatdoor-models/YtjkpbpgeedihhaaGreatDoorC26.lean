import Derived.Test.YtjkpbpgeedihhaaGreatDoorC25
import Derived.Deep.DeepCutAuto
import Derived.Deep.RegionHeld3
set_option linter.all false
namespace Go.Proofs.YtjkpbpgeedihhaaGreatDoor
open Go.RowKit
open M FerryM
theorem TabIn.apart {w : World} {b q t : Nat} {sb sc : Nat → Nat} {l : List Value} (h : TabIn w b sb sc) (hl : lstIs w q t l) (ht : t ≠ 404) (h0 : ∀ s, l[0]? ≠ some (.string s)) : b ≠ q ∧ ∀ i, i < 12 → some q ≠ (Value.slice (some ⟨sb i, 0, none⟩) (tAtt i).length (sc i)).ownBlock := by
  refine ⟨fun e => ?_, fun i hi => own_ne (h.atts i hi) hl ht⟩
  subst e
  have h1 := (h.rows 0 (by omega)).c0
  unfold lstIs at hl
  simp [World.cell?, hl] at h1
  exact h0 _ (by simpa using h1)
theorem TabIn.set {w : World} {b q t : Nat} {sb sc : Nat → Nat} {l : List Value} (h : TabIn w b sb sc) (hl : lstIs w q t l) (ht : t ≠ 404) (h0 : ∀ s, l[0]? ≠ some (.string s)) (i : Nat) (v : Value) : TabIn (w.setCell ⟨q, i, none⟩ v) b sb sc := by
  obtain ⟨h1, h2⟩ := h.apart hl ht h0
  have k := fun (x : Nat) => World.cell?_of_block (a := ⟨b, x, none⟩) (Below.heap_setCell w ⟨q, i, none⟩ v b h1)
  refine ⟨fun j hj => ?_, fun j hj => ownsRow_setCell_other (h.atts j hj) (fun e => h2 j hj e.symm) _⟩
  have hr := h.rows j hj
  exact ⟨(k _).trans hr.c0, (k _).trans hr.c1, (k _).trans hr.c2, (k _).trans hr.c3, (k _).trans hr.c4, (k _).trans hr.c5, (k _).trans hr.c6, (k _).trans hr.c7⟩
/-- A model in a block of its own. -/
structure ModBox (w : World) (b : Nat) (id : ByteArray) (A : Option Addr) (n cap : Nat) : Prop where
  c0 : w.cell? ⟨b, 0, none⟩ = some (.string id)
  c1 : w.cell? ⟨b, 1, none⟩ = some (.slice A n cap)
theorem ModBox.new (w : World) (id : ByteArray) (A : Option Addr) (n cap t : Nat) : ModBox (w.alloc (.cells #[.string id, .slice A n cap] t)) w.heap.size id A n cap := by
  constructor <;> simp [go_sem]
theorem ModBox.below {w w' : World} {b : Nat} {id : ByteArray} {A : Option Addr} {n cap : Nat} (h : ModBox w b id A n cap) (hb : Below w.heap.size w w') : ModBox w' b id A n cap := by
  have k := fun (x : Nat) => hb.cell (p := ⟨b, x, none⟩) (lt_of_cell h.c0)
  exact ⟨(k _).trans h.c0, (k _).trans h.c1⟩
/-- Right, where the id is right and there are not too many nodes. -/
structure RestP (ns : List Nod) : Prop where
  fit : FitTo ns ns.length
  ids : IdsTo ns ns.length
  nested : nest (upF ns) (subF ns) ns.length 0 [] = true
  lead : LeadTo ns ns.length
  begun : begunB ns = true ∧ subsTo ns ns.length
  enough : EnoughTo ns ns.length
  calm : CalmTo ns
theorem code_iff (id : ByteArray) (ns : List Nod) : CodeP id ns ↔ (isIdB id.data.toList = true ∧ ns.length ≤ 24 ∧ RestP ns) :=
  ⟨fun h => ⟨h.id, h.len, h.fit, h.ids, h.nested, h.lead, h.begun, h.enough, h.calm⟩, fun ⟨h1, h2, h⟩ => ⟨h1, h2, h.fit, h.ids, h.nested, h.lead, h.begun, h.enough, h.calm⟩⟩
theorem short_of_fit {ns : List Nod} {rs : Nat → Raw} (h : FitTo ns ns.length) (hr : ∀ i, i < ns.length → RawOk (rs i)) : Short ns rs := by
  refine ⟨fun i hi => ?_, fun i hi => ?_, hr⟩
  · have := h i hi
    unfold fitB boundsB rightCasesB at this
    simp at this
    omega
  · have := h i hi
    unfold fitB boundsB at this
    simp at this
    omega
set_option maxHeartbeats 4000000 in
set_option maxRecDepth 100000 in
theorem codeRight_any (id : ByteArray) (a : Option Addr) (cap : Nat) (ns : List Nod) (rs : Nat → Raw) (w : World) (hm : ModIn w a ns rs) (hr : ∀ i, i < ns.length → RawOk (rs i)) (hid : id.size ≤ maxLen) (hL : Laid w) (hcap : ns.length ≤ cap) :
    Calls Tryz.prog 104 #[modV id a ns.length cap] w fun e w' => e = .returned (.bool ((dB (RightP id ns) (Classical.propDecidable _)))) ∧ Below w.heap.size w w' := by
  obtain ⟨RB, hRB⟩ : ∃ x, (dB (RightP id ns) (Classical.propDecidable _)) = x := ⟨_, rfl⟩
  have hrb : RB = true ↔ (isIdB id.data.toList = true ∧ ns.length ≤ 24 ∧ RestP ns) := by rw [← code_iff, code_right, ← rightB_iff, hRB]
  have HRB : Hid (RB = true ↔ (isIdB id.data.toList = true ∧ ns.length ≤ 24 ∧ RestP ns)) := hrb
  clear hrb
  rw [hRB]
  clear hRB
  have hl := hm.len
  obtain ⟨n, hn⟩ : ∃ n, ns.length = n := ⟨_, rfl⟩
  have HN : Hid (ns.length = n) := hn
  have HMo : Hid (ModIn w a ns rs) := hm
  have HRw : Hid (∀ i, i < ns.length → RawOk (rs i)) := hr
  have HL : Hid (Laid w) := hL
  have HCp : Hid (ns.length ≤ cap) := hcap
  obtain ⟨A, hA⟩ : ∃ A, a = A := ⟨_, rfl⟩
  have HA : Hid (a = A) := hA
  unfold modV
  simp only [SlV]
  rw [hA, hn]
  rw [hn] at hl hcap
  clear hm hn hA hr hL
  obtain ⟨W1, hW1⟩ : ∃ W1, w.alloc (Obj.cells #[.string id, .slice A n cap] 25) = W1 := ⟨_, rfl⟩
  have HB1 : Hid (Below w.heap.size w W1) := by rw [← hW1]; exact b1 _ _
  have HX : Hid (ModBox W1 w.heap.size id A n cap) := by rw [← hW1]; exact ModBox.new _ _ _ _ _ _
  obtain ⟨bI, hbI⟩ : ∃ x, isIdB id.data.toList = x := ⟨_, rfl⟩
  have hI := isID_any id W1 hid
  rw [hbI] at hI HRB
  clear hbI
  go_enter Tryz.func104, Tryz.ntmps104
  obtain ⟨x0, x1⟩ := HX.out
  go_wp2_with fail
  refine hI.mono ?_
  rintro e w2 ⟨rfl, hb2⟩
  have HB2 : Hid (Below W1.heap.size W1 w2) := hb2
  have Hw2 : Hid (Below w.heap.size w w2) := HB1.out.trans (hb2.mono HB1.out.size)
  clear hI hW1 x0 x1 hb2
  cases bI with
  | false =>
    have HF : Hid (RB = false) := by
      cases RB with
      | false => exact rfl
      | true => exact absurd (HRB.out.1 rfl).1 (by simp)
    go_wp2_with fail
    go_ret
    exact ⟨ret_bool' HF.out.symm, Hw2.out⟩
  | true =>
    obtain ⟨x0, x1⟩ := HX.out.below HB2.out
    by_cases h24 : 24 < n
    · have d : decide (24 < n) = true := by simpa using h24
      have HF : Hid (RB = false) := by
        cases RB with
        | false => exact rfl
        | true =>
          have h1 := (HRB.out.1 rfl).2.1
          rw [HN.out] at h1
          omega
      go_wp2_with fail
      go_ret
      exact ⟨ret_bool' HF.out.symm, Hw2.out⟩
    · have d : decide (24 < n) = false := by simpa using h24
      have HR : Hid (RB = true ↔ RestP ns) := by
        constructor
        · intro h; exact (HRB.out.1 h).2.2
        · intro h; exact HRB.out.2 ⟨rfl, by rw [HN.out]; omega, h⟩
      go_upto_region 3 with fail
      clear d
      go_cut [3] (fun p wx => ∃ cb tb sb sc, p = .pointer (some ⟨cb, 0, none⟩) ∧ ChkBox wx cb tb A n cap ∧ TabIn wx tb sb sc ∧ Below W1.heap.size W1 wx)
      case first =>
        have HK : Hid (∀ X, Below W1.heap.size W1 X → Below W1.heap.size W1 X ∧ X.cell? ⟨w.heap.size, 1, none⟩ = some (.slice A n cap)) := fun X hX => ⟨hX, (HX.out.below hX).c1⟩
        obtain ⟨Z, hZ⟩ : ∃ Z, w2.alloc (.cells #[.slice none 0 0, .slice none 0 0] 308) = Z := ⟨_, rfl⟩
        have HZ : Hid (Below w2.heap.size w2 Z ∧ lstIs Z w2.heap.size 308 [.slice none 0 0, .slice none 0 0]) := by rw [← hZ]; exact ⟨b1 _ _, lstIs.new _ _ _⟩
        have HZ1 : Hid (Below W1.heap.size W1 Z) := HB2.out.trans (HZ.out.1.mono HB2.out.size)
        have hTq : Hid (∀ X, (X = w2.drew ∨ X = Z.drew) → Calls Tryz.prog 99 #[] X fun e w' => ∃ b sb sc, e = .returned (.slice (some ⟨b, 0, none⟩) 12 12) ∧ TabIn w' b sb sc ∧ Below W1.heap.size W1 w' ∧ (X = w2.drew ∨ lstIs w' w2.heap.size 308 [.slice none 0 0, .slice none 0 0])) := fun X hX => by
          refine (table_any X).mono ?_
          rintro e w' ⟨b, sb, sc, rfl, hT, hb⟩
          rcases hX with rfl | rfl
          · exact ⟨b, sb, sc, rfl, hT, (below_drewN HB2.out 1).trans (hb.mono (below_drewN HB2.out 1).size), Or.inl rfl⟩
          · exact ⟨b, sb, sc, rfl, hT, (below_drewN HZ1.out 1).trans (hb.mono (below_drewN HZ1.out 1).size), Or.inr (HZ.out.2.at (hb.block _ HZ.out.2.lt))⟩
        have hne : Z.drew ≠ w2.drew := fun e => by
          have h1 := congrArg (fun W : World => W.heap.size) e
          have h2 : Z.heap.size = w2.heap.size + 1 := by rw [← hZ]; simp
          have h3 : Z.heap.size = w2.heap.size := h1
          omega
        have HZge : Hid (W1.heap.size ≤ w2.heap.size) := HB2.out.size
        go_region_held3 (fun w' => Below W1.heap.size W1 w' ∧ w'.cell? ⟨w.heap.size, 1, none⟩ = some (.slice A n cap))
          ((refine HK.out _ ?_; first | exact below_drewN HB2.out 1 | exact below_drewN HZ1.out 1 | exact HB3.out | exact HB3.out.alloc HB3.out.size _ | exact (HB3.out.setCell HZge.out _).setCell HZge.out _ | fail))
          ((first
            | (go_at_call 99; refine (hTq.out _ (by first | exact Or.inl rfl | exact Or.inr rfl)).mono ?_; rintro e w3 ⟨tb, sb, sc, rfl, hT3, hb3, hc3⟩; have HT3 : Hid (TabIn w3 tb sb sc) := hT3; have HB3 : Hid (Below W1.heap.size W1 w3) := hb3; (try (have HL3 := hc3.resolve_left hne; have q0 := HL3.cell (i := 0) rfl; have q1 := HL3.cell (i := 1) rfl; have f0 := HL3.free 0; have f1 := HL3.free 1; have HLL : Hid (lstIs w3 w2.heap.size 308 [.slice none 0 0, .slice none 0 0]) := HL3; clear HL3)); clear hT3 hb3 hc3)
            | fail))
        · go_wp2_with fail
          go_meet
          exact ⟨_, tb, sb, sc, rfl, ChkBox.new _ _ _ _ _ _, HT3.out.below (b1 _ _), HB3.out.alloc HB3.out.size _⟩
        · go_wp2_with fail
          go_meet
          have hl2 := (HLL.out.set 0 (.slice (some ⟨tb, 0, none⟩) 12 12)).set 1 (.slice A n cap)
          exact ⟨_, tb, sb, sc, rfl, ⟨hl2.cell rfl, hl2.cell rfl⟩, (HT3.out.set HLL.out (by decide) (by simp) _ _).set (HLL.out.set 0 _) (by decide) (by simp) _ _, (HB3.out.setCell HZge.out _).setCell HZge.out _⟩
      case rest =>
        obtain ⟨cb, tb, sb, sc, rfl, hX, hT, hB⟩ := hcut
        have HX2 : Hid (ChkBox wc cb tb A n cap) := hX
        have HT : Hid (TabIn wc tb sb sc) := hT
        have HBc : Hid (Below w.heap.size w wc) := HB1.out.trans (hB.mono HB1.out.size)
        have h24' : ns.length ≤ 24 := by rw [HN.out]; omega
        have HK30 : Hid (∀ X, Below w.heap.size w X → TabIn X tb sb sc → Calls Tryz.prog 183 #[.agg #[.slice (some ⟨tb, 0, none⟩) 12 12, .slice A n cap]] X fun e w' => ∃ r, e = .returned (.bool r) ∧ (r = true ↔ FitTo ns ns.length) ∧ Below X.heap.size X w') := fun X hX hT => by
          have h := nodesFit_any tb sb sc a cap ns rs X (HMo.out.below hX) hT (HL.out.below hX)
          unfold chkV tabV at h
          simp only [SlV] at h
          rw [HA.out] at h
          rw [← HN.out]
          exact h
        have HK31 : Hid (∀ X, Below w.heap.size w X → Calls Tryz.prog 184 #[.agg #[.slice (some ⟨tb, 0, none⟩) 12 12, .slice A n cap]] X fun e w' => ∃ r, e = .returned (.bool r) ∧ (r = true ↔ IdsTo ns ns.length) ∧ Below X.heap.size X w') := fun X hX => by
          have h := idsDiffer_any tb a cap ns rs X (HMo.out.below hX) HCp.out
          unfold chkV tabV at h
          simp only [SlV] at h
          rw [HA.out] at h
          rw [← HN.out]
          exact h
        have HK32 : Hid (∀ X, Below w.heap.size w X → Calls Tryz.prog 185 #[.agg #[.slice (some ⟨tb, 0, none⟩) 12 12, .slice A n cap]] X fun e w' => ∃ r, e = .returned (.bool r) ∧ (r = true ↔ nest (upF ns) (subF ns) ns.length 0 [] = true) ∧ Below X.heap.size X w') := fun X hX => by
          have h := nested_any tb a cap ns rs X (HMo.out.below hX) h24'
          unfold chkV tabV at h
          simp only [SlV] at h
          rw [HA.out] at h
          rw [← HN.out]
          exact h
        have HK33 : Hid (∀ X, Below w.heap.size w X → Short ns rs → Calls Tryz.prog 186 #[.agg #[.slice (some ⟨tb, 0, none⟩) 12 12, .slice A n cap]] X fun e w' => ∃ r, e = .returned (.bool r) ∧ (r = true ↔ LeadTo ns ns.length) ∧ Below X.heap.size X w') := fun X hX hs => by
          have h := waysLead_any tb a cap ns rs X (HMo.out.below hX) hs
          unfold chkV tabV at h
          simp only [SlV] at h
          rw [HA.out] at h
          rw [← HN.out]
          exact h
        have HK34 : Hid (∀ X, Below w.heap.size w X → Calls Tryz.prog 187 #[.agg #[.slice (some ⟨tb, 0, none⟩) 12 12, .slice A n cap]] X fun e w' => ∃ r, e = .returned (.bool r) ∧ (r = true ↔ (begunB ns = true ∧ subsTo ns ns.length)) ∧ Below X.heap.size X w') := fun X hX => by
          have h := begunAndEnded_any tb a cap ns rs X (HMo.out.below hX)
          unfold chkV tabV at h
          simp only [SlV] at h
          rw [HA.out] at h
          rw [← HN.out]
          exact h
        have HK35 : Hid (∀ X, Below w.heap.size w X → Short ns rs → LeadTo ns ns.length → Calls Tryz.prog 188 #[.agg #[.slice (some ⟨tb, 0, none⟩) 12 12, .slice A n cap]] X fun e w' => ∃ r, e = .returned (.bool r) ∧ (r = true ↔ EnoughTo ns ns.length) ∧ Below X.heap.size X w') := fun X hX hs hl2 => by
          have h := entered_any tb a cap ns rs X (HMo.out.below hX) hs h24' hl2
          unfold chkV tabV at h
          simp only [SlV] at h
          rw [HA.out] at h
          rw [← HN.out]
          exact h
        have HK36 : Hid (∀ X, Below w.heap.size w X → TabIn X tb sb sc → Short ns rs → LeadTo ns ns.length → Calls Tryz.prog 189 #[.agg #[.slice (some ⟨tb, 0, none⟩) 12 12, .slice A n cap]] X fun e w' => ∃ r, e = .returned (.bool r) ∧ (r = true ↔ CalmTo ns) ∧ Below X.heap.size X w') := fun X hX hT hs hl2 => by
          have h := roundless_any tb sb sc a cap ns rs X (HMo.out.below hX) hT hs h24' hl2
          unfold chkV tabV at h
          simp only [SlV] at h
          rw [HA.out] at h
          rw [← HN.out]
          exact h
        clear hX hT hB h24'
        have HBk : Hid (Below wc.heap.size wc wc) := Below.refl _ _
        obtain ⟨z0, z1⟩ := HX2.out.below HBk.out
        have hk := HK30.out wc (HBc.out.trans (HBk.out.mono HBc.out.size)) (HT.out.below HBk.out)
        go_wp2_with fail
        refine hk.mono ?_
        rintro e v30 ⟨r30, rfl, hr, hb⟩
        replace HBk : Hid (Below wc.heap.size wc v30) := HBk.out.trans (hb.mono HBk.out.size)
        have Hr30 : Hid (r30 = true ↔ FitTo ns ns.length) := hr
        clear hk hr hb z0 z1
        cases r30 with
        | false =>
          have HF : Hid (RB = false) := by
            cases RB with
            | false => exact rfl
            | true => exact absurd (Hr30.out.2 (HR.out.1 rfl).fit) Bool.false_ne_true
          go_wp2_with fail
          go_ret
          exact ⟨ret_bool' HF.out.symm, HBc.out.trans (HBk.out.mono HBc.out.size)⟩
        | true =>
          have Hfit : Hid (FitTo ns ns.length) := Hr30.out.1 rfl
          have HSh : Hid (Short ns rs) := short_of_fit Hfit.out HRw.out
          clear Hr30
          obtain ⟨z0, z1⟩ := HX2.out.below HBk.out
          have hk := HK31.out v30 (HBc.out.trans (HBk.out.mono HBc.out.size))
          go_wp2_with fail
          refine hk.mono ?_
          rintro e v31 ⟨r31, rfl, hr, hb⟩
          replace HBk : Hid (Below wc.heap.size wc v31) := HBk.out.trans (hb.mono HBk.out.size)
          have Hr31 : Hid (r31 = true ↔ IdsTo ns ns.length) := hr
          clear hk hr hb z0 z1
          cases r31 with
          | false =>
            have HF : Hid (RB = false) := by
              cases RB with
              | false => exact rfl
              | true => exact absurd (Hr31.out.2 (HR.out.1 rfl).ids) Bool.false_ne_true
            go_wp2_with fail
            go_ret
            exact ⟨ret_bool' HF.out.symm, HBc.out.trans (HBk.out.mono HBc.out.size)⟩
          | true =>
            have Hids : Hid (IdsTo ns ns.length) := Hr31.out.1 rfl
            clear Hr31
            obtain ⟨z0, z1⟩ := HX2.out.below HBk.out
            have hk := HK32.out v31 (HBc.out.trans (HBk.out.mono HBc.out.size))
            go_wp2_with fail
            refine hk.mono ?_
            rintro e v32 ⟨r32, rfl, hr, hb⟩
            replace HBk : Hid (Below wc.heap.size wc v32) := HBk.out.trans (hb.mono HBk.out.size)
            have Hr32 : Hid (r32 = true ↔ nest (upF ns) (subF ns) ns.length 0 [] = true) := hr
            clear hk hr hb z0 z1
            cases r32 with
            | false =>
              have HF : Hid (RB = false) := by
                cases RB with
                | false => exact rfl
                | true => exact absurd (Hr32.out.2 (HR.out.1 rfl).nested) Bool.false_ne_true
              go_wp2_with fail
              go_ret
              exact ⟨ret_bool' HF.out.symm, HBc.out.trans (HBk.out.mono HBc.out.size)⟩
            | true =>
              have Hnested : Hid (nest (upF ns) (subF ns) ns.length 0 [] = true) := Hr32.out.1 rfl
              clear Hr32
              obtain ⟨z0, z1⟩ := HX2.out.below HBk.out
              have hk := HK33.out v32 (HBc.out.trans (HBk.out.mono HBc.out.size)) HSh.out
              go_wp2_with fail
              refine hk.mono ?_
              rintro e v33 ⟨r33, rfl, hr, hb⟩
              replace HBk : Hid (Below wc.heap.size wc v33) := HBk.out.trans (hb.mono HBk.out.size)
              have Hr33 : Hid (r33 = true ↔ LeadTo ns ns.length) := hr
              clear hk hr hb z0 z1
              cases r33 with
              | false =>
                have HF : Hid (RB = false) := by
                  cases RB with
                  | false => exact rfl
                  | true => exact absurd (Hr33.out.2 (HR.out.1 rfl).lead) Bool.false_ne_true
                go_wp2_with fail
                go_ret
                exact ⟨ret_bool' HF.out.symm, HBc.out.trans (HBk.out.mono HBc.out.size)⟩
              | true =>
                have Hlead : Hid (LeadTo ns ns.length) := Hr33.out.1 rfl
                clear Hr33
                obtain ⟨z0, z1⟩ := HX2.out.below HBk.out
                have hk := HK34.out v33 (HBc.out.trans (HBk.out.mono HBc.out.size))
                go_wp2_with fail
                refine hk.mono ?_
                rintro e v34 ⟨r34, rfl, hr, hb⟩
                replace HBk : Hid (Below wc.heap.size wc v34) := HBk.out.trans (hb.mono HBk.out.size)
                have Hr34 : Hid (r34 = true ↔ (begunB ns = true ∧ subsTo ns ns.length)) := hr
                clear hk hr hb z0 z1
                cases r34 with
                | false =>
                  have HF : Hid (RB = false) := by
                    cases RB with
                    | false => exact rfl
                    | true => exact absurd (Hr34.out.2 (HR.out.1 rfl).begun) Bool.false_ne_true
                  go_wp2_with fail
                  go_ret
                  exact ⟨ret_bool' HF.out.symm, HBc.out.trans (HBk.out.mono HBc.out.size)⟩
                | true =>
                  have Hbegun : Hid ((begunB ns = true ∧ subsTo ns ns.length)) := Hr34.out.1 rfl
                  clear Hr34
                  obtain ⟨z0, z1⟩ := HX2.out.below HBk.out
                  have hk := HK35.out v34 (HBc.out.trans (HBk.out.mono HBc.out.size)) HSh.out Hlead.out
                  go_wp2_with fail
                  refine hk.mono ?_
                  rintro e v35 ⟨r35, rfl, hr, hb⟩
                  replace HBk : Hid (Below wc.heap.size wc v35) := HBk.out.trans (hb.mono HBk.out.size)
                  have Hr35 : Hid (r35 = true ↔ EnoughTo ns ns.length) := hr
                  clear hk hr hb z0 z1
                  cases r35 with
                  | false =>
                    have HF : Hid (RB = false) := by
                      cases RB with
                      | false => exact rfl
                      | true => exact absurd (Hr35.out.2 (HR.out.1 rfl).enough) Bool.false_ne_true
                    go_wp2_with fail
                    go_ret
                    exact ⟨ret_bool' HF.out.symm, HBc.out.trans (HBk.out.mono HBc.out.size)⟩
                  | true =>
                    have Henough : Hid (EnoughTo ns ns.length) := Hr35.out.1 rfl
                    clear Hr35
                    obtain ⟨z0, z1⟩ := HX2.out.below HBk.out
                    have hk := HK36.out v35 (HBc.out.trans (HBk.out.mono HBc.out.size)) (HT.out.below HBk.out) HSh.out Hlead.out
                    go_wp2_with fail
                    refine hk.mono ?_
                    rintro e v36 ⟨r36, rfl, hr, hb⟩
                    replace HBk : Hid (Below wc.heap.size wc v36) := HBk.out.trans (hb.mono HBk.out.size)
                    have Hr36 : Hid (r36 = true ↔ CalmTo ns) := hr
                    clear hk hr hb z0 z1
                    have HF : Hid (RB = r36) := by
                      have h1 : RB = true ↔ r36 = true := by rw [HR.out, Hr36.out]; exact ⟨fun h => h.calm, fun h => ⟨Hfit.out, Hids.out, Hnested.out, Hlead.out, Hbegun.out, Henough.out, h⟩⟩
                      cases RB <;> cases r36 <;> simp at h1 <;> exact rfl
                    go_wp2_with fail
                    go_ret
                    exact ⟨ret_bool' HF.out.symm, HBc.out.trans (HBk.out.mono HBc.out.size)⟩
end Go.Proofs.YtjkpbpgeedihhaaGreatDoor
