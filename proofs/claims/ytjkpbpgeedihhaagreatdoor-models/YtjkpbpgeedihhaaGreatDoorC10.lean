import Derived.Test.YtjkpbpgeedihhaaGreatDoorC05
import Derived.Test.YtjkpbpgeedihhaaGreatDoorC06
import Derived.Lib.OthersKept
set_option linter.all false
namespace Go.Proofs.YtjkpbpgeedihhaaGreatDoor
open Go.RowKit
open M
set_option maxHeartbeats 1000000 in
theorem isID_any (s : ByteArray) (w : World) (hs : s.size ≤ maxLen) :
    Calls Tryz.prog 182 #[.string s] w fun e w' => e = .returned (.bool (isIdB s.data.toList)) ∧ Below w.heap.size w w' := by
  unfold maxLen at hs
  have hz : s.data.toList.length = s.size := rfl
  by_cases h8 : s.size < 1 ∨ 8 < s.size
  · go_enter Tryz.func182, Tryz.ntmps182
    go_wp2
    all_goals first | (exfalso; omega) | (go_ret; exact ⟨ret_bool (by unfold isIdB; rw [hz]; simp; omega), Below.refl _ _⟩)
  · have d1 : decide (s.size < 1) = false := by rw [decide_eq_false_iff_not]; omega
    have d2 : decide (8 < s.size) = false := by rw [decide_eq_false_iff_not]; omega
    go_enter Tryz.func182, Tryz.ntmps182
    go_wp2
    go_loopw [4] (fun _ wr => ∃ p : Nat, p ≤ s.size ∧ wr = w.iter s p ∧ allTo idCh s.data.toList p = true) (fun _ wr => s.size - wr.iterPos w.heap.size)
    case atStart => exact ⟨0, Nat.zero_le _, rfl, rfl⟩
    case round =>
      obtain ⟨p, hp, rfl, hall⟩ := hrel
      have HT : Hid (allTo idCh s.data.toList p = true) := hall
      clear hall
      by_cases hlt : p < s.size
      · have hnx : ∀ ty, (Instr.next (.pointer (some ⟨w.heap.size, 0, none⟩)) true ty).run Tryz.prog (w.iter s p) = _ := fun ty => run_next_any w s p ty hlt
        obtain ⟨r, hr⟩ : ∃ r, (Utf8.decode s p).1 = r := ⟨_, rfl⟩
        obtain ⟨d, hd⟩ : ∃ d, (Utf8.decode s p).2 = d := ⟨_, rfl⟩
        have HR : Hid ((s[p].toNat < 128 → r = s[p].toNat ∧ d = 1) ∧ (128 ≤ s[p].toNat → 128 ≤ r)) := by
          refine ⟨fun h => ?_, fun h => ?_⟩
          · rw [decode_ascii s p hlt h] at hr hd; exact ⟨hr.symm, hd.symm⟩
          · have := decode_high s p hlt h; omega
        rw [hr, hd] at hnx
        clear hr hd
        go_wp2
        all_goals (rename_i hg hh; (try simp at hh); (try simp at hg))
        all_goals first
          | (go_ret; exact ⟨ret_bool (by
              have h1 := HR.out
              have h2 : idCh s[p] = false := by rw [Bool.eq_false_iff]; intro h; rw [idCh_iff] at h; omega
              rw [isIdB, all_false_of_take idCh s p hlt h2]; rfl), b1 _ _⟩)
          | (have h1 := HR.out
             have h3 : d = 1 := by omega
             subst h3
             refine ⟨⟨p + 1, by omega, rfl, allTo_next 0 (by rw [hz]; exact hlt) HT.out (by rw [getD_byte s p hlt, idCh_iff]; omega)⟩, ?_⟩
             simp only [World.iterPos_iter]; omega)
      · have hnx : ∀ ty, (Instr.next (.pointer (some ⟨w.heap.size, 0, none⟩)) true ty).run Tryz.prog (w.iter s p) = _ := fun ty => run_next_end w s p ty hlt
        go_wp2
        go_ret
        exact ⟨ret_bool (by unfold isIdB; rw [allTo_end (by rw [hz]; omega) HT.out, hz]; simp; omega), b1 _ _⟩
end Go.Proofs.YtjkpbpgeedihhaaGreatDoor
namespace Go.Proofs.YtjkpbpgeedihhaaGreatDoor
open Go.RowKit
open M
theorem OpsLaid.below {w w' : World} (h : OpsLaid w) (hb : Below w.heap.size w w') : OpsLaid w' := by
  have k := fun (x : Nat) => hb.cell (p := ⟨2, x, none⟩) (lt_of_cell h.c0)
  exact ⟨(k _).trans h.c1, (k _).trans h.c2, (k _).trans h.c3, (k _).trans h.c0⟩
theorem opNameF_no {k : Int} (h : ¬ (1 ≤ k ∧ k ≤ 3)) : opNameF k = ⟨#[]⟩ := by
  unfold opNameF; rw [if_neg (by omega), if_neg (by omega), if_neg (by omega)]
set_option maxHeartbeats 1000000 in
theorem casesFit_any (a : Option Addr) (ca : Nat) (l : List Cas) (w : World) (ha : CasesIn w a l) (hl : l.length ≤ maxLen) (ho : OpsLaid w) :
    Calls Tryz.prog 349 #[SlV a l.length ca] w fun e w' => e = .returned (.bool (rightCasesB l)) ∧ Below w.heap.size w w' := by
  unfold maxLen at hl
  obtain ⟨n, hn⟩ : ∃ n, l.length = n := ⟨_, rfl⟩
  have HN : Hid (l.length = n) := hn
  have HCa : Hid (CasesIn w a l) := ha
  have HOp : Hid (OpsLaid w) := ho
  simp only [SlV]
  rw [hn]
  rw [hn] at hl
  clear hn ha ho
  obtain ⟨A, hA⟩ : ∃ A, a = A := ⟨_, rfl⟩
  have HA : Hid (a = A) := hA
  rw [hA]
  clear hA
  by_cases h6 : 6 < n
  · have d : decide (6 < n) = true := by simpa using h6
    go_enter Tryz.func349, Tryz.ntmps349
    go_wp2
    go_ret
    exact ⟨ret_bool' (by unfold rightCasesB; rw [HN.out]; simp; omega), Below.refl _ _⟩
  · have d : decide (6 < n) = false := by simpa using h6
    go_enter Tryz.func349, Tryz.ntmps349
    go_wp2
    go_loopw [10] (fun i wr => ∃ k : Nat, k ≤ n ∧ i = .int .i64 k ∧ Below w.heap.size w wr ∧ allTo casOk l k = true) (fun i _ => n - (intOf i).toNat)
    case atStart => exact ⟨0, Nat.zero_le _, rfl, Below.refl _ _, rfl⟩
    case round =>
      obtain ⟨k, hk, rfl, hbw, hall⟩ := hrel
      have HT : Hid (allTo casOk l k = true) := hall
      have HB : Hid (Below w.heap.size w wr) := hbw
      clear hall hbw d
      by_cases hlt : k < n
      · obtain ⟨ba, oa, ha, c0, c1, c2, c3⟩ := (HCa.out.below HB.out) k (by rw [HN.out]; exact hlt)
        have hAa := HA.out
        rw [ha] at hAa
        try simp only [Option.map_some] at hAa
        subst hAa
        have hkb : (k : Int) < n := by omega
        obtain ⟨c, hc⟩ : ∃ c, l.getD k Cas.zero = c := ⟨_, rfl⟩
        rw [hc] at c0 c1 c2 c3
        have HCc : Hid (l[k]?.getD Cas.zero = c) := by rw [← hc]; rfl
        clear hc ha
        have hop : ∀ o, Calls Tryz.prog 353 #[.int .i64 c.op] (wr.alloc o) fun e w' => e = .returned (.string (opNameF c.op)) ∧ w' = wr.alloc o := fun o => opName_any c.op _ (HOp.out.below (HB.out.trans ((b1 wr o).mono HB.out.size)))
        have hiv := fun W => isVar_any c.var W
        by_cases hv : 97 ≤ c.var ∧ c.var ≤ 104
        · have ev : isVarB c.var = true := by unfold isVarB; simp; omega
          rw [ev] at hiv
          by_cases h1 : c.op = 1
          · rw [h1] at hop c1
            have hop' : ∀ o, Calls Tryz.prog 353 #[.int .i64 1] (wr.alloc o) fun e w' => e = .returned (.string ⟨#[108, 116]⟩) ∧ w' = wr.alloc o := hop
            clear hop
            go_wp2_with (first | (go_at_call 232; go_must (refine (hiv _).mono ?_; rintro e w1 ⟨rfl, rfl⟩)) | (go_at_call 353; go_must (refine (hop' _).mono ?_; rintro e w1 ⟨rfl, rfl⟩)))
            refine ⟨⟨k + 1, by omega, by go_num, HB.out.trans ((b1 wr _).mono HB.out.size), allTo_next .zero (by rw [HN.out]; exact hlt) HT.out (by rw [HCc.out]; exact casOk_true (by omega))⟩, by simp [intOf]; omega⟩
          · by_cases h2 : c.op = 2
            · rw [h2] at hop c1
              have hop' : ∀ o, Calls Tryz.prog 353 #[.int .i64 2] (wr.alloc o) fun e w' => e = .returned (.string ⟨#[101, 113]⟩) ∧ w' = wr.alloc o := hop
              clear hop h1
              go_wp2_with (first | (go_at_call 232; go_must (refine (hiv _).mono ?_; rintro e w1 ⟨rfl, rfl⟩)) | (go_at_call 353; go_must (refine (hop' _).mono ?_; rintro e w1 ⟨rfl, rfl⟩)))
              refine ⟨⟨k + 1, by omega, by go_num, HB.out.trans ((b1 wr _).mono HB.out.size), allTo_next .zero (by rw [HN.out]; exact hlt) HT.out (by rw [HCc.out]; exact casOk_true (by omega))⟩, by simp [intOf]; omega⟩
            · by_cases h3 : c.op = 3
              · rw [h3] at hop c1
                have hop' : ∀ o, Calls Tryz.prog 353 #[.int .i64 3] (wr.alloc o) fun e w' => e = .returned (.string ⟨#[103, 116]⟩) ∧ w' = wr.alloc o := hop
                clear hop h1 h2
                go_wp2_with (first | (go_at_call 232; go_must (refine (hiv _).mono ?_; rintro e w1 ⟨rfl, rfl⟩)) | (go_at_call 353; go_must (refine (hop' _).mono ?_; rintro e w1 ⟨rfl, rfl⟩)))
                refine ⟨⟨k + 1, by omega, by go_num, HB.out.trans ((b1 wr _).mono HB.out.size), allTo_next .zero (by rw [HN.out]; exact hlt) HT.out (by rw [HCc.out]; exact casOk_true (by omega))⟩, by simp [intOf]; omega⟩
              · rw [opNameF_no (by omega)] at hop
                have HO : Hid (¬ (1 ≤ c.op ∧ c.op ≤ 3)) := by have : ¬ (1 ≤ c.op ∧ c.op ≤ 3) := by omega
                                                              exact this
                clear h1 h2 h3
                go_wp2_with (first | (go_at_call 232; go_must (refine (hiv _).mono ?_; rintro e w1 ⟨rfl, rfl⟩)) | (go_at_call 353; go_must (refine (hop _).mono ?_; rintro e w1 ⟨rfl, rfl⟩)))
                go_ret
                exact ⟨ret_bool' (by unfold rightCasesB; rw [all_false_at .zero (by rw [HN.out]; exact hlt) (by rw [HCc.out]; exact casOk_false (by have := HO.out; omega))]; rfl), HB.out.trans ((b1 wr _).mono HB.out.size)⟩
        · have ev : isVarB c.var = false := by unfold isVarB; simp; omega
          rw [ev] at hiv
          go_wp2_with (first | (go_at_call 232; go_must (refine (hiv _).mono ?_; rintro e w1 ⟨rfl, rfl⟩)))
          go_ret
          exact ⟨ret_bool' (by unfold rightCasesB; rw [all_false_at .zero (by rw [HN.out]; exact hlt) (by rw [HCc.out]; exact casOk_false (by omega))]; rfl), HB.out.trans ((b1 wr _).mono HB.out.size)⟩
      · go_wp2
        go_ret
        exact ⟨ret_bool' (by unfold rightCasesB; rw [allTo_end (by rw [HN.out]; omega) HT.out, HN.out, Bool.eq_iff_iff]; simp; omega), HB.out⟩
end Go.Proofs.YtjkpbpgeedihhaaGreatDoor
