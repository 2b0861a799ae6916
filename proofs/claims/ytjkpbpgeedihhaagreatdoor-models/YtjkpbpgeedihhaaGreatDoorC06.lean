import Derived.Test.YtjkpbpgeedihhaaGreatDoorC04
import Derived.Lib.ValidLaws
import Derived.Test.YtjkpbpgeedihhaaGreatDoorC02
set_option linter.all false
namespace Go.Proofs.YtjkpbpgeedihhaaGreatDoor
open Go.RowKit
open M
/-- The byte at a place, as a number. -/
def bt (s : ByteArray) (i : Nat) : Nat := (s.data.toList.getD i 0).toNat
theorem bt_eq (s : ByteArray) (i : Nat) (h : i < s.size) : (s[i].toNat : Nat) = bt s i := by
  unfold bt
  have h' : i < s.data.toList.length := by simpa using h
  rw [List.getD, List.getElem?_eq_getElem h']; rfl
theorem bt_lt (s : ByteArray) (i : Nat) : bt s i < 256 := by unfold bt; exact UInt8.toNat_lt _
/-- What is left from k on is UTF-8. -/
def vFrom (s : ByteArray) (k : Nat) : Bool := Lib.validD (s.data.toList.drop k)
theorem vFrom_end (s : ByteArray) (k : Nat) (h : s.size ≤ k) : vFrom s k = true := by
  unfold vFrom; rw [List.drop_eq_nil_of_le (by simpa using h)]; rfl
theorem vFrom_step (s : ByteArray) (k : Nat) (h : k < s.size) : vFrom s k = if (Lib.decodeN (s.size - k) (bt s k) (bt s (k + 1)) (bt s (k + 2)) (bt s (k + 3))).1 = 65533 ∧ (Lib.decodeN (s.size - k) (bt s k) (bt s (k + 1)) (bt s (k + 2)) (bt s (k + 3))).2 = 1 then false else vFrom s (k + (Lib.decodeN (s.size - k) (bt s k) (bt s (k + 1)) (bt s (k + 2)) (bt s (k + 3))).2) := by
  unfold vFrom
  have hne : s.data.toList.drop k ≠ [] := by
    intro e; have := congrArg List.length e; simp at this; have h2 : s.data.size = s.size := rfl; omega
  rw [Lib.validD_step _ hne, Lib.decodeL_N, List.length_drop, Lib.getD_dropU, Lib.getD_dropU, Lib.getD_dropU, Lib.getD_dropU, Nat.add_zero, List.drop_drop]
  have hz : s.data.toList.length = s.size := rfl
  rw [hz]; rfl
/-- The number that the reference reckons behind j bytes that follow. -/
def acc (s : ByteArray) (k : Nat) (v0 : Int) : Nat → Int
  | 0 => v0
  | j + 1 => 64 * acc s k v0 j + (bt s (k + j + 1) : Int) % 64
def v0F (n : Nat) (c : Int) : Int := if n = 1 then c % 32 else if n = 2 then c % 16 else if n = 3 then c % 8 else c
/-- The four kinds of first bytes. -/
theorem follows_cases {c : Nat} (hc : c < 256) {n : Nat} {least : Int} (h : followsF c = ((n : Int), least)) :
    (n = 0 ∧ least = 0 ∧ c < 128) ∨ (n = 1 ∧ least = 128 ∧ 192 ≤ c ∧ c < 224) ∨ (n = 2 ∧ least = 2048 ∧ 224 ≤ c ∧ c < 240) ∨ (n = 3 ∧ least = 65536 ∧ 240 ≤ c ∧ c < 248) := by
  unfold followsF at h
  repeat' split at h
  all_goals (simp only [Prod.mk.injEq] at h; omega)
theorem vFrom_bad (s : ByteArray) (k : Nat) (h : k < s.size) (hn : (followsF (bt s k)).1 < 0 ∨ (s.size : Int) ≤ k + (followsF (bt s k)).1) : vFrom s k = false := by
  rw [vFrom_step s k h, if_pos]
  have h0 := bt_lt s k
  unfold followsF at hn
  unfold Lib.decodeN
  repeat' split at hn
  all_goals (simp only [] at hn; repeat' split)
  all_goals first | exact ⟨rfl, rfl⟩ | (exfalso; omega)
theorem vFrom_cont (s : ByteArray) (k n : Nat) (least : Int) (hf : followsF (bt s k) = ((n : Int), least)) (hR : k + n < s.size) {t : Nat} (ht : t < n) (hb : bt s (k + t + 1) / 64 ≠ 2) : vFrom s k = false := by
  rw [vFrom_step s k (by omega), if_pos]
  unfold Lib.decodeN
  rcases follows_cases (bt_lt s k) hf with ⟨rfl, rfl, h1⟩ | ⟨rfl, rfl, h1, h2⟩ | ⟨rfl, rfl, h1, h2⟩ | ⟨rfl, rfl, h1, h2⟩
  · omega
  · obtain rfl : t = 0 := by omega
    simp only [Nat.add_zero] at hb
    repeat' split
    all_goals first | exact ⟨rfl, rfl⟩ | (exfalso; omega)
  · have ht' : t = 0 ∨ t = 1 := by omega
    rcases ht' with rfl | rfl
    · simp only [Nat.add_zero] at hb
      repeat' split
      all_goals first | exact ⟨rfl, rfl⟩ | (exfalso; omega)
    · have e : k + 1 + 1 = k + 2 := by omega
      rw [e] at hb
      repeat' split
      all_goals first | exact ⟨rfl, rfl⟩ | (exfalso; omega)
  · have ht' : t = 0 ∨ t = 1 ∨ t = 2 := by omega
    rcases ht' with rfl | rfl | rfl
    · simp only [Nat.add_zero] at hb
      repeat' split
      all_goals first | exact ⟨rfl, rfl⟩ | (exfalso; omega)
    · have e : k + 1 + 1 = k + 2 := by omega
      rw [e] at hb
      repeat' split
      all_goals first | exact ⟨rfl, rfl⟩ | (exfalso; omega)
    · have e : k + 2 + 1 = k + 3 := by omega
      rw [e] at hb
      repeat' split
      all_goals first | exact ⟨rfl, rfl⟩ | (exfalso; omega)
theorem acc_1 (s : ByteArray) (k : Nat) (v : Int) : acc s k v 1 = 64 * v + (bt s (k + 1) : Int) % 64 := rfl
theorem acc_2 (s : ByteArray) (k : Nat) (v : Int) : acc s k v 2 = 64 * (64 * v + (bt s (k + 1) : Int) % 64) + (bt s (k + 2) : Int) % 64 := rfl
theorem acc_3 (s : ByteArray) (k : Nat) (v : Int) : acc s k v 3 = 64 * (64 * (64 * v + (bt s (k + 1) : Int) % 64) + (bt s (k + 2) : Int) % 64) + (bt s (k + 3) : Int) % 64 := rfl
theorem vFrom_val (s : ByteArray) (k n : Nat) (least : Int) (hf : followsF (bt s k) = ((n : Int), least)) (hR : k + n < s.size) (hc : ∀ t, t < n → bt s (k + t + 1) / 64 = 2)
    (hv : acc s k (v0F n (bt s k)) n < least ∨ 1114111 < acc s k (v0F n (bt s k)) n ∨ (55296 ≤ acc s k (v0F n (bt s k)) n ∧ acc s k (v0F n (bt s k)) n ≤ 57343)) : vFrom s k = false := by
  rw [vFrom_step s k (by omega), if_pos]
  unfold Lib.decodeN
  rcases follows_cases (bt_lt s k) hf with ⟨rfl, rfl, h1⟩ | ⟨rfl, rfl, h1, h2⟩ | ⟨rfl, rfl, h1, h2⟩ | ⟨rfl, rfl, h1, h2⟩
  · simp [v0F, acc] at hv; omega
  · have c1 := hc 0 (by omega)
    simp only [Nat.add_zero] at c1
    rw [acc_1] at hv
    simp only [v0F, if_true] at hv
    repeat' split
    all_goals first | exact ⟨rfl, rfl⟩ | (exfalso; omega)
  · have c1 := hc 0 (by omega)
    have c2 := hc 1 (by omega)
    simp only [Nat.add_zero] at c1
    rw [show k + 1 + 1 = k + 2 by omega] at c2
    rw [acc_2] at hv
    simp only [v0F] at hv
    repeat' split
    all_goals first | exact ⟨rfl, rfl⟩ | (exfalso; simp at hv; omega)
  · have c1 := hc 0 (by omega)
    have c2 := hc 1 (by omega)
    have c3 := hc 2 (by omega)
    simp only [Nat.add_zero] at c1
    rw [show k + 1 + 1 = k + 2 by omega] at c2
    rw [show k + 2 + 1 = k + 3 by omega] at c3
    rw [acc_3] at hv
    simp only [v0F] at hv
    repeat' split
    all_goals first | exact ⟨rfl, rfl⟩ | (exfalso; simp at hv; omega)
theorem vFrom_good (s : ByteArray) (k n : Nat) (least : Int) (hf : followsF (bt s k) = ((n : Int), least)) (hR : k + n < s.size) (hc : ∀ t, t < n → bt s (k + t + 1) / 64 = 2)
    (hv : ¬ (acc s k (v0F n (bt s k)) n < least ∨ 1114111 < acc s k (v0F n (bt s k)) n ∨ (55296 ≤ acc s k (v0F n (bt s k)) n ∧ acc s k (v0F n (bt s k)) n ≤ 57343))) : vFrom s k = vFrom s (k + 1 + n) := by
  have key : (Lib.decodeN (s.size - k) (bt s k) (bt s (k + 1)) (bt s (k + 2)) (bt s (k + 3))).2 = 1 + n ∧ ¬ ((Lib.decodeN (s.size - k) (bt s k) (bt s (k + 1)) (bt s (k + 2)) (bt s (k + 3))).1 = 65533 ∧ (Lib.decodeN (s.size - k) (bt s k) (bt s (k + 1)) (bt s (k + 2)) (bt s (k + 3))).2 = 1) := by
    unfold Lib.decodeN
    rcases follows_cases (bt_lt s k) hf with ⟨rfl, rfl, h1⟩ | ⟨rfl, rfl, h1, h2⟩ | ⟨rfl, rfl, h1, h2⟩ | ⟨rfl, rfl, h1, h2⟩
    · rw [if_pos h1]; simp; omega
    · have c1 := hc 0 (by omega)
      simp only [Nat.add_zero] at c1
      rw [acc_1] at hv
      simp only [v0F, if_true] at hv
      repeat' split
      all_goals first | (exfalso; omega) | simp
    · have c1 := hc 0 (by omega)
      have c2 := hc 1 (by omega)
      simp only [Nat.add_zero] at c1
      rw [show k + 1 + 1 = k + 2 by omega] at c2
      rw [acc_2] at hv
      simp only [v0F] at hv
      repeat' split
      all_goals first | (exfalso; simp at hv; omega) | simp
    · have c1 := hc 0 (by omega)
      have c2 := hc 1 (by omega)
      have c3 := hc 2 (by omega)
      simp only [Nat.add_zero] at c1
      rw [show k + 1 + 1 = k + 2 by omega] at c2
      rw [show k + 2 + 1 = k + 3 by omega] at c3
      rw [acc_3] at hv
      simp only [v0F] at hv
      repeat' split
      all_goals first | (exfalso; simp at hv; omega) | simp
  rw [vFrom_step s k (by omega), if_neg key.2, key.1, Nat.add_assoc]
end Go.Proofs.YtjkpbpgeedihhaaGreatDoor
namespace Go.Proofs.YtjkpbpgeedihhaaGreatDoor
open Go.RowKit
open M
theorem follows_neg_or (c : Nat) : (followsF c).1 < 0 ∨ ∃ n : Nat, followsF c = ((n : Int), (followsF c).2) ∧ n ≤ 3 := by
  have : ∀ x : Int × Int, x = followsF c → x.1 < 0 ∨ ∃ n : Nat, followsF c = ((n : Int), (followsF c).2) ∧ n ≤ 3 := by
    intro x hx
    unfold followsF at hx
    repeat' split at hx
    all_goals (rename_i h; rw [← show x = followsF c by unfold followsF; simp [*]]; subst hx)
    all_goals first | exact .inl (by decide) | exact .inr ⟨0, rfl, by omega⟩ | exact .inr ⟨1, rfl, by omega⟩ | exact .inr ⟨2, rfl, by omega⟩ | exact .inr ⟨3, rfl, by omega⟩
  exact this _ rfl
/-- The first j bytes behind place k are such that follow. -/
def contTo (s : ByteArray) (k j : Nat) : Bool := decide (∀ t, t < j → bt s (k + t + 1) / 64 = 2)
theorem contTo_zero (s : ByteArray) (k : Nat) : contTo s k 0 = true := by simp [contTo]
theorem contTo_next {s : ByteArray} {k j : Nat} (h : contTo s k j = true) (hb : bt s (k + j + 1) / 64 = 2) : contTo s k (j + 1) = true := by
  simp only [contTo, decide_eq_true_eq] at h ⊢
  intro t ht
  by_cases e : t = j
  · subst e; exact hb
  · exact h t (by omega)
theorem contTo_all {s : ByteArray} {k j : Nat} (h : contTo s k j = true) : ∀ t, t < j → bt s (k + t + 1) / 64 = 2 := by simpa [contTo] using h
theorem acc_bd (s : ByteArray) (k : Nat) (v : Int) (h0 : 0 ≤ v) (h1 : v < 32) (j : Nat) (hj : j ≤ 2) : 0 ≤ acc s k v j ∧ acc s k v j < 131072 := by
  have : j = 0 ∨ j = 1 ∨ j = 2 := by omega
  rcases this with rfl | rfl | rfl
  · exact ⟨h0, by show v < 131072; omega⟩
  · rw [acc_1]; omega
  · rw [acc_2]; omega
theorem cont_ne {d : Nat} (h : ((d : Int) / 64 != 2) = true) : d / 64 ≠ 2 := by simp at h; omega
theorem cont_eq {d : Nat} (h : ((d : Int) / 64 != 2) = false) : d / 64 = 2 := by simp at h; omega
theorem follows_n (c : Nat) (n least : Int) (w : World) (h : followsF c = (n, least)) :
    Calls Tryz.prog 190 #[.int .i64 c] w fun e w' => e = .returned (.tuple #[.int .i64 n, .int .i64 least]) ∧ w' = w := by
  have := follows_any c w
  rw [h] at this
  exact this
set_option maxHeartbeats 1000000 in
set_option maxRecDepth 100000 in
theorem utf8_any (s : ByteArray) (w : World) (hs : s.size ≤ 140737488355328) :
    Calls Tryz.prog 108 #[.string s] w fun e w' => e = .returned (.bool (Lib.validD s.data.toList)) ∧ w' = w := by
  obtain ⟨ANS, hANS⟩ : ∃ ANS, Lib.validD s.data.toList = ANS := ⟨_, rfl⟩
  have H0 : vFrom s 0 = ANS := hANS
  rw [hANS]
  clear hANS
  go_enter Tryz.func108, Tryz.ntmps108
  go_wp2
  go_loop [3] (fun i => ∃ k : Nat, k ≤ s.size ∧ i = .int .i64 k ∧ vFrom s k = ANS) (fun i => s.size - (intOf i).toNat)
  case atStart => exact ⟨0, Nat.zero_le _, rfl, H0⟩
  case round =>
    obtain ⟨k, hk, rfl, hv⟩ := hrel
    have HV : Hid (vFrom s k = ANS) := hv
    clear hv H0
    by_cases hlt : k < s.size
    · have hb := bt_eq s k hlt
      have hb256 := bt_lt s k
      obtain ⟨c, hc⟩ : ∃ c, bt s k = c := ⟨_, rfl⟩
      have HC : Hid (bt s k = c) := hc
      rw [hc] at hb hb256
      rcases follows_neg_or c with hn | ⟨n, hf, hn3⟩
      · have HN : Hid ((followsF c).1 < 0) := hn
        go_wp2_with (go_at_call 190; go_must (refine (follows_any _ _).mono ?_; rintro e w' ⟨rfl, rfl⟩))
        go_ret
        exact ⟨ret_bool' (by rw [← HV.out, vFrom_bad s k hlt (.inl (by rw [HC.out]; exact HN.out))]), rfl⟩
      · have HF : Hid (followsF (bt s k) = ((n : Int), (followsF c).2)) := by rw [HC.out]; exact hf
        have HG : Hid (followsF c = ((n : Int), (followsF c).2)) := hf
        by_cases hR : k + n < s.size
        · rcases follows_cases hb256 hf with ⟨rfl, hl, h1⟩ | ⟨rfl, hl, h1, h2⟩ | ⟨rfl, hl, h1, h2⟩ | ⟨rfl, hl, h1, h2⟩
          all_goals
            rw [hl] at HG HF
            have fw := follows_n c _ _ w HG.out
            clear hf hc hl hn3
          · have HB : Hid (c < 128) := h1
            go_wp2_with (go_at_call 190; go_must (refine fw.mono ?_; rintro e w' ⟨rfl, rfl⟩))
            go_loop [7, 8] (fun v i => i = .int .i64 1 ∧ v = .int .i64 c) (fun _ _ => 0)
            case atStart => exact ⟨rfl, rfl⟩
            case round =>
              obtain ⟨rfl, rfl⟩ := hrel
              go_wp2
              all_goals first
                | (exfalso; omega)
                | (refine ⟨⟨k + 1, by omega, by go_num, by rw [← HV.out, vFrom_good s k 0 _ HF.out hR (fun t ht => by omega) (by simp only [acc, v0F]; rw [HC.out]; simp; omega)]⟩, ?_⟩; simp [intOf]; omega)
          · have HB : Hid (192 ≤ c) := by first | exact h1 | (exact Nat.le_trans (by omega) h1)
            go_wp2_with (go_at_call 190; go_must (refine fw.mono ?_; rintro e w' ⟨rfl, rfl⟩))
            go_loop [7, 8] (fun v i => ∃ j : Nat, j ≤ 1 ∧ i = .int .i64 (j + 1 : Nat) ∧ v = .int .i64 (acc s k ((c : Int) % 32) j) ∧ contTo s k j = true) (fun _ i => 2 - (intOf i).toNat)
            case atStart => exact ⟨0, by omega, rfl, rfl, contTo_zero _ _⟩
            case round =>
              obtain ⟨j, hj, rfl, rfl, hct⟩ := hrel
              have HCT : Hid (contTo s k j = true) := hct
              clear hct
              by_cases hjn : j < 1
              · have hab := acc_bd s k ((c : Int) % 32) (by omega) (by omega) j (by omega)
                have hix : k + (j + 1) < s.size := by omega
                obtain ⟨d, hd⟩ : ∃ d, bt s (k + j + 1) = d := ⟨_, rfl⟩
                have hd' : s[k + (j + 1)].toNat = d := by rw [bt_eq s (k + (j + 1)) hix]; exact hd
                have hd256 : d < 256 := by rw [← hd]; exact bt_lt _ _
                have HD : Hid (bt s (k + j + 1) = d) := hd
                clear hd
                go_wp2
                · go_ret
                  exact ⟨ret_bool' (by rw [← HV.out, vFrom_cont s k 1 _ HF.out hR (t := j) hjn (by rw [HD.out]; exact cont_ne ‹_›)]), rfl⟩
                · refine ⟨⟨j + 1, by omega, by go_num, ?_, contTo_next HCT.out (by rw [HD.out]; exact cont_eq ‹_›)⟩, ?_⟩
                  · show Value.int _ _ = Value.int _ (64 * acc s k ((c : Int) % 32) j + (bt s (k + j + 1) : Int) % 64)
                    rw [HD.out]
                  · simp [intOf]; omega
              · obtain rfl : j = 1 := by omega
                have hc' := contTo_all HCT.out
                have HL : Hid (((c : Int) % 32) = v0F 1 (bt s k)) := by rw [HC.out]; rfl
                have hcc : Hid (∀ t, t < 1 → bt s (k + t + 1) / 64 = 2) := hc'
                clear hc'
                obtain ⟨V, hV⟩ : ∃ V, acc s k ((c : Int) % 32) 1 = V := ⟨_, rfl⟩
                have HVV : Hid (acc s k (v0F 1 (bt s k)) 1 = V) := by rw [← HL.out]; exact hV
                go_wp2
                all_goals first
                  | (go_ret; exact ⟨ret_bool' (by rw [← HV.out, vFrom_val s k 1 _ HF.out hR hcc.out (by rw [HVV.out]; omega)]), rfl⟩)
                  | (refine ⟨⟨k + 1 + 1, by omega, by go_num, by rw [← HV.out, vFrom_good s k 1 _ HF.out hR hcc.out (by rw [HVV.out]; omega)]⟩, ?_⟩; simp [intOf]; omega)
          · have HB : Hid (192 ≤ c) := by first | exact h1 | (exact Nat.le_trans (by omega) h1)
            go_wp2_with (go_at_call 190; go_must (refine fw.mono ?_; rintro e w' ⟨rfl, rfl⟩))
            go_loop [7, 8] (fun v i => ∃ j : Nat, j ≤ 2 ∧ i = .int .i64 (j + 1 : Nat) ∧ v = .int .i64 (acc s k ((c : Int) % 16) j) ∧ contTo s k j = true) (fun _ i => 3 - (intOf i).toNat)
            case atStart => exact ⟨0, by omega, rfl, rfl, contTo_zero _ _⟩
            case round =>
              obtain ⟨j, hj, rfl, rfl, hct⟩ := hrel
              have HCT : Hid (contTo s k j = true) := hct
              clear hct
              by_cases hjn : j < 2
              · have hab := acc_bd s k ((c : Int) % 16) (by omega) (by omega) j (by omega)
                have hix : k + (j + 1) < s.size := by omega
                obtain ⟨d, hd⟩ : ∃ d, bt s (k + j + 1) = d := ⟨_, rfl⟩
                have hd' : s[k + (j + 1)].toNat = d := by rw [bt_eq s (k + (j + 1)) hix]; exact hd
                have hd256 : d < 256 := by rw [← hd]; exact bt_lt _ _
                have HD : Hid (bt s (k + j + 1) = d) := hd
                clear hd
                go_wp2
                · go_ret
                  exact ⟨ret_bool' (by rw [← HV.out, vFrom_cont s k 2 _ HF.out hR (t := j) hjn (by rw [HD.out]; exact cont_ne ‹_›)]), rfl⟩
                · refine ⟨⟨j + 1, by omega, by go_num, ?_, contTo_next HCT.out (by rw [HD.out]; exact cont_eq ‹_›)⟩, ?_⟩
                  · show Value.int _ _ = Value.int _ (64 * acc s k ((c : Int) % 16) j + (bt s (k + j + 1) : Int) % 64)
                    rw [HD.out]
                  · simp [intOf]; omega
              · obtain rfl : j = 2 := by omega
                have hc' := contTo_all HCT.out
                have HL : Hid (((c : Int) % 16) = v0F 2 (bt s k)) := by rw [HC.out]; rfl
                have hcc : Hid (∀ t, t < 2 → bt s (k + t + 1) / 64 = 2) := hc'
                clear hc'
                obtain ⟨V, hV⟩ : ∃ V, acc s k ((c : Int) % 16) 2 = V := ⟨_, rfl⟩
                have HVV : Hid (acc s k (v0F 2 (bt s k)) 2 = V) := by rw [← HL.out]; exact hV
                go_wp2
                all_goals first
                  | (go_ret; exact ⟨ret_bool' (by rw [← HV.out, vFrom_val s k 2 _ HF.out hR hcc.out (by rw [HVV.out]; omega)]), rfl⟩)
                  | (refine ⟨⟨k + 1 + 2, by omega, by go_num, by rw [← HV.out, vFrom_good s k 2 _ HF.out hR hcc.out (by rw [HVV.out]; omega)]⟩, ?_⟩; simp [intOf]; omega)
          · have HB : Hid (192 ≤ c) := by first | exact h1 | (exact Nat.le_trans (by omega) h1)
            go_wp2_with (go_at_call 190; go_must (refine fw.mono ?_; rintro e w' ⟨rfl, rfl⟩))
            go_loop [7, 8] (fun v i => ∃ j : Nat, j ≤ 3 ∧ i = .int .i64 (j + 1 : Nat) ∧ v = .int .i64 (acc s k ((c : Int) % 8) j) ∧ contTo s k j = true) (fun _ i => 4 - (intOf i).toNat)
            case atStart => exact ⟨0, by omega, rfl, rfl, contTo_zero _ _⟩
            case round =>
              obtain ⟨j, hj, rfl, rfl, hct⟩ := hrel
              have HCT : Hid (contTo s k j = true) := hct
              clear hct
              by_cases hjn : j < 3
              · have hab := acc_bd s k ((c : Int) % 8) (by omega) (by omega) j (by omega)
                have hix : k + (j + 1) < s.size := by omega
                obtain ⟨d, hd⟩ : ∃ d, bt s (k + j + 1) = d := ⟨_, rfl⟩
                have hd' : s[k + (j + 1)].toNat = d := by rw [bt_eq s (k + (j + 1)) hix]; exact hd
                have hd256 : d < 256 := by rw [← hd]; exact bt_lt _ _
                have HD : Hid (bt s (k + j + 1) = d) := hd
                clear hd
                go_wp2
                · go_ret
                  exact ⟨ret_bool' (by rw [← HV.out, vFrom_cont s k 3 _ HF.out hR (t := j) hjn (by rw [HD.out]; exact cont_ne ‹_›)]), rfl⟩
                · refine ⟨⟨j + 1, by omega, by go_num, ?_, contTo_next HCT.out (by rw [HD.out]; exact cont_eq ‹_›)⟩, ?_⟩
                  · show Value.int _ _ = Value.int _ (64 * acc s k ((c : Int) % 8) j + (bt s (k + j + 1) : Int) % 64)
                    rw [HD.out]
                  · simp [intOf]; omega
              · obtain rfl : j = 3 := by omega
                have hc' := contTo_all HCT.out
                have HL : Hid (((c : Int) % 8) = v0F 3 (bt s k)) := by rw [HC.out]; rfl
                have hcc : Hid (∀ t, t < 3 → bt s (k + t + 1) / 64 = 2) := hc'
                clear hc'
                obtain ⟨V, hV⟩ : ∃ V, acc s k ((c : Int) % 8) 3 = V := ⟨_, rfl⟩
                have HVV : Hid (acc s k (v0F 3 (bt s k)) 3 = V) := by rw [← HL.out]; exact hV
                go_wp2
                all_goals first
                  | (go_ret; exact ⟨ret_bool' (by rw [← HV.out, vFrom_val s k 3 _ HF.out hR hcc.out (by rw [HVV.out]; omega)]), rfl⟩)
                  | (refine ⟨⟨k + 1 + 3, by omega, by go_num, by rw [← HV.out, vFrom_good s k 3 _ HF.out hR hcc.out (by rw [HVV.out]; omega)]⟩, ?_⟩; simp [intOf]; omega)
        · have fw := follows_n c _ _ w HG.out
          clear hf hc
          have hR' : (s.size : Int) ≤ (k : Int) + n := by omega
          go_wp2_with (go_at_call 190; go_must (refine fw.mono ?_; rintro e w' ⟨rfl, rfl⟩))
          all_goals go_ret
          all_goals exact ⟨ret_bool' (by rw [← HV.out, vFrom_bad s k hlt (.inr (by rw [HF.out]; exact hR'))]), rfl⟩
    · go_wp2
      go_ret
      exact ⟨ret_bool' (by rw [← HV.out, vFrom_end s k (by omega)]), rfl⟩
end Go.Proofs.YtjkpbpgeedihhaaGreatDoor
namespace Go.Proofs.YtjkpbpgeedihhaaGreatDoor
open Go.RowKit
open M
def hiCh (c : UInt8) : Bool := decide (32 ≤ c.toNat)
def rightNameB (s : ByteArray) : Bool := s.data.toList.all hiCh && (Lib.validD s.data.toList && decide (s.size ≤ 40))
theorem getD_byte (s : ByteArray) (k : Nat) (h : k < s.size) : s.data.toList[k]?.getD 0 = s[k] := by
  have h' : k < s.data.toList.length := by simpa using h
  rw [List.getElem?_eq_getElem h']; rfl
set_option maxHeartbeats 400000 in
theorem rightName_any (s : ByteArray) (w : World) (hs : s.size ≤ 140737488355328) :
    Calls Tryz.prog 199 #[.string s] w fun e w' => e = .returned (.bool (rightNameB s)) ∧ w' = w := by
  have hz : s.data.toList.length = s.size := rfl
  have HZ : Hid (s.data.toList.length = s.size) := hz
  have hu := utf8_any s w hs
  clear hz
  go_enter Tryz.func199, Tryz.ntmps199
  go_wp2
  go_loop [3] (fun i => ∃ k : Nat, k ≤ s.size ∧ i = .int .i64 k ∧ allTo hiCh s.data.toList k = true) (fun i => s.size - (intOf i).toNat)
  case atStart => exact ⟨0, Nat.zero_le _, rfl, allTo_zero _ _⟩
  case round =>
    obtain ⟨k, hk, rfl, hall⟩ := hrel
    have HT : Hid (allTo hiCh s.data.toList k = true) := hall
    clear hall
    by_cases hlt : k < s.size
    · go_wp2
      · go_ret
        exact ⟨ret_bool' (by unfold rightNameB; rw [all_false_at 0 (by rw [HZ.out]; exact hlt) (by rw [getD_byte s k hlt]; simp [hiCh]; omega)]; rfl), rfl⟩
      · refine ⟨⟨k + 1, by omega, by go_num, allTo_next 0 (by rw [HZ.out]; exact hlt) HT.out (by rw [getD_byte s k hlt]; simp [hiCh]; omega)⟩, ?_⟩
        simp [intOf]; omega
    · cases hV : Lib.validD s.data.toList
      all_goals
        rw [hV] at hu
        have HVV : Hid (Lib.validD s.data.toList = _) := hV
        clear hV
        go_wp2_with (go_at_call 108; go_must (refine hu.mono ?_; rintro e w' ⟨rfl, rfl⟩))
        go_ret
        exact ⟨ret_bool' (by unfold rightNameB; rw [allTo_end (by rw [HZ.out]; omega) HT.out, HVV.out]; first | rfl | (rw [Bool.eq_iff_iff]; simp; omega)), rfl⟩
end Go.Proofs.YtjkpbpgeedihhaaGreatDoor
namespace Go.Proofs.YtjkpbpgeedihhaaGreatDoor
open Go.RowKit
open M
def toB (k : Int) : Bool := k == 1 || k == 2 || k == 5 || k == 6
def timedB (k : Int) : Bool := k == 2 || k == 6
/-- Has the node the fields of its kind, and only these? -/
def rightNodeB (n : Nod) : Bool :=
  if isIdB n.id.data.toList = false ∨ rightNameB n.name = false ∨ rightCasesB n.cases = false ∨ n.kind < 1 ∨ 7 < n.kind then false
  else if toB n.kind ≠ decide (n.to ≠ -1) ∨ decide (n.kind = 3) ≠ decide (n.els ≠ -1) ∨ (n.kind ≠ 3 ∧ 0 < n.cases.length) ∨ (n.kind ≠ 2 ∧ n.name.toList ≠ []) then false
  else if (n.kind = 4 ∧ (n.branches.length < 2 ∨ 6 < n.branches.length)) ∨ (n.kind ≠ 4 ∧ 0 < n.branches.length) then false
  else if n.after = 0 then decide (n.late = -1)
  else timedB n.kind && decide (1 ≤ n.after ∧ n.after ≤ 1000 ∧ n.late ≠ -1)
structure NodSz (n : Nod) : Prop where
  id : n.id.size ≤ 140737488355328
  name : n.name.size ≤ 140737488355328
theorem b1 (w : World) (o : Obj) : Below w.heap.size w (w.alloc o) := (Below.refl _ _).alloc (Nat.le_refl _) _
set_option maxHeartbeats 1000000 in
set_option maxRecDepth 100000 in
theorem rightNode_k1 (n : Nod) (r : Raw) (w : World) (hn : NodIn w n r) (hz : NodSz n) (hk : n.kind = 1) (hI : isIdB n.id.data.toList = true) (hN : rightNameB n.name = true) (hC : rightCasesB n.cases = true) :
    Calls Tryz.prog 118 #[.agg (nodV n r)] w fun e w' => e = .returned (.bool (rightNodeB n)) ∧ Below w.heap.size w w' := by
  have h22 := fun o => isId_any n.id (w.alloc o) (by unfold maxLen; have := hz.id; omega)
  have h48 := fun o => rightName_any n.name (w.alloc o) hz.name
  have h49 := fun o => rightCases_any r.ca r.cc n.cases (w.alloc o) (hn.cs.below (b1 w o)) hn.cl
  rw [hI] at h22
  rw [hN] at h48
  rw [hC] at h49
  have hcl := hn.cl
  have hbl := hn.bl
  unfold maxLen at hcl hbl
  clear hn hz
  have HI : Hid (isIdB n.id.data.toList = true ∧ rightNameB n.name = true ∧ rightCasesB n.cases = true ∧ n.kind = 1) := ⟨hI, hN, hC, hk⟩
  clear hI hN hC
  unfold nodV
  simp only [SlV]
  rw [hk]
  clear hk
  go_enter Tryz.func118, Tryz.ntmps118
  go_wp2_with (first | (go_at_call 111; go_must (refine (h22 _).mono ?_; rintro e w1 ⟨rfl, rfl⟩)) | (go_at_call 199; go_must (refine (h48 _).mono ?_; rintro e w1 ⟨rfl, rfl⟩)) | (go_at_call 200; go_must (refine (h49 _).mono ?_; rintro e w1 ⟨rfl, rfl⟩)))
  all_goals first
    | (go_ret
       refine ⟨ret_bool' ?_, b1 _ _⟩
       obtain ⟨i1, i2, i3, i4⟩ := HI.out
       clear h22 h48 h49 HI
       unfold rightNodeB toB timedB
       simp only [i1, i2, i3, i4]
       first
       | (simp_all; done)
       | (rw [Bool.eq_iff_iff]; simp_all; done)
       | (rw [Bool.eq_iff_iff]; simp_all; omega))
    | (exfalso; clear h22 h48 h49 HI; simp_all; done)
set_option maxHeartbeats 1000000 in
set_option maxRecDepth 100000 in
theorem rightNode_k2 (n : Nod) (r : Raw) (w : World) (hn : NodIn w n r) (hz : NodSz n) (hk : n.kind = 2) (hI : isIdB n.id.data.toList = true) (hN : rightNameB n.name = true) (hC : rightCasesB n.cases = true) :
    Calls Tryz.prog 118 #[.agg (nodV n r)] w fun e w' => e = .returned (.bool (rightNodeB n)) ∧ Below w.heap.size w w' := by
  have h22 := fun o => isId_any n.id (w.alloc o) (by unfold maxLen; have := hz.id; omega)
  have h48 := fun o => rightName_any n.name (w.alloc o) hz.name
  have h49 := fun o => rightCases_any r.ca r.cc n.cases (w.alloc o) (hn.cs.below (b1 w o)) hn.cl
  rw [hI] at h22
  rw [hN] at h48
  rw [hC] at h49
  have hcl := hn.cl
  have hbl := hn.bl
  unfold maxLen at hcl hbl
  clear hn hz
  have HI : Hid (isIdB n.id.data.toList = true ∧ rightNameB n.name = true ∧ rightCasesB n.cases = true ∧ n.kind = 2) := ⟨hI, hN, hC, hk⟩
  clear hI hN hC
  unfold nodV
  simp only [SlV]
  rw [hk]
  clear hk
  go_enter Tryz.func118, Tryz.ntmps118
  go_wp2_with (first | (go_at_call 111; go_must (refine (h22 _).mono ?_; rintro e w1 ⟨rfl, rfl⟩)) | (go_at_call 199; go_must (refine (h48 _).mono ?_; rintro e w1 ⟨rfl, rfl⟩)) | (go_at_call 200; go_must (refine (h49 _).mono ?_; rintro e w1 ⟨rfl, rfl⟩)))
  all_goals first
    | (go_ret
       refine ⟨ret_bool' ?_, b1 _ _⟩
       obtain ⟨i1, i2, i3, i4⟩ := HI.out
       clear h22 h48 h49 HI
       unfold rightNodeB toB timedB
       simp only [i1, i2, i3, i4]
       first
       | (simp_all; done)
       | (rw [Bool.eq_iff_iff]; simp_all; done)
       | (rw [Bool.eq_iff_iff]; simp_all; omega))
    | (exfalso; clear h22 h48 h49 HI; simp_all; done)
set_option maxHeartbeats 1000000 in
set_option maxRecDepth 100000 in
theorem rightNode_k3 (n : Nod) (r : Raw) (w : World) (hn : NodIn w n r) (hz : NodSz n) (hk : n.kind = 3) (hI : isIdB n.id.data.toList = true) (hN : rightNameB n.name = true) (hC : rightCasesB n.cases = true) :
    Calls Tryz.prog 118 #[.agg (nodV n r)] w fun e w' => e = .returned (.bool (rightNodeB n)) ∧ Below w.heap.size w w' := by
  have h22 := fun o => isId_any n.id (w.alloc o) (by unfold maxLen; have := hz.id; omega)
  have h48 := fun o => rightName_any n.name (w.alloc o) hz.name
  have h49 := fun o => rightCases_any r.ca r.cc n.cases (w.alloc o) (hn.cs.below (b1 w o)) hn.cl
  rw [hI] at h22
  rw [hN] at h48
  rw [hC] at h49
  have hcl := hn.cl
  have hbl := hn.bl
  unfold maxLen at hcl hbl
  clear hn hz
  have HI : Hid (isIdB n.id.data.toList = true ∧ rightNameB n.name = true ∧ rightCasesB n.cases = true ∧ n.kind = 3) := ⟨hI, hN, hC, hk⟩
  clear hI hN hC
  unfold nodV
  simp only [SlV]
  rw [hk]
  clear hk
  go_enter Tryz.func118, Tryz.ntmps118
  go_wp2_with (first | (go_at_call 111; go_must (refine (h22 _).mono ?_; rintro e w1 ⟨rfl, rfl⟩)) | (go_at_call 199; go_must (refine (h48 _).mono ?_; rintro e w1 ⟨rfl, rfl⟩)) | (go_at_call 200; go_must (refine (h49 _).mono ?_; rintro e w1 ⟨rfl, rfl⟩)))
  all_goals first
    | (go_ret
       refine ⟨ret_bool' ?_, b1 _ _⟩
       obtain ⟨i1, i2, i3, i4⟩ := HI.out
       clear h22 h48 h49 HI
       unfold rightNodeB toB timedB
       simp only [i1, i2, i3, i4]
       first
       | (simp_all; done)
       | (rw [Bool.eq_iff_iff]; simp_all; done)
       | (rw [Bool.eq_iff_iff]; simp_all; omega))
    | (exfalso; clear h22 h48 h49 HI; simp_all; done)
set_option maxHeartbeats 1000000 in
set_option maxRecDepth 100000 in
theorem rightNode_k4 (n : Nod) (r : Raw) (w : World) (hn : NodIn w n r) (hz : NodSz n) (hk : n.kind = 4) (hI : isIdB n.id.data.toList = true) (hN : rightNameB n.name = true) (hC : rightCasesB n.cases = true) :
    Calls Tryz.prog 118 #[.agg (nodV n r)] w fun e w' => e = .returned (.bool (rightNodeB n)) ∧ Below w.heap.size w w' := by
  have h22 := fun o => isId_any n.id (w.alloc o) (by unfold maxLen; have := hz.id; omega)
  have h48 := fun o => rightName_any n.name (w.alloc o) hz.name
  have h49 := fun o => rightCases_any r.ca r.cc n.cases (w.alloc o) (hn.cs.below (b1 w o)) hn.cl
  rw [hI] at h22
  rw [hN] at h48
  rw [hC] at h49
  have hcl := hn.cl
  have hbl := hn.bl
  unfold maxLen at hcl hbl
  clear hn hz
  have HI : Hid (isIdB n.id.data.toList = true ∧ rightNameB n.name = true ∧ rightCasesB n.cases = true ∧ n.kind = 4) := ⟨hI, hN, hC, hk⟩
  clear hI hN hC
  unfold nodV
  simp only [SlV]
  rw [hk]
  clear hk
  go_enter Tryz.func118, Tryz.ntmps118
  go_wp2_with (first | (go_at_call 111; go_must (refine (h22 _).mono ?_; rintro e w1 ⟨rfl, rfl⟩)) | (go_at_call 199; go_must (refine (h48 _).mono ?_; rintro e w1 ⟨rfl, rfl⟩)) | (go_at_call 200; go_must (refine (h49 _).mono ?_; rintro e w1 ⟨rfl, rfl⟩)))
  all_goals first
    | (go_ret
       refine ⟨ret_bool' ?_, b1 _ _⟩
       obtain ⟨i1, i2, i3, i4⟩ := HI.out
       clear h22 h48 h49 HI
       unfold rightNodeB toB timedB
       simp only [i1, i2, i3, i4]
       first
       | (simp_all; done)
       | (rw [Bool.eq_iff_iff]; simp_all; done)
       | (rw [Bool.eq_iff_iff]; simp_all; omega))
    | (exfalso; clear h22 h48 h49 HI; simp_all; done)
set_option maxHeartbeats 1000000 in
set_option maxRecDepth 100000 in
theorem rightNode_k5 (n : Nod) (r : Raw) (w : World) (hn : NodIn w n r) (hz : NodSz n) (hk : n.kind = 5) (hI : isIdB n.id.data.toList = true) (hN : rightNameB n.name = true) (hC : rightCasesB n.cases = true) :
    Calls Tryz.prog 118 #[.agg (nodV n r)] w fun e w' => e = .returned (.bool (rightNodeB n)) ∧ Below w.heap.size w w' := by
  have h22 := fun o => isId_any n.id (w.alloc o) (by unfold maxLen; have := hz.id; omega)
  have h48 := fun o => rightName_any n.name (w.alloc o) hz.name
  have h49 := fun o => rightCases_any r.ca r.cc n.cases (w.alloc o) (hn.cs.below (b1 w o)) hn.cl
  rw [hI] at h22
  rw [hN] at h48
  rw [hC] at h49
  have hcl := hn.cl
  have hbl := hn.bl
  unfold maxLen at hcl hbl
  clear hn hz
  have HI : Hid (isIdB n.id.data.toList = true ∧ rightNameB n.name = true ∧ rightCasesB n.cases = true ∧ n.kind = 5) := ⟨hI, hN, hC, hk⟩
  clear hI hN hC
  unfold nodV
  simp only [SlV]
  rw [hk]
  clear hk
  go_enter Tryz.func118, Tryz.ntmps118
  go_wp2_with (first | (go_at_call 111; go_must (refine (h22 _).mono ?_; rintro e w1 ⟨rfl, rfl⟩)) | (go_at_call 199; go_must (refine (h48 _).mono ?_; rintro e w1 ⟨rfl, rfl⟩)) | (go_at_call 200; go_must (refine (h49 _).mono ?_; rintro e w1 ⟨rfl, rfl⟩)))
  all_goals first
    | (go_ret
       refine ⟨ret_bool' ?_, b1 _ _⟩
       obtain ⟨i1, i2, i3, i4⟩ := HI.out
       clear h22 h48 h49 HI
       unfold rightNodeB toB timedB
       simp only [i1, i2, i3, i4]
       first
       | (simp_all; done)
       | (rw [Bool.eq_iff_iff]; simp_all; done)
       | (rw [Bool.eq_iff_iff]; simp_all; omega))
    | (exfalso; clear h22 h48 h49 HI; simp_all; done)
set_option maxHeartbeats 1000000 in
set_option maxRecDepth 100000 in
theorem rightNode_k6 (n : Nod) (r : Raw) (w : World) (hn : NodIn w n r) (hz : NodSz n) (hk : n.kind = 6) (hI : isIdB n.id.data.toList = true) (hN : rightNameB n.name = true) (hC : rightCasesB n.cases = true) :
    Calls Tryz.prog 118 #[.agg (nodV n r)] w fun e w' => e = .returned (.bool (rightNodeB n)) ∧ Below w.heap.size w w' := by
  have h22 := fun o => isId_any n.id (w.alloc o) (by unfold maxLen; have := hz.id; omega)
  have h48 := fun o => rightName_any n.name (w.alloc o) hz.name
  have h49 := fun o => rightCases_any r.ca r.cc n.cases (w.alloc o) (hn.cs.below (b1 w o)) hn.cl
  rw [hI] at h22
  rw [hN] at h48
  rw [hC] at h49
  have hcl := hn.cl
  have hbl := hn.bl
  unfold maxLen at hcl hbl
  clear hn hz
  have HI : Hid (isIdB n.id.data.toList = true ∧ rightNameB n.name = true ∧ rightCasesB n.cases = true ∧ n.kind = 6) := ⟨hI, hN, hC, hk⟩
  clear hI hN hC
  unfold nodV
  simp only [SlV]
  rw [hk]
  clear hk
  go_enter Tryz.func118, Tryz.ntmps118
  go_wp2_with (first | (go_at_call 111; go_must (refine (h22 _).mono ?_; rintro e w1 ⟨rfl, rfl⟩)) | (go_at_call 199; go_must (refine (h48 _).mono ?_; rintro e w1 ⟨rfl, rfl⟩)) | (go_at_call 200; go_must (refine (h49 _).mono ?_; rintro e w1 ⟨rfl, rfl⟩)))
  all_goals first
    | (go_ret
       refine ⟨ret_bool' ?_, b1 _ _⟩
       obtain ⟨i1, i2, i3, i4⟩ := HI.out
       clear h22 h48 h49 HI
       unfold rightNodeB toB timedB
       simp only [i1, i2, i3, i4]
       first
       | (simp_all; done)
       | (rw [Bool.eq_iff_iff]; simp_all; done)
       | (rw [Bool.eq_iff_iff]; simp_all; omega))
    | (exfalso; clear h22 h48 h49 HI; simp_all; done)
set_option maxHeartbeats 1000000 in
set_option maxRecDepth 100000 in
theorem rightNode_k7 (n : Nod) (r : Raw) (w : World) (hn : NodIn w n r) (hz : NodSz n) (hk : n.kind = 7) (hI : isIdB n.id.data.toList = true) (hN : rightNameB n.name = true) (hC : rightCasesB n.cases = true) :
    Calls Tryz.prog 118 #[.agg (nodV n r)] w fun e w' => e = .returned (.bool (rightNodeB n)) ∧ Below w.heap.size w w' := by
  have h22 := fun o => isId_any n.id (w.alloc o) (by unfold maxLen; have := hz.id; omega)
  have h48 := fun o => rightName_any n.name (w.alloc o) hz.name
  have h49 := fun o => rightCases_any r.ca r.cc n.cases (w.alloc o) (hn.cs.below (b1 w o)) hn.cl
  rw [hI] at h22
  rw [hN] at h48
  rw [hC] at h49
  have hcl := hn.cl
  have hbl := hn.bl
  unfold maxLen at hcl hbl
  clear hn hz
  have HI : Hid (isIdB n.id.data.toList = true ∧ rightNameB n.name = true ∧ rightCasesB n.cases = true ∧ n.kind = 7) := ⟨hI, hN, hC, hk⟩
  clear hI hN hC
  unfold nodV
  simp only [SlV]
  rw [hk]
  clear hk
  go_enter Tryz.func118, Tryz.ntmps118
  go_wp2_with (first | (go_at_call 111; go_must (refine (h22 _).mono ?_; rintro e w1 ⟨rfl, rfl⟩)) | (go_at_call 199; go_must (refine (h48 _).mono ?_; rintro e w1 ⟨rfl, rfl⟩)) | (go_at_call 200; go_must (refine (h49 _).mono ?_; rintro e w1 ⟨rfl, rfl⟩)))
  all_goals first
    | (go_ret
       refine ⟨ret_bool' ?_, b1 _ _⟩
       obtain ⟨i1, i2, i3, i4⟩ := HI.out
       clear h22 h48 h49 HI
       unfold rightNodeB toB timedB
       simp only [i1, i2, i3, i4]
       first
       | (simp_all; done)
       | (rw [Bool.eq_iff_iff]; simp_all; done)
       | (rw [Bool.eq_iff_iff]; simp_all; omega))
    | (exfalso; clear h22 h48 h49 HI; simp_all; done)
end Go.Proofs.YtjkpbpgeedihhaaGreatDoor
