import Derived.Test.YtjkpbpgeedihhaaGreatDoorC07
import Derived.Lib.MapLaws
import Derived.Laws.RangeAny
set_option linter.all false
namespace Go.Proofs.YtjkpbpgeedihhaaGreatDoor
open Go.RowKit
open M
theorem get_bt (s : ByteArray) (i : Nat) : (s.get! i).toNat = bt s i := by
  unfold bt
  by_cases h : i < s.size
  · have h' : i < s.data.toList.length := by simpa using h
    rw [List.getD, List.getElem?_eq_getElem h']
    simp [ByteArray.get!, getElem!_pos, h]
  · have h' : s.data.toList.length ≤ i := by simpa using h
    rw [List.getD, List.getElem?_eq_none h']
    have : ¬ i < s.data.size := h
    show (s.data[i]!).toNat = 0
    rw [getElem!_neg s.data i this]
    rfl
theorem decode_bt (s : ByteArray) (i : Nat) : Utf8.decode s i = Lib.decodeN (s.size - i) (bt s i) (bt s (i + 1)) (bt s (i + 2)) (bt s (i + 3)) := by
  rw [Lib.decode_at, get_bt, get_bt, get_bt, get_bt]
theorem drop_at (s : ByteArray) (k : Nat) (h : k < s.size) : s.data.toList.drop k = (UInt8.ofNat (bt s k)) :: s.data.toList.drop (k + 1) := by
  have h' : k < s.data.toList.length := by simpa using h
  rw [List.drop_eq_getElem_cons h']
  congr 1
  unfold bt
  rw [List.getD, List.getElem?_eq_getElem h']
  simp
theorem take_at (s : ByteArray) (k d : Nat) (h : k < s.size) : (s.data.toList.drop k).take (d + 1) = UInt8.ofNat (bt s k) :: (s.data.toList.drop (k + 1)).take d := by
  rw [drop_at s k h]; rfl
/-- A rune at a place of UTF-8: what it is encoded to is what stands there. -/
structure RuneAt (s : ByteArray) (k : Nat) : Prop where
  enc : (Utf8.encode ((Utf8.decode s k).1 : Int)).data.toList = (s.data.toList.drop k).take (Utf8.decode s k).2
  le : k + (Utf8.decode s k).2 ≤ s.size
  pos : 1 ≤ (Utf8.decode s k).2
  low : (Utf8.decode s k).1 < 128 → (Utf8.decode s k).2 = 1 ∧ bt s k = (Utf8.decode s k).1
  high : 128 ≤ (Utf8.decode s k).1 → ∀ b ∈ (s.data.toList.drop k).take (Utf8.decode s k).2, 128 ≤ b.toNat
  next : vFrom s (k + (Utf8.decode s k).2) = true
theorem ofNat_ge {x : Nat} (h : 128 ≤ x) (h2 : x < 256) : 128 ≤ (UInt8.ofNat x).toNat := by
  rw [UInt8.toNat_ofNat', Nat.mod_eq_of_lt h2]; exact h
theorem valid_of (c : Nat) (h : c < 55296 ∨ (57344 ≤ c ∧ c ≤ 1114111)) : Utf8.valid (c : Int) = true := by
  unfold Utf8.valid
  rw [Bool.or_eq_true, Bool.and_eq_true, Bool.and_eq_true, decide_eq_true_iff, decide_eq_true_iff, decide_eq_true_iff, decide_eq_true_iff]
  omega
theorem enc_eq2 (c : Nat) (hv : Utf8.valid (c : Int) = true) : Utf8.encode (c : Int) = if c < 0x80 then ⟨#[UInt8.ofNat c]⟩
  else if c < 0x800 then ⟨#[UInt8.ofNat (0xC0 + c / 64), UInt8.ofNat (0x80 + c % 64)]⟩
  else if c < 0x10000 then ⟨#[UInt8.ofNat (0xE0 + c / 4096), UInt8.ofNat (0x80 + c / 64 % 64), UInt8.ofNat (0x80 + c % 64)]⟩
  else ⟨#[UInt8.ofNat (0xF0 + c / 262144), UInt8.ofNat (0x80 + c / 4096 % 64), UInt8.ofNat (0x80 + c / 64 % 64), UInt8.ofNat (0x80 + c % 64)]⟩ := by
  have e : (if Utf8.valid (c : Int) = true then (c : Int).toNat else Utf8.runeError) = c := by rw [if_pos hv]; rfl
  unfold Utf8.encode
  dsimp only
  rw [e]
theorem enc_one (c : Nat) (h : c < 128) : (Utf8.encode (c : Int)).data.toList = [UInt8.ofNat c] := by
  rw [enc_eq2 c (valid_of c (by omega)), if_pos (by omega)]
theorem enc_two (c : Nat) (h : 128 ≤ c) (h2 : c < 2048) : (Utf8.encode (c : Int)).data.toList = [UInt8.ofNat (192 + c / 64), UInt8.ofNat (128 + c % 64)] := by
  rw [enc_eq2 c (valid_of c (by omega)), if_neg (by omega), if_pos (by omega)]
theorem enc_three (c : Nat) (h : 2048 ≤ c) (h2 : c < 65536) (h3 : c < 55296 ∨ 57344 ≤ c) : (Utf8.encode (c : Int)).data.toList = [UInt8.ofNat (224 + c / 4096), UInt8.ofNat (128 + c / 64 % 64), UInt8.ofNat (128 + c % 64)] := by
  rw [enc_eq2 c (valid_of c (by omega)), if_neg (by omega), if_neg (by omega), if_pos (by omega)]
theorem enc_four (c : Nat) (h : 65536 ≤ c) (h2 : c ≤ 1114111) : (Utf8.encode (c : Int)).data.toList = [UInt8.ofNat (240 + c / 262144), UInt8.ofNat (128 + c / 4096 % 64), UInt8.ofNat (128 + c / 64 % 64), UInt8.ofNat (128 + c % 64)] := by
  rw [enc_eq2 c (valid_of c (by omega)), if_neg (by omega), if_neg (by omega), if_neg (by omega)]
theorem rune_at (s : ByteArray) (k : Nat) (h : k < s.size) (hv : vFrom s k = true) : RuneAt s k := by
  have b0 := bt_lt s k
  have b1 := bt_lt s (k + 1)
  have b2 := bt_lt s (k + 2)
  have b3 := bt_lt s (k + 3)
  rw [vFrom_step s k h] at hv
  split at hv
  · cases hv
  · rename_i hne
    rw [← decode_bt] at hv hne
    have hd := decode_bt s k
    rcases Lib.decodeN_shape (s.size - k) (bt s k) (bt s (k + 1)) (bt s (k + 2)) (bt s (k + 3)) with ⟨c, e⟩ | ⟨c1, c2, c3, cv, e⟩ | ⟨c1, c2, c3, c4, cv, cs, e⟩ | ⟨c1, c2, c3, c4, c5, cv, cw, e⟩ | e
    · rw [e] at hd
      refine ⟨?_, by rw [hd]; show k + 1 ≤ _; omega, by rw [hd]; exact Nat.le_refl _, fun _ => by rw [hd]; exact ⟨rfl, rfl⟩, fun h' => by rw [hd] at h'; simp only at h'; omega, hv⟩
      rw [hd]
      dsimp only
      rw [enc_one _ c, take_at s k 0 h]; rfl
    · rw [e] at hd
      have et : (s.data.toList.drop k).take 2 = [UInt8.ofNat (bt s k), UInt8.ofNat (bt s (k + 1))] := by rw [take_at s k 1 h, take_at s (k + 1) 0 (by omega)]; rfl
      refine ⟨?_, by rw [hd]; show k + 2 ≤ _; omega, by rw [hd]; show 1 ≤ 2; omega, fun h' => by rw [hd] at h'; simp only at h'; omega, fun _ => ?_, hv⟩
      · rw [hd]
        dsimp only
        rw [enc_two _ cv (by omega), et, show 192 + (bt s k % 32 * 64 + bt s (k + 1) % 64) / 64 = bt s k by omega, show 128 + (bt s k % 32 * 64 + bt s (k + 1) % 64) % 64 = bt s (k + 1) by omega]
      · rw [hd]
        dsimp only
        rw [et]
        intro b hb
        simp at hb
        rcases hb with rfl | rfl
        · exact ofNat_ge (by omega) b0
        · exact ofNat_ge (by omega) b1
    · rw [e] at hd
      have et : (s.data.toList.drop k).take 3 = [UInt8.ofNat (bt s k), UInt8.ofNat (bt s (k + 1)), UInt8.ofNat (bt s (k + 2))] := by rw [take_at s k 2 h, take_at s (k + 1) 1 (by omega), take_at s (k + 2) 0 (by omega)]; rfl
      refine ⟨?_, by rw [hd]; show k + 3 ≤ _; omega, by rw [hd]; show 1 ≤ 3; omega, fun h' => by rw [hd] at h'; simp only at h'; omega, fun _ => ?_, hv⟩
      · rw [hd]
        dsimp only
        rw [enc_three _ cv (by omega) cs, et, show 224 + (bt s k % 16 * 4096 + bt s (k + 1) % 64 * 64 + bt s (k + 2) % 64) / 4096 = bt s k by omega, show 128 + (bt s k % 16 * 4096 + bt s (k + 1) % 64 * 64 + bt s (k + 2) % 64) / 64 % 64 = bt s (k + 1) by omega, show 128 + (bt s k % 16 * 4096 + bt s (k + 1) % 64 * 64 + bt s (k + 2) % 64) % 64 = bt s (k + 2) by omega]
      · rw [hd]
        dsimp only
        rw [et]
        intro b hb
        simp at hb
        rcases hb with rfl | rfl | rfl
        · exact ofNat_ge (by omega) b0
        · exact ofNat_ge (by omega) b1
        · exact ofNat_ge (by omega) b2
    · rw [e] at hd
      have et : (s.data.toList.drop k).take 4 = [UInt8.ofNat (bt s k), UInt8.ofNat (bt s (k + 1)), UInt8.ofNat (bt s (k + 2)), UInt8.ofNat (bt s (k + 3))] := by rw [take_at s k 3 h, take_at s (k + 1) 2 (by omega), take_at s (k + 2) 1 (by omega), take_at s (k + 3) 0 (by omega)]; rfl
      refine ⟨?_, by rw [hd]; show k + 4 ≤ _; omega, by rw [hd]; show 1 ≤ 4; omega, fun h' => by rw [hd] at h'; simp only at h'; omega, fun _ => ?_, hv⟩
      · rw [hd]
        dsimp only
        rw [enc_four _ cv cw, et, show 240 + (bt s k % 8 * 262144 + bt s (k + 1) % 64 * 4096 + bt s (k + 2) % 64 * 64 + bt s (k + 3) % 64) / 262144 = bt s k by omega, show 128 + (bt s k % 8 * 262144 + bt s (k + 1) % 64 * 4096 + bt s (k + 2) % 64 * 64 + bt s (k + 3) % 64) / 4096 % 64 = bt s (k + 1) by omega, show 128 + (bt s k % 8 * 262144 + bt s (k + 1) % 64 * 4096 + bt s (k + 2) % 64 * 64 + bt s (k + 3) % 64) / 64 % 64 = bt s (k + 2) by omega, show 128 + (bt s k % 8 * 262144 + bt s (k + 1) % 64 * 4096 + bt s (k + 2) % 64 * 64 + bt s (k + 3) % 64) % 64 = bt s (k + 3) by omega]
      · rw [hd]
        dsimp only
        rw [et]
        intro b hb
        simp at hb
        rcases hb with rfl | rfl | rfl | rfl
        · exact ofNat_ge (by omega) b0
        · exact ofNat_ge (by omega) b1
        · exact ofNat_ge (by omega) b2
        · exact ofNat_ge (by omega) b3
    · rw [e] at hd
      exact absurd (by rw [hd]; exact ⟨rfl, rfl⟩) hne
/-- What is written for a rune. -/
def wrL (c : Int) : List UInt8 :=
  if c = 60 then [38, 108, 116, 59] else if c = 62 then [38, 103, 116, 59] else if c = 38 then [38, 97, 109, 112, 59] else if c = 34 then [38, 113, 117, 111, 116, 59] else if c = 39 then [38, 97, 112, 111, 115, 59] else (Utf8.encode c).data.toList
theorem escCh_high {c : UInt8} (h : 128 ≤ c.toNat) : escCh c = [c] := by
  unfold escCh
  repeat' split
  all_goals first | rfl | omega
theorem esc_flat : ∀ l : List UInt8, (∀ b ∈ l, 128 ≤ b.toNat) → l.flatMap escCh = l
  | [], _ => rfl
  | c :: r, h => by
    rw [List.flatMap_cons, escCh_high (h c (by simp)), esc_flat r (fun b hb => h b (by simp [hb]))]; rfl
theorem esc_rune {s : ByteArray} {k : Nat} (h : k < s.size) (hr : RuneAt s k) : escTo s (k + (Utf8.decode s k).2) = escTo s k ++ wrL ((Utf8.decode s k).1 : Int) := by
  unfold escTo
  rw [List.take_add, List.flatMap_append]
  congr 1
  by_cases hl : (Utf8.decode s k).1 < 128
  · obtain ⟨h1, h2⟩ := hr.low hl
    have he := hr.enc
    rw [h1, take_at s k 0 h] at he ⊢
    unfold wrL
    rw [he, ← h2]
    simp only [List.take_zero, List.flatMap_cons, List.flatMap_nil, List.append_nil]
    have hb : (UInt8.ofNat (bt s k)).toNat = bt s k := by rw [UInt8.toNat_ofNat', Nat.mod_eq_of_lt (by omega)]
    unfold escCh
    rw [hb]
    have e60 : ((bt s k : Int) = 60) = (bt s k = 60) := propext ⟨fun h => by omega, fun h => by omega⟩
    have e62 : ((bt s k : Int) = 62) = (bt s k = 62) := propext ⟨fun h => by omega, fun h => by omega⟩
    have e38 : ((bt s k : Int) = 38) = (bt s k = 38) := propext ⟨fun h => by omega, fun h => by omega⟩
    have e34 : ((bt s k : Int) = 34) = (bt s k = 34) := propext ⟨fun h => by omega, fun h => by omega⟩
    have e39 : ((bt s k : Int) = 39) = (bt s k = 39) := propext ⟨fun h => by omega, fun h => by omega⟩
    simp only [e60, e62, e38, e34, e39]
  · have hh := hr.high (by omega)
    rw [esc_flat _ hh, ← hr.enc]
    unfold wrL
    rw [if_neg (by omega), if_neg (by omega), if_neg (by omega), if_neg (by omega), if_neg (by omega)]
theorem hi_rune {s : ByteArray} {k : Nat} (h : k < s.size) (hr : RuneAt s k) (hc : ¬ (Utf8.decode s k).1 < 32) (ha : allTo hiCh s.data.toList k = true) : allTo hiCh s.data.toList (k + (Utf8.decode s k).2) = true := by
  unfold allTo at ha ⊢
  rw [List.take_add, List.all_append, ha, Bool.true_and]
  by_cases hl : (Utf8.decode s k).1 < 128
  · obtain ⟨h1, h2⟩ := hr.low hl
    rw [h1, take_at s k 0 h]
    have hb : (UInt8.ofNat (bt s k)).toNat = bt s k := by rw [UInt8.toNat_ofNat', Nat.mod_eq_of_lt (by omega)]
    simp only [List.take_zero, List.all_cons, List.all_nil, Bool.and_true, hiCh, hb]
    simp; omega
  · have hh := hr.high (by omega)
    rw [List.all_eq_true]
    intro b hb
    have := hh b hb
    simp [hiCh]; omega
theorem hi_not {s : ByteArray} {k : Nat} (h : k < s.size) (hr : RuneAt s k) (hc : (Utf8.decode s k).1 < 32) : s.data.toList.all hiCh = false := by
  obtain ⟨_, h2⟩ := hr.low (by omega)
  rw [List.all_eq_false]
  refine ⟨s[k], by simp [ByteArray.getElem_eq_getElem_data], ?_⟩
  have := bt_eq s k h
  simp [hiCh]; omega
end Go.Proofs.YtjkpbpgeedihhaaGreatDoor
