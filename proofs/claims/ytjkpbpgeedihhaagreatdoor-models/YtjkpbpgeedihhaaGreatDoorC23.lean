import Derived.Test.YtjkpbpgeedihhaaGreatDoorC22
import Derived.Test.YtjkpbpgeedihhaaGreatDoorC20
set_option linter.all false
namespace Go.Proofs.YtjkpbpgeedihhaaGreatDoor
open Go.RowKit
open M
/-- Strings that stand in an array. -/
def StrsIn (w : World) (b o : Nat) (l : List ByteArray) : Prop := ∀ i, i < l.length → w.cell? ⟨b, o + i, none⟩ = some (.string (l.getD i ⟨#[]⟩))
theorem StrsIn.below {w w' : World} {b o : Nat} {l : List ByteArray} (h : StrsIn w b o l) (hb : Below w.heap.size w w') : StrsIn w' b o l := fun i hi => by
  rw [hb.cell (p := ⟨b, o + i, none⟩) (lt_of_cell (h i hi))]; exact h i hi
/-- The cells of attributes of a row. -/
def atL (f : Bool) (l : List ByteArray) : List Value := l.flatMap fun s => [.string s, .bool f]
theorem atL_app (f : Bool) (l m : List ByteArray) : atL f (l ++ m) = atL f l ++ atL f m := by simp [atL]
theorem two_c1 (W : World) (s : ByteArray) (f : Bool) (t H : Nat) (hH : W.heap.size = H) : ∀ j u, ([.string s, .bool f] : List Value)[j]? = some u → (W.alloc (.cells #[.string s, .bool f] t)).cell? ((⟨H, 0, none⟩ : Addr).add j) = some u := by
  intro j u hj
  subst hH
  match j, hj with
  | 0, hj => simp at hj; subst hj; simp [Addr.add, go_sem]
  | 1, hj => simp at hj; subst hj; simp [Addr.add, go_sem]
theorem two_c2 (s : ByteArray) (f : Bool) : ∀ u ∈ ([.string s, .bool f] : List Value), u.oneCell' = true := by
  intro u hu
  simp at hu
  rcases hu with rfl | rfl <;> rfl
theorem Tryz.info404 : (Tryz.prog.info? 404).map (fun i => (i.zero, i.size, i.bytes)) = some (some (.agg #[.string ⟨#[]⟩, .bool false]), 2, 24) := by kernel_rfl
set_option maxHeartbeats 2000000 in
set_option maxRecDepth 100000 in
theorem must_any (b o c : Nat) (l : List ByteArray) (w : World) (h : StrsIn w b o l) (hl : l.length ≤ 8) :
    Calls Tryz.prog 164 #[.slice (some ⟨b, o, none⟩) l.length c] w fun e w' => ∃ v, e = .returned v ∧ w'.ownsRow w.heap.size 404 2 v l.length (atL false l) ∧ Below w.heap.size w w' := by
  obtain ⟨i0, hi, hz0, hz1, hz2⟩ := info_parts Tryz.info404
  obtain ⟨n, hn⟩ : ∃ n, l.length = n := ⟨_, rfl⟩
  have HN : Hid (l.length = n) := hn
  have HS : Hid (StrsIn w b o l) := h
  rw [hn] at hl ⊢
  clear h hn
  go_enter Tryz.func164, Tryz.ntmps164
  go_wp2_with fail
  go_loopw [3, 8] (fun v i wr => ∃ k : Nat, k ≤ n ∧ i = .int .i64 k ∧ wr.ownsRow w.heap.size 404 2 v k (atL false (l.take k)) ∧ Below w.heap.size w wr) (fun _ i _ => n - (intOf i).toNat)
  case atStart => exact ⟨0, Nat.zero_le _, rfl, World.ownsRow_nil _ _ _ _, Below.refl _ _⟩
  case round =>
    obtain ⟨k, hk, rfl, hown, hbw⟩ := hrel
    have HO : Hid (wr.ownsRow w.heap.size 404 2 u3 k (atL false (l.take k))) := hown
    have HB : Hid (Below w.heap.size w wr) := hbw
    clear hown hbw
    by_cases hlt : k < n
    · have hc := (HS.out.below HB.out) k (by rw [HN.out]; exact hlt)
      obtain ⟨nm, hnm⟩ : ∃ x, l.getD k ⟨#[]⟩ = x := ⟨_, rfl⟩
      rw [hnm] at hc
      have ht : l.take (k + 1) = l.take k ++ [nm] := by rw [take_getD_succ ⟨#[]⟩ l k (by rw [HN.out]; exact hlt), hnm]
      have HT : Hid (l.take (k + 1) = l.take k ++ [nm]) := ht
      clear ht hnm
      have hkb : (k : Int) < n := by omega
      have HSz : Hid (w.heap.size ≤ wr.heap.size) := HB.out.size
      go_wp2_with (at_builtin; go_must (refine wpList_append_own _ rfl (.tmp 12) (.tmp 15) 291 rfl w.heap.size 404 i0 (.agg #[.string ⟨#[]⟩, .bool false]) 2 24 Tryz.underlying291 hi hz0 hz1 hz2 rfl (by decide) _ _ _ rfl (HO.out.alloc _) ⟨wr.heap.size, 0, none⟩ 1 1 [.string nm, .bool false] rfl rfl (two_c1 _ _ _ _ _ rfl) (two_c2 _ _) (by unfold maxLen; omega) (by omega) (by have := HSz.out; simp <;> omega) ?_))
      intro v1 w1 hown1 hg1 _
      have HO1 : Hid (w1.ownsRow w.heap.size 404 2 v1 (k + 1) (atL false (l.take (k + 1)))) := by rw [HT.out, atL_app]; exact hown1
      have HB1 : Hid (Below w.heap.size w w1) := (HB.out.alloc HSz.out _).grown hg1 (by have := HSz.out; simp <;> omega) (fun q e => (HO.out.lt q e).1)
      clear hown1 hg1
      go_wp2_with fail
      exact ⟨⟨k + 1, by omega, by go_num, HO1.out, HB1.out⟩, by simp [intOf]; omega⟩
    · obtain rfl : k = n := by omega
      go_wp2_with fail
      go_ret
      exact ⟨_, rfl, by have := HO.out; rwa [List.take_of_length_le (by rw [HN.out]; omega)] at this, HB.out⟩
end Go.Proofs.YtjkpbpgeedihhaaGreatDoor
namespace Go.Proofs.YtjkpbpgeedihhaaGreatDoor
open Go.RowKit
open M
set_option maxHeartbeats 2000000 in
set_option maxRecDepth 100000 in
theorem free_one (b o c B n0 : Nat) (nm : ByteArray) (v0 : Value) (xs : List Value) (w : World) (hc : w.cell? ⟨b, o, none⟩ = some (.string nm)) (hown : w.ownsRow B 404 2 v0 n0 xs) (hn0 : n0 ≤ 8) (hB : B ≤ w.heap.size) :
    Calls Tryz.prog 168 #[v0, .slice (some ⟨b, o, none⟩) 1 c] w fun e w' => ∃ v, e = .returned v ∧ w'.ownsRow B 404 2 v (n0 + 1) (xs ++ [.string nm, .bool true]) ∧ Below B w w' := by
  obtain ⟨i0, hi, hz0, hz1, hz2⟩ := info_parts Tryz.info404
  have HO : Hid (w.ownsRow B 404 2 v0 n0 xs) := hown
  have HSz : Hid (B ≤ w.heap.size) := hB
  clear hown hB
  go_enter Tryz.func168, Tryz.ntmps168
  go_wp2_with fail
  go_loopw [0, 9] (fun v i wr => (i = .int .i64 0 ∧ v = v0 ∧ wr = w) ∨ (i = .int .i64 1 ∧ wr.ownsRow B 404 2 v (n0 + 1) (xs ++ [.string nm, .bool true]) ∧ Below B w wr)) (fun _ i _ => 1 - (intOf i).toNat)
  case atStart => exact Or.inl ⟨rfl, rfl, rfl⟩
  case round =>
    rcases hrel with ⟨rfl, rfl, rfl⟩ | ⟨rfl, hown1, hb1⟩
    · go_wp2_with (at_builtin; go_must (refine wpList_append_own _ rfl (.tmp 13) (.tmp 16) 291 rfl B 404 i0 (.agg #[.string ⟨#[]⟩, .bool false]) 2 24 Tryz.underlying291 hi hz0 hz1 hz2 rfl (by decide) _ _ _ rfl (HO.out.alloc _) ⟨wr.heap.size, 0, none⟩ 1 1 [.string nm, .bool true] rfl rfl (two_c1 _ _ _ _ _ rfl) (two_c2 _ _) (by unfold maxLen; omega) (by omega) (by have := HSz.out; simp <;> omega) ?_))
      intro v1 w1 hown1 hg1 _
      have HO1 : Hid (w1.ownsRow B 404 2 v1 (n0 + 1) (xs ++ [.string nm, .bool true])) := hown1
      have HB1 : Hid (Below B wr w1) := ((Below.refl B wr).alloc HSz.out _).grown hg1 (by have := HSz.out; simp <;> omega) (fun q e => (HO.out.lt q e).1)
      clear hown1 hg1
      go_wp2_with fail
      exact ⟨Or.inr ⟨rfl, HO1.out, HB1.out⟩, by simp [intOf]⟩
    · have HO1 : Hid (wr.ownsRow B 404 2 u0 (n0 + 1) (xs ++ [.string nm, .bool true])) := hown1
      have HB1 : Hid (Below B w wr) := hb1
      clear hown1 hb1
      go_wp2_with fail
      go_ret
      exact ⟨_, rfl, HO1.out, HB1.out⟩
end Go.Proofs.YtjkpbpgeedihhaaGreatDoor
namespace Go.Proofs.YtjkpbpgeedihhaaGreatDoor
open Go.RowKit
open M
theorem own_below {w w' : World} {B e s n : Nat} {v : Value} {xs : List Value} (h : w.ownsRow B e s v n xs) (hb : Below w.heap.size w w') : w'.ownsRow B e s v n xs := by
  rcases h with ⟨h1, h2 | ⟨g, c, cur, rfl, hBg, hg, hr⟩⟩
  · exact ⟨h1, Or.inl h2⟩
  · exact ⟨h1, Or.inr ⟨g, c, cur, rfl, hBg, (hb.block g (lt_of_block hg)).trans hg, hr⟩⟩
theorem own_base {w : World} {B B' e s n : Nat} {v : Value} {xs : List Value} (h : w.ownsRow B e s v n xs) (hb : B' ≤ B) : w.ownsRow B' e s v n xs := by
  rcases h with ⟨h1, h2 | ⟨g, c, cur, rfl, hBg, hg, hr⟩⟩
  · exact ⟨h1, Or.inl h2⟩
  · exact ⟨h1, Or.inr ⟨g, c, cur, rfl, Nat.le_trans hb hBg, hg, hr⟩⟩
theorem row_shape2 {W : World} {base e s : Nat} {v : Value} {n : Nat} {xs : List Value} (h : W.ownsRow base e s v n xs) (hn : 0 < n) : ∃ g c, v = .slice (some ⟨g, 0, none⟩) n c := by
  rcases h with ⟨_, ⟨_, h0⟩ | ⟨g, c, cur, e, _⟩⟩
  · omega
  · exact ⟨g, c, e⟩
/-- The table, row by row. -/
def tName : Nat → ByteArray
  | 0 => ⟨#[112, 114, 111, 99, 101, 115, 115]⟩
  | 1 => ⟨#[115, 116, 97, 114, 116]⟩
  | 2 => ⟨#[116, 97, 115, 107]⟩
  | 3 => ⟨#[99, 104, 111, 105, 99, 101]⟩
  | 4 => ⟨#[119, 104, 101, 110]⟩
  | 5 => ⟨#[101, 108, 115, 101]⟩
  | 6 => ⟨#[102, 111, 114, 107]⟩
  | 7 => ⟨#[98, 114, 97, 110, 99, 104]⟩
  | 8 => ⟨#[106, 111, 105, 110]⟩
  | 9 => ⟨#[115, 117, 98]⟩
  | 10 => ⟨#[101, 110, 100]⟩
  | 11 => ⟨#[116, 105, 109, 101, 114]⟩
  | _ => ⟨#[]⟩
def tAtt : Nat → List (ByteArray × Bool)
  | 0 => [(⟨#[105, 100]⟩, false)]
  | 1 => [(⟨#[105, 100]⟩, false), (⟨#[116, 111]⟩, false)]
  | 2 => [(⟨#[105, 100]⟩, false), (⟨#[116, 111]⟩, false), (⟨#[110, 97, 109, 101]⟩, true)]
  | 3 => [(⟨#[105, 100]⟩, false)]
  | 4 => [(⟨#[118, 97, 114]⟩, false), (⟨#[111, 112]⟩, false), (⟨#[118, 97, 108, 117, 101]⟩, false), (⟨#[116, 111]⟩, false)]
  | 5 => [(⟨#[116, 111]⟩, false)]
  | 6 => [(⟨#[105, 100]⟩, false)]
  | 7 => [(⟨#[116, 111]⟩, false)]
  | 8 => [(⟨#[105, 100]⟩, false), (⟨#[116, 111]⟩, false)]
  | 9 => [(⟨#[105, 100]⟩, false), (⟨#[116, 111]⟩, false)]
  | 10 => [(⟨#[105, 100]⟩, false)]
  | 11 => [(⟨#[111, 110]⟩, false), (⟨#[97, 102, 116, 101, 114]⟩, false), (⟨#[116, 111]⟩, false)]
  | _ => []
def tFn : Nat → Nat
  | 0 => 165
  | 1 => 166
  | 2 => 166
  | 3 => 170
  | 4 => 166
  | 5 => 166
  | 6 => 172
  | 7 => 166
  | 8 => 166
  | 9 => 165
  | 10 => 166
  | 11 => 166
  | _ => 0
def tKind : Nat → Int
  | 0 => 0
  | 1 => 1
  | 2 => 2
  | 3 => 3
  | 4 => 0
  | 5 => 0
  | 6 => 4
  | 7 => 0
  | 8 => 5
  | 9 => 6
  | 10 => 7
  | 11 => 0
  | _ => 0
def tMust : Nat → Int
  | 0 => 0
  | 1 => 1
  | 2 => 1
  | 3 => 8
  | 4 => 0
  | 5 => 0
  | 6 => 16
  | 7 => 0
  | 8 => 1
  | 9 => 1
  | 10 => 0
  | 11 => 0
  | _ => 0
def tMay : Nat → Int
  | 0 => 0
  | 1 => 0
  | 2 => 34
  | 3 => 4
  | 4 => 0
  | 5 => 0
  | 6 => 0
  | 7 => 0
  | 8 => 0
  | 9 => 32
  | 10 => 0
  | 11 => 0
  | _ => 0
def tPass : Nat → Bool
  | 0 => false
  | 1 => false
  | 2 => false
  | 3 => true
  | 4 => false
  | 5 => false
  | 6 => true
  | 7 => false
  | 8 => true
  | 9 => true
  | 10 => false
  | 11 => false
  | _ => false
def tMv : Nat → Nat
  | 0 => 0
  | 1 => 167
  | 2 => 169
  | 3 => 171
  | 4 => 0
  | 5 => 0
  | 6 => 173
  | 7 => 0
  | 8 => 174
  | 9 => 175
  | 10 => 176
  | 11 => 0
  | _ => 0
def tMvV : Nat → Value
  | 0 => .nilFunc
  | 1 => .func (Fn.func 167) #[] #[]
  | 2 => .func (Fn.func 169) #[] #[]
  | 3 => .func (Fn.func 171) #[] #[]
  | 4 => .nilFunc
  | 5 => .nilFunc
  | 6 => .func (Fn.func 173) #[] #[]
  | 7 => .nilFunc
  | 8 => .func (Fn.func 174) #[] #[]
  | 9 => .func (Fn.func 175) #[] #[]
  | 10 => .func (Fn.func 176) #[] #[]
  | 11 => .nilFunc
  | _ => .nilFunc
theorem tMvV_cases (i : Nat) : tMvV i = .nilFunc ∨ tMvV i = .func (Fn.func (tMv i)) #[] #[] := by
  by_cases h : i < 12
  · rcases (by omega : i = 0 ∨ i = 1 ∨ i = 2 ∨ i = 3 ∨ i = 4 ∨ i = 5 ∨ i = 6 ∨ i = 7 ∨ i = 8 ∨ i = 9 ∨ i = 10 ∨ i = 11) with rfl | rfl | rfl | rfl | rfl | rfl | rfl | rfl | rfl | rfl | rfl | rfl
    all_goals first | exact Or.inl rfl | exact Or.inr rfl
  · obtain ⟨k, rfl⟩ : ∃ k, i = k + 12 := ⟨i - 12, by omega⟩
    exact Or.inl rfl
theorem tMvV_kind {i : Nat} (h : i < 12) (hk : tKind i ≠ 0) : tMvV i = .func (Fn.func (tMv i)) #[] #[] := by
  rcases (by omega : i = 0 ∨ i = 1 ∨ i = 2 ∨ i = 3 ∨ i = 4 ∨ i = 5 ∨ i = 6 ∨ i = 7 ∨ i = 8 ∨ i = 9 ∨ i = 10 ∨ i = 11) with rfl | rfl | rfl | rfl | rfl | rfl | rfl | rfl | rfl | rfl | rfl | rfl
  all_goals first | rfl | exact absurd rfl hk
def atV (l : List (ByteArray × Bool)) : List Value := l.flatMap fun p => [.string p.1, .bool p.2]
structure RowAt (W : World) (b o i g c : Nat) : Prop where
  c0 : W.cell? ⟨b, o, none⟩ = some (.string (tName i))
  c1 : W.cell? ⟨b, o + 1, none⟩ = some (.slice (some ⟨g, 0, none⟩) (tAtt i).length c)
  c2 : W.cell? ⟨b, o + 2, none⟩ = some (.func (Fn.func (tFn i)) #[] #[])
  c3 : W.cell? ⟨b, o + 3, none⟩ = some (.int .i64 (tKind i))
  c4 : W.cell? ⟨b, o + 4, none⟩ = some (.int .u64 (tMust i))
  c5 : W.cell? ⟨b, o + 5, none⟩ = some (.int .u64 (tMay i))
  c6 : W.cell? ⟨b, o + 6, none⟩ = some (.bool (tPass i))
  c7 : W.cell? ⟨b, o + 7, none⟩ = some (tMvV i)
theorem RowAt.below {w w' : World} {b o i g c : Nat} (h : RowAt w b o i g c) (hb : Below w.heap.size w w') : RowAt w' b o i g c := by
  have k := fun (x : Nat) => hb.cell (p := ⟨b, x, none⟩) (lt_of_cell h.c0)
  exact ⟨(k _).trans h.c0, (k _).trans h.c1, (k _).trans h.c2, (k _).trans h.c3, (k _).trans h.c4, (k _).trans h.c5, (k _).trans h.c6, (k _).trans h.c7⟩
def AttOwn (W : World) (g c i : Nat) : Prop := W.ownsRow 0 404 2 (.slice (some ⟨g, 0, none⟩) (tAtt i).length c) (tAtt i).length (atV (tAtt i))
structure TabIn (W : World) (b : Nat) (sb sc : Nat → Nat) : Prop where
  rows : ∀ i, i < 12 → RowAt W b (i * 8) i (sb i) (sc i)
  atts : ∀ i, i < 12 → AttOwn W (sb i) (sc i) i
theorem TabIn.below {w w' : World} {b : Nat} {sb sc : Nat → Nat} (h : TabIn w b sb sc) (hb : Below w.heap.size w w') : TabIn w' b sb sc :=
  ⟨fun i hi => (h.rows i hi).below hb, fun i hi => own_below (h.atts i hi) hb⟩
theorem must_lit (l : List ByteArray) (w : World) (h0 : 0 < l.length) (hl : l.length ≤ 8) :
    Calls Tryz.prog 164 #[.slice (some ⟨w.heap.size, 0, none⟩) l.length l.length] (w.alloc (.cells (l.map Value.string).toArray 9)) fun e w' => ∃ g c, e = .returned (.slice (some ⟨g, 0, none⟩) l.length c) ∧ w'.ownsRow w.heap.size 404 2 (.slice (some ⟨g, 0, none⟩) l.length c) l.length (atL false l) ∧ Below w.heap.size w w' := by
  refine (must_any w.heap.size 0 l.length l (w.alloc (.cells (l.map Value.string).toArray 9)) (fun i hi => ?_) hl).mono ?_
  · rw [Nat.zero_add]
    refine (lstIs.new w (l.map Value.string) 9).cell ?_
    rw [List.getElem?_map, List.getElem?_eq_getElem hi, List.getD_eq_getElem?_getD, List.getElem?_eq_getElem hi]; rfl
  · rintro e w' ⟨v, rfl, ho, hb⟩
    obtain ⟨g, c, rfl⟩ := row_shape2 ho h0
    have hs : (w.alloc (.cells (l.map Value.string).toArray 9)).heap.size = w.heap.size + 1 := by simp
    exact ⟨g, c, rfl, own_base ho (by omega), (b1 w _).trans (hb.mono (by omega))⟩
set_option maxHeartbeats 4000000 in
set_option maxRecDepth 100000 in
theorem table_any (w : World) :
    Calls Tryz.prog 99 #[] w fun e w' => ∃ b sb sc, e = .returned (.slice (some ⟨b, 0, none⟩) 12 12) ∧ TabIn w' b sb sc ∧ Below w.heap.size w w' := by
  have HZ : Hid (Below w.heap.size w w) := Below.refl _ _
  go_enter Tryz.func99, Tryz.ntmps99
  go_wp2_with fail
  refine (must_lit [⟨#[105, 100]⟩] w (by decide) (by decide)).mono ?_
  rintro e w0 ⟨g0, c0, rfl, ho, hb⟩
  have HA0 : Hid (AttOwn w0 g0 c0 0) := own_base ho (Nat.zero_le _)
  have HB0 : Hid (Below w.heap.size w w0) := HZ.out.trans (hb.mono HZ.out.size)
  have HP0 : Hid (Below w.heap.size w w0) := hb
  clear ho hb
  simp only [List.length_cons, List.length_nil, Nat.zero_add, Nat.reduceAdd]
  go_wp2_with fail
  refine (must_lit [⟨#[105, 100]⟩, ⟨#[116, 111]⟩] w0 (by decide) (by decide)).mono ?_
  rintro e w1 ⟨g1, c1, rfl, ho, hb⟩
  have HA1 : Hid (AttOwn w1 g1 c1 1) := own_base ho (Nat.zero_le _)
  have HB1 : Hid (Below w.heap.size w w1) := HB0.out.trans (hb.mono HB0.out.size)
  have HP1 : Hid (Below w0.heap.size w0 w1) := hb
  clear ho hb
  replace HA0 : Hid (AttOwn w1 g0 c0 0) := own_below HA0.out HP1.out
  simp only [List.length_cons, List.length_nil, Nat.zero_add, Nat.reduceAdd]
  go_wp2_with fail
  refine (must_lit [⟨#[105, 100]⟩, ⟨#[116, 111]⟩] w1 (by decide) (by decide)).mono ?_
  rintro e v2 ⟨f2, d2, rfl, ho, hb⟩
  have HV2 : Hid (v2.ownsRow w1.heap.size 404 2 (.slice (some ⟨f2, 0, none⟩) 2 d2) 2 (atL false [⟨#[105, 100]⟩, ⟨#[116, 111]⟩])) := ho
  have HVB2 : Hid (Below w1.heap.size w1 v2) := hb
  clear ho hb
  go_wp2_with fail
  refine (free_one v2.heap.size 0 1 w1.heap.size 2 ⟨#[110, 97, 109, 101]⟩ (.slice (some ⟨f2, 0, none⟩) 2 d2) (atL false [⟨#[105, 100]⟩, ⟨#[116, 111]⟩]) (v2.alloc (.cells #[.string ⟨#[110, 97, 109, 101]⟩] 9)) (by simp [go_sem]) (HV2.out.alloc _) (by decide) (by have := HVB2.out.size; simp; omega)).mono ?_
  rintro e w2 ⟨x2, rfl, ho, hb⟩
  obtain ⟨g2, c2, rfl⟩ := row_shape2 ho (by decide)
  have HA2 : Hid (AttOwn w2 g2 c2 2) := own_base ho (Nat.zero_le _)
  have HB2 : Hid (Below w.heap.size w w2) := HB1.out.trans ((((HVB2.out.alloc HVB2.out.size _)).trans hb).mono HB1.out.size)
  have HP2 : Hid (Below w1.heap.size w1 w2) := (HVB2.out.alloc HVB2.out.size _).trans hb
  clear ho hb
  replace HA0 : Hid (AttOwn w2 g0 c0 0) := own_below HA0.out HP2.out
  replace HA1 : Hid (AttOwn w2 g1 c1 1) := own_below HA1.out HP2.out
  simp only [List.length_cons, List.length_nil, Nat.zero_add, Nat.reduceAdd]
  go_wp2_with fail
  refine (must_lit [⟨#[105, 100]⟩] w2 (by decide) (by decide)).mono ?_
  rintro e w3 ⟨g3, c3, rfl, ho, hb⟩
  have HA3 : Hid (AttOwn w3 g3 c3 3) := own_base ho (Nat.zero_le _)
  have HB3 : Hid (Below w.heap.size w w3) := HB2.out.trans (hb.mono HB2.out.size)
  have HP3 : Hid (Below w2.heap.size w2 w3) := hb
  clear ho hb
  replace HA0 : Hid (AttOwn w3 g0 c0 0) := own_below HA0.out HP3.out
  replace HA1 : Hid (AttOwn w3 g1 c1 1) := own_below HA1.out HP3.out
  replace HA2 : Hid (AttOwn w3 g2 c2 2) := own_below HA2.out HP3.out
  simp only [List.length_cons, List.length_nil, Nat.zero_add, Nat.reduceAdd]
  go_wp2_with fail
  refine (must_lit [⟨#[118, 97, 114]⟩, ⟨#[111, 112]⟩, ⟨#[118, 97, 108, 117, 101]⟩, ⟨#[116, 111]⟩] w3 (by decide) (by decide)).mono ?_
  rintro e w4 ⟨g4, c4, rfl, ho, hb⟩
  have HA4 : Hid (AttOwn w4 g4 c4 4) := own_base ho (Nat.zero_le _)
  have HB4 : Hid (Below w.heap.size w w4) := HB3.out.trans (hb.mono HB3.out.size)
  have HP4 : Hid (Below w3.heap.size w3 w4) := hb
  clear ho hb
  replace HA0 : Hid (AttOwn w4 g0 c0 0) := own_below HA0.out HP4.out
  replace HA1 : Hid (AttOwn w4 g1 c1 1) := own_below HA1.out HP4.out
  replace HA2 : Hid (AttOwn w4 g2 c2 2) := own_below HA2.out HP4.out
  replace HA3 : Hid (AttOwn w4 g3 c3 3) := own_below HA3.out HP4.out
  simp only [List.length_cons, List.length_nil, Nat.zero_add, Nat.reduceAdd]
  go_wp2_with fail
  refine (must_lit [⟨#[116, 111]⟩] w4 (by decide) (by decide)).mono ?_
  rintro e w5 ⟨g5, c5, rfl, ho, hb⟩
  have HA5 : Hid (AttOwn w5 g5 c5 5) := own_base ho (Nat.zero_le _)
  have HB5 : Hid (Below w.heap.size w w5) := HB4.out.trans (hb.mono HB4.out.size)
  have HP5 : Hid (Below w4.heap.size w4 w5) := hb
  clear ho hb
  replace HA0 : Hid (AttOwn w5 g0 c0 0) := own_below HA0.out HP5.out
  replace HA1 : Hid (AttOwn w5 g1 c1 1) := own_below HA1.out HP5.out
  replace HA2 : Hid (AttOwn w5 g2 c2 2) := own_below HA2.out HP5.out
  replace HA3 : Hid (AttOwn w5 g3 c3 3) := own_below HA3.out HP5.out
  replace HA4 : Hid (AttOwn w5 g4 c4 4) := own_below HA4.out HP5.out
  simp only [List.length_cons, List.length_nil, Nat.zero_add, Nat.reduceAdd]
  go_wp2_with fail
  refine (must_lit [⟨#[105, 100]⟩] w5 (by decide) (by decide)).mono ?_
  rintro e w6 ⟨g6, c6, rfl, ho, hb⟩
  have HA6 : Hid (AttOwn w6 g6 c6 6) := own_base ho (Nat.zero_le _)
  have HB6 : Hid (Below w.heap.size w w6) := HB5.out.trans (hb.mono HB5.out.size)
  have HP6 : Hid (Below w5.heap.size w5 w6) := hb
  clear ho hb
  replace HA0 : Hid (AttOwn w6 g0 c0 0) := own_below HA0.out HP6.out
  replace HA1 : Hid (AttOwn w6 g1 c1 1) := own_below HA1.out HP6.out
  replace HA2 : Hid (AttOwn w6 g2 c2 2) := own_below HA2.out HP6.out
  replace HA3 : Hid (AttOwn w6 g3 c3 3) := own_below HA3.out HP6.out
  replace HA4 : Hid (AttOwn w6 g4 c4 4) := own_below HA4.out HP6.out
  replace HA5 : Hid (AttOwn w6 g5 c5 5) := own_below HA5.out HP6.out
  simp only [List.length_cons, List.length_nil, Nat.zero_add, Nat.reduceAdd]
  go_wp2_with fail
  refine (must_lit [⟨#[116, 111]⟩] w6 (by decide) (by decide)).mono ?_
  rintro e w7 ⟨g7, c7, rfl, ho, hb⟩
  have HA7 : Hid (AttOwn w7 g7 c7 7) := own_base ho (Nat.zero_le _)
  have HB7 : Hid (Below w.heap.size w w7) := HB6.out.trans (hb.mono HB6.out.size)
  have HP7 : Hid (Below w6.heap.size w6 w7) := hb
  clear ho hb
  replace HA0 : Hid (AttOwn w7 g0 c0 0) := own_below HA0.out HP7.out
  replace HA1 : Hid (AttOwn w7 g1 c1 1) := own_below HA1.out HP7.out
  replace HA2 : Hid (AttOwn w7 g2 c2 2) := own_below HA2.out HP7.out
  replace HA3 : Hid (AttOwn w7 g3 c3 3) := own_below HA3.out HP7.out
  replace HA4 : Hid (AttOwn w7 g4 c4 4) := own_below HA4.out HP7.out
  replace HA5 : Hid (AttOwn w7 g5 c5 5) := own_below HA5.out HP7.out
  replace HA6 : Hid (AttOwn w7 g6 c6 6) := own_below HA6.out HP7.out
  simp only [List.length_cons, List.length_nil, Nat.zero_add, Nat.reduceAdd]
  go_wp2_with fail
  refine (must_lit [⟨#[105, 100]⟩, ⟨#[116, 111]⟩] w7 (by decide) (by decide)).mono ?_
  rintro e w8 ⟨g8, c8, rfl, ho, hb⟩
  have HA8 : Hid (AttOwn w8 g8 c8 8) := own_base ho (Nat.zero_le _)
  have HB8 : Hid (Below w.heap.size w w8) := HB7.out.trans (hb.mono HB7.out.size)
  have HP8 : Hid (Below w7.heap.size w7 w8) := hb
  clear ho hb
  replace HA0 : Hid (AttOwn w8 g0 c0 0) := own_below HA0.out HP8.out
  replace HA1 : Hid (AttOwn w8 g1 c1 1) := own_below HA1.out HP8.out
  replace HA2 : Hid (AttOwn w8 g2 c2 2) := own_below HA2.out HP8.out
  replace HA3 : Hid (AttOwn w8 g3 c3 3) := own_below HA3.out HP8.out
  replace HA4 : Hid (AttOwn w8 g4 c4 4) := own_below HA4.out HP8.out
  replace HA5 : Hid (AttOwn w8 g5 c5 5) := own_below HA5.out HP8.out
  replace HA6 : Hid (AttOwn w8 g6 c6 6) := own_below HA6.out HP8.out
  replace HA7 : Hid (AttOwn w8 g7 c7 7) := own_below HA7.out HP8.out
  simp only [List.length_cons, List.length_nil, Nat.zero_add, Nat.reduceAdd]
  go_wp2_with fail
  refine (must_lit [⟨#[105, 100]⟩, ⟨#[116, 111]⟩] w8 (by decide) (by decide)).mono ?_
  rintro e w9 ⟨g9, c9, rfl, ho, hb⟩
  have HA9 : Hid (AttOwn w9 g9 c9 9) := own_base ho (Nat.zero_le _)
  have HB9 : Hid (Below w.heap.size w w9) := HB8.out.trans (hb.mono HB8.out.size)
  have HP9 : Hid (Below w8.heap.size w8 w9) := hb
  clear ho hb
  replace HA0 : Hid (AttOwn w9 g0 c0 0) := own_below HA0.out HP9.out
  replace HA1 : Hid (AttOwn w9 g1 c1 1) := own_below HA1.out HP9.out
  replace HA2 : Hid (AttOwn w9 g2 c2 2) := own_below HA2.out HP9.out
  replace HA3 : Hid (AttOwn w9 g3 c3 3) := own_below HA3.out HP9.out
  replace HA4 : Hid (AttOwn w9 g4 c4 4) := own_below HA4.out HP9.out
  replace HA5 : Hid (AttOwn w9 g5 c5 5) := own_below HA5.out HP9.out
  replace HA6 : Hid (AttOwn w9 g6 c6 6) := own_below HA6.out HP9.out
  replace HA7 : Hid (AttOwn w9 g7 c7 7) := own_below HA7.out HP9.out
  replace HA8 : Hid (AttOwn w9 g8 c8 8) := own_below HA8.out HP9.out
  simp only [List.length_cons, List.length_nil, Nat.zero_add, Nat.reduceAdd]
  go_wp2_with fail
  refine (must_lit [⟨#[105, 100]⟩] w9 (by decide) (by decide)).mono ?_
  rintro e w10 ⟨g10, c10, rfl, ho, hb⟩
  have HA10 : Hid (AttOwn w10 g10 c10 10) := own_base ho (Nat.zero_le _)
  have HB10 : Hid (Below w.heap.size w w10) := HB9.out.trans (hb.mono HB9.out.size)
  have HP10 : Hid (Below w9.heap.size w9 w10) := hb
  clear ho hb
  replace HA0 : Hid (AttOwn w10 g0 c0 0) := own_below HA0.out HP10.out
  replace HA1 : Hid (AttOwn w10 g1 c1 1) := own_below HA1.out HP10.out
  replace HA2 : Hid (AttOwn w10 g2 c2 2) := own_below HA2.out HP10.out
  replace HA3 : Hid (AttOwn w10 g3 c3 3) := own_below HA3.out HP10.out
  replace HA4 : Hid (AttOwn w10 g4 c4 4) := own_below HA4.out HP10.out
  replace HA5 : Hid (AttOwn w10 g5 c5 5) := own_below HA5.out HP10.out
  replace HA6 : Hid (AttOwn w10 g6 c6 6) := own_below HA6.out HP10.out
  replace HA7 : Hid (AttOwn w10 g7 c7 7) := own_below HA7.out HP10.out
  replace HA8 : Hid (AttOwn w10 g8 c8 8) := own_below HA8.out HP10.out
  replace HA9 : Hid (AttOwn w10 g9 c9 9) := own_below HA9.out HP10.out
  simp only [List.length_cons, List.length_nil, Nat.zero_add, Nat.reduceAdd]
  go_wp2_with fail
  refine (must_lit [⟨#[111, 110]⟩, ⟨#[97, 102, 116, 101, 114]⟩, ⟨#[116, 111]⟩] w10 (by decide) (by decide)).mono ?_
  rintro e w11 ⟨g11, c11, rfl, ho, hb⟩
  have HA11 : Hid (AttOwn w11 g11 c11 11) := own_base ho (Nat.zero_le _)
  have HB11 : Hid (Below w.heap.size w w11) := HB10.out.trans (hb.mono HB10.out.size)
  have HP11 : Hid (Below w10.heap.size w10 w11) := hb
  clear ho hb
  replace HA0 : Hid (AttOwn w11 g0 c0 0) := own_below HA0.out HP11.out
  replace HA1 : Hid (AttOwn w11 g1 c1 1) := own_below HA1.out HP11.out
  replace HA2 : Hid (AttOwn w11 g2 c2 2) := own_below HA2.out HP11.out
  replace HA3 : Hid (AttOwn w11 g3 c3 3) := own_below HA3.out HP11.out
  replace HA4 : Hid (AttOwn w11 g4 c4 4) := own_below HA4.out HP11.out
  replace HA5 : Hid (AttOwn w11 g5 c5 5) := own_below HA5.out HP11.out
  replace HA6 : Hid (AttOwn w11 g6 c6 6) := own_below HA6.out HP11.out
  replace HA7 : Hid (AttOwn w11 g7 c7 7) := own_below HA7.out HP11.out
  replace HA8 : Hid (AttOwn w11 g8 c8 8) := own_below HA8.out HP11.out
  replace HA9 : Hid (AttOwn w11 g9 c9 9) := own_below HA9.out HP11.out
  replace HA10 : Hid (AttOwn w11 g10 c10 10) := own_below HA10.out HP11.out
  simp only [List.length_cons, List.length_nil, Nat.zero_add, Nat.reduceAdd]
  go_wp2_with fail
  go_ret
  refine ⟨w11.heap.size, fun i => [g0, g1, g2, g3, g4, g5, g6, g7, g8, g9, g10, g11].getD i 0, fun i => [c0, c1, c2, c3, c4, c5, c6, c7, c8, c9, c10, c11].getD i 0, rfl, ⟨?_, ?_⟩, HB11.out.alloc HB11.out.size _⟩
  · intro i hi
    rcases (by omega : i = 0 ∨ i = 1 ∨ i = 2 ∨ i = 3 ∨ i = 4 ∨ i = 5 ∨ i = 6 ∨ i = 7 ∨ i = 8 ∨ i = 9 ∨ i = 10 ∨ i = 11) with rfl | rfl | rfl | rfl | rfl | rfl | rfl | rfl | rfl | rfl | rfl | rfl
    all_goals exact ⟨(lstIs.new w11 _ 298).cell rfl, (lstIs.new w11 _ 298).cell rfl, (lstIs.new w11 _ 298).cell rfl, (lstIs.new w11 _ 298).cell rfl, (lstIs.new w11 _ 298).cell rfl, (lstIs.new w11 _ 298).cell rfl, (lstIs.new w11 _ 298).cell rfl, (lstIs.new w11 _ 298).cell rfl⟩
  · intro i hi
    rcases (by omega : i = 0 ∨ i = 1 ∨ i = 2 ∨ i = 3 ∨ i = 4 ∨ i = 5 ∨ i = 6 ∨ i = 7 ∨ i = 8 ∨ i = 9 ∨ i = 10 ∨ i = 11) with rfl | rfl | rfl | rfl | rfl | rfl | rfl | rfl | rfl | rfl | rfl | rfl
    · exact own_below HA0.out (b1 _ _)
    · exact own_below HA1.out (b1 _ _)
    · exact own_below HA2.out (b1 _ _)
    · exact own_below HA3.out (b1 _ _)
    · exact own_below HA4.out (b1 _ _)
    · exact own_below HA5.out (b1 _ _)
    · exact own_below HA6.out (b1 _ _)
    · exact own_below HA7.out (b1 _ _)
    · exact own_below HA8.out (b1 _ _)
    · exact own_below HA9.out (b1 _ _)
    · exact own_below HA10.out (b1 _ _)
    · exact own_below HA11.out (b1 _ _)
end Go.Proofs.YtjkpbpgeedihhaaGreatDoor
