set_option linter.all false
/-
  PLAIN MATHEMATICS for 'ferrylaw.Models' (no dump): nodes that stand in subs. The one text keeps the subs that are open in a list and asks of each node whether its sub is among them; the other asks of every pair of nodes. They say the same.
-/
namespace FerryM

section Nest
variable (up : Nat → Int) (sub : Nat → Bool)

/-- The first text: its list of open subs, the innermost first. -/
def popTo (u : Int) : List Nat → List Nat
  | [] => []
  | x :: r => if (x : Int) = u then x :: r else popTo u r
def nest : Nat → Nat → List Nat → Bool
  | 0, _, _ => true
  | m + 1, i, st => if 4 < (popTo (up i) st).length ∨ (popTo (up i) st = [] ∧ up i ≠ -1) then false else nest m (i + 1) (if sub i then i :: popTo (up i) st else popTo (up i) st)

/-- The subs in which a node stands whose own sub is u, the innermost first. -/
def anc : Nat → Int → List Nat
  | 0, _ => []
  | f + 1, u => if u < 0 then [] else u.toNat :: anc f (up u.toNat)

/-- All ups below i lead to places ahead. -/
def Ahead (i : Nat) : Prop := ∀ j, j < i → up j < j

theorem anc_fuel {i : Nat} (h : Ahead up i) : ∀ (f g : Nat) (u : Int), u < i → u < f → u < g → anc up f u = anc up g u
  | 0, g, u, _, hf, _ => by
    have : u < 0 := by omega
    cases g with
    | zero => rfl
    | succ g => simp [anc, this]
  | f + 1, 0, u, _, _, hg => by
    have : u < 0 := by omega
    simp [anc, this]
  | f + 1, g + 1, u, hi, hf, hg => by
    unfold anc
    split
    · rfl
    · have hu := h u.toNat (by omega)
      rw [anc_fuel h f g (up u.toNat) (by omega) (by omega) (by omega)]

/-- The subs of node i. -/
def A (i : Nat) : List Nat := anc up i (up i)

theorem A_eq {i : Nat} (h : Ahead up (i + 1)) : A up i = if up i < 0 then [] else (up i).toNat :: A up (up i).toNat := by
  have hi := h i (by omega)
  unfold A
  cases i with
  | zero => simp [anc, show up 0 < 0 by omega]
  | succ i =>
    rw [anc]
    split
    · rfl
    · have hu := h (up (i + 1)).toNat (by omega)
      rw [anc_fuel up h i (up (i + 1)).toNat _ (by omega) (by omega) (by omega)]

theorem A_lt : ∀ (n i : Nat), i ≤ n → Ahead up (i + 1) → ∀ s ∈ A up i, s < i
  | 0, i, hn, h, s, hs => by
    have : i = 0 := by omega
    subst this
    rw [A_eq up h] at hs
    have := h 0 (by omega)
    rw [if_pos (by omega)] at hs
    cases hs
  | n + 1, i, hn, h, s, hs => by
    have hi := h i (by omega)
    rw [A_eq up h] at hs
    split at hs
    · cases hs
    · rcases List.mem_cons.1 hs with rfl | hs
      · omega
      · have := A_lt n (up i).toNat (by omega) (fun j hj => h j (by omega)) s hs
        omega

theorem popTo_A : ∀ (n i s : Nat), i ≤ n → Ahead up (i + 1) → s ∈ A up i → popTo s (A up i) = s :: A up s
  | n, i, s, hn, h, hs => by
    have hi := h i (by omega)
    rw [A_eq up h] at hs ⊢
    split at hs
    · cases hs
    · rename_i hu
      rw [if_neg hu]
      unfold popTo
      by_cases e : ((up i).toNat : Int) = (s : Int)
      · rw [if_pos e]
        have : (up i).toNat = s := by omega
        rw [this]
      · rw [if_neg e]
        rcases List.mem_cons.1 hs with rfl | hs
        · exact absurd rfl e
        · cases n with
          | zero => omega
          | succ n => exact popTo_A n (up i).toNat s (by omega) (fun j hj => h j (by omega)) hs

theorem popTo_neg (u : Int) (hu : u < 0) : ∀ l : List Nat, popTo u l = []
  | [] => rfl
  | x :: r => by unfold popTo; rw [if_neg (by omega)]; exact popTo_neg u hu r
theorem popTo_not (u : Nat) : ∀ l : List Nat, u ∉ l → popTo u l = []
  | [], _ => rfl
  | x :: r, h => by
    unfold popTo
    rw [if_neg (by intro e; exact h (by have : x = u := by omega
                                        subst this; simp))]
    exact popTo_not u r (fun hr => h (List.mem_cons_of_mem _ hr))

/-- The list of open subs ahead of node i. -/
def open_ : Nat → List Nat
  | 0 => []
  | i + 1 => if sub i then i :: A up i else A up i

theorem open_succ (i : Nat) : open_ up sub (i + 1) = if sub i then i :: A up i else A up i := rfl

/-- What is asked of node i by the first text. -/
def Fits (i : Nat) : Prop := (up i = -1 ∨ (0 ≤ up i ∧ (up i).toNat ∈ open_ up sub i)) ∧ (A up i).length ≤ 4

theorem open_lt {i : Nat} (h : Ahead up i) : ∀ s ∈ open_ up sub i, s < i := by
  cases i with
  | zero => intro s hs; cases hs
  | succ i =>
    intro s hs
    rw [open_succ] at hs
    split at hs
    · rcases List.mem_cons.1 hs with rfl | hs
      · omega
      · have := A_lt up i i (Nat.le_refl _) h s hs; omega
    · have := A_lt up i i (Nat.le_refl _) h s hs; omega

theorem pop_open {i : Nat} (h : Ahead up i) (hf : up i = -1 ∨ (0 ≤ up i ∧ (up i).toNat ∈ open_ up sub i)) : popTo (up i) (open_ up sub i) = A up i := by
  have hlt := open_lt up sub h
  have h1 : Ahead up (i + 1) := by
    intro j hj
    by_cases e : j < i
    · exact h j e
    · have : j = i := by omega
      subst this
      rcases hf with hf | ⟨h0, hm⟩
      · omega
      · have := hlt _ hm; omega
  rw [A_eq up h1]
  rcases hf with hf | ⟨h0, hm⟩
  · rw [popTo_neg _ (by omega), if_pos (by omega)]
  · rw [if_neg (by omega)]
    cases i with
    | zero => cases hm
    | succ i =>
      have key : popTo (up (i + 1)) (A up i) = (up (i + 1)).toNat :: A up (up (i + 1)).toNat ∨ (up (i + 1)).toNat ∉ A up i := by
        by_cases hA : (up (i + 1)).toNat ∈ A up i
        · left
          have := popTo_A up i i _ (Nat.le_refl _) h hA
          rwa [Int.toNat_of_nonneg h0] at this
        · exact .inr hA
      rw [open_succ] at hm ⊢
      split at hm
      · rename_i hs
        rw [if_pos hs]
        unfold popTo
        by_cases e : (i : Int) = up (i + 1)
        · rw [if_pos e]
          have : (up (i + 1)).toNat = i := by omega
          rw [this]
        · rw [if_neg e]
          rcases List.mem_cons.1 hm with hm | hm
          · omega
          · rcases key with k | k
            · exact k
            · exact absurd hm k
      · rename_i hs
        rw [if_neg hs]
        rcases key with k | k
        · exact k
        · exact absurd hm k

theorem nest_iff : ∀ (m i : Nat), Ahead up i → (nest up sub m i (open_ up sub i) = true ↔ ∀ j, i ≤ j → j < i + m → Fits up sub j)
  | 0, i, _ => ⟨fun _ j h1 h2 => by omega, fun _ => rfl⟩
  | m + 1, i, h => by
    unfold nest
    by_cases hf : up i = -1 ∨ (0 ≤ up i ∧ (up i).toNat ∈ open_ up sub i)
    · have hp := pop_open up sub h hf
      rw [hp]
      have h1 : Ahead up (i + 1) := by
        intro j hj
        by_cases e : j < i
        · exact h j e
        · have : j = i := by omega
          subst this
          rcases hf with hf | ⟨h0, hm⟩
          · omega
          · have := open_lt up sub h _ hm; omega
      have hne : ¬ (A up i = [] ∧ up i ≠ -1) := by
        rintro ⟨e, hu⟩
        rcases hf with hf | ⟨h0, _⟩
        · exact hu hf
        · rw [A_eq up h1, if_neg (by omega)] at e; cases e
      have ho : (if sub i = true then i :: A up i else A up i) = open_ up sub (i + 1) := rfl
      rw [ho]
      by_cases h4 : (A up i).length ≤ 4
      · rw [if_neg (by rintro (a | a); · omega
                       · exact hne a), nest_iff m (i + 1) h1]
        constructor
        · intro k j a b
          by_cases e : j = i
          · subst e; exact ⟨hf, h4⟩
          · exact k j (by omega) (by omega)
        · intro k j a b
          exact k j (by omega) (by omega)
      · rw [if_pos (.inl (by omega))]
        constructor
        · intro a; cases a
        · intro k; exact absurd (k i (Nat.le_refl _) (by omega)).2 h4
    · have hp : popTo (up i) (open_ up sub i) = [] ∧ up i ≠ -1 := by
        refine ⟨?_, fun e => hf (.inl e)⟩
        by_cases hn : up i < 0
        · exact popTo_neg _ hn _
        · have := popTo_not (up i).toNat (open_ up sub i) (fun hm => hf (.inr ⟨by omega, hm⟩))
          rwa [Int.toNat_of_nonneg (by omega)] at this
      rw [if_pos (.inr hp)]
      constructor
      · intro a; cases a
      · intro k; exact absurd (k i (Nat.le_refl _) (by omega)).1 hf

/-- The second text: what is asked of node i among n. -/
def Asked (n i : Nat) : Prop := (-1 ≤ up i ∧ up i < i ∧ (0 ≤ up i → sub (up i).toNat = true)) ∧ (∀ s, s < i → sub s = true → s ∉ A up i → ∀ k, i < k → k < n → up k ≠ s) ∧ (A up i).length ≤ 4

theorem ahead_of_fits {n : Nat} : ∀ i, i ≤ n → (∀ j, j < n → Fits up sub j) → Ahead up i
  | 0, _, _ => fun _ h => by omega
  | i + 1, hi, hf => by
    have ih := ahead_of_fits i (by omega) hf
    intro j hj
    by_cases e : j < i
    · exact ih j e
    · have : j = i := by omega
      subst this
      rcases (hf j (by omega)).1 with h | ⟨h0, hm⟩
      · omega
      · have := open_lt up sub ih _ hm; omega

theorem open_sub {n : Nat} (hf : ∀ j, j < n → Fits up sub j) : ∀ (m i : Nat), i ≤ m → i ≤ n → ∀ s ∈ open_ up sub i, sub s = true
  | _, 0, _, _, s, hs => by cases hs
  | 0, i + 1, hm, _, _, _ => by omega
  | m + 1, i + 1, hm, hn, s, hs => by
    have hA : ∀ s ∈ A up i, sub s = true := by
      intro s hs
      have ha := ahead_of_fits up sub (i + 1) hn hf
      rw [A_eq up ha] at hs
      split at hs
      · cases hs
      · rename_i h0
        have hu : (up i).toNat ∈ open_ up sub i := by
          rcases (hf i (by omega)).1 with h | h
          · omega
          · exact h.2
        have hlt := open_lt up sub (fun j hj => ha j (by omega)) _ hu
        rcases List.mem_cons.1 hs with rfl | hs
        · exact open_sub hf m i (by omega) (by omega) _ hu
        · exact open_sub hf m ((up i).toNat + 1) (by omega) (by omega) s (by
            rw [open_succ]
            split
            · exact List.mem_cons_of_mem _ hs
            · exact hs)
    rw [open_succ] at hs
    split at hs
    · rcases List.mem_cons.1 hs with rfl | hs
      · assumption
      · exact hA s hs
    · exact hA s hs

/-- Who is not among the open ones behind node i, and stands ahead of it, is never again. -/
theorem not_open_again {n : Nat} (hf : ∀ j, j < n → Fits up sub j) {i s : Nat} (hs : s < i) (hn : s ∉ A up i) : ∀ k, i < k → k ≤ n → s ∉ open_ up sub k
  | 0, h, _ => by omega
  | k + 1, h, hk => by
    have ha := ahead_of_fits up sub (k + 1) hk hf
    have hA : s ∉ A up k := by
      by_cases e : k = i
      · subst e; exact hn
      · have ih := not_open_again hf hs hn k (by omega) (by omega)
        rw [← pop_open up sub (fun j hj => ha j (by omega)) (hf k (by omega)).1]
        intro hm
        exact ih (by
          have : ∀ (u : Int) (l : List Nat), s ∈ popTo u l → s ∈ l := by
            intro u l
            induction l with
            | nil => intro h; exact h
            | cons x r ihr =>
              unfold popTo
              split
              · exact fun h => h
              · exact fun h => List.mem_cons_of_mem _ (ihr h)
          exact this _ _ hm)
    rw [open_succ]
    split
    · intro hm
      rcases List.mem_cons.1 hm with rfl | hm
      · omega
      · exact hA hm
    · exact hA

theorem fits_iff_asked (n : Nat) : (∀ j, j < n → Fits up sub j) ↔ (∀ i, i < n → Asked up sub n i) := by
  constructor
  · intro hf i hi
    have ha := ahead_of_fits up sub (i + 1) (by omega) hf
    have hup := ha i (by omega)
    refine ⟨⟨?_, hup, ?_⟩, ?_, (hf i hi).2⟩
    · rcases (hf i hi).1 with h | h <;> omega
    · intro h0
      rcases (hf i hi).1 with h | h
      · omega
      · exact open_sub up sub hf i i (Nat.le_refl _) (by omega) _ h.2
    · intro s hs _ hn k hk hkn e
      have hno := not_open_again up sub hf hs hn k hk (by omega)
      rcases (hf k hkn).1 with h | h
      · omega
      · apply hno
        have : (up k).toNat = s := by omega
        rw [← this]; exact h.2
  · intro h i hi
    refine ⟨?_, (h i hi).2.2⟩
    obtain ⟨h1, h2, h3⟩ := (h i hi).1
    by_cases h0 : up i = -1
    · exact .inl h0
    · right
      refine ⟨by omega, ?_⟩
      have hsub := h3 (by omega)
      cases i with
      | zero => omega
      | succ i =>
        rw [open_succ]
        by_cases e : (up (i + 1)).toNat = i
        · rw [e] at hsub ⊢
          rw [if_pos hsub]; simp
        · have hA : (up (i + 1)).toNat ∈ A up i := by
            refine Classical.byContradiction fun hn => ?_
            exact (h i (by omega)).2.1 (up (i + 1)).toNat (by omega) hsub hn (i + 1) (by omega) hi (by omega)
          split
          · exact List.mem_cons_of_mem _ hA
          · exact hA

/-- THE TWO TEXTS SAY THE SAME. -/
theorem nest_asked (n : Nat) : nest up sub n 0 [] = true ↔ ∀ i, i < n → Asked up sub n i := by
  rw [← fits_iff_asked]
  have := nest_iff up sub n 0 (fun j hj => by omega)
  simp only [Nat.zero_le, Nat.zero_add, true_implies] at this
  exact this

end Nest
end FerryM
/-
  PLAIN MATHEMATICS for 'ferrylaw.Models' (no dump): no way round. The one text asks in n passes which nodes come to a halt; the other reckons what leads to what, by one node more each time. They say the same.
-/
namespace FerryM

/-- A way of one step or more. -/
def Path (E : Nat → Nat → Prop) (i j : Nat) : Prop := ∀ R : Nat → Nat → Prop, (∀ i j, E i j → R i j) → (∀ i j k, E i j → R j k → R i k) → R i j
theorem Path.one {E : Nat → Nat → Prop} {i j : Nat} (e : E i j) : Path E i j := fun _ h _ => h _ _ e
theorem Path.cons {E : Nat → Nat → Prop} {i j k : Nat} (e : E i j) (p : Path E j k) : Path E i k := fun R h g => g _ _ _ e (p R h g)
theorem Path.ind {E : Nat → Nat → Prop} {R : Nat → Nat → Prop} (h1 : ∀ i j, E i j → R i j) (h2 : ∀ i j k, E i j → Path E j k → R j k → R i k) {i j : Nat} (h : Path E i j) : R i j :=
  (h (fun i j => Path E i j ∧ R i j) (fun i j e => ⟨.one e, h1 i j e⟩) (fun i j k e p => ⟨.cons e p.1, h2 i j k e p.1 p.2⟩)).2
theorem Path.parts {E : Nat → Nat → Prop} {i j : Nat} (h : Path E i j) : E i j ∨ ∃ k, E i k ∧ Path E k j :=
  Path.ind (R := fun i j => E i j ∨ ∃ k, E i k ∧ Path E k j) (fun _ _ e => .inl e) (fun _ j _ e p _ => .inr ⟨j, e, p⟩) h
theorem Path.trans {E : Nat → Nat → Prop} {i j k : Nat} (h : Path E i j) (g : Path E j k) : Path E i k :=
  Path.ind (R := fun i j => Path E j k → Path E i k) (fun _ _ e g => .cons e g) (fun _ _ _ e _ ih g => .cons e (ih g)) h g

/-! ### The second text: a table of what leads to what -/
def upd (L : Nat → Nat → Bool) (i j : Nat) : Nat → Nat → Bool := fun a b => if a = i ∧ b = j then true else L a b
def wOne (L : Nat → Nat → Bool) (k i j : Nat) : Nat → Nat → Bool := if L i k && L k j then upd L i j else L
/-- The first m columns of row i; the first m rows; the first m nodes. -/
def wJ (k i : Nat) : Nat → (Nat → Nat → Bool) → (Nat → Nat → Bool)
  | 0, L => L
  | m + 1, L => wOne (wJ k i m L) k i m
def wI (n k : Nat) : Nat → (Nat → Nat → Bool) → (Nat → Nat → Bool)
  | 0, L => L
  | m + 1, L => wJ k m n (wI n k m L)
def wK (n : Nat) : Nat → (Nat → Nat → Bool) → (Nat → Nat → Bool)
  | 0, L => L
  | m + 1, L => wI n m n (wK n m L)

section Table
variable {E : Nat → Nat → Prop}
def Sound (E : Nat → Nat → Prop) (L : Nat → Nat → Bool) : Prop := ∀ i j, L i j = true → Path E i j
def Le (L M : Nat → Nat → Bool) : Prop := ∀ i j, L i j = true → M i j = true
theorem Le.refl (L : Nat → Nat → Bool) : Le L L := fun _ _ h => h
theorem Le.trans {L M N : Nat → Nat → Bool} (h : Le L M) (g : Le M N) : Le L N := fun i j e => g i j (h i j e)
theorem upd_le (L : Nat → Nat → Bool) (i j : Nat) : Le L (upd L i j) := fun a b h => by unfold upd; split <;> simp_all
theorem wOne_le (L : Nat → Nat → Bool) (k i j : Nat) : Le L (wOne L k i j) := by
  unfold wOne; split
  · exact upd_le _ _ _
  · exact Le.refl _
theorem wOne_sound {L : Nat → Nat → Bool} (h : Sound E L) (k i j : Nat) : Sound E (wOne L k i j) := by
  unfold wOne
  split
  · rename_i hc
    simp only [Bool.and_eq_true] at hc
    intro a b hab
    unfold upd at hab
    split at hab
    · rename_i e; obtain ⟨rfl, rfl⟩ := e
      exact (h _ _ hc.1).trans (h _ _ hc.2)
    · exact h a b hab
  · exact h
theorem wJ_le (k i : Nat) : ∀ m L, Le L (wJ k i m L)
  | 0, L => Le.refl L
  | m + 1, L => (wJ_le k i m L).trans (wOne_le _ _ _ _)
theorem wI_le (n k : Nat) : ∀ m L, Le L (wI n k m L)
  | 0, L => Le.refl L
  | m + 1, L => (wI_le n k m L).trans (wJ_le _ _ _ _)
theorem wK_le (n : Nat) : ∀ m L, Le L (wK n m L)
  | 0, L => Le.refl L
  | m + 1, L => (wK_le n m L).trans (wI_le _ _ _ _)
theorem wJ_sound (k i : Nat) : ∀ m L, Sound E L → Sound E (wJ k i m L)
  | 0, _, h => h
  | m + 1, L, h => wOne_sound (wJ_sound k i m L h) _ _ _
theorem wI_sound (n k : Nat) : ∀ m L, Sound E L → Sound E (wI n k m L)
  | 0, _, h => h
  | m + 1, L, h => wJ_sound _ _ _ _ (wI_sound n k m L h)
theorem wK_sound (n : Nat) : ∀ m L, Sound E L → Sound E (wK n m L)
  | 0, _, h => h
  | m + 1, L, h => wI_sound _ _ _ _ (wK_sound n m L h)
/-- What row k and column k allow is laid. -/
theorem wJ_has {k i : Nat} {L : Nat → Nat → Bool} (h1 : L i k = true) : ∀ m j, j < m → L k j = true → wJ k i m L i j = true
  | 0, _, h, _ => by omega
  | m + 1, j, h, h2 => by
    show wOne (wJ k i m L) k i m i j = true
    by_cases e : j = m
    · subst e
      unfold wOne
      rw [wJ_le k i j L i k h1, wJ_le k i j L k j h2]
      simp [upd]
    · exact wOne_le _ _ _ _ _ _ (wJ_has h1 m j (by omega) h2)
theorem wI_has {n k : Nat} {L : Nat → Nat → Bool} : ∀ m i j, i < m → j < n → L i k = true → L k j = true → wI n k m L i j = true
  | 0, _, _, h, _, _, _ => by omega
  | m + 1, i, j, h, hj, h1, h2 => by
    show wJ k m n (wI n k m L) i j = true
    by_cases e : i = m
    · subst e
      exact wJ_has (wI_le n k i L i k h1) n j hj (wI_le n k i L k j h2)
    · exact wJ_le _ _ _ _ _ _ (wI_has m i j (by omega) hj h1 h2)

/-- A way whose inner nodes are all below m. -/
def Via (E : Nat → Nat → Prop) (m i j : Nat) : Prop := ∀ R : Nat → Nat → Prop, (∀ i j, E i j → R i j) → (∀ i j k, E i j → j < m → R j k → R i k) → R i j
theorem Via.one {E : Nat → Nat → Prop} {m i j : Nat} (e : E i j) : Via E m i j := fun _ h _ => h _ _ e
theorem Via.cons {E : Nat → Nat → Prop} {m i j k : Nat} (e : E i j) (hj : j < m) (p : Via E m j k) : Via E m i k := fun R h g => g _ _ _ e hj (p R h g)
theorem Via.ind {E : Nat → Nat → Prop} {m : Nat} {R : Nat → Nat → Prop} (h1 : ∀ i j, E i j → R i j) (h2 : ∀ i j k, E i j → j < m → Via E m j k → R j k → R i k) {i j : Nat} (h : Via E m i j) : R i j :=
  (h (fun i j => Via E m i j ∧ R i j) (fun i j e => ⟨.one e, h1 i j e⟩) (fun i j k e hj p => ⟨.cons e hj p.1, h2 i j k e hj p.1 p.2⟩)).2
theorem via_of_path {n : Nat} (hE : ∀ i j, E i j → i < n ∧ j < n) {i j : Nat} (h : Path E i j) : Via E n i j :=
  Path.ind (R := fun i j => Via E n i j) (fun _ _ e => .one e) (fun _ _ _ e _ ih => .cons e (hE _ _ e).2 ih) h
theorem Via.app {m : Nat} {i j k : Nat} (h : Via E m i j) (hj : j < m) (g : Via E m j k) : Via E m i k :=
  Via.ind (R := fun i j => j < m → Via E m j k → Via E m i k) (fun _ _ e hj g => .cons e hj g) (fun _ _ _ e h1 _ ih hj g => .cons e h1 (ih hj g)) h hj g
/-- A way over nodes below m + 1 is one below m, or two such ways, to m and from m. -/
theorem via_split {m : Nat} {i j : Nat} (h : Via E (m + 1) i j) : Via E m i j ∨ (Via E m i m ∧ Via E m m j) := by
  refine Via.ind (R := fun i j => Via E m i j ∨ (Via E m i m ∧ Via E m m j)) (fun i j e => .inl (.one e)) (fun i j k e hj _ ih => ?_) h
  · by_cases hm : j = m
    · subst hm
      rcases ih with ih | ih
      · exact .inr ⟨.one e, ih⟩
      · exact .inr ⟨.one e, ih.2⟩
    · rcases ih with ih | ih
      · exact .inl (.cons e (by omega) ih)
      · exact .inr ⟨.cons e (by omega) ih.1, ih.2⟩
theorem Via.ends {n m : Nat} (hE : ∀ i j, E i j → i < n ∧ j < n) {i j : Nat} (h : Via E m i j) : i < n ∧ j < n :=
  Via.ind (R := fun i j => i < n ∧ j < n) (fun i j e => hE i j e) (fun i j _ e _ _ ih => ⟨(hE i j e).1, ih.2⟩) h
theorem wK_has {n : Nat} (hE : ∀ i j, E i j → i < n ∧ j < n) {L : Nat → Nat → Bool} (hL : ∀ i j, E i j → L i j = true) : ∀ m i j, m ≤ n → Via E m i j → wK n m L i j = true
  | 0, i, j, _, h => by
    exact Via.ind (R := fun i j => wK n 0 L i j = true) (fun i j e => hL i j e) (fun _ _ _ _ hj _ _ => absurd hj (Nat.not_lt_zero _)) h
  | m + 1, i, j, hm, h => by
    have he := h.ends hE
    rcases via_split h with h | ⟨h1, h2⟩
    · exact wI_le _ _ _ _ _ _ (wK_has hE hL m i j (by omega) h)
    · exact wI_has n i j he.1 he.2 (wK_has hE hL m i m (by omega) h1) (wK_has hE hL m m j (by omega) h2)
/-- THE TABLE TELLS THE WAYS. -/
theorem wK_iff {n : Nat} (hE : ∀ i j, E i j → i < n ∧ j < n) {L : Nat → Nat → Bool} (hL : ∀ i j, L i j = true ↔ E i j) (i j : Nat) : wK n n L i j = true ↔ Path E i j :=
  ⟨fun h => wK_sound n n L (fun a b e => .one ((hL a b).1 e)) i j h, fun h => wK_has hE (fun a b e => (hL a b).2 e) n i j (Nat.le_refl _) (via_of_path hE h)⟩
end Table

/-! ### The first text: n passes -/
section Passes
variable (goes : Nat → Bool) (out : Nat → List Nat)
def setAt (c : Nat → Bool) (i : Nat) (v : Bool) : Nat → Bool := fun a => if a = i then v else c a
/-- The first m nodes of a pass. -/
def pass : Nat → (Nat → Bool) → (Nat → Bool)
  | 0, c => c
  | m + 1, c => setAt (pass m c) m (!goes m || (out m).all (pass m c))
def passes (n : Nat) : Nat → (Nat → Bool) → (Nat → Bool)
  | 0, c => c
  | t + 1, c => pass goes out n (passes n t c)
/-- What leads to what: over nodes that pass a token on at once. -/
def Edge (n : Nat) (i j : Nat) : Prop := i < n ∧ j < n ∧ goes i = true ∧ goes j = true ∧ j ∈ out i

/-- Behind a pass of the first m nodes node i is calm iff it was so found (i < m), or was so. -/
theorem pass_ge (c : Nat → Bool) : ∀ m i, m ≤ i → pass goes out m c i = c i
  | 0, _, _ => rfl
  | m + 1, i, h => by
    show setAt (pass goes out m c) m _ i = c i
    unfold setAt
    rw [if_neg (by omega)]
    exact pass_ge c m i (by omega)
theorem pass_lt (c : Nat → Bool) : ∀ m i, i < m → pass goes out m c i = (!goes i || (out i).all (pass goes out i c))
  | 0, _, h => by omega
  | m + 1, i, h => by
    show setAt (pass goes out m c) m _ i = _
    unfold setAt
    by_cases e : i = m
    · subst e; rw [if_pos rfl]
    · rw [if_neg e]; exact pass_lt c m i (by omega)

/-- Passes only add. -/
def LeC (c d : Nat → Bool) : Prop := ∀ i, c i = true → d i = true
theorem all_mono {c d : Nat → Bool} (h : LeC c d) (l : List Nat) (hl : l.all c = true) : l.all d = true := by
  rw [List.all_eq_true] at hl ⊢
  exact fun x hx => h x (hl x hx)
theorem pass_mono {c d : Nat → Bool} (h : LeC c d) (m : Nat) : LeC (pass goes out m c) (pass goes out m d) := by
  induction m using Nat.strongRecOn with
  | ind m ih =>
    intro i hi
    by_cases e : i < m
    · rw [pass_lt _ _ _ _ _ e] at hi ⊢
      simp only [Bool.or_eq_true] at hi ⊢
      rcases hi with hi | hi
      · exact .inl hi
      · exact .inr (all_mono (ih i e) _ hi)
    · rw [pass_ge _ _ _ _ _ (by omega)] at hi ⊢
      exact h i hi

/-- A state that a pass does not take from: each calm node is found so again. -/
def Grows (n : Nat) (c : Nat → Bool) : Prop := LeC c (pass goes out n c)
theorem mid_le (c : Nat → Bool) {n : Nat} (h : Grows goes out n c) {m : Nat} (hm : m ≤ n) : LeC c (pass goes out m c) := by
  intro i hi
  by_cases e : i < m
  · have := h i hi
    rw [pass_lt _ _ _ _ _ (by omega)] at this
    rw [pass_lt _ _ _ _ _ e]; exact this
  · rw [pass_ge _ _ _ _ _ (by omega)]; exact hi
theorem mid_le_end (c : Nat → Bool) {n : Nat} (h : Grows goes out n c) {m : Nat} (hm : m ≤ n) : LeC (pass goes out m c) (pass goes out n c) := by
  intro i hi
  by_cases e : i < m
  · rw [pass_lt _ _ _ _ _ e] at hi
    rw [pass_lt _ _ _ _ _ (by omega)]; exact hi
  · rw [pass_ge _ _ _ _ _ (by omega)] at hi
    exact h i hi
theorem passes_grows (n : Nat) : ∀ t, Grows goes out n (passes goes out n t fun _ => false)
  | 0 => fun i hi => by cases hi
  | t + 1 => pass_mono goes out (passes_grows n t) n

/-- Who is not calm behind t + 1 passes passes on at once, to one that is not calm behind t. -/
theorem not_calm {n t i : Nat} (hi : i < n) (h : passes goes out n (t + 1) (fun _ => false) i = false) : goes i = true ∧ ∃ j ∈ out i, passes goes out n t (fun _ => false) j = false := by
  have h' : pass goes out n (passes goes out n t fun _ => false) i = false := h
  rw [pass_lt _ _ _ _ _ hi] at h'
  simp only [Bool.or_eq_false_iff, Bool.not_eq_false'] at h'
  refine ⟨h'.1, ?_⟩
  obtain ⟨j, hj, hc⟩ := List.all_eq_false.1 h'.2
  refine ⟨j, hj, ?_⟩
  cases hb : passes goes out n t (fun _ => false) j with
  | false => rfl
  | true => exact absurd (mid_le goes out _ (passes_grows goes out n t) (Nat.le_of_lt hi) j hb) hc

theorem pigeon : ∀ (n : Nat) (f : Nat → Nat), (∀ k, k ≤ n → f k < n) → ∃ a b, a < b ∧ b ≤ n ∧ f a = f b
  | 0, f, h => by have := h 0 (Nat.le_refl _); omega
  | n + 1, f, h => by
    by_cases hx : ∃ a, a < n + 1 ∧ f a = f (n + 1)
    · obtain ⟨a, ha, e⟩ := hx
      exact ⟨a, n + 1, ha, Nat.le_refl _, e⟩
    · -- swap the value n with f (n + 1) among the first n + 1
      have hne : ∀ a, a < n + 1 → f a ≠ f (n + 1) := fun a ha e => hx ⟨a, ha, e⟩
      obtain ⟨a, b, hab, hb, e⟩ := pigeon n (fun k => if f k = n then f (n + 1) else f k) (by
        intro k hk
        have h1 := h k (by omega)
        have h2 := h (n + 1) (by omega)
        have h3 := hne k (by omega)
        show (if f k = n then f (n + 1) else f k) < n
        split <;> omega)
      refine ⟨a, b, hab, by omega, ?_⟩
      have h3 := hne a (by omega)
      have h4 := hne b (by omega)
      have e' : (if f a = n then f (n + 1) else f a) = (if f b = n then f (n + 1) else f b) := e
      split at e' <;> split at e' <;> omega

theorem chain_path {E : Nat → Nat → Prop} (f : Nat → Nat) : ∀ (d a : Nat), (∀ k, a ≤ k → k < a + d + 1 → E (f k) (f (k + 1))) → Path E (f a) (f (a + d + 1))
  | 0, a, h => .one (h a (Nat.le_refl _) (by omega))
  | d + 1, a, h => by
    have := chain_path f d (a + 1) (fun k h1 h2 => h k (by omega) (by omega))
    have e : a + 1 + d + 1 = a + (d + 1) + 1 := by omega
    rw [e] at this
    exact .cons (h a (Nat.le_refl _) (by omega)) this

/-- NOT ALL CALM BEHIND n PASSES: THERE IS A WAY ROUND. -/
theorem round_of_not_calm {n : Nat} (hout : ∀ i, i < n → goes i = true → ∀ j ∈ out i, j < n) {i : Nat} (hi : i < n) (h : passes goes out n n (fun _ => false) i = false) : ∃ i, i < n ∧ Path (Edge goes out n) i i := by
  -- a chain of nodes, each not calm one pass earlier
  have step : ∀ t i, i < n → passes goes out n (t + 1) (fun _ => false) i = false → ∃ j, j < n ∧ goes i = true ∧ j ∈ out i ∧ passes goes out n t (fun _ => false) j = false := by
    intro t i hi h
    obtain ⟨hg, j, hj, hc⟩ := not_calm goes out hi h
    exact ⟨j, hout i hi hg j hj, hg, hj, hc⟩
  have chain : ∀ t i, i < n → passes goes out n t (fun _ => false) i = false → ∃ f : Nat → Nat, f 0 = i ∧ (∀ k, k ≤ t → f k < n) ∧ ∀ k, k < t → goes (f k) = true ∧ f (k + 1) ∈ out (f k) := by
    intro t
    induction t with
    | zero => exact fun i hi _ => ⟨fun _ => i, rfl, fun _ _ => hi, fun _ hk => by omega⟩
    | succ t ih =>
      intro i hi h
      obtain ⟨j, hj, hg, hm, hc⟩ := step t i hi h
      obtain ⟨f, f0, f1, f2⟩ := ih j hj hc
      refine ⟨fun k => match k with | 0 => i | k + 1 => f k, rfl, ?_, ?_⟩
      · intro k hk
        cases k with
        | zero => exact hi
        | succ k => exact f1 k (by omega)
      · intro k hk
        cases k with
        | zero => exact ⟨hg, by show f 0 ∈ out i; rw [f0]; exact hm⟩
        | succ k => exact f2 k (by omega)
  obtain ⟨f, _, f1, f2⟩ := chain n i hi h
  obtain ⟨a, b, hab, hb, e⟩ := pigeon n f f1
  refine ⟨f a, f1 a (by omega), ?_⟩
  -- the way from f a round to f b: its nodes all pass on at once
  have hE : ∀ k, a ≤ k → k < a + (b - a - 1) + 1 → Edge goes out n (f k) (if k + 1 = b then f a else f (k + 1)) := by
    intro k h1 h2
    refine ⟨f1 k (by omega), ?_, (f2 k (by omega)).1, ?_, ?_⟩
    · split
      · exact f1 a (by omega)
      · exact f1 (k + 1) (by omega)
    · split
      · exact (f2 a (by omega)).1
      · exact (f2 (k + 1) (by omega)).1
    · split
      · rename_i hk; rw [e, ← hk]; exact (f2 k (by omega)).2
      · exact (f2 k (by omega)).2
  have hp := chain_path (E := Edge goes out n) (fun k => if k = b then f a else f k) (b - a - 1) a (by
    intro k h1 h2
    have := hE k h1 h2
    show Edge goes out n (if k = b then f a else f k) (if k + 1 = b then f a else f (k + 1))
    rw [if_neg (by omega : k ≠ b)]
    exact this)
  have hp : Path (Edge goes out n) (if a = b then f a else f a) (if a + (b - a - 1) + 1 = b then f a else f (a + (b - a - 1) + 1)) := hp
  have e2 : a + (b - a - 1) + 1 = b := by omega
  rw [e2, if_neg (by omega : a ≠ b), if_pos rfl] at hp
  exact hp

/-- On a way round nobody is ever calm. -/
theorem pass_round {n : Nat} {c : Nat → Bool} (h : ∀ i, Path (Edge goes out n) i i → c i = false) (m : Nat) : ∀ i, Path (Edge goes out n) i i → pass goes out m c i = false := by
  induction m using Nat.strongRecOn with
  | ind m ih =>
    intro i hp
    by_cases e : i < m
    · rw [pass_lt _ _ _ _ _ e]
      have key : ∃ j, Edge goes out n i j ∧ Path (Edge goes out n) j j := by
        rcases hp.parts with e | ⟨k, e, p⟩
        · exact ⟨i, e, .one e⟩
        · exact ⟨_, e, p.trans (.one e)⟩
      obtain ⟨j, ⟨_, _, hg, _, hm⟩, hj⟩ := key
      rw [hg]
      simp only [Bool.not_true, Bool.false_or]
      rw [List.all_eq_false]
      exact ⟨j, hm, by rw [ih i e j hj]; simp⟩
    · rw [pass_ge _ _ _ _ _ (by omega)]; exact h i hp
theorem passes_round {n : Nat} : ∀ t i, Path (Edge goes out n) i i → passes goes out n t (fun _ => false) i = false
  | 0, _, _ => rfl
  | t + 1, i, hp => pass_round goes out (fun j hj => passes_round t j hj) n i hp

/-- THE TWO TEXTS SAY THE SAME: all calm behind n passes iff the table has no node that leads to itself. -/
theorem calm_iff {n : Nat} (hout : ∀ i, i < n → goes i = true → ∀ j ∈ out i, j < n) {L : Nat → Nat → Bool} (hL : ∀ i j, L i j = true ↔ Edge goes out n i j) :
    (∀ i, i < n → passes goes out n n (fun _ => false) i = true) ↔ ∀ i, i < n → wK n n L i i = false := by
  have hE : ∀ i j, Edge goes out n i j → i < n ∧ j < n := fun i j h => ⟨h.1, h.2.1⟩
  constructor
  · intro h i hi
    cases hw : wK n n L i i with
    | false => rfl
    | true =>
      have := passes_round goes out n i ((wK_iff hE hL i i).1 hw)
      rw [h i hi] at this
      cases this
  · intro h i hi
    cases hc : passes goes out n n (fun _ => false) i with
    | true => rfl
    | false =>
      obtain ⟨j, hj, hp⟩ := round_of_not_calm goes out hout hi hc
      have := (wK_iff hE hL j j).2 hp
      rw [h j hj] at this
      cases this
end Passes
end FerryM
