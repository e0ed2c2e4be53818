/-
  The mathematics of a heap of entries: which of two is taken first, exchanges in a list, an order in which no one stands ahead of the one that it hangs on, and how it is mended upwards and downwards.
  Conditions: as each theorem names them.
-/
namespace Go.Proofs.Ytkfkjpabollaoaa

/-- an entry: its block, its id, its handle, its weight -/
structure En where
  b : Nat
  id : Int
  h : Nat
  wt : Int
/-- a is taken ahead of b -/
def bef (x y : En) : Prop := y.wt < x.wt ∨ (x.wt = y.wt ∧ x.h < y.h)
instance (x y : En) : Decidable (bef x y) := by unfold bef; exact inferInstance
def befB (x y : En) : Bool := decide (bef x y)
def noEn : En := ⟨0, 0, 0, 0⟩
def nth (d : List En) (k : Nat) : En := d.getD k noEn
theorem nth_some {d : List En} {k : Nat} (h : k < d.length) : d[k]? = some (nth d k) := by simp [nth, h]
theorem nth_get {d : List En} {k : Nat} (h : k < d.length) : nth d k = d[k] := by simp [nth, h]
theorem nth_mem {d : List En} {k : Nat} (h : k < d.length) : nth d k ∈ d := by rw [nth_get h]; exact List.getElem_mem _
theorem nth_of {d : List En} {k : Nat} {e : En} (h : d[k]? = some e) : nth d k = e := by simp [nth, List.getD_eq_getElem?_getD, h]
theorem mem_nth {d : List En} {e : En} (h : e ∈ d) : ∃ k, k < d.length ∧ nth d k = e := by
  obtain ⟨k, hk, he⟩ := List.mem_iff_getElem.1 h
  exact ⟨k, hk, by rw [nth_get hk, he]⟩

def swp (d : List En) (i j : Nat) : List En := (d.set i (nth d j)).set j (nth d i)
theorem swp_len (d : List En) (i j : Nat) : (swp d i j).length = d.length := by simp [swp]
theorem swp_nth {d : List En} {i j : Nat} (hi : i < d.length) (hj : j < d.length) (k : Nat) : nth (swp d i j) k = if k = j then nth d i else if k = i then nth d j else nth d k := by
  unfold swp nth
  by_cases h1 : k = j
  · subst h1
    simp [hj]
  · by_cases h2 : k = i
    · subst h2
      rw [if_neg h1, if_pos rfl]
      simp [hi, Ne.symm h1]
    · rw [if_neg h1, if_neg h2]
      simp [Ne.symm h1, Ne.symm h2]
theorem swp_perm {d : List En} {i j : Nat} (hi : i < d.length) (hj : j < d.length) : (swp d i j).Perm d := by
  have h := Array.swap_perm (xs := d.toArray) (i := i) (j := j) (by simpa using hi) (by simpa using hj)
  rw [Array.perm_iff_toList_perm] at h
  have e : (d.toArray.swap i j (by simpa using hi) (by simpa using hj)).toList = swp d i j := by
    simp [Array.swap, swp, nth_get hi, nth_get hj]
  rw [e] at h
  exact h

def par (k : Nat) : Nat := (k - 1) / 2
/-- no one of the first n stands ahead of the one that it hangs on -/
def Heap (d : List En) (n : Nat) : Prop := ∀ k, 0 < k → k < n → ¬ bef (nth d k) (nth d (par k))
/-- so it is, but for the one at j -/
def UpAt (d : List En) (n j : Nat) : Prop :=
  (∀ k, 0 < k → k < n → k ≠ j → ¬ bef (nth d k) (nth d (par k))) ∧ (∀ k, 0 < k → k < n → par k = j → 0 < j → ¬ bef (nth d k) (nth d (par j)))
/-- so it is, but for those that hang on the one at c, and for that one itself, where it has not moved -/
def DownAt (d : List En) (n i c : Nat) : Prop :=
  (∀ k, 0 < k → k < n → par k ≠ c → (k ≠ i ∨ c ≠ i) → ¬ bef (nth d k) (nth d (par k))) ∧ (∀ k, 0 < k → k < n → par k = c → 0 < c → ¬ bef (nth d k) (nth d (par c)))

theorem bef_irr (x : En) : ¬ bef x x := by unfold bef; omega
theorem nbef_trans {x y z : En} (h1 : ¬ bef x y) (h2 : ¬ bef y z) : ¬ bef x z := by unfold bef at *; omega
theorem bef_asym {x y : En} (h : bef x y) : ¬ bef y x := by unfold bef at *; omega
theorem bef_trans {x y z : En} (h1 : bef x y) (h2 : bef y z) : bef x z := by unfold bef at *; omega
theorem par_lt {k : Nat} (h : 0 < k) : par k < k := by unfold par; omega

theorem Heap.first {d : List En} {n : Nat} (h : Heap d n) (k : Nat) (hk : k < n) : ¬ bef (nth d k) (nth d 0) := by
  induction k using Nat.strongRecOn with
  | _ k ih =>
    by_cases h0 : k = 0
    · subst h0; exact bef_irr _
    · have hp := par_lt (Nat.pos_of_ne_zero h0)
      exact nbef_trans (h k (Nat.pos_of_ne_zero h0) hk) (ih _ hp (by omega))
theorem Heap.mono {d : List En} {n m : Nat} (h : Heap d n) (hm : m ≤ n) : Heap d m := fun k h0 hk => h k h0 (by omega)
theorem Heap.take {d : List En} {n : Nat} (h : Heap d n) (hn : n ≤ d.length) : Heap (d.take n) n := by
  intro k h0 hk
  have e : ∀ q, q < n → nth (d.take n) q = nth d q := fun q hq => by
    rw [nth_get (by simp; omega), nth_get (by omega)]
    simp
  have := par_lt h0
  rw [e k hk, e _ (by omega)]
  exact h k h0 hk

theorem UpAt.done {d : List En} {n j : Nat} (h : UpAt d n j) (hj : 0 < j → j < n → ¬ bef (nth d j) (nth d (par j))) : Heap d n := fun k h0 hk => by
  by_cases e : k = j
  · subst e; exact hj h0 hk
  · exact h.1 k h0 hk e
theorem UpAt.step {d : List En} {n j : Nat} (h : UpAt d n j) (hn : n ≤ d.length) (h0 : 0 < j) (hj : j < n) (hb : bef (nth d j) (nth d (par j))) : UpAt (swp d (par j) j) n (par j) := by
  have hp := par_lt h0
  have g := swp_nth (d := d) (i := par j) (j := j) (by omega) (by omega)
  have hpp : ∀ k, par k = (k - 1) / 2 := fun _ => rfl
  constructor
  · intro k k0 kn kne
    have h1 := h.1 k k0 kn
    have h2 := h.2 k k0 kn
    have h3 := hpp k
    rw [g k, g (par k)]
    by_cases e1 : k = j
    · subst e1
      rw [if_pos rfl, if_neg (by omega), if_pos rfl]
      exact bef_asym hb
    · rw [if_neg e1, if_neg kne]
      by_cases e2 : par k = j
      · rw [if_pos e2]
        exact h2 e2 h0
      · rw [if_neg e2]
        by_cases e3 : par k = par j
        · rw [if_pos e3]
          exact fun q => h1 e1 (by rw [e3]; exact bef_trans q hb)
        · rw [if_neg e3]
          exact h1 e1
  · intro k k0 kn kp pj
    have h1 := h.1 k k0 kn
    have hpj := h.1 (par j) pj (by omega) (by omega)
    have h4 := par_lt pj
    rw [g k, g (par (par j))]
    rw [if_neg (show ¬ par (par j) = j by omega), if_neg (show ¬ par (par j) = par j by omega)]
    by_cases e1 : k = j
    · subst e1
      rw [if_pos rfl]
      exact hpj
    · rw [if_neg e1, if_neg (by have := par_lt k0; omega)]
      have := h1 e1
      rw [kp] at this
      exact nbef_trans this hpj
/-- the one put behind -/
theorem UpAt.push {d : List En} (h : Heap d d.length) (x : En) : UpAt (d ++ [x]) (d ++ [x]).length d.length := by
  have e : ∀ q, q < d.length → nth (d ++ [x]) q = nth d q := fun q hq => by
    rw [nth_get (by simp; omega), nth_get hq]
    simp [hq]
  constructor
  · intro k h0 hk hne
    have hk' : k < d.length := by simp at hk; omega
    have := par_lt h0
    rw [e k hk', e _ (by omega)]
    exact h k h0 hk'
  · intro k h0 hk hp
    have := par_lt h0
    simp at hk
    omega

/-- the one at i goes to the end, n: below n all is well but for what stands at i now -/
theorem DownAt.start {d : List En} {n i : Nat} (h : Heap d (n + 1)) (hn : n < d.length) (hi : i < n) : DownAt (swp d i n) n i i := by
  have g := swp_nth (d := d) (i := i) (j := n) (by omega) (by omega)
  constructor
  · intro k k0 kn kp hk
    have hki : k ≠ i := by omega
    have := par_lt k0
    rw [g k, g (par k), if_neg (by omega), if_neg hki, if_neg (by omega), if_neg kp]
    exact h k k0 (by omega)
  · intro k k0 kn kp i0
    have h1 := par_lt k0
    have h2 := par_lt i0
    rw [g k, g (par i), if_neg (by omega), if_neg (by omega), if_neg (by omega), if_neg (by omega)]
    have := h k k0 (by omega)
    rw [kp] at this
    exact nbef_trans this (h i i0 (by omega))
theorem DownAt.step {d : List En} {n i c j : Nat} (h : DownAt d n i c) (hn : n ≤ d.length) (hic : i ≤ c) (hj0 : 0 < j) (hj : j < n) (hp : par j = c) (hb : bef (nth d j) (nth d c))
    (hs : ∀ k, 0 < k → k < n → par k = c → ¬ bef (nth d k) (nth d j)) : DownAt (swp d c j) n i j := by
  have hcj := par_lt hj0
  have g := swp_nth (d := d) (i := c) (j := j) (by omega) (by omega)
  constructor
  · intro k k0 kn kp hk
    have h1 := h.1 k k0 kn
    have h2 := h.2 k k0 kn
    have hpl := par_lt k0
    rw [g k, g (par k), if_neg kp]
    by_cases e1 : k = j
    · subst e1
      rw [if_pos rfl, if_pos hp]
      exact bef_asym hb
    · rw [if_neg e1]
      by_cases e2 : k = c
      · subst e2
        rw [if_pos rfl, if_neg (by omega)]
        exact h.2 j hj0 hj hp k0
      · rw [if_neg e2]
        by_cases e3 : par k = c
        · rw [if_pos e3]
          exact hs k k0 kn e3
        · rw [if_neg e3]
          exact h1 e3 (by omega)
  · intro k k0 kn kp j0
    have hpl := par_lt k0
    rw [g k, g (par j), if_neg (by omega), if_neg (by omega), hp, if_neg (by omega), if_pos rfl]
    have := h.1 k k0 kn (by omega) (by omega)
    rw [kp] at this
    exact this
theorem DownAt.heap {d : List En} {n i c : Nat} (h : DownAt d n i c) (hc : c ≠ i) (hs : ∀ k, 0 < k → k < n → par k = c → ¬ bef (nth d k) (nth d c)) : Heap d n := fun k k0 kn => by
  by_cases e : par k = c
  · rw [e]; exact hs k k0 kn e
  · exact h.1 k k0 kn e (.inr hc)
theorem DownAt.up {d : List En} {n i : Nat} (h : DownAt d n i i) (hs : ∀ k, 0 < k → k < n → par k = i → ¬ bef (nth d k) (nth d i)) : UpAt d n i := by
  refine ⟨fun k k0 kn ki => ?_, h.2⟩
  by_cases e : par k = i
  · rw [e]; exact hs k k0 kn e
  · exact h.1 k k0 kn e (.inl ki)
/-- which hang on c -/
theorem par_kids {k c : Nat} (h : par k = c) (h0 : 0 < k) : k = 2 * c + 1 ∨ k = 2 * c + 2 := by unfold par at h; omega
theorem par_left (c : Nat) : par (2 * c + 1) = c := by unfold par; omega
theorem par_right (c : Nat) : par (2 * c + 2) = c := by unfold par; omega
end Go.Proofs.Ytkfkjpabollaoaa
