/-
  The mathematics of a wheel: at which level and in which slot a timer stands, that going on to a tick leaves what stands elsewhere, how the slots are gone through for the first timer, and the order in which timers go.
  Conditions: as each theorem names them.
-/
import Derived.Lib.BitFns
namespace Go.Proofs.Ytobodianbjfgfaa.Wh

/-- a timer: its block, its handle, its id, its tick -/
structure En where
  b : Nat
  h : Nat
  id : Int
  due : Nat
/-- the level of a tick a, at the time n -/
def lvl (n a : Nat) : Nat := if a / 1024 = n / 1024 then 0 else if a / 1048576 = n / 1048576 then 1 else if a / 1073741824 = n / 1073741824 then 2 else 3
/-- a slot of that level is so wide -/
def wid (k : Nat) : Nat := 2 ^ (10 * k)
/-- the slot of a tick at a level -/
def dig (k a : Nat) : Nat := a / wid k % 1024
theorem wid0 : wid 0 = 1 := rfl
theorem wid1 : wid 1 = 1024 := rfl
theorem wid2 : wid 2 = 1048576 := rfl
theorem wid3 : wid 3 = 1073741824 := rfl
theorem wid4 : wid 4 = 1099511627776 := rfl
theorem lvl_lt (n a : Nat) : lvl n a < 4 := by unfold lvl; repeat' split
                                               all_goals omega
theorem dig_lt (k a : Nat) : dig k a < 1024 := Nat.mod_lt _ (by omega)
theorem four {k : Nat} (h : k < 4) : k = 0 ∨ k = 1 ∨ k = 2 ∨ k = 3 := by omega

theorem xor_lt (n a k : Nat) : n ^^^ a < 2 ^ k ↔ a / 2 ^ k = n / 2 ^ k := by
  have h : (n ^^^ a) / 2 ^ k = n / 2 ^ k ^^^ a / 2 ^ k := by
    rw [← Nat.shiftRight_eq_div_pow, ← Nat.shiftRight_eq_div_pow, ← Nat.shiftRight_eq_div_pow, Nat.shiftRight_xor_distrib]
  have hp : 0 < 2 ^ k := Nat.two_pow_pos k
  rw [← Nat.div_eq_zero_iff_lt hp, h]
  constructor
  · intro e
    have e2 : n / 2 ^ k ^^^ (n / 2 ^ k ^^^ a / 2 ^ k) = a / 2 ^ k := by rw [← Nat.xor_assoc, Nat.xor_self, Nat.zero_xor]
    rw [e, Nat.xor_zero] at e2
    exact e2.symm
  · intro e
    rw [e, Nat.xor_self]
theorem len_gt {x k : Nat} (h : 2 ^ k ≤ x) (hx : x < 2 ^ 64) : k < Lib.bitLen x := by
  rw [Lib.bitLen_shift k x h hx]
  have hp : 0 < x / 2 ^ k := Nat.div_pos h (Nat.two_pow_pos k)
  have hl : x / 2 ^ k < 2 ^ 64 := Nat.lt_of_le_of_lt (Nat.div_le_self _ _) hx
  rw [Lib.bitLen_half _ (by omega) hl]
  omega
theorem len_le {x k : Nat} (hk : k ≤ 64) (hx : x < 2 ^ 64) : Lib.bitLen x ≤ k ↔ x < 2 ^ k := by
  constructor
  · intro h
    rcases Nat.lt_or_ge x (2 ^ k) with h1 | h1
    · exact h1
    · have := len_gt h1 hx
      omega
  · exact Lib.bitLen_le x k hk
/-- how the program tells the level -/
theorem lvl_len (n a : Nat) (hn : n ≤ 1099511627776) (ha : a ≤ 1099511627776) : min ((Lib.bitLen (n ^^^ a) - 1) / 10) 3 = lvl n a := by
  have hx : n ^^^ a < 2 ^ 64 := Nat.xor_lt_two_pow (by omega) (by omega)
  have h1 := (len_le (k := 10) (by omega) hx).trans (xor_lt n a 10)
  have h2 := (len_le (k := 20) (by omega) hx).trans (xor_lt n a 20)
  have h3 := (len_le (k := 30) (by omega) hx).trans (xor_lt n a 30)
  have e1 : (2 : Nat) ^ 10 = 1024 := rfl
  have e2 : (2 : Nat) ^ 20 = 1048576 := rfl
  have e3 : (2 : Nat) ^ 30 = 1073741824 := rfl
  rw [e1] at h1
  rw [e2] at h2
  rw [e3] at h3
  generalize Lib.bitLen (n ^^^ a) = L at *
  unfold lvl
  split
  · have := h1.2 ‹_›; omega
  · have g1 : ¬ L ≤ 10 := fun h => absurd (h1.1 h) ‹_›
    split
    · have := h2.2 ‹_›; omega
    · have g2 : ¬ L ≤ 20 := fun h => absurd (h2.1 h) ‹_›
      split
      · have := h3.2 ‹_›; omega
      · have g3 : ¬ L ≤ 30 := fun h => absurd (h3.1 h) ‹_›
        omega
theorem len_small (n a : Nat) (hn : n ≤ 1099511627776) (ha : a ≤ 1099511627776) : Lib.bitLen (n ^^^ a) ≤ 64 := Lib.bitLen_le _ 64 (by omega) (Nat.xor_lt_two_pow (by omega) (by omega))

theorem lvl_is (n a : Nat) : (lvl n a = 0 ∧ a / 1024 = n / 1024) ∨ (lvl n a = 1 ∧ a / 1024 ≠ n / 1024 ∧ a / 1048576 = n / 1048576) ∨ (lvl n a = 2 ∧ a / 1048576 ≠ n / 1048576 ∧ a / 1073741824 = n / 1073741824) ∨ (lvl n a = 3 ∧ a / 1073741824 ≠ n / 1073741824) := by
  unfold lvl
  by_cases h1 : a / 1024 = n / 1024
  · rw [if_pos h1]; omega
  · rw [if_neg h1]
    by_cases h2 : a / 1048576 = n / 1048576
    · rw [if_pos h2]; omega
    · rw [if_neg h2]
      by_cases h3 : a / 1073741824 = n / 1073741824
      · rw [if_pos h3]; omega
      · rw [if_neg h3]; omega
/-- what stands elsewhere than a tick's own slot, at or behind it, stays there when the time is that tick -/
theorem pos_stay {n a x : Nat} (h1 : n ≤ a) (h2 : a ≤ x) (h3 : n < x) (h : ¬ (lvl n x = lvl n a ∧ dig (lvl n x) x = dig (lvl n a) a)) : lvl a x = lvl n x := by
  rcases Nat.eq_or_lt_of_le h1 with rfl | h1
  · rfl
  · rcases lvl_is n x with ⟨e1, f1⟩ | ⟨e1, f1, g1⟩ | ⟨e1, f1, g1⟩ | ⟨e1, f1⟩ <;> rcases lvl_is n a with ⟨e2, f2⟩ | ⟨e2, f2, g2⟩ | ⟨e2, f2, g2⟩ | ⟨e2, f2⟩ <;>
      rcases lvl_is a x with ⟨e3, f3⟩ | ⟨e3, f3, g3⟩ | ⟨e3, f3, g3⟩ | ⟨e3, f3⟩ <;> rw [e1, e2] at h <;> rw [e1, e3] <;> simp only [dig, wid0, wid1, wid2, wid3, true_and] at h <;> omega
/-- all timers are of level k or above, and none is ahead of the slot m of that level -/
def From (n k m : Nat) (xs : List En) : Prop := ∀ x ∈ xs, k ≤ lvl n x.due ∧ m * wid k ≤ x.due
/-- where the slots of a level end -/
def Ends (n k m : Nat) : Prop := n / wid k < m ∧ (k < 3 → m ≤ (n / wid (k + 1) + 1) * 1024)
theorem from_start {n : Nat} {xs : List En} (h : ∀ x ∈ xs, n < x.due) (k : Nat) (hk : k < 4) (hl : ∀ x ∈ xs, k ≤ lvl n x.due) : From n k (n / wid k + 1) xs := by
  intro x hx
  refine ⟨hl x hx, ?_⟩
  have h1 := h x hx
  have h2 := hl x hx
  rcases four hk with rfl | rfl | rfl | rfl <;> rcases lvl_is n x.due with ⟨e1, f1⟩ | ⟨e1, f1, g1⟩ | ⟨e1, f1, g1⟩ | ⟨e1, f1⟩ <;> simp only [wid0, wid1, wid2, wid3] <;> omega
theorem ends_start (n k : Nat) (hk : k < 4) : Ends n k (n / wid k + 1) := by
  refine ⟨by omega, fun h => ?_⟩
  rcases (by omega : k = 0 ∨ k = 1 ∨ k = 2) with rfl | rfl | rfl
  · rw [wid0, wid1]; omega
  · rw [wid1, wid2]; omega
  · rw [wid2, wid3]; omega
/-- the digit turns over: no timer of that level is left -/
theorem from_turn {n k m : Nat} {xs : List En} (h : From n k m xs) (he : Ends n k m) (hk : k < 3) (hm : m % 1024 = 0) : ∀ x ∈ xs, k + 1 ≤ lvl n x.due := by
  intro x hx
  obtain ⟨h1, h2⟩ := h x hx
  obtain ⟨e1, e2⟩ := he
  have e2 := e2 hk
  rcases (by omega : k = 0 ∨ k = 1 ∨ k = 2) with rfl | rfl | rfl <;> rcases lvl_is n x.due with ⟨e3, f3⟩ | ⟨e3, f3, g3⟩ | ⟨e3, f3, g3⟩ | ⟨e3, f3⟩ <;> simp only [Nat.reduceAdd, wid0, wid1, wid2, wid3] at h2 e1 e2 <;> omega
/-- the timers of a slot are those that begin there -/
theorem slot_is {n k m x : Nat} (hk : k < 4) (he : Ends n k m) (hs : k < 3 → m % 1024 ≠ 0) (hm : m * wid k ≤ 1099511627776) (hx : x ≤ 1099511627776) (hn : n < x) (hl : lvl n x = k) (h2 : m * wid k ≤ x) : dig k x = m % 1024 ↔ x / wid k = m := by
  obtain ⟨e1, e2⟩ := he
  unfold dig
  rcases four hk with rfl | rfl | rfl | rfl
  · have e2 := e2 (by omega); have hs := hs (by omega)
    rcases lvl_is n x with ⟨e3, f3⟩ | ⟨e3, f3, g3⟩ | ⟨e3, f3, g3⟩ | ⟨e3, f3⟩ <;> simp only [Nat.reduceAdd, wid0, wid1] at h2 e1 e2 hm ⊢ <;> omega
  · have e2 := e2 (by omega); have hs := hs (by omega)
    rcases lvl_is n x with ⟨e3, f3⟩ | ⟨e3, f3, g3⟩ | ⟨e3, f3, g3⟩ | ⟨e3, f3⟩ <;> simp only [Nat.reduceAdd, wid1, wid2] at h2 e1 e2 hm ⊢ <;> omega
  · have e2 := e2 (by omega); have hs := hs (by omega)
    rcases lvl_is n x with ⟨e3, f3⟩ | ⟨e3, f3, g3⟩ | ⟨e3, f3, g3⟩ | ⟨e3, f3⟩ <;> simp only [Nat.reduceAdd, wid3, wid2] at h2 e1 e2 hm ⊢ <;> omega
  · rcases lvl_is n x with ⟨e3, f3⟩ | ⟨e3, f3, g3⟩ | ⟨e3, f3, g3⟩ | ⟨e3, f3⟩ <;> simp only [wid3] at h2 e1 hm ⊢ <;> omega
/-- what stands higher begins behind a slot that isn't the last -/
theorem high_behind {n k m x : Nat} (hk : k < 4) (he : Ends n k m) (hs : k < 3 → m % 1024 ≠ 0) (hl : k < lvl n x) (hn : n < x) : (m + 1) * wid k ≤ x := by
  obtain ⟨e1, e2⟩ := he
  have hl3 := lvl_lt n x
  have e2 := e2 (by omega)
  have hs := hs (by omega)
  rcases (by omega : k = 0 ∨ k = 1 ∨ k = 2) with rfl | rfl | rfl <;> rcases lvl_is n x with ⟨e3, f3⟩ | ⟨e3, f3, g3⟩ | ⟨e3, f3, g3⟩ | ⟨e3, f3⟩ <;> simp only [Nat.reduceAdd, wid0, wid1, wid2, wid3] at e1 e2 ⊢ <;> omega
theorem div_next {k m x : Nat} (h : m * wid k ≤ x) (hne : x / wid k ≠ m) : (m + 1) * wid k ≤ x := by
  have hw : 0 < wid k := Nat.two_pow_pos _
  have h1 : m ≤ x / wid k := (Nat.le_div_iff_mul_le hw).2 h
  exact (Nat.le_div_iff_mul_le hw).1 (by omega)
theorem div_lt_next {k m x : Nat} (hk : k < 4) (h : x / wid k = m) : x < (m + 1) * wid k := by
  rcases four hk with rfl | rfl | rfl | rfl <;> simp only [wid0, wid1, wid2, wid3] at h ⊢ <;> omega
/-- a slot without timers: the next one -/
theorem from_next {n k m : Nat} {xs : List En} (h : From n k m xs) (he : Ends n k m) (hk : k < 4) (hs : k < 3 → m % 1024 ≠ 0) (hm : m * wid k ≤ 1099511627776) (hx : ∀ x ∈ xs, n < x.due ∧ x.due ≤ 1099511627776) (hno : ∀ x ∈ xs, ¬ (lvl n x.due = k ∧ dig k x.due = m % 1024)) : From n k (m + 1) xs ∧ Ends n k (m + 1) := by
  refine ⟨fun x hx1 => ⟨(h x hx1).1, ?_⟩, ?_⟩
  · obtain ⟨h1, h2⟩ := h x hx1
    obtain ⟨x1, x2⟩ := hx x hx1
    have hno := hno x hx1
    rcases Nat.eq_or_lt_of_le h1 with hl | hl
    · exact div_next h2 fun e => hno ⟨hl.symm, (slot_is hk he hs hm x2 x1 hl.symm h2).2 e⟩
    · exact high_behind hk he hs hl x1
  · obtain ⟨e1, e2⟩ := he
    refine ⟨by omega, fun h => ?_⟩
    have e2 := e2 h
    have hs := hs h
    omega
/-- a slot with timers: the first of them is the first of all -/
theorem from_first {n k m : Nat} {xs : List En} (h : From n k m xs) (he : Ends n k m) (hk : k < 4) (hs : k < 3 → m % 1024 ≠ 0) (hm : m * wid k ≤ 1099511627776) (hx : ∀ x ∈ xs, n < x.due ∧ x.due ≤ 1099511627776) {y : En} (hy : y ∈ xs) (h1 : lvl n y.due = k) (h2 : dig k y.due = m % 1024)
    (hmin : ∀ x ∈ xs, lvl n x.due = k → dig k x.due = m % 1024 → y.due ≤ x.due) : ∀ x ∈ xs, y.due ≤ x.due := by
  intro x hx1
  obtain ⟨x1, x2⟩ := hx x hx1
  obtain ⟨y1, y2⟩ := hx y hy
  have ey := div_lt_next hk ((slot_is hk he hs hm y2 y1 h1 (h y hy).2).1 h2)
  obtain ⟨l1, l2⟩ := h x hx1
  rcases Nat.eq_or_lt_of_le l1 with hl | hl
  · by_cases hd : dig k x.due = m % 1024
    · exact hmin x hx1 hl.symm hd
    · have := div_next l2 fun e => hd ((slot_is hk he hs hm x2 x1 hl.symm l2).2 e)
      omega
  · have := high_behind hk he hs hl x1
    omega

/-- a timer as the document has it -/
structure T where
  h : Nat
  id : Int
  due : Nat
def En.t (e : En) : T := ⟨e.h, e.id, e.due⟩
/-- x goes ahead of y -/
def ord (x y : T) : Prop := x.due < y.due ∨ (x.due = y.due ∧ x.h < y.h)
/-- the timers that go, in their order -/
def Gone (xs : List T) (to : Nat) (l : List T) : Prop := l.Perm (xs.filter fun x => decide (x.due ≤ to)) ∧ l.Pairwise ord
def stays (xs : List T) (to : Nat) : List T := xs.filter fun x => decide (to < x.due)
theorem ord_asym {x y : T} (h : ord x y) : ¬ ord y x := by unfold ord at *; omega
theorem gone_uniq {xs : List T} {to : Nat} {l m : List T} (h : Gone xs to l) (k : Gone xs to m) : l = m :=
  (h.1.trans k.1.symm).eq_of_pairwise (fun _ _ _ _ h1 h2 => absurd h2 (ord_asym h1)) h.2 k.2
theorem gone_app {xs : List T} {a to : Nat} {l m : List T} (hl : Gone xs a l) (hm : Gone (stays xs a) to m) (ha : a ≤ to) : Gone xs to (l ++ m) := by
  refine ⟨?_, ?_⟩
  · have h1 := hl.1.append hm.1
    unfold stays at h1
    rw [List.filter_filter] at h1
    refine h1.trans ?_
    clear h1 hl hm
    induction xs with
    | nil => exact .refl _
    | cons x r ih =>
      by_cases c1 : x.due ≤ a
      · rw [List.filter_cons_of_pos (by simpa using c1), List.filter_cons_of_neg (by simp; omega), List.filter_cons_of_pos (by simp; omega)]
        exact ih.cons x
      · by_cases c2 : x.due ≤ to
        · rw [List.filter_cons_of_neg (by simpa using c1), List.filter_cons_of_pos (by simp; omega), List.filter_cons_of_pos (by simpa using c2)]
          exact List.perm_middle.trans (ih.cons x)
        · rw [List.filter_cons_of_neg (by simpa using c1), List.filter_cons_of_neg (by simp; omega), List.filter_cons_of_neg (by simpa using c2)]
          exact ih
  · rw [List.pairwise_append]
    refine ⟨hl.2, hm.2, fun x hx y hy => .inl ?_⟩
    have h1 := (List.mem_filter.1 (hl.1.mem_iff.1 hx)).2
    have h2 := (List.mem_filter.1 (List.mem_filter.1 (hm.1.mem_iff.1 hy)).1).2
    have h1 := of_decide_eq_true h1
    have h2 := of_decide_eq_true h2
    omega
theorem stays_stays {xs : List T} {a to : Nat} (h : a ≤ to) : stays (stays xs a) to = stays xs to := by
  unfold stays
  rw [List.filter_filter]
  apply List.filter_congr
  intro x _
  by_cases c : to < x.due
  · have : a < x.due := by omega
    simp [c, this]
  · simp [c]
theorem gone_none {xs : List T} {to : Nat} (h : ∀ x ∈ xs, to < x.due) : Gone xs to [] ∧ stays xs to = xs := by
  refine ⟨⟨?_, .nil⟩, ?_⟩
  · rw [List.filter_eq_nil_iff.2 (fun x hx => by have := h x hx; simp; omega)]
  · exact List.filter_eq_self.2 fun x hx => decide_eq_true (h x hx)

def noEn : En := ⟨0, 0, 0, 0⟩
def nth (d : List En) (k : Nat) : En := d.getD k noEn
theorem nth_some {d : List En} {k : Nat} (h : k < d.length) : d[k]? = some (nth d k) := by simp [nth, h]
theorem nth_get {d : List En} {k : Nat} (h : k < d.length) : nth d k = d[k] := by simp [nth, h]
theorem nth_mem {d : List En} {k : Nat} (h : k < d.length) : nth d k ∈ d := by rw [nth_get h]; exact List.getElem_mem _
theorem nth_of {d : List En} {k : Nat} {e : En} (h : d[k]? = some e) : nth d k = e := by simp [nth, List.getD_eq_getElem?_getD, h]
theorem mem_nth {d : List En} {e : En} (h : e ∈ d) : ∃ k, k < d.length ∧ nth d k = e := by
  obtain ⟨k, hk, he⟩ := List.mem_iff_getElem.1 h
  exact ⟨k, hk, by rw [nth_get hk, he]⟩
theorem nth_app {d : List En} {e : En} {k : Nat} (hk : k < d.length) : nth (d ++ [e]) k = nth d k := by
  rw [nth_get (by simp; omega), nth_get hk]
  simp [hk]
theorem nth_last (d : List En) (e : En) : nth (d ++ [e]) d.length = e := by simp [nth]
end Go.Proofs.Ytobodianbjfgfaa.Wh
