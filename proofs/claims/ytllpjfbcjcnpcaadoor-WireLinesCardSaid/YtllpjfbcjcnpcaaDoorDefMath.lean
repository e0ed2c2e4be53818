/-
  Plain mathematics of definitions: what is wrong with one; the decimal digits of a number, read one by one; what a command's key is made of, and that it is so in one way alone. It needs nothing of the program.
  Conditions: none.
-/
import Derived.Test.YtllpjfbcjcnpcaaDoorPiecesMath
import Derived.Test.YtllpjfbcjcnpcaaDoorBofMath
import Derived.Lib.ItoaNum
import Derived.Lib.Join
namespace Go.Proofs.YtllpjfbcjcnpcaaDoor.Df
open Go.Lib (decDigits nDigits)
open Go.Proofs.YtllpjfbcjcnpcaaDoor.Bo (P)

/-! ### Digits -/
theorem dig_nat {d : Nat} (h : d < 10) : (UInt8.ofNat (48 + d)).toNat = 48 + d := by rw [UInt8.toNat_ofNat']; omega
theorem dec_big {n : Nat} (h : ¬ n < 10) : decDigits n = decDigits (n / 10) ++ [UInt8.ofNat (48 + n % 10)] := by rw [decDigits, dif_neg h]
theorem dec_dig (n : Nat) : ∀ b ∈ decDigits n, 48 ≤ b.toNat ∧ b.toNat ≤ 57 := by
  induction n using Nat.strongRecOn with
  | ind n ih =>
    intro b hb
    by_cases h : n < 10
    · rw [Go.Lib.decDigits_one h] at hb
      obtain rfl := List.mem_singleton.1 hb
      rw [dig_nat h]
      omega
    · rw [dec_big h] at hb
      rcases List.mem_append.1 hb with hb | hb
      · exact ih (n / 10) (by omega) b hb
      · obtain rfl := List.mem_singleton.1 hb
        rw [dig_nat (by omega)]
        omega
theorem dec_len (n : Nat) : 1 ≤ (decDigits n).length := by
  rw [Go.Lib.decDigits_length]
  exact Go.Lib.nDigits_pos n
theorem dec_ne (n : Nat) : decDigits n ≠ [] := fun e => by
  have := dec_len n
  rw [e] at this
  simp at this
theorem dec_next {n d : Nat} (h : 1 ≤ n) (hd : d < 10) : decDigits (n * 10 + d) = decDigits n ++ [UInt8.ofNat (48 + d)] := by
  rw [dec_big (by omega), show (n * 10 + d) / 10 = n by omega, show (n * 10 + d) % 10 = d by omega]
theorem dec_head (n : Nat) : (decDigits n).head? = some 48 → n = 0 := by
  induction n using Nat.strongRecOn with
  | ind n ih =>
    intro h
    by_cases h9 : n < 10
    · rw [Go.Lib.decDigits_one h9] at h
      simp only [List.head?_cons, Option.some.injEq] at h
      have := congrArg UInt8.toNat h
      rw [dig_nat h9] at this
      have e : (48 : UInt8).toNat = 48 := rfl
      omega
    · rw [dec_big h9] at h
      have hh : (decDigits (n / 10)).head? = some 48 := by
        cases hq : decDigits (n / 10) with
        | nil => exact absurd hq (dec_ne _)
        | cons c t => rw [hq] at h; exact h
      have := ih (n / 10) (by omega) hh
      omega
def val (l : List UInt8) : Nat := l.foldl (fun a b => a * 10 + (b.toNat - 48)) 0
theorem dec_val (n : Nat) : val (decDigits n) = n := by
  induction n using Nat.strongRecOn with
  | ind n ih =>
    by_cases h : n < 10
    · rw [Go.Lib.decDigits_one h]
      show 0 * 10 + ((UInt8.ofNat (48 + n)).toNat - 48) = n
      rw [dig_nat h]
      omega
    · have := ih (n / 10) (by omega)
      rw [dec_big h]
      unfold val at this ⊢
      rw [List.foldl_append, this]
      show n / 10 * 10 + ((UInt8.ofNat (48 + n % 10)).toNat - 48) = n
      rw [dig_nat (by omega)]
      omega
theorem dec_inj {n m : Nat} (h : decDigits n = decDigits m) : n = m := by
  have := congrArg val h
  rwa [dec_val, dec_val] at this

/-! ### A number's text, digit by digit -/
/-- a text that tells a saga's number -/
def Num (t : List UInt8) (m : Nat) : Prop := t = decDigits m ∧ t.length ≤ 18
/-- where a reader of digits stands -/
def NumRel (t : List UInt8) (pos n : Nat) : Prop := (pos = 0 ∧ n = 0) ∨ (1 ≤ pos ∧ t.take pos = decDigits n)
theorem num_step {t : List UInt8} {pos n d : Nat} {b : UInt8} (h : NumRel t pos n) (hb : t[pos]? = some b) (hd : b.toNat = 48 + d) (hd9 : d < 10) (hz : pos = 0 ∨ t.head? ≠ some 48) : NumRel t (pos + 1) (n * 10 + d) := by
  have hbe : b = UInt8.ofNat (48 + d) := UInt8.toNat_inj.1 (by rw [hd, dig_nat hd9])
  refine .inr ⟨by omega, ?_⟩
  rw [List.take_add_one, hb]
  rcases h with ⟨rfl, rfl⟩ | ⟨h1, h2⟩
  · rw [Nat.zero_mul, Nat.zero_add, Go.Lib.decDigits_one hd9, hbe]
    rfl
  · have hn : 1 ≤ n := by
      rcases Nat.eq_zero_or_pos n with h0 | h0
      · subst h0
        rw [Go.Lib.decDigits_one (by omega)] at h2
        rcases hz with hz | hz
        · omega
        · cases t with
          | nil => simp at hb
          | cons c t =>
            obtain ⟨pos, rfl⟩ : ∃ p, pos = p + 1 := ⟨pos - 1, by omega⟩
            rw [List.take_succ_cons] at h2
            injection h2 with h2
            exact absurd (by rw [h2]; rfl) hz
      · exact h0
    rw [h2, dec_next hn hd9, hbe]
    rfl
theorem num_lt {t : List UInt8} {pos n : Nat} (h : NumRel t pos n) (hp : pos ≤ t.length) : n < 10 ^ pos := by
  rcases h with ⟨rfl, rfl⟩ | ⟨h1, h2⟩
  · decide
  · have := Go.Lib.lt_pow_nDigits n
    rw [← Go.Lib.decDigits_length, ← h2, List.length_take, Nat.min_eq_left hp] at this
    exact this
theorem num_lt17 {t : List UInt8} {pos n : Nat} (h : NumRel t pos n) (hp : pos ≤ t.length) (h17 : pos ≤ 17) : n < 100000000000000000 :=
  Nat.lt_of_lt_of_le (num_lt h hp) (Nat.pow_le_pow_right (by decide) h17 : 10 ^ pos ≤ 10 ^ 17)
theorem num_end {t : List UInt8} {n : Nat} (h : NumRel t t.length n) (h0 : t ≠ []) (h18 : t.length ≤ 18) : Num t n := by
  rcases h with ⟨h1, _⟩ | ⟨_, h2⟩
  · exact absurd (List.eq_nil_of_length_eq_zero h1) h0
  · rw [List.take_length] at h2
    exact ⟨h2, h18⟩
theorem num_bad {t : List UInt8} {b : UInt8} (hb : b ∈ t) (hd : b.toNat < 48 ∨ 57 < b.toNat) : ¬ ∃ m, Num t m := by
  rintro ⟨m, h, _⟩
  rw [h] at hb
  have := dec_dig m b hb
  omega
theorem num_empty : ¬ ∃ m, Num [] m := fun ⟨m, h, _⟩ => dec_ne m h.symm
theorem num_long {t : List UInt8} (h : 18 < t.length) : ¬ ∃ m, Num t m := fun ⟨_, _, h18⟩ => by omega
theorem num_zero {t : List UInt8} (h : t.head? = some 48) (h1 : 1 < t.length) : ¬ ∃ m, Num t m := by
  rintro ⟨m, e, _⟩
  rw [e] at h h1
  have := dec_head m h
  subst this
  rw [Go.Lib.decDigits_one (by omega)] at h1
  simp at h1
theorem num_uniq {t : List UInt8} {m k : Nat} (h : Num t m) (h' : Num t k) : m = k := dec_inj (h.1.symm.trans h'.1)
/-- what 'number' answers -/
def NumIs (t : List UInt8) (n : Int) (ok : Bool) : Prop := (ok = true ∧ ∃ m : Nat, n = m ∧ Num t m) ∨ (ok = false ∧ n = 0 ∧ ¬ ∃ m, Num t m)

/-! ### Keys -/
def way : Bool → List UInt8
  | true => [117, 110, 100, 111]
  | false => [100, 111]
theorem way_inj {u v : Bool} (h : way u = way v) : u = v := by cases u <;> cases v <;> first | rfl | (simp [way] at h)
theorem way_no (u : Bool) : (47 : UInt8) ∉ way u := by cases u <;> decide
theorem dec_no (n : Nat) : (47 : UInt8) ∉ decDigits n := fun h => by
  have := (dec_dig n 47 h).1
  have e : (47 : UInt8).toNat = 47 := rfl
  omega
/-- a key, and what it is made of -/
def KeyOf (key : List UInt8) (m : Nat) (x : List UInt8) (u : Bool) : Prop := ∃ ds, Num ds m ∧ nameB x = true ∧ key = ds ++ 47 :: (x ++ 47 :: way u)
theorem key_pieces {key x : List UInt8} {m : Nat} {u : Bool} (h : KeyOf key m x u) : pieces [] key = [decDigits m, x, way u] := by
  obtain ⟨ds, ⟨rfl, _⟩, hx, rfl⟩ := h
  rw [pieces_app _ [] _ (dec_no m), pieces_slash, pieces_app _ [] _ (name_no47 hx), pieces_slash, pieces_none _ _ (way_no u)]
  simp
theorem key_uniq {key x y : List UInt8} {m k : Nat} {u v : Bool} (h : KeyOf key m x u) (h' : KeyOf key k y v) : m = k ∧ x = y ∧ u = v := by
  have e := (key_pieces h).symm.trans (key_pieces h')
  simp only [List.cons.injEq, and_true] at e
  exact ⟨dec_inj e.1, e.2.1, way_inj e.2.2⟩
theorem pieces_cat : ∀ (s w : List UInt8), Lib.join (pieces w s) [47] = w ++ s := by
  intro s
  induction s with
  | nil => intro w; simp [pieces, Lib.join_one]
  | cons b s ih =>
    intro w
    unfold pieces
    split
    · next h =>
      have hi := ih []
      have hp := pieces_pos s []
      rw [List.nil_append] at hi
      subst h
      cases hq : pieces [] s with
      | nil => rw [hq] at hp; simp at hp
      | cons y r =>
        rw [hq, Lib.join_cons] at hi
        rw [Lib.join_cons]
        have e : Lib.joinTail [47] (y :: r) = 47 :: (y ++ Lib.joinTail [47] r) := by simp [Lib.joinTail]
        rw [e, hi]
    · rw [ih (w ++ [b])]
      simp
theorem three {key a b c : List UInt8} (h : pieces [] key = [a, b, c]) : key = a ++ 47 :: (b ++ 47 :: c) := by
  have := pieces_cat key []
  rw [h, List.nil_append] at this
  rw [← this, Lib.join_cons]
  simp [Lib.joinTail]
theorem key_three {key a b c : List UInt8} (h : pieces [] key = [a, b, c]) (m : Nat) (x : List UInt8) (u : Bool) : KeyOf key m x u ↔ Num a m ∧ nameB x = true ∧ b = x ∧ c = way u := by
  constructor
  · intro hk
    have e := h.symm.trans (key_pieces hk)
    simp only [List.cons.injEq, and_true] at e
    obtain ⟨ds, hn, hx, _⟩ := hk
    exact ⟨⟨e.1, by rw [e.1, ← hn.1]; exact hn.2⟩, hx, e.2.1, e.2.2⟩
  · rintro ⟨hn, hx, rfl, rfl⟩
    exact ⟨a, hn, hx, three h⟩
theorem key_not {key : List UInt8} (h : (pieces [] key).length ≠ 3) : ¬ ∃ m x u, KeyOf key m x u := by
  rintro ⟨m, x, u, hk⟩
  rw [key_pieces hk] at h
  exact h rfl
/-- what Cut, and the document's Read, answer -/
def CutIs (key : List UInt8) (n : Int) (x : ByteArray) (u ok : Bool) : Prop :=
  (ok = true ∧ ∃ m : Nat, n = m ∧ KeyOf key m x.data.toList u) ∨ (ok = false ∧ n = 0 ∧ x = ⟨#[]⟩ ∧ u = false ∧ ¬ ∃ m x u, KeyOf key m x u)
theorem bytes_inj {a b : ByteArray} (h : a.data.toList = b.data.toList) : a = b := ByteArray.ext (Array.toList_inj.1 h)
theorem cut_uniq {key : List UInt8} {n n' : Int} {x x' : ByteArray} {u u' ok ok' : Bool} (h : CutIs key n x u ok) (h' : CutIs key n' x' u' ok') : n = n' ∧ x = x' ∧ u = u' ∧ ok = ok' := by
  rcases h with ⟨rfl, m, rfl, hk⟩ | ⟨rfl, rfl, rfl, rfl, hk⟩ <;> rcases h' with ⟨rfl, m', rfl, hk'⟩ | ⟨rfl, rfl, rfl, rfl, hk'⟩
  · obtain ⟨rfl, e, rfl⟩ := key_uniq hk hk'
    exact ⟨rfl, bytes_inj e, rfl, rfl⟩
  · exact absurd ⟨_, _, _, hk⟩ hk'
  · exact absurd ⟨_, _, _, hk'⟩ hk
  · exact ⟨rfl, rfl, rfl, rfl⟩

/-! ### SplitN into at most four pieces -/
def pcs4 (s : ByteArray) : List ByteArray := Lib.splitB ⟨#[47]⟩ 0 (min 4 (s.size + 1) - 1) s
theorem pcs4_pieces (s : ByteArray) : ((pcs4 s).length = 3 → (pcs4 s).map (·.data.toList) = pieces [] s.data.toList) ∧ ((pcs4 s).length ≠ 3 → (pieces [] s.data.toList).length ≠ 3) := by
  have e : (pcs4 s).map (·.data.toList) = Lib.splitK [47] 0 (min 4 (s.size + 1) - 1) s.data.toList := Lib.splitB_data _ _ _ _
  have hl := pieces_len s.data.toList []
  have es : s.data.toList.length = s.size := Array.length_toList
  obtain ⟨h1, h2⟩ := splitK_pieces (min 4 (s.size + 1) - 1) s.data.toList
  have hlen : (pcs4 s).length = ((pcs4 s).map (·.data.toList)).length := by simp
  rw [hlen, e]
  by_cases h : (pieces [] s.data.toList).length ≤ min 4 (s.size + 1) - 1 + 1
  · rw [h1 h]
    exact ⟨fun _ => rfl, fun h => h⟩
  · have h9 := h2 (by omega)
    exact ⟨fun h => by omega, fun _ => by omega⟩

/-! ### The document's own way: every way to cut it is tried -/
def Hit (key : List UInt8) (i k : Nat) (u : Bool) : Prop := key[i + 1]? = some 47 ∧ nameB ((key.take k).drop (i + 2)) = true ∧ key.drop k = 47 :: way u
theorem hit_key {key : List UInt8} {i k n : Nat} {u : Bool} (hd : key.take (i + 1) = decDigits n) (hi : i < 18) (hk : i + 2 ≤ k) (h : Hit key i k u) : KeyOf key n ((key.take k).drop (i + 2)) u := by
  obtain ⟨h1, h2, h3⟩ := h
  have hlt : i + 1 < key.length := by
    rcases Nat.lt_or_ge (i + 1) key.length with h | h
    · exact h
    · rw [List.getElem?_eq_none h] at h1; cases h1
  refine ⟨key.take (i + 1), ⟨hd, by rw [List.length_take]; omega⟩, h2, ?_⟩
  rw [← h3]
  have e1 : key.drop (i + 1) = 47 :: key.drop (i + 2) := by
    rw [List.drop_eq_getElem_cons hlt]
    rw [List.getElem?_eq_getElem hlt] at h1
    injection h1 with h1
    rw [h1]
  have e2 : (key.take k).drop (i + 2) ++ key.drop k = key.drop (i + 2) := by
    conv => rhs; rw [← List.take_append_drop k key]
    have hkl : k ≤ key.length := by
      rcases Nat.lt_or_ge key.length k with h | h
      · rw [List.drop_eq_nil_of_le (by omega)] at h3; cases h3
      · exact h
    rw [List.drop_append, List.length_take, Nat.min_eq_left hkl, show i + 2 - k = 0 by omega, List.drop_zero]
  rw [e2, ← e1, List.take_append_drop]
theorem key_hit {key x : List UInt8} {m : Nat} {u : Bool} (h : KeyOf key m x u) : ∃ i k, i < 18 ∧ i + 1 < key.length ∧ i + 2 ≤ k ∧ k < key.length ∧ (∀ j, j ≤ i → ∃ b, key[j]? = some b ∧ 48 ≤ b.toNat ∧ b.toNat ≤ 57) ∧ Hit key i k u := by
  obtain ⟨ds, ⟨e, hl⟩, hx, rfl⟩ := h
  have h1 : 1 ≤ ds.length := by rw [e]; exact dec_len m
  have hlen : (ds ++ 47 :: (x ++ 47 :: way u)).length = ds.length + 1 + x.length + 1 + (way u).length := by simp only [List.length_append, List.length_cons]; omega
  refine ⟨ds.length - 1, ds.length + 1 + x.length, by omega, by omega, by omega, by omega, fun j hj => ?_, ?_, ?_, ?_⟩
  · refine ⟨ds[j]'(by omega), ?_, ?_⟩
    · rw [List.getElem?_append_left (by omega), List.getElem?_eq_getElem]
    · have := dec_dig m (ds[j]'(by omega)) (by rw [← e]; exact List.getElem_mem _)
      exact this
  · rw [show ds.length - 1 + 1 = ds.length by omega, List.getElem?_append_right (Nat.le_refl _), Nat.sub_self]
    rfl
  · have e2 : ((ds ++ 47 :: (x ++ 47 :: way u)).take (ds.length + 1 + x.length)).drop (ds.length - 1 + 2) = x := by
      rw [show ds ++ 47 :: (x ++ 47 :: way u) = (ds ++ [47]) ++ (x ++ 47 :: way u) by simp, show ds.length + 1 + x.length = (ds ++ [47]).length + x.length by simp, List.take_length_add_append, show ds.length - 1 + 2 = (ds ++ [47]).length by simp; omega, List.drop_left, List.take_left]
    rw [e2]
    exact hx
  · rw [show ds ++ 47 :: (x ++ 47 :: way u) = (ds ++ 47 :: x) ++ (47 :: way u) by simp, show ds.length + 1 + x.length = (ds ++ 47 :: x).length by simp; omega, List.drop_left]
/-- where the document's Read stands -/
structure ReadRel (key : List UInt8) (i n : Nat) : Prop where
  num : NumRel key i n
  dig : ∀ j, j < i → ∃ b, key[j]? = some b ∧ 48 ≤ b.toNat ∧ b.toNat ≤ 57
  no : ∀ j k u, j < i → j + 2 ≤ k → ¬ Hit key j k u
theorem read_start (key : List UInt8) : ReadRel key 0 0 := ⟨.inl ⟨rfl, rfl⟩, fun j h => by omega, fun j k u h => by omega⟩
theorem read_end {key : List UInt8} {i n : Nat} (h : ReadRel key i n) (he : key.length ≤ i ∨ 18 ≤ i ∨ ∃ b, key[i]? = some b ∧ (b.toNat < 48 ∨ 57 < b.toNat)) : ¬ ∃ m x u, KeyOf key m x u := by
  rintro ⟨m, x, u, hk⟩
  obtain ⟨j, k, h1, h2, h3, h4, h5, h6⟩ := key_hit hk
  rcases Nat.lt_or_ge j i with h | h
  · exact ReadRel.no ‹_› j k u h h3 h6
  · rcases he with he | he | ⟨b, hb, hd⟩
    · omega
    · omega
    · obtain ⟨b', hb', hd'⟩ := h5 i h
      rw [hb] at hb'
      injection hb' with hb'
      subst hb'
      omega
theorem read_zero {key : List UInt8} {i n : Nat} (h : ReadRel key i n) (hi : 1 ≤ i) (h0 : key[0]? = some 48) {b : UInt8} (hb : key[i]? = some b) (hd : 48 ≤ b.toNat ∧ b.toNat ≤ 57) : ¬ ∃ m x u, KeyOf key m x u := by
  rintro ⟨m, x, u, ds, ⟨e, hl⟩, hx, hk⟩
  have h1 : 1 ≤ ds.length := by rw [e]; exact dec_len m
  have hh : (decDigits m).head? = some 48 := by
    rw [hk, List.getElem?_append_left (by omega), e] at h0
    rw [List.head?_eq_getElem?]
    exact h0
  have hm := dec_head m hh
  subst hm
  rw [Go.Lib.decDigits_one (by omega)] at e
  have h47 : key[1]? = some 47 := by
    rw [hk, e]
    rfl
  have : ∃ b, key[1]? = some b ∧ 48 ≤ b.toNat ∧ b.toNat ≤ 57 := by
    by_cases h2 : i = 1
    · subst h2; exact ⟨b, hb, hd⟩
    · exact h.dig 1 (by omega)
  obtain ⟨c, hc, hd'⟩ := this
  rw [h47] at hc
  injection hc with hc
  subst hc
  exact absurd hd'.1 (by decide)
theorem read_step {key : List UInt8} {i n d : Nat} {b : UInt8} (h : ReadRel key i n) (hb : key[i]? = some b) (hd : b.toNat = 48 + d) (hd9 : d < 10) (hz : i = 0 ∨ key[0]? ≠ some 48) (hno : ∀ k u, i + 2 ≤ k → ¬ Hit key i k u) : ReadRel key (i + 1) (n * 10 + d) := by
  refine ⟨num_step h.num hb hd hd9 (by rw [List.head?_eq_getElem?]; exact hz), fun j hj => ?_, fun j k u hj => ?_⟩
  · by_cases e : j = i
    · subst e; exact ⟨b, hb, by omega⟩
    · exact h.dig j (by omega)
  · by_cases e : j = i
    · subst e; exact hno k u
    · exact h.no j k u (by omega)
/-- its digits, at a hit -/
theorem read_here {key : List UInt8} {i n d : Nat} {b : UInt8} (h : ReadRel key i n) (hb : key[i]? = some b) (hd : b.toNat = 48 + d) (hd9 : d < 10) (hz : i = 0 ∨ key[0]? ≠ some 48) : key.take (i + 1) = decDigits (n * 10 + d) := by
  rcases num_step h.num hb hd hd9 (by rw [List.head?_eq_getElem?]; exact hz) with ⟨h1, _⟩ | ⟨_, h2⟩
  · omega
  · exact h2

/-! ### What is wrong with a definition -/
structure Stp where
  nm : ByteArray
  pt : ByteArray
  tm : Int
  t : P
  u : P
  pr : Int
def eqP (a b : P) : Bool := decide (a.r = b.r) && decide (a.b = b.b) && decide (a.f = b.f) && decide (a.c = b.c)
def eqS (a b : Stp) : Bool := decide (a.nm = b.nm) && decide (a.pt = b.pt) && decide (a.tm = b.tm) && eqP a.t b.t && eqP a.u b.u && decide (a.pr = b.pr)
theorem eqP_iff {a b : P} : eqP a b = true ↔ a = b := by
  obtain ⟨a1, a2, a3, a4⟩ := a
  obtain ⟨b1, b2, b3, b4⟩ := b
  simp [eqP, and_assoc]
theorem eqS_iff {a b : Stp} : eqS a b = true ↔ a = b := by
  obtain ⟨a1, a2, a3, a4, a5, a6⟩ := a
  obtain ⟨b1, b2, b3, b4, b5, b6⟩ := b
  simp [eqS, eqP_iff, and_assoc]
def stepE (ss : List Stp) (i : Nat) (s : Stp) : Int :=
  if nameB s.nm.data.toList = false ∨ nameB s.pt.data.toList = false then 10
  else if (ss.take i).any (fun x => decide (x.nm = s.nm)) = true then 6
  else if s.tm < 1 ∨ 1099511627776 < s.tm ∨ s.pr < 0 ∨ 255 < s.pr then 1
  else if ¬ s.t.Good ∨ ¬ s.u.Good then 3
  else 0
/-- the first step at fault, and its error -/
def FaultIs (ss : List Stp) (k e : Int) : Prop :=
  (∃ i s, ss[i]? = some s ∧ e = stepE ss i s ∧ stepE ss i s ≠ 0 ∧ k = (i : Int) ∧ ∀ j t, j < i → ss[j]? = some t → stepE ss j t = 0) ∨
    (k = -1 ∧ e = 0 ∧ ∀ j t, ss[j]? = some t → stepE ss j t = 0)
theorem fault_uniq {ss : List Stp} {k e k' e' : Int} (h : FaultIs ss k e) (h' : FaultIs ss k' e') : k = k' ∧ e = e' := by
  rcases h with ⟨i, s, h1, rfl, h3, rfl, h5⟩ | ⟨rfl, rfl, h3⟩ <;> rcases h' with ⟨i', s', g1, rfl, g3, rfl, g5⟩ | ⟨rfl, rfl, g3⟩
  · have : i = i' := by
      rcases Nat.lt_trichotomy i i' with h | h | h
      · exact absurd (g5 i s h h1) h3
      · exact h
      · exact absurd (h5 i' s' h g1) g3
    subst this
    rw [h1] at g1
    injection g1 with g1
    subst g1
    exact ⟨rfl, rfl⟩
  · exact absurd (g3 i s h1) h3
  · exact absurd (h3 i' s' g1) g3
  · exact ⟨rfl, rfl⟩
def ChkIs (nm : ByteArray) (dl : Int) (ss : List Stp) (k e : Int) : Prop :=
  if nameB nm.data.toList = false then k = -1 ∧ e = 10
  else if dl < 0 ∨ 1099511627776 < dl then k = -1 ∧ e = 1
  else if ss.length = 0 then k = -1 ∧ e = 2
  else if 32 < ss.length then k = -1 ∧ e = 4
  else FaultIs ss k e
theorem chk_uniq {nm : ByteArray} {dl k e k' e' : Int} {ss : List Stp} (h : ChkIs nm dl ss k e) (h' : ChkIs nm dl ss k' e') : k = k' ∧ e = e' := by
  unfold ChkIs at h h'
  split at h
  · rw [if_pos ‹_›] at h'; exact ⟨h.1.trans h'.1.symm, h.2.trans h'.2.symm⟩
  · rw [if_neg ‹_›] at h'
    split at h
    · rw [if_pos ‹_›] at h'; exact ⟨h.1.trans h'.1.symm, h.2.trans h'.2.symm⟩
    · rw [if_neg ‹_›] at h'
      split at h
      · rw [if_pos ‹_›] at h'; exact ⟨h.1.trans h'.1.symm, h.2.trans h'.2.symm⟩
      · rw [if_neg ‹_›] at h'
        split at h
        · rw [if_pos ‹_›] at h'; exact ⟨h.1.trans h'.1.symm, h.2.trans h'.2.symm⟩
        · rw [if_neg ‹_›] at h'
          exact fault_uniq h h'
/-- the names of a right definition's steps are names -/
theorem chk_name {nm : ByteArray} {dl k : Int} {ss : List Stp} (h : ChkIs nm dl ss k 0) {i : Nat} {s : Stp} (hs : ss[i]? = some s) : nameB s.nm.data.toList = true := by
  unfold ChkIs at h
  split at h
  · exact absurd h.2 (by decide)
  · split at h
    · exact absurd h.2 (by decide)
    · split at h
      · exact absurd h.2 (by decide)
      · split at h
        · exact absurd h.2 (by decide)
        · rcases h with ⟨j, t, _, h2, h3, _⟩ | ⟨_, _, h3⟩
          · exact absurd h2.symm h3
          · have := h3 i s hs
            unfold stepE at this
            cases hn : nameB s.nm.data.toList with
            | true => rfl
            | false =>
              rw [if_pos (.inl hn)] at this
              exact absurd this (by decide)
/-! ### Parties: each once, in the order in which they come first -/
def fresh (l : List ByteArray) (x : ByteArray) : List ByteArray := if l.any (fun y => decide (y = x)) = true then l else l ++ [x]
def parties (l : List ByteArray) : List ByteArray := l.foldl fresh []
theorem any_mem {l : List ByteArray} {x : ByteArray} : l.any (fun y => decide (y = x)) = true ↔ x ∈ l := by
  rw [List.any_eq_true]
  constructor
  · rintro ⟨y, h1, h2⟩
    exact of_decide_eq_true h2 ▸ h1
  · exact fun h => ⟨x, h, decide_eq_true rfl⟩
theorem fresh_mem (l : List ByteArray) (x y : ByteArray) : y ∈ fresh l x ↔ y ∈ l ∨ y = x := by
  unfold fresh
  split
  · next h =>
    exact ⟨.inl, fun h' => h'.elim id fun e => e ▸ any_mem.1 h⟩
  · rw [List.mem_append, List.mem_singleton]
theorem parties_snoc (l : List ByteArray) (x : ByteArray) : parties (l ++ [x]) = fresh (parties l) x := by
  unfold parties
  rw [List.foldl_append]
  rfl
theorem fold_mem (l : List ByteArray) : ∀ (a : List ByteArray) (x : ByteArray), x ∈ l.foldl fresh a ↔ x ∈ a ∨ x ∈ l := by
  induction l with
  | nil => intro a x; simp
  | cons y l ih =>
    intro a x
    rw [List.foldl_cons, ih, fresh_mem, List.mem_cons, or_assoc]
theorem parties_mem (l : List ByteArray) (x : ByteArray) : x ∈ parties l ↔ x ∈ l := by
  unfold parties
  rw [fold_mem]
  simp
theorem fold_len (l : List ByteArray) : ∀ a : List ByteArray, (l.foldl fresh a).length ≤ a.length + l.length := by
  induction l with
  | nil => intro a; simp
  | cons y l ih =>
    intro a
    have := ih (fresh a y)
    have h : (fresh a y).length ≤ a.length + 1 := by
      unfold fresh
      split
      · omega
      · simp
    rw [List.foldl_cons, List.length_cons]
    omega
theorem parties_len (l : List ByteArray) : (parties l).length ≤ l.length := by
  have := fold_len l []
  simpa [parties] using this
/-- the ends -/
def endT (dl start : Int) : Int := if dl = 0 then 1099511627777 else addT start dl
theorem end_mono {dl a b : Int} (h : a ≤ b) : endT dl a ≤ endT dl b := by
  unfold endT
  split
  · exact Int.le_refl _
  · exact addT_mono _ h
end Go.Proofs.YtllpjfbcjcnpcaaDoor.Df
