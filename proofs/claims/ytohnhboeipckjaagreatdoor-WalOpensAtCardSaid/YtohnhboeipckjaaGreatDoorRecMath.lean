/-
  The mathematics of records: numbers in four bytes (the highest first), a payload's form, what stands at the beginning of bytes (which error, or which payload), and rows of records.
  Conditions: none.
-/
import Derived.Test.YtohnhboeipckjaaGreatDoorSumMath
namespace Go.Proofs.YtohnhboeipckjaaGreatDoor

/-- a number's four bytes, the highest first -/
def be4 (v : Nat) : List UInt8 := [UInt8.ofNat (v / 16777216), UInt8.ofNat (v / 65536), UInt8.ofNat (v / 256), UInt8.ofNat v]
/-- what bytes tell, the highest first -/
def valB (l : List UInt8) : Nat := l.foldl (fun t b => t * 256 + b.toNat) 0
theorem be4_len (v : Nat) : (be4 v).length = 4 := rfl
theorem valB_snoc (l : List UInt8) (b : UInt8) : valB (l ++ [b]) = valB l * 256 + b.toNat := by unfold valB; rw [List.foldl_append]; rfl
theorem valB_take (l : List UInt8) (k : Nat) (h : k < l.length) : valB (l.take (k + 1)) = valB (l.take k) * 256 + l[k].toNat := by
  rw [List.take_succ_eq_append_getElem h, valB_snoc]
theorem valB_lt4 {l : List UInt8} (h : l.length = 4) : valB l < 4294967296 := by
  match l, h with
  | [a, b, c, d], _ =>
    have ha := UInt8.toNat_lt a
    have hb := UInt8.toNat_lt b
    have hc := UInt8.toNat_lt c
    have hd := UInt8.toNat_lt d
    simp only [valB, List.foldl]
    omega
theorem valB_be4 {v : Nat} (h : v < 4294967296) : valB (be4 v) = v := by
  simp only [valB, be4, List.foldl, UInt8.toNat_ofNat']
  omega
theorem be4_valB {l : List UInt8} (h : l.length = 4) : be4 (valB l) = l := by
  match l, h with
  | [a, b, c, d], _ =>
    have ha := UInt8.toNat_lt a
    have hb := UInt8.toNat_lt b
    have hc := UInt8.toNat_lt c
    have hd := UInt8.toNat_lt d
    simp only [be4, valB, List.foldl]
    rw [ofNat_byte a _ (by omega), ofNat_byte b _ (by omega), ofNat_byte c _ (by omega), ofNat_byte d _ (by omega)]
/-- by the bytes, or by the number -/
theorem be4_ne {v : Nat} {l : List UInt8} (hv : v < 4294967296) (h : l.length = 4) : (be4 v == l) = (v == valB l) := by
  rw [Bool.eq_iff_iff, beq_iff_eq, beq_iff_eq]
  constructor
  · intro e; rw [← e, valB_be4 hv]
  · intro e; rw [e, be4_valB h]

/-- a payload's form -/
def putL (l : List UInt8) : List UInt8 := 90 :: (be4 l.length ++ (be4 (crc (be4 l.length)) ++ (l ++ be4 (crc l))))
theorem putL_len (l : List UInt8) : (putL l).length = l.length + 13 := by simp [putL, be4_len]; omega

/-- the length that is told -/
def lenB (l : List UInt8) : Nat := valB ((l.drop 1).take 4)
/-- the payload that is told -/
def payL (l : List UInt8) : List UInt8 := (l.drop 9).take (lenB l)
/-- what is wrong with the head of bytes: 0: nothing -/
def headE (l : List UInt8) : Nat :=
  if l ≠ [] ∧ l.head? ≠ some 90 then 3
  else if l.length < 9 then 2
  else if crc ((l.drop 1).take 4) ≠ valB ((l.drop 5).take 4) then 5
  else if 65536 < lenB l then 4
  else 0
/-- what is wrong with the record at the beginning of bytes: 0: nothing -/
def getE (l : List UInt8) : Nat :=
  if headE l ≠ 0 then headE l
  else if l.length < 13 + lenB l then 2
  else if crc (payL l) ≠ valB ((l.drop (9 + lenB l)).take 4) then 5
  else 0
/-- its payload -/
def getP (l : List UInt8) : List UInt8 := if getE l = 0 then payL l else []
/-- how many bytes its form has -/
def getN (l : List UInt8) : Nat := if getE l = 0 then 13 + lenB l else 0

theorem headE_zero {l : List UInt8} (h : headE l = 0) : 9 ≤ l.length ∧ lenB l ≤ 65536 ∧ crc ((l.drop 1).take 4) = valB ((l.drop 5).take 4) ∧ l.head? = some 90 := by
  unfold headE at h
  split at h
  · omega
  · rename_i h1
    split at h
    · omega
    · rename_i h2
      split at h
      · omega
      · rename_i h3
        split at h
        · omega
        · rename_i h4
          refine ⟨by omega, by omega, Classical.not_not.1 h3, ?_⟩
          rcases Classical.em (l.head? = some 90) with h5 | h5
          · exact h5
          · exact absurd ⟨by rintro rfl; simp at h2, h5⟩ h1
theorem getE_head {l : List UInt8} (h : getE l = 0) : headE l = 0 := by
  unfold getE at h
  split at h
  · rename_i h1; exact absurd h h1
  · rename_i h1; exact Classical.not_not.1 h1
theorem getE_zero {l : List UInt8} (h : getE l = 0) : 13 + lenB l ≤ l.length ∧ lenB l ≤ 65536 ∧ crc (payL l) = valB ((l.drop (9 + lenB l)).take 4) := by
  have h0 := headE_zero (getE_head h)
  unfold getE at h
  rw [if_neg (by rw [getE_head (by unfold getE; exact h)]; simp)] at h
  split at h
  · omega
  · split at h
    · omega
    · rename_i h1 h2
      exact ⟨by omega, h0.2.1, Classical.not_not.1 h2⟩
theorem headE_le (l : List UInt8) : headE l ≤ 5 := by unfold headE; split <;> (try split) <;> (try split) <;> (try split) <;> omega
theorem getE_le (l : List UInt8) : getE l ≤ 5 := by
  have := headE_le l
  unfold getE; split <;> (try split) <;> (try split) <;> omega
theorem getE_nil : getE [] = 2 := by simp [getE, headE]
theorem headE_nil : headE [] = 2 := by simp [headE]
theorem getN_yes {l : List UInt8} (h : getE l = 0) : getN l = 13 + lenB l := by simp [getN, h]
theorem getP_yes {l : List UInt8} (h : getE l = 0) : getP l = payL l := by simp [getP, h]
theorem getN_no {l : List UInt8} (h : getE l ≠ 0) : getN l = 0 := by simp [getN, h]
theorem getP_no {l : List UInt8} (h : getE l ≠ 0) : getP l = [] := by simp [getP, h]
theorem getN_le {l : List UInt8} (h : getE l = 0) : getN l ≤ l.length := by rw [getN_yes h]; exact (getE_zero h).1
theorem payL_len {l : List UInt8} (h : 9 + lenB l ≤ l.length) : (payL l).length = lenB l := by unfold payL; rw [List.length_take, List.length_drop]; omega

/-! ### Rows of records -/
/-- the records at the beginning of bytes, one behind the other: their payloads, and how many bytes they have -/
inductive Rds : List UInt8 → List (List UInt8) → Nat → Prop
  | start (l : List UInt8) : Rds l [] 0
  | more {l : List UInt8} {ps : List (List UInt8)} {n : Nat} : getE l = 0 → Rds (l.drop (getN l)) ps n → Rds l (getP l :: ps) (getN l + n)
theorem Rds.snoc {l : List UInt8} {ps : List (List UInt8)} {n : Nat} (h : Rds l ps n) (hz : getE (l.drop n) = 0) : Rds l (ps ++ [getP (l.drop n)]) (n + getN (l.drop n)) := by
  induction h with
  | start l => simpa using Rds.more (l := l) (by simpa using hz) (Rds.start _)
  | @more l ps n h1 h2 ih =>
    rw [← List.drop_drop] at hz
    have h3 := Rds.more h1 (ih hz)
    rw [List.drop_drop] at h3
    rw [Nat.add_assoc]
    exact h3
theorem Rds.le {l : List UInt8} {ps : List (List UInt8)} {n : Nat} (h : Rds l ps n) : n ≤ l.length := by
  induction h with
  | start l => omega
  | @more l ps n h1 h2 ih =>
    have := getN_le h1
    rw [List.length_drop] at ih
    omega
theorem Rds.count {l : List UInt8} {ps : List (List UInt8)} {n : Nat} (h : Rds l ps n) : ps.length * 13 ≤ n := by
  induction h with
  | start l => simp
  | @more l ps n h1 h2 ih =>
    rw [List.length_cons, getN_yes h1]
    omega
theorem Rds.sizes {l : List UInt8} {ps : List (List UInt8)} {n : Nat} (h : Rds l ps n) : ∀ p ∈ ps, p.length ≤ l.length := by
  induction h with
  | start l => simp
  | @more l ps n h1 h2 ih =>
    intro p hp
    rcases List.mem_cons.1 hp with rfl | hp
    · rw [getP_yes h1, payL_len (by have := (getE_zero h1).1; omega)]
      have := (getE_zero h1).1
      omega
    · have := ih p hp
      rw [List.length_drop] at this
      omega
/-- all of the whole part -/
def Whole (l : List UInt8) (ps : List (List UInt8)) (n : Nat) : Prop := Rds l ps n ∧ getE (l.drop n) ≠ 0
theorem Whole.same {l : List UInt8} {ps ps' : List (List UInt8)} {n n' : Nat} (h : Whole l ps n) (h' : Whole l ps' n') : ps = ps' ∧ n = n' := by
  obtain ⟨h1, h2⟩ := h
  obtain ⟨h3, h4⟩ := h'
  induction h1 generalizing ps' n' with
  | start l =>
    cases h3 with
    | start => exact ⟨rfl, rfl⟩
    | more h5 _ => exact absurd h5 (by simpa using h2)
  | @more l ps n h5 h6 ih =>
    cases h3 with
    | start => exact absurd h5 (by simpa using h4)
    | @more _ ps2 n2 _ h7 =>
      rw [← List.drop_drop] at h2 h4
      obtain ⟨e1, e2⟩ := ih h2 h7 h4
      rw [e1, e2]
      exact ⟨rfl, rfl⟩
/-- what is told of the rest -/
def restE (l : List UInt8) (n : Nat) : Nat := if n = l.length then 0 else if getE (l.drop n) = 2 then 2 else 18

/-! ### What was put -/
theorem form_a {a b r : List UInt8} (x : UInt8) (ha : a.length = 4) : ((x :: (a ++ (b ++ r))).drop 1).take 4 = a := by
  rw [List.drop_succ_cons, List.drop_zero, ← ha, List.take_left]
theorem form_b {a b r : List UInt8} (x : UInt8) (ha : a.length = 4) (hb : b.length = 4) : ((x :: (a ++ (b ++ r))).drop 5).take 4 = b := by
  rw [List.drop_succ_cons, show List.drop 4 (a ++ (b ++ r)) = b ++ r by rw [← ha, List.drop_left], ← hb, List.take_left]
theorem form_r {a b r : List UInt8} (x : UInt8) (ha : a.length = 4) (hb : b.length = 4) : (x :: (a ++ (b ++ r))).drop 9 = r := by
  rw [List.drop_succ_cons, ← List.append_assoc, show (8 : Nat) = (a ++ b).length by rw [List.length_append, ha, hb], List.drop_left]
theorem form_len {a b r : List UInt8} (x : UInt8) (ha : a.length = 4) (hb : b.length = 4) : (x :: (a ++ (b ++ r))).length = 9 + r.length := by
  simp [ha, hb]; omega
theorem form_lenB {a b r : List UInt8} (x : UInt8) (ha : a.length = 4) : lenB (x :: (a ++ (b ++ r))) = valB a := by unfold lenB; rw [form_a x ha]
theorem form_headE {a b r : List UInt8} (x : UInt8) (ha : a.length = 4) (hb : b.length = 4) :
    headE (x :: (a ++ (b ++ r))) = if x ≠ 90 then 3 else if crc a ≠ valB b then 5 else if 65536 < valB a then 4 else 0 := by
  unfold headE
  rw [form_a x ha, form_b x ha hb, form_lenB x ha, form_len x ha hb, if_neg (show ¬ 9 + r.length < 9 by omega)]
  by_cases hx : x = 90
  · subst hx
    simp
  · rw [if_pos ⟨by simp, by simpa using hx⟩, if_pos hx]
/-- the beginning of a form is too short -/
theorem form_short {a b r : List UInt8} (ha : a.length = 4) (hb : b.length = 4) (hs : crc a = valB b) (hv : valB a ≤ 65536) (hr : r.length < valB a + 4) : getE (90 :: (a ++ (b ++ r))) = 2 := by
  have hz : headE (90 :: (a ++ (b ++ r))) = 0 := by rw [form_headE 90 ha hb, if_neg (by simp), if_neg (by simpa using hs), if_neg (by omega)]
  unfold getE
  rw [if_neg (by rw [hz]; simp), form_lenB 90 ha, form_len 90 ha hb, if_pos (by omega)]
theorem form_getE {a b p s m : List UInt8} (ha : a.length = 4) (hb : b.length = 4) (hs : crc a = valB b) (hv : valB a = p.length) (hp : p.length ≤ 65536) (h4 : s.length = 4) :
    getE (90 :: (a ++ (b ++ (p ++ (s ++ m))))) = if crc p ≠ valB s then 5 else 0 := by
  have hz : headE (90 :: (a ++ (b ++ (p ++ (s ++ m))))) = 0 := by rw [form_headE 90 ha hb, if_neg (by simp), if_neg (by simpa using hs), if_neg (by omega)]
  unfold getE payL
  rw [if_neg (by rw [hz]; simp), form_lenB 90 ha, form_len 90 ha hb, if_neg (by simp; omega), ← List.drop_drop, form_r 90 ha hb, hv, List.take_left, List.drop_left, ← h4, List.take_left]
theorem form_payL {a b p m : List UInt8} (ha : a.length = 4) (hb : b.length = 4) (hv : valB a = p.length) : payL (90 :: (a ++ (b ++ (p ++ m)))) = p := by
  unfold payL
  rw [form_lenB 90 ha, form_r 90 ha hb, hv, List.take_left]

theorem putL_form (l m : List UInt8) : putL l ++ m = 90 :: (be4 l.length ++ (be4 (crc (be4 l.length)) ++ (l ++ (be4 (crc l) ++ m)))) := by simp [putL]
theorem putL_getE {l : List UInt8} (h : l.length ≤ 65536) (m : List UInt8) : getE (putL l ++ m) = 0 := by
  rw [putL_form, form_getE (be4_len _) (be4_len _) (by rw [valB_be4 (crc_lt _)]) (valB_be4 (by omega)) h (be4_len _), if_neg (by rw [valB_be4 (crc_lt _)]; simp)]
theorem putL_getP {l : List UInt8} (h : l.length ≤ 65536) (m : List UInt8) : getP (putL l ++ m) = l := by
  rw [getP_yes (putL_getE h m), putL_form, form_payL (be4_len _) (be4_len _) (valB_be4 (by omega))]
theorem putL_getN {l : List UInt8} (h : l.length ≤ 65536) (m : List UInt8) : getN (putL l ++ m) = (putL l).length := by
  rw [getN_yes (putL_getE h m), putL_form, form_lenB 90 (be4_len _), valB_be4 (by omega), putL_len]; omega
theorem putL_cut {l : List UInt8} (h : l.length ≤ 65536) (m : List UInt8) {j : Nat} (hj : j < (putL l).length) : getE ((putL l ++ m).take j) = 2 := by
  rw [putL_len] at hj
  by_cases h0 : j = 0
  · subst h0; simpa using getE_nil
  · rw [putL_form]
    by_cases h9 : j < 9
    · have hl : ((90 :: (be4 l.length ++ (be4 (crc (be4 l.length)) ++ (l ++ (be4 (crc l) ++ m))))).take j).length < 9 := by rw [List.length_take]; omega
      obtain ⟨i, rfl⟩ : ∃ i, j = i + 1 := ⟨j - 1, by omega⟩
      rw [List.take_succ_cons] at hl ⊢
      have hz : headE (90 :: (be4 l.length ++ (be4 (crc (be4 l.length)) ++ (l ++ (be4 (crc l) ++ m)))).take i) = 2 := by
        unfold headE
        rw [if_neg (by simp), if_pos hl]
      unfold getE
      rw [if_pos (by rw [hz]; simp), hz]
    · obtain ⟨i, rfl⟩ : ∃ i, j = i + 9 := ⟨j - 9, by omega⟩
      have e : (90 :: (be4 l.length ++ (be4 (crc (be4 l.length)) ++ (l ++ (be4 (crc l) ++ m))))).take (i + 9) = 90 :: (be4 l.length ++ (be4 (crc (be4 l.length)) ++ (l ++ (be4 (crc l) ++ m)).take i)) := by
        rw [List.take_succ_cons, show i + 8 = (be4 l.length).length + ((be4 (crc (be4 l.length))).length + i) by simp [be4_len]; omega, List.take_length_add_append, List.take_length_add_append]
      rw [e]
      refine form_short (be4_len _) (be4_len _) (by rw [valB_be4 (crc_lt _)]) (by rw [valB_be4 (by omega)]; exact h) ?_
      rw [valB_be4 (by omega), List.length_take]
      omega

/-! ### A form with one byte turned -/
theorem crc_turned {l : List UInt8} {k : Nat} (hk : k < l.length) {c : UInt8} (hc : l[k] ≠ c) : crc (l.set k c) ≠ crc l := by
  intro e
  exact raw_turned hk hc ones_lt (xor_right_inj' e)
theorem set_ne {l : List UInt8} {k : Nat} (hk : k < l.length) {c : UInt8} (hc : l[k] ≠ c) : l.set k c ≠ l := by
  intro e
  have h := congrArg (fun m => m[k]?) e
  simp [hk] at h
  exact hc h.symm
theorem valB_turned {l : List UInt8} (hl : l.length = 4) {k : Nat} (hk : k < l.length) {c : UInt8} (hc : l[k] ≠ c) : valB (l.set k c) ≠ valB l := by
  intro e
  have h := congrArg be4 e
  rw [be4_valB (by rw [List.length_set]; exact hl), be4_valB hl] at h
  exact set_ne hk hc h
theorem getE_of_head {l : List UInt8} (h : headE l ≠ 0) : getE l ≠ 0 := by unfold getE; rw [if_pos h]; exact h
theorem putL_turned {l : List UInt8} (h : l.length ≤ 65536) {k : Nat} (hk : k < (putL l).length) {c : UInt8} (hc : (putL l)[k] ≠ c) : getE ((putL l).set k c) ≠ 0 := by
  have hva := valB_be4 (v := l.length) (by omega)
  have hvb := valB_be4 (crc_lt (be4 l.length))
  have hvs := valB_be4 (crc_lt l)
  have ha := be4_len l.length
  have hb := be4_len (crc (be4 l.length))
  have h4 := be4_len (crc l)
  have hf : putL l = 90 :: (be4 l.length ++ (be4 (crc (be4 l.length)) ++ (l ++ (be4 (crc l) ++ [])))) := by simpa using putL_form l []
  rw [putL_len] at hk
  have hk' : k < (putL l).length := by rw [putL_len]; exact hk
  have hc' : (putL l)[k]? ≠ some c := by rw [List.getElem?_eq_getElem hk']; simpa using hc
  clear hc hk'
  rw [hf] at hc' ⊢
  generalize be4 l.length = a at *
  generalize be4 (crc a) = b at *
  generalize be4 (crc l) = s at *
  cases k with
  | zero =>
    have hx : c ≠ 90 := by simpa [eq_comm] using hc'
    rw [List.set_cons_zero]
    unfold getE
    rw [form_headE c ha hb, if_pos hx]
    simp
  | succ k =>
    rw [List.set_cons_succ]
    rw [List.getElem?_cons_succ] at hc'
    by_cases h1 : k < a.length
    · rw [List.set_append_left _ _ h1]
      rw [List.getElem?_append_left h1, List.getElem?_eq_getElem h1] at hc'
      have h2 := crc_turned h1 (c := c) (by simpa using hc')
      refine getE_of_head ?_
      rw [form_headE 90 (by rw [List.length_set]; exact ha) hb, if_neg (by simp), if_pos (by rw [hvb]; exact h2)]
      simp
    · have h1' : a.length ≤ k := by omega
      rw [List.set_append_right _ _ h1']
      rw [List.getElem?_append_right h1'] at hc'
      generalize hj : k - a.length = j at *
      by_cases h3 : j < b.length
      · rw [List.set_append_left _ _ h3]
        rw [List.getElem?_append_left h3, List.getElem?_eq_getElem h3] at hc'
        have h2 := valB_turned hb h3 (c := c) (by simpa using hc')
        refine getE_of_head ?_
        rw [form_headE 90 ha (by rw [List.length_set]; exact hb), if_neg (by simp), if_pos (by rw [← hvb]; exact h2.symm)]
        simp
      · have h3' : b.length ≤ j := by omega
        rw [List.set_append_right _ _ h3']
        rw [List.getElem?_append_right h3'] at hc'
        generalize hi : j - b.length = i at *
        by_cases h5 : i < l.length
        · rw [List.set_append_left _ _ h5]
          rw [List.getElem?_append_left h5, List.getElem?_eq_getElem h5] at hc'
          have h2 := crc_turned h5 (c := c) (by simpa using hc')
          rw [form_getE ha hb hvb.symm (by rw [List.length_set]; exact hva) (by rw [List.length_set]; exact h) h4, if_pos (by rw [hvs]; exact h2)]
          simp
        · have h5' : l.length ≤ i := by omega
          rw [List.set_append_right _ _ h5']
          rw [List.getElem?_append_right h5'] at hc'
          generalize hg : i - l.length = g at *
          have h6 : g < s.length := by omega
          rw [List.set_append_left _ _ h6]
          rw [List.getElem?_append_left h6, List.getElem?_eq_getElem h6] at hc'
          have h2 := valB_turned h4 h6 (c := c) (by simpa using hc')
          rw [form_getE ha hb hvb.symm hva h (by rw [List.length_set]; exact h4), if_pos (by rw [← hvs]; exact h2.symm)]
          simp

/-! ### Forms one behind the other -/
/-- forms one behind the other -/
def flat : List (List UInt8) → List UInt8
  | [] => []
  | p :: ps => putL p ++ flat ps
theorem flat_app : ∀ (ps qs : List (List UInt8)), flat (ps ++ qs) = flat ps ++ flat qs
  | [], _ => rfl
  | p :: ps, qs => by show putL p ++ flat (ps ++ qs) = putL p ++ flat ps ++ flat qs; rw [flat_app ps qs, List.append_assoc]
theorem flat_snoc (ps : List (List UInt8)) (p : List UInt8) : flat (ps ++ [p]) = flat ps ++ putL p := by rw [flat_app]; simp [flat]
theorem flat_rds : ∀ (ps : List (List UInt8)), (∀ p ∈ ps, p.length ≤ 65536) → ∀ m, Rds (flat ps ++ m) ps (flat ps).length
  | [], _, m => Rds.start _
  | p :: ps, h, m => by
    have hp := h p (by simp)
    have e : flat (p :: ps) ++ m = putL p ++ (flat ps ++ m) := by show putL p ++ flat ps ++ m = _; rw [List.append_assoc]
    have hr := flat_rds ps (fun q hq => h q (by simp [hq])) m
    have h1 := Rds.more (l := putL p ++ (flat ps ++ m)) (ps := ps) (n := (flat ps).length) (putL_getE hp _) (by rw [putL_getN hp, List.drop_left]; exact hr)
    rw [putL_getP hp, putL_getN hp] at h1
    rw [e, show (flat (p :: ps)).length = (putL p).length + (flat ps).length by show (putL p ++ flat ps).length = _; rw [List.length_append]]
    exact h1
/-- cut off anywhere, those that are whole are read -/
theorem flat_cut {ps : List (List UInt8)} (h : ∀ p ∈ ps, p.length ≤ 65536) {k n : Nat} (h1 : (flat (ps.take n)).length ≤ k) (h2 : n < ps.length → k < (flat (ps.take (n + 1))).length) :
    Whole ((flat ps).take k) (ps.take n) (flat (ps.take n)).length ∧ getE (((flat ps).take k).drop (flat (ps.take n)).length) = 2 := by
  obtain ⟨j, rfl⟩ : ∃ j, k = (flat (ps.take n)).length + j := ⟨k - (flat (ps.take n)).length, by omega⟩
  have e : (flat ps).take ((flat (ps.take n)).length + j) = flat (ps.take n) ++ (flat (ps.drop n)).take j := by
    conv => lhs; rw [← List.take_append_drop n ps, flat_app]
    rw [List.take_append_drop, List.take_length_add_append]
  have h3 : getE ((flat (ps.drop n)).take j) = 2 := by
    rcases Nat.lt_or_ge n ps.length with hlt | hge
    · have h4 := h2 hlt
      rw [List.take_succ_eq_append_getElem hlt, flat_snoc, List.length_append] at h4
      rw [List.drop_eq_getElem_cons hlt]
      exact putL_cut (h _ (List.getElem_mem hlt)) _ (by omega)
    · rw [List.drop_eq_nil_of_le hge]
      simpa [flat] using getE_nil
  rw [e]
  have h5 : (flat (ps.take n) ++ (flat (ps.drop n)).take j).drop (flat (ps.take n)).length = (flat (ps.drop n)).take j := List.drop_left
  refine ⟨⟨flat_rds _ (fun q hq => h q (List.mem_of_mem_take hq)) _, ?_⟩, ?_⟩
  · rw [h5, h3]; simp
  · rw [h5]; exact h3
theorem flat_whole {ps : List (List UInt8)} (h : ∀ p ∈ ps, p.length ≤ 65536) : Whole (flat ps) ps (flat ps).length := by
  have h1 := flat_rds ps h []
  rw [List.append_nil] at h1
  exact ⟨h1, by rw [List.drop_length, getE_nil]; simp⟩
end Go.Proofs.YtohnhboeipckjaaGreatDoor
