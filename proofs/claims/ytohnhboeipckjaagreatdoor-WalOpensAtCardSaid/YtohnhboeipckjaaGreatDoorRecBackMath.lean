/-
  The mathematics of records one behind the other: they are read as they were; cut off anywhere, those that are whole are.
  Conditions: none.
-/
import Derived.Test.YtohnhboeipckjaaGreatDoorRecMath
namespace Go.Proofs.YtohnhboeipckjaaGreatDoor

/-- the forms of payloads, one behind the other -/
def catL (ls : List (List UInt8)) : List UInt8 := (ls.map putL).flatten
theorem catL_nil : catL [] = [] := rfl
theorem catL_cons (l : List UInt8) (ls : List (List UInt8)) : catL (l :: ls) = putL l ++ catL ls := by simp [catL]
theorem catL_append (a b : List (List UInt8)) : catL (a ++ b) = catL a ++ catL b := by simp [catL]
theorem catL_take {ls : List (List UInt8)} {i : Nat} (h : i < ls.length) : catL (ls.take (i + 1)) = catL (ls.take i) ++ putL ls[i] := by
  rw [List.take_succ_eq_append_getElem h, catL_append]
  simp [catL]
theorem catL_split (ls : List (List UInt8)) (j : Nat) : catL ls = catL (ls.take j) ++ catL (ls.drop j) := by rw [← catL_append, List.take_append_drop]
theorem catL_len {ls : List (List UInt8)} (h : ∀ l ∈ ls, l.length ≤ 60) : (catL ls).length ≤ 73 * ls.length := by
  induction ls with
  | nil => simp [catL]
  | cons l ls ih =>
    rw [catL_cons, List.length_append, putL_len, List.length_cons]
    have h1 := h l (by simp)
    have h2 := ih fun x hx => h x (by simp [hx])
    omega
/-- where the form at a place ends -/
def endN (ls : List (List UInt8)) (i : Nat) : Nat := (catL (ls.take (i + 1))).length
def endsL (ls : List (List UInt8)) (i : Nat) : List Nat := (List.range i).map (endN ls)
theorem endsL_len (ls : List (List UInt8)) (i : Nat) : (endsL ls i).length = i := by simp [endsL]
theorem endsL_succ (ls : List (List UInt8)) (i : Nat) : endsL ls (i + 1) = endsL ls i ++ [endN ls i] := by simp [endsL, List.range_succ]
theorem endsL_at {ls : List (List UInt8)} {i n : Nat} (h : i < n) : (endsL ls n)[i]? = some (endN ls i) := by simp [endsL, h]

theorem rds_cat {ls : List (List UInt8)} (h : ∀ l ∈ ls, l.length ≤ 65536) (m : List UInt8) : Rds (catL ls ++ m) ls (catL ls).length := by
  induction ls with
  | nil => exact Rds.start _
  | cons l ls ih =>
    have hl := h l (by simp)
    have ih' := ih fun x hx => h x (by simp [hx])
    rw [catL_cons, List.append_assoc]
    have e := Rds.more (l := putL l ++ (catL ls ++ m)) (ps := ls) (n := (catL ls).length) (putL_getE hl _) (by rw [putL_getN hl, List.drop_left]; exact ih')
    rw [putL_getP hl, putL_getN hl] at e
    rw [List.length_append]
    exact e
theorem whole_cat {ls : List (List UInt8)} (h : ∀ l ∈ ls, l.length ≤ 65536) : Whole (catL ls) ls (catL ls).length := by
  refine ⟨by simpa using rds_cat h [], ?_⟩
  rw [List.drop_length, getE_nil]
  decide
theorem catL_take_le (ls : List (List UInt8)) (j : Nat) : (catL (ls.take j)).length ≤ (catL ls).length := by
  rw [catL_split ls j, List.length_append]
  omega
/-- cut off anywhere -/
theorem whole_cut {ls : List (List UInt8)} (h : ∀ l ∈ ls, l.length ≤ 65536) {j k : Nat} (hj : j ≤ ls.length) (h1 : (catL (ls.take j)).length ≤ k) (hk : k ≤ (catL ls).length) (h2 : j = ls.length ∨ k < (catL (ls.take (j + 1))).length) :
    Whole ((catL ls).take k) (ls.take j) (catL (ls.take j)).length ∧ restE ((catL ls).take k) (catL (ls.take j)).length = if (catL (ls.take j)).length = k then 0 else 2 := by
  obtain ⟨d, rfl⟩ : ∃ d, k = (catL (ls.take j)).length + d := ⟨k - (catL (ls.take j)).length, by omega⟩
  have e : (catL ls).take ((catL (ls.take j)).length + d) = catL (ls.take j) ++ (catL (ls.drop j)).take d := by
    rw [catL_split ls j, List.take_length_add_append]
  have hlen : ((catL ls).take ((catL (ls.take j)).length + d)).length = (catL (ls.take j)).length + d := by rw [List.length_take]; omega
  have hr := rds_cat (ls := ls.take j) (fun l hl => h l (List.mem_of_mem_take hl)) ((catL (ls.drop j)).take d)
  have hd : (catL (ls.take j) ++ (catL (ls.drop j)).take d).drop (catL (ls.take j)).length = (catL (ls.drop j)).take d := List.drop_left
  have hg : getE ((catL (ls.drop j)).take d) = 2 := by
    by_cases hjn : j = ls.length
    · rw [hjn, List.drop_length, catL_nil, List.take_nil, getE_nil]
    · have hlt : j < ls.length := by omega
      rw [List.drop_eq_getElem_cons hlt, catL_cons]
      refine putL_cut (h _ (List.getElem_mem hlt)) _ ?_
      rcases h2 with h2 | h2
      · exact absurd h2 hjn
      · rw [catL_take hlt, List.length_append] at h2
        omega
  refine ⟨⟨by rw [e]; exact hr, by rw [e, hd, hg]; decide⟩, ?_⟩
  unfold restE
  rw [hlen, e, hd, hg]
  simp
end Go.Proofs.YtohnhboeipckjaaGreatDoor
