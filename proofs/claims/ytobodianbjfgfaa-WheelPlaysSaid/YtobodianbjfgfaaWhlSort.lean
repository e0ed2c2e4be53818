/-
  What slices.SortFunc by older makes of a slice of timers: the same timers in the order in which they were set, in the same row.
  Conditions: the slice owns its row.
-/
import Derived.Test.YtobodianbjfgfaaWhlMem
import Derived.Test.YtobodianbjfgfaaWhlF
namespace Go.Proofs.Ytobodianbjfgfaa.Wh
open Go.RowKit Go.Maps
open Go.Sort (SWO Holds HoldsK putRow putRowK putCells flatK get_flatK size_flatK PermIn SortedIn grow size_grow mapBlock onCells heap_grow_old)

/-- timers one behind the other, as cells -/
def cellsT (ts : List T) : List Value := ts.flatMap T.cells
theorem cellsT_len (ts : List T) : (cellsT ts).length = ts.length * 3 := by
  induction ts with
  | nil => rfl
  | cons t r ih =>
    show (T.cells t ++ cellsT r).length = _
    rw [List.length_append, ih, List.length_cons]
    show 3 + _ = _
    omega
theorem cellsT_app (a b : List T) : cellsT (a ++ b) = cellsT a ++ cellsT b := List.flatMap_append
def noT : T := ⟨0, 0, 0⟩
instance : Inhabited T := ⟨noT⟩
theorem cellsT_get (ts : List T) : ∀ t, t < ts.length * 3 → (cellsT ts)[t]? = some ((T.cells ts.toArray[t / 3]!)[t % 3]!) := by
  induction ts with
  | nil => intro t h; simp at h
  | cons x r ih =>
    intro t h
    rw [List.length_cons] at h
    show (T.cells x ++ cellsT r)[t]? = _
    by_cases h3 : t < 3
    · rw [List.getElem?_append_left (by exact h3)]
      rcases (by omega : t = 0 ∨ t = 1 ∨ t = 2) with rfl | rfl | rfl <;> rfl
    · rw [List.getElem?_append_right (by show 3 ≤ t; omega)]
      have := ih (t - 3) (by omega)
      show (cellsT r)[t - 3]? = _
      rw [this]
      have e1 : t / 3 = (t - 3) / 3 + 1 := by omega
      have e2 : (t - 3) % 3 = t % 3 := by omega
      rw [e1, e2]
      have e3 : (x :: r).toArray[(t - 3) / 3 + 1]! = r.toArray[(t - 3) / 3]! := by
        rw [getElem!_pos _ _ (by simp; omega), getElem!_pos _ _ (by simp; omega)]
        simp
      rw [e3]
theorem flat_cells (ts : List T) : (flatK T.cells 3 ts.toArray).toList = cellsT ts := by
  apply List.ext_getElem?
  intro t
  by_cases h : t < ts.length * 3
  · have hs : t < (flatK T.cells 3 ts.toArray).size := by simpa using h
    rw [cellsT_get ts t h, Array.getElem?_toList, Array.getElem?_eq_getElem hs]
    have := get_flatK T.cells 3 ts.toArray t (by simpa using h)
    rw [getElem!_pos (flatK T.cells 3 ts.toArray) t hs] at this
    rw [this]
  · rw [List.getElem?_eq_none (by simp; omega), List.getElem?_eq_none (by rw [cellsT_len]; omega)]
/-- older's order -/
def cfT (x y : T) : Int := cmpI (x.h : Int) (y.h : Int)
theorem lt_cfT (x y : T) : ltOf cfT x y = decide (x.h < y.h) := by
  unfold ltOf cfT cmpI
  rw [decide_eq_decide]
  repeat' split
  all_goals omega
theorem swo_cfT : SWO (ltOf cfT) where
  irrefl x := by rw [lt_cfT]; simp
  trans x y z h1 h2 := by rw [lt_cfT] at *; simp at *; omega
  ntrans x y z h1 h2 := by rw [lt_cfT] at *; simp at *; omega
theorem perm_of_all {α : Type} [Inhabited α] {n : Nat} {a b : Array α} (h : PermIn 0 n a b) (ha : a.size = n) : b.toList.Perm a.toList := by
  obtain ⟨h1, _, h3⟩ := h
  have e1 : a.extract 0 n = a := by rw [← ha]; simp
  have e2 : b.extract 0 n = b := by rw [← ha, ← h1]; simp
  rw [e1, e2] at h3
  exact h3
/-- what the sort leaves -/
def SortEnd (w : World) (B : Nat) (v : Value) (ts : List T) (e : Ending) (w' : World) : Prop :=
  e = .returned (.tuple #[]) ∧ ∃ ts', ts'.Perm ts ∧ ts'.Pairwise (fun x y => x.h ≤ y.h) ∧ w'.ownsRow B 34 3 v ts'.length (cellsT ts') ∧ w.grownBy w' v.ownBlock
theorem sortK_only {w : World} {r n : Nat} {os : Array Obj} (d : Array T) : w.grownBy (sortWorldK T.cells 3 w r 0 n d os) (some r) := by
  refine ⟨rfl, rfl, rfl, ?_, fun k hk hne => ?_⟩
  · unfold sortWorldK
    rw [size_grow]
    show w.heap.size ≤ (w.heap.modify r _).size + _
    simp
  · show ((w.heap.modify r _) ++ os)[k]? = _
    rw [Array.getElem?_append_left (by simpa using hk), Array.getElem?_modify, if_neg (fun e => hne (by rw [e]))]
set_option maxHeartbeats 1000000 in
theorem sort_any (w : World) (B : Nat) (v : Value) (ts : List T) (hown : w.ownsRow B 34 3 v ts.length (cellsT ts)) (hs : ts.length ≤ 1099511627776) :
    Calls Try.prog 33 #[v, .func (.func 34) #[] #[]] w (SortEnd w B v ts) := by
  rcases hown.2 with ⟨rfl, h0⟩ | ⟨r, c, cur, rfl, hB, hg, hc, hm, hsz, ht⟩
  · obtain rfl : ts = [] := List.eq_nil_of_length_eq_zero h0
    refine (AnyF.slices_SortFunc_none { Try.sortF with } none 0 (.func (.func 34) #[] #[]) w).mono ?_
    rintro e w' ⟨rfl, rfl⟩
    exact ⟨rfl, [], .refl _, .nil, hown, World.grownBy.refl _ _⟩
  · have eg : ∀ args w, (callFunc 34 args).run Try.prog w = .ok (.enter 34 args) w := enters_of Try.func34 (by kernel_rfl) rfl
    have hcmp : CmpLays Try.prog 34 #[] T.cells 3 cfT r 0 ts.toArray.size w := fun m os dk _ x y => older_any x y _
    have hrl : r < w.heap.size := (Array.getElem?_eq_some_iff.1 hg).1
    have hH : HoldsK T.cells 3 w r 0 ts.toArray := fun t h1 => by
      have h2 : t < ts.length * 3 := by simpa using h1
      rw [Nat.zero_add]
      refine ⟨?_, by simp [World.frozen?, hg]⟩
      have hgt := get_flatK T.cells 3 ts.toArray t (by simpa using h2)
      rw [hgt]
      have h3 : (cur.toList.take (ts.length * 3))[t]? = (cellsT ts)[t]? := by rw [ht]
      rw [List.getElem?_take_of_lt h2, cellsT_get ts t h2, Array.getElem?_toList] at h3
      rw [cell_of_row w r t cur _ (0, 0) hg]
      exact h3
    have hp := AnyQ.slices_SortFunc Try.sortF 3 Try.isAgg34 Try.sizeOf34 T.cells (fun _ => rfl) (fun x v hv => by
      simp only [T.cells, List.mem_cons, List.not_mem_nil, or_false] at hv
      rcases hv with rfl | rfl | rfl <;> rfl) cfT swo_cfT 34 #[] r 0 c ts.toArray w eg hcmp hH hrl (by simp; omega)
    have hsize : ts.toArray.size = ts.length := by simp
    rw [hsize] at hp
    refine hp.mono ?_
    rintro e w' ⟨rfl, D, n, os, h1, h2, rfl⟩
    have hD : D.size = ts.length := h1.1.trans hsize
    have hpm := perm_of_all h1 hsize
    refine ⟨rfl, D.toList, hpm, ?_, ?_, sortK_only D⟩
    · rw [List.pairwise_iff_getElem]
      intro i j hi hj hij
      have hi' : i < D.size := by simpa using hi
      have hj' : j < D.size := by simpa using hj
      have := h2 i j (Nat.zero_le _) hij (by omega)
      rw [lt_cfT, getElem!_pos D i hi', getElem!_pos D j hj'] at this
      have := of_decide_eq_false this
      simp only [Array.getElem_toList]
      omega
    · have hl : D.toList.length = ts.length := by simpa using hD
      rw [hl]
      refine ⟨by rw [cellsT_len, hl], .inr ⟨r, c, putCells id 0 (flatK T.cells 3 D) cur, rfl, hB, ?_, hc, hm, by simp [putCells, hsz], ?_⟩⟩
      · show ((w.heap.modify r _) ++ os)[r]? = _
        rw [Array.getElem?_append_left (by simpa using hrl), Array.getElem?_modify, if_pos rfl, hg]
        rfl
      · have e : (flatK T.cells 3 D).toList = cellsT D.toList := flat_cells D.toList
        have hfs : (flatK T.cells 3 D).size = ts.length * 3 := by rw [size_flatK, hD]
        rw [← e]
        apply List.ext_getElem?
        intro t
        by_cases h3 : t < ts.length * 3
        · have h4 : t < (flatK T.cells 3 D).size := by omega
          have h5 : t < cur.size := by
            rw [hsz]
            have := Nat.mul_le_mul_right 3 hc
            omega
          rw [List.getElem?_take_of_lt h3, Array.getElem?_toList, Array.getElem?_toList, Array.getElem?_eq_getElem h4]
          simp [putCells, h5]
          rw [if_pos (by omega)]
          exact getElem!_pos (flatK T.cells 3 D) t h4
        · rw [List.getElem?_take_eq_none (by omega), List.getElem?_eq_none (by simp; omega)]
end Go.Proofs.Ytobodianbjfgfaa.Wh
