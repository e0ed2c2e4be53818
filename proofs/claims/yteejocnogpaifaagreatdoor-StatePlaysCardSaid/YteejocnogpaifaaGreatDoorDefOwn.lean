/-
  What Own answers: the same definition, its steps in a row of the call's own.
  Conditions: the rows of steps lie in memory, and are of moderate length.
-/
import Derived.Test.YteejocnogpaifaaGreatDoorDefSame
import Derived.Lib.SliceRun
namespace Go.Proofs.YteejocnogpaifaaGreatDoor.Df
open Go.RowKit
open Go.Proofs.YteejocnogpaifaaGreatDoor.El
open Go.Proofs.YteejocnogpaifaaGreatDoor.Bo (P Made ret_int ret_bool)

def cellsS (ss : List Stp) : List Value := ss.flatMap Stp.cells
theorem cellsS_len (ss : List Stp) : (cellsS ss).length = ss.length * 12 := by
  induction ss with
  | nil => rfl
  | cons x r ih =>
    show (x.cells ++ cellsS r).length = _
    rw [List.length_append, ih, List.length_cons]
    show 12 + _ = _
    omega
theorem cellsS_get (ss : List Stp) (i j : Nat) (hj : j < 12) : (cellsS ss)[i * 12 + j]? = match ss[i]? with | none => none | some x => x.cells[j]? := by
  induction ss generalizing i with
  | nil => simp [cellsS]
  | cons x r ih =>
    show (x.cells ++ cellsS r)[i * 12 + j]? = _
    have hl : x.cells.length = 12 := rfl
    cases i with
    | zero =>
      rw [List.getElem?_append_left (by omega)]
      simp
    | succ i =>
      rw [List.getElem?_append_right (by omega), hl, show (i + 1) * 12 + j - 12 = i * 12 + j by omega, ih i]
      simp
theorem cellsS_set (ss : List Stp) (i j : Nat) (u : Value) (hj : j < 12) {x x' : Stp} (hx : ss[i]? = some x) (he : x'.cells = x.cells.set j u) : (cellsS ss).set (i * 12 + j) u = cellsS (ss.set i x') := by
  induction ss generalizing i with
  | nil => simp at hx
  | cons y r ih =>
    have hl : y.cells.length = 12 := rfl
    show (y.cells ++ cellsS r).set (i * 12 + j) u = _
    cases i with
    | zero =>
      simp only [List.getElem?_cons_zero, Option.some.injEq] at hx
      subst hx
      rw [List.set_append_left _ _ (by omega)]
      show _ = x'.cells ++ cellsS r
      rw [he]
      simp
    | succ i =>
      rw [List.set_append_right _ _ (by omega), hl, show (i + 1) * 12 + j - 12 = i * 12 + j by omega, ih i (by simpa using hx)]
      rfl
theorem cells_one (x : Stp) : ∀ u ∈ x.cells, u.oneCell' = true := by
  intro u hu
  simp only [Stp.cells, List.mem_cons, List.not_mem_nil, or_false] at hu
  rcases hu with rfl | rfl | rfl | rfl | rfl | rfl | rfl | rfl | rfl | rfl | rfl | rfl <;> rfl
theorem cellsS_one (ss : List Stp) : ∀ u ∈ cellsS ss, u.oneCell' = true := by
  intro u hu
  obtain ⟨x, _, hx⟩ := List.mem_flatMap.1 hu
  exact cells_one x u hx
theorem steps_cells {w : World} {B : Nat} {a : Addr} {ss : List Stp} (h : Steps w B (some a) ss) : ∀ j u, (cellsS ss)[j]? = some u → w.cell? (a.add j) = some u := by
  intro j u hu
  have hj : j < (cellsS ss).length := at_lt hu
  rw [cellsS_len] at hj
  have hd : j / 12 * 12 + j % 12 = j := by omega
  rw [← hd, cellsS_get ss _ _ (Nat.mod_lt _ (by decide))] at hu
  cases hs : ss[j / 12]? with
  | none => rw [hs] at hu; cases hu
  | some s =>
    rw [hs] at hu
    obtain ⟨b, o, e, _, hc⟩ := h _ _ hs
    injection e with e
    subst e
    have := hc (j % 12) u hu
    rw [Addr.add_lit, show o + j = o + j / 12 * 12 + j % 12 by omega]
    exact this
theorem steps_own {w : World} {base n c : Nat} {A : Option Addr} {ss : List Stp} (h : w.ownsRow base 54 12 (.slice A n c) n (cellsS ss)) : Steps w w.heap.size A ss := fun i s hs => by
  have hi := at_lt hs
  have hl := h.1
  rw [cellsS_len] at hl
  rcases h.2 with ⟨h1, h0⟩ | ⟨g, cap, cur, h1, _, hg, _⟩
  · omega
  · injection h1 with h1 _ h2
    subst h1
    subst h2
    refine ⟨g, 0, rfl, (Array.getElem?_eq_some_iff.1 hg).1, fun j u hu => ?_⟩
    have hj : j < 12 := at_lt hu
    rw [Nat.zero_add, h.cellAt (i * 12 + j) (by omega), cellsS_get ss i j hj, hs]
    exact hu
/-- what a copy of a row is -/
def Cloned (w : World) (n : Nat) (ss : List Stp) (v : Value) (w' : World) : Prop := w'.ownsRow w.heap.size 54 12 v n (cellsS ss) ∧ Below w.heap.size w w'
set_option maxHeartbeats 2000000 in
set_option maxRecDepth 100000 in
theorem clone_any (A : Option Addr) (c : Nat) (ss : List Stp) (n : Nat) (w : World) (hn : n = ss.length) (hb : n ≤ 1000000000000) (hS : Steps w w.heap.size A ss) (h0 : A = none → n = 0 ∧ c = 0) :
    Calls Tryz.prog 71 #[.slice A n c] w fun e w' => ∃ v, e = .returned v ∧ Cloned w n ss v w' := by
  have q22 : ∀ (w : World) (a : Option Addr) (n c n' c' : Nat), (binOp .eql 31 (.slice a n c) (.slice none n' c')).run Tryz.prog w = .ok (.bool a.isNone) w := fun w a n c n' c' => Lib.run_eql_slice_nil w _ _ a n c n' c' Tryz.underlying31
  cases A with
  | none =>
    obtain ⟨rfl, rfl⟩ := h0 rfl
    have hs : ss = [] := List.eq_nil_of_length_eq_zero hn.symm
    have HC : Hid (Cloned w 0 ss (.slice none 0 0) w) := Lib.hid (by rw [hs]; exact ⟨World.ownsRow_nil _ _ _ _, Below.refl _ _⟩)
    clear hS hs hn h0
    go_enter Tryz.func71, Tryz.ntmps71
    go_wp2
    go_ret
    exact ⟨_, rfl, HC.out⟩
  | some a =>
    obtain ⟨i0, hi0, hz0, hz1, hz2⟩ := info_is
    have HL : Hid ((cellsS ss).length = n * 12) := Lib.hid (by rw [cellsS_len, hn])
    have HC := Lib.hid (steps_cells (w := w.alloc (.cells #[] 54)) (hS.on ((Below.refl _ w).alloc (Nat.le_refl _) _)))
    clear hS hn h0
    go_enter Tryz.func71, Tryz.ntmps71
    go_wp2_with (at_builtin; refine wpList_append_own _ rfl (.tmp 5) (.tmp 6) 31 rfl w.heap.size 54 i0 zstep 12 112 Tryz.underlying31 hi0 hz0 hz1 hz2 rfl (by decide) _ 0 [] rfl (World.ownsRow_made w #[] 0 (Nat.le_refl _) (Nat.zero_le _) (by simp)) a n c (cellsS ss) rfl HL.out HC.out (cellsS_one ss) (by unfold maxLen; omega) (by omega) (by simp) ?_; intro v1 w1 hown1 hgrow1 _; have HO := Lib.hid hown1; have HG := Lib.hid hgrow1; clear hown1 hgrow1)
    go_ret
    refine ⟨v1, rfl, by simpa using HO.out, ((Below.refl _ w).alloc (Nat.le_refl _) _).grown HG.out (by simp) (by intro k hk; have hk' : some w.heap.size = some k := hk; injection hk' with e; omega)⟩

theorem own_form12 {w : World} {base : Nat} {e : TypeId} {v : Value} {n k : Nat} {xs : List Value} (h : w.ownsRow base e k v n xs) : ∃ A c, v = .slice A n c ∧ n ≤ c := by
  rcases h.2 with ⟨rfl, rfl⟩ | ⟨g, cap, cur, rfl, _, _, hc, _⟩
  · exact ⟨_, _, rfl, Nat.le_refl _⟩
  · exact ⟨_, _, rfl, hc⟩
theorem own_kept {w w' : World} {base base' : Nat} {e : TypeId} {v : Value} {n k : Nat} {xs : List Value} (h : w.ownsRow base e k v n xs) (hB : base' ≤ base) (hb : ∀ i, base ≤ i → w'.heap[i]? = w.heap[i]?) : w'.ownsRow base' e k v n xs := by
  refine ⟨h.1, h.2.imp id ?_⟩
  rintro ⟨q, c, cur, rfl, hq, hh, rest⟩
  exact ⟨q, c, cur, rfl, Nat.le_trans hB hq, (hb q hq).trans hh, rest⟩
theorem below_put {B : Nat} {w wr : World} (h : Below B w wr) {g : Nat} (hg : B ≤ g) (i : Nat) (u : Value) : Below B w (wr.setCell ⟨g, i, none⟩ u) :=
  h.trans ⟨rfl, rfl, rfl, by simp [World.setCell], fun k hk => Below.heap_setCell wr ⟨g, i, none⟩ u k (by show k ≠ g; omega)⟩
/-- what Own answers -/
def Owned (w : World) (nm : ByteArray) (dl : Int) (n : Nat) (ss : List Stp) (e : Ending) (w' : World) : Prop :=
  ∃ A c, e = .returned (.agg #[.string nm, .int .i64 dl, .slice A n c]) ∧ w'.ownsRow w.heap.size 54 12 (.slice A n c) n (cellsS ss) ∧ Below w.heap.size w w'
set_option maxHeartbeats 2000000 in
set_option maxRecDepth 100000 in
theorem own_any (nm : ByteArray) (dl : Int) (A : Option Addr) (c : Nat) (ss : List Stp) (n : Nat) (w : World) (hn : n = ss.length) (hb : n ≤ 1000000000000) (hS : Steps w w.heap.size A ss) (h0 : A = none → n = 0 ∧ c = 0) :
    Calls Tryz.prog 34 #[.agg #[.string nm, .int .i64 dl, .slice A n c]] w (Owned w nm dl n ss) := by
  have hW : Below w.heap.size w ((w.alloc (.cells #[.string nm, .int .i64 dl, .slice A n c] 33)).alloc (.cells #[.string ⟨#[]⟩, .int .i64 0, .slice none 0 0] 33)) := ((Below.refl _ w).alloc (Nat.le_refl _) _).alloc (by simp) _
  have HC := Lib.hid (clone_any A c ss n _ hn hb (hS.on hW) h0)
  clear hS hn h0
  go_enter Tryz.func34, Tryz.ntmps34
  go_wp2_with (go_at_call 71; (with_reducible refine HC.out.mono ?_); rintro e w1 ⟨v, rfl, ho, hb1⟩; obtain ⟨A1, cap1, rfl, _⟩ := (show ∃ A c, v = .slice A n c ∧ n ≤ c from own_form12 ho); have HO := Lib.hid ho; have HB1 := Lib.hid hb1; have HX := Lib.hid (two_below hb1); clear ho hb1; have c0 := HX.out.1.cell 0; have c1 := HX.out.1.cell 1; have c2 := HX.out.1.cell 2; have f2 := HX.out.1.frozen 2; have d0 := HX.out.2.cell 0; have d1 := HX.out.2.cell 1; have d2 := HX.out.2.cell 2; have g0 := HX.out.2.frozen 0; have g1 := HX.out.2.frozen 1; have g2 := HX.out.2.frozen 2; simp only [List.getElem?_toArray, List.getElem?_cons_zero, List.getElem?_cons_succ] at c0 c1 c2 d0 d1 d2)
  have hs2 : ((w.alloc (.cells #[.string nm, .int .i64 dl, .slice A n c] 33)).alloc (.cells #[.string ⟨#[]⟩, .int .i64 0, .slice none 0 0] 33)).heap.size = w.heap.size + 2 := by simp
  refine bodyPost_ret (results_cell_row rfl _ _ (w.heap.size + 1) 33 (dcells nm dl A1 n cap1) (0, 0) _ rfl ?_ Tryz.underlying33 rfl (size_def nm dl A1 n cap1)) rfl ⟨A1, cap1, rfl, ?_, ?_⟩
  · exact (((HX.out.2.far (p := ⟨w.heap.size, 2, none⟩) (by simp) (.slice A1 n cap1)).put 0 (.string nm)).put 1 (.int .i64 dl)).put 2 (.slice A1 n cap1)
  · have ho := HO.out
    rw [hs2] at ho
    refine own_kept ho (by omega) fun i hi => ?_
    have hne : ∀ (wr : World) (g j : Nat) (u : Value), g < w.heap.size + 2 → (wr.setCell ⟨g, j, none⟩ u).heap[i]? = wr.heap[i]? := fun wr g j u hg => Below.heap_setCell wr ⟨g, j, none⟩ u i (by show i ≠ g; omega)
    rw [hne _ _ _ _ (by omega), hne _ _ _ _ (by omega), hne _ _ _ _ (by omega), hne _ _ _ _ (by omega)]
  · have hb := (show Below w.heap.size w _ from ((Below.refl _ w).alloc (Nat.le_refl _) _).alloc (by simp) _).trans (HB1.out.mono (by rw [hs2]; omega))
    exact below_put (below_put (below_put (below_put hb (Nat.le_refl _) _ _) (by omega) _ _) (by omega) _ _) (by omega) _ _

end Go.Proofs.YteejocnogpaifaaGreatDoor.Df
