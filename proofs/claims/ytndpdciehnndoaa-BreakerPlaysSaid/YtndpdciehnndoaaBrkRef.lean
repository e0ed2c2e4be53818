/-
  What the document's own Kind, May, Send, Done and Lost answer.
  Conditions: the numbers of a breaker are within the bounds of ROk.
-/
import Derived.Test.YtndpdciehnndoaaBrkCalls
namespace Go.Proofs.Ytndpdciehnndoaa.Bk
open Go.RowKit

theorem rof_any (n : Int) (w : World) :
    Calls Try.prog 22 #[.int .i64 n] w fun e w' => e = .returned (.int .i64 (ofT n)) ∧ w = w' := by
  by_cases h : n < 0
  · go_enter Try.func22, Try.ntmps22
    go_wp2
    go_ret
    exact ⟨ret_int (ofT_neg h).symm, rfl⟩
  · by_cases h' : 1099511627776 < n
    · go_enter Try.func22, Try.ntmps22
      go_wp2
      go_ret
      exact ⟨ret_int (ofT_big (by omega)).symm, rfl⟩
    · go_enter Try.func22, Try.ntmps22
      go_wp2
      go_ret
      exact ⟨ret_int (ofT_id (by omega) (by omega)).symm, rfl⟩
set_option maxHeartbeats 400000 in
theorem radd_any (a b : Int) (w : World) :
    Calls Try.prog 26 #[.int .i64 a, .int .i64 b] w fun e w' => e = .returned (.int .i64 (addT a b)) ∧ w = w' := by
  have h1 := ofT_lo a; have h2 := ofT_hi a; have h3 := ofT_lo b; have h4 := ofT_hi b
  go_enter Try.func26, Try.ntmps26
  go_wp2_with (go_at_call 22; refine (rof_any _ _).mono ?_; rintro e w' ⟨rfl, rfl⟩)
  go_ret
  exact ⟨rfl, rfl⟩

def R.cells (r : R) : Array Value := #[.bool r.op, .int .i64 r.fl, .int .i64 r.un, .int .i64 r.ou]
def zeroR : Array Value := #[.bool false, .int .i64 0, .int .i64 0, .int .i64 0]
theorem sizeR (r : R) : (Try.prog.info? 27).map (·.size) = some r.cells.size := by
  show (Try.prog.info? 27).map (·.size) = some 4
  kernel_rfl
theorem oneR (r : R) : r.cells.all (·.oneCell') = true := by simp [R.cells, Value.oneCell']
structure ROk (r : R) : Prop where
  fl : 0 ≤ r.fl ∧ r.fl ≤ 1000000
  ou : 0 ≤ r.ou ∧ r.ou ≤ 1000000
theorem box_row {w : World} {g : Nat} {t : TypeId} {cs : Array Value} (h : Box w g t cs) (cs' : Array Value) : Box (w.setRow g cs') g t cs' := by
  unfold Box at h ⊢
  simp [World.setRow, Array.getElem?_modify, h]
theorem box_new2 (w : World) (o : Obj) (t : TypeId) (cs : Array Value) : Box ((w.alloc o).alloc (.cells cs t)) (w.heap.size + 1) t cs := by
  have := Box.new (w.alloc o) t cs
  simpa using this
theorem below_2 (w : World) (o o' : Obj) : Below w.heap.size w ((w.alloc o).alloc o') := ((Below.refl _ _).alloc (Nat.le_refl _) _).alloc (by simp) _
theorem below_1 (w : World) (o : Obj) : Below w.heap.size w (w.alloc o) := (Below.refl _ _).alloc (Nat.le_refl _) _
theorem drewN_below (w : World) (n : Nat) : Below w.heap.size w (w.drewN n) := ⟨rfl, rfl, rfl, Nat.le_refl _, fun _ _ => rfl⟩
/-- a result that lies in a block, and one in a slot -/
theorem res_box_tmp {fn : Func} {p u : Tmp} (h : fn.results = #[.cell p 27, .tmp u]) (tmps : Array Value) (w : World) (g : Nat) (r : R)
    (hp : tmps.getD p undef = .pointer (some ⟨g, 0, none⟩)) (hg : Box w g 27 r.cells) :
    (results fn tmps).run Try.prog w = .ok (.tuple #[.agg r.cells, tmps.getD u undef]) w := by
  rw [results_cell_tmp h]
  rw [hp]
  simp only [asAddr, Sem.run_pure, Result.andThen_ok, run_loadVar_row w g _ 27 _ _ _ hg Try.underlying27 rfl (sizeR r)]

set_option maxHeartbeats 400000 in
theorem rkind_any (r : R) (now : Int) (w : World) : Calls Try.prog 9 #[.agg r.cells, .int .i64 now] w fun e w' => e = .returned (.int .i64 (rkind r now)) ∧ Below w.heap.size w w' := by
  obtain ⟨op, fl, un, ou⟩ := r
  cases op with
  | false =>
    have hk : rkind ⟨false, fl, un, ou⟩ now = 0 := rfl
    rw [hk]
    unfold R.cells
    go_enter Try.func9, Try.ntmps9
    go_wp2
    go_ret
    exact ⟨rfl, below_1 _ _⟩
  | true =>
    by_cases hl : ofT now < un
    · have hk : rkind ⟨true, fl, un, ou⟩ now = 1 := by unfold rkind; rw [if_pos rfl, if_pos hl]
      rw [hk]
      unfold R.cells
      go_enter Try.func9, Try.ntmps9
      go_wp2
      go_quiet ((go_at_call 22; exact Calls.quiet_of_same ((rof_any _ _).mono fun e w' ⟨h3, h4⟩ => ⟨h3, h4.symm⟩)))
      go_wp2
      go_ret
      exact ⟨rfl, (below_1 _ _).trans ((drewN_below _ _).mono (by simp))⟩
    · have hk : rkind ⟨true, fl, un, ou⟩ now = 2 := by unfold rkind; rw [if_pos rfl, if_neg hl]
      rw [hk]
      unfold R.cells
      go_enter Try.func9, Try.ntmps9
      go_wp2
      go_quiet ((go_at_call 22; exact Calls.quiet_of_same ((rof_any _ _).mono fun e w' ⟨h3, h4⟩ => ⟨h3, h4.symm⟩)))
      go_wp2
      go_ret
      exact ⟨rfl, (below_1 _ _).trans ((drewN_below _ _).mono (by simp))⟩
theorem rkind_3 (r : R) (now : Int) : rkind r now = 0 ∨ rkind r now = 1 ∨ rkind r now = 2 := by
  unfold rkind; split
  · split
    · exact .inr (.inl rfl)
    · exact .inr (.inr rfl)
  · exact .inl rfl
theorem rkind_is (r : R) (now : Int) {k : Int} (hk : rkind r now = k) (w : World) : Calls Try.prog 9 #[.agg r.cells, .int .i64 now] w fun e w' => e = .returned (.int .i64 k) ∧ Below w.heap.size w w' := hk ▸ rkind_any r now w
set_option maxHeartbeats 400000 in
theorem rmay_any (r : R) (probes now : Int) (w : World) : Calls Try.prog 11 #[.agg r.cells, .int .i64 probes, .int .i64 now] w fun e w' => e = .returned (.bool (rmay r probes now)) ∧ Below w.heap.size w w' := by
  have hm : rmay r probes now = decide (rkind r now = 0 ∨ rkind r now = 2 ∧ r.ou < probes) := rfl
  rcases rkind_3 r now with hk | hk | hk
  · rw [hk] at hm
    have hm' : rmay r probes now = true := by rw [hm]; rfl
    rw [hm']
    have HK := Lib.hid (rkind_is r now hk)
    have hP := Box.new w 27 r.cells
    have HP := Lib.hid hP
    clear hk hm hm' hP
    unfold R.cells at HK HP ⊢
    go_enter Try.func11, Try.ntmps11
    go_wp2_with (go_at_call 9; refine (HK.out _).mono ?_; rintro e w1 ⟨rfl, b1⟩)
    go_ret
    exact ⟨rfl, (below_1 _ _).trans (b1.mono (by simp))⟩
  · rw [hk] at hm
    have hm' : rmay r probes now = false := by rw [hm]; simp
    rw [hm']
    have HK := Lib.hid (rkind_is r now hk)
    clear hk hm hm'
    unfold R.cells at HK ⊢
    go_enter Try.func11, Try.ntmps11
    go_wp2_with (go_at_call 9; refine (HK.out _).mono ?_; rintro e w1 ⟨rfl, b1⟩)
    go_ret
    exact ⟨rfl, (below_1 _ _).trans (b1.mono (by simp))⟩
  · rw [hk] at hm
    have hm' : rmay r probes now = decide (r.ou < probes) := by rw [hm]; simp
    rw [hm']
    have HK := Lib.hid (rkind_is r now hk)
    have HP := Lib.hid (Box.new w 27 r.cells)
    clear hk hm hm'
    unfold R.cells at HK HP ⊢
    go_enter Try.func11, Try.ntmps11
    go_wp2_with (go_at_call 9; refine (HK.out _).mono ?_; rintro e w1 ⟨rfl, b1⟩; have c3 : w1.cell? ⟨w.heap.size, 3, none⟩ = some (.int .i64 r.ou) := (HP.out.below b1 (by simp)).cell 3)
    go_ret
    exact ⟨rfl, (below_1 _ _).trans (b1.mono (by simp))⟩
end Go.Proofs.Ytndpdciehnndoaa.Bk
