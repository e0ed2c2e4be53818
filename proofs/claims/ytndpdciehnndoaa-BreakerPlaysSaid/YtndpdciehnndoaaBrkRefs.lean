/-
  What the document's own Send, Done and Lost answer.
  Conditions: the numbers of a breaker are within the bounds of ROk.
-/
import Derived.Test.YtndpdciehnndoaaBrkRef
namespace Go.Proofs.Ytndpdciehnndoaa.Bk
open Go.RowKit
/-- two blocks of a call's own: the argument's, the result's -/
structure Pair (w w' : World) (r q : R) : Prop where
  p : Box w' w.heap.size 27 r.cells
  q : ∃ cs, Box w' (w.heap.size + 1) 27 cs ∧ cs.size = 4
  bel : Below w.heap.size w w'
  big : w.heap.size + 2 ≤ w'.heap.size
theorem Pair.start (w : World) (r : R) : Pair w ((w.alloc (.cells r.cells 27)).alloc (.cells zeroR 27)) r r :=
  ⟨(Box.new w _ _).alloc _, ⟨zeroR, box_new2 w _ _ _, rfl⟩, below_2 w _ _, by simp⟩
theorem Pair.on {w a b : World} {r q : R} (h : Pair w a r q) (hb : Below a.heap.size a b) : Pair w b r q :=
  ⟨h.p.below hb h.p.lt, by obtain ⟨cs, h1, h2⟩ := h.q; exact ⟨cs, h1.below hb h1.lt, h2⟩, h.bel.trans (hb.mono h.bel.size), Nat.le_trans h.big hb.size⟩
theorem Pair.c {w a : World} {r q : R} (h : Pair w a r q) : a.cell? ⟨w.heap.size, 0, none⟩ = some (.bool r.op) ∧ a.cell? ⟨w.heap.size, 1, none⟩ = some (.int .i64 r.fl) ∧ a.cell? ⟨w.heap.size, 2, none⟩ = some (.int .i64 r.un) ∧ a.cell? ⟨w.heap.size, 3, none⟩ = some (.int .i64 r.ou) :=
  ⟨h.p.cell 0, h.p.cell 1, h.p.cell 2, h.p.cell 3⟩
theorem Pair.put3 {w a : World} {r q : R} (h : Pair w a r q) (v : Int) : Pair w (a.setCell ⟨w.heap.size, 3, none⟩ (.int .i64 v)) { r with ou := v } q :=
  ⟨h.p.put 3 _, by obtain ⟨cs, h1, h2⟩ := h.q; exact ⟨cs, h1.far (by simp) _, h2⟩, h.bel.trans ⟨rfl, rfl, rfl, by simp [World.setCell], fun i hi => Below.heap_setCell a ⟨w.heap.size, 3, none⟩ _ i (by simp; omega)⟩, by simpa [World.setCell] using h.big⟩
theorem Pair.put1 {w a : World} {r q : R} (h : Pair w a r q) (v : Int) : Pair w (a.setCell ⟨w.heap.size, 1, none⟩ (.int .i64 v)) { r with fl := v } q :=
  ⟨h.p.put 1 _, by obtain ⟨cs, h1, h2⟩ := h.q; exact ⟨cs, h1.far (by simp) _, h2⟩, h.bel.trans ⟨rfl, rfl, rfl, by simp [World.setCell], fun i hi => Below.heap_setCell a ⟨w.heap.size, 1, none⟩ _ i (by simp; omega)⟩, by simpa [World.setCell] using h.big⟩
theorem Pair.out {w a : World} {r q : R} (h : Pair w a r q) (cs : Array Value) : Below w.heap.size w (a.setRow (w.heap.size + 1) cs) := below_putRow h.bel (by omega) _

set_option maxHeartbeats 1000000 in
theorem rsend_any (r : R) (probes now : Int) (w : World) (ho : ROk r) : Calls Try.prog 12 #[.agg r.cells, .int .i64 probes, .int .i64 now] w fun e w' => e = .returned (.tuple #[.agg (rsend r probes now).cells, .bool (rmay r probes now)]) ∧ Below w.heap.size w w' := by
  have hou := ho.ou
  obtain ⟨o1, o2⟩ := hou
  have HM := Lib.hid (rmay_any r probes now)
  have HP0 := Lib.hid (Pair.start w r)
  have hm : rmay r probes now = decide (rkind r now = 0 ∨ rkind r now = 2 ∧ r.ou < probes) := rfl
  have HZ := Lib.hid fun r => sizeR r
  have HO := Lib.hid fun r => oneR r
  by_cases hm1 : rmay r probes now = true
  · rw [hm1] at HM ⊢
    rw [hm1] at hm
    have hm2 := of_decide_eq_true hm.symm
    by_cases hk : rkind r now = 2
    · have he : rsend r probes now = { r with ou := r.ou + 1 } := by unfold rsend; rw [if_pos ⟨hk, by omega⟩]
      have HK := Lib.hid (rkind_is r now hk)
      rw [he]
      clear hm hm1 hm2 hk he
      unfold R.cells at HM HK ⊢
      unfold zeroR R.cells at HP0
      go_enter Try.func12, Try.ntmps12
      go_wp2_with (first
        | (go_at_call 11; refine (HM.out _).mono ?_; rintro e w1 ⟨rfl, b1⟩; have HP1 := Lib.hid (HP0.out.on b1); obtain ⟨c0, c1, c2, c3⟩ := HP1.out.c; clear b1)
        | (go_at_call 9; refine (HK.out _).mono ?_; rintro e w2 ⟨rfl, b2⟩; have HP2 := Lib.hid (HP1.out.on b2); obtain ⟨d0, d1, d2, d3⟩ := HP2.out.c; have f3 := HP2.out.p.frozen 3; have HP3 := Lib.hid (HP2.out.put3 (r.ou + 1)); clear b2)
        | (obtain ⟨cs, hcs, hsz⟩ := HP3.out.q; refine wpList_store_row rfl 27 (.tmp 6) (.tmp 22) rfl (w.heap.size + 1) 27 cs (R.cells { r with ou := r.ou + 1 }) rfl rfl hcs (HZ.out _) hsz (HO.out _) ?_))
      refine bodyPost_ret (res_box_tmp rfl _ _ (w.heap.size + 1) { r with ou := r.ou + 1 } rfl (box_row hcs _)) rfl ⟨rfl, HP3.out.out _⟩
    · have hk0 : rkind r now = 0 := by omega
      have he : rsend r probes now = r := by unfold rsend; rw [if_neg (by omega)]
      have HK := Lib.hid (rkind_is r now hk0)
      rw [he]
      clear hm hm1 hm2 hk hk0 he
      unfold R.cells at HM HK ⊢
      unfold zeroR R.cells at HP0
      go_enter Try.func12, Try.ntmps12
      go_wp2_with (first
        | (go_at_call 11; refine (HM.out _).mono ?_; rintro e w1 ⟨rfl, b1⟩; have HP1 := Lib.hid (HP0.out.on b1); obtain ⟨c0, c1, c2, c3⟩ := HP1.out.c; clear b1)
        | (go_at_call 9; refine (HK.out _).mono ?_; rintro e w2 ⟨rfl, b2⟩; have HP2 := Lib.hid (HP1.out.on b2); obtain ⟨d0, d1, d2, d3⟩ := HP2.out.c; clear b2)
        | (obtain ⟨cs, hcs, hsz⟩ := HP2.out.q; refine wpList_store_row rfl 27 (.tmp 6) (.tmp 22) rfl (w.heap.size + 1) 27 cs (R.cells r) rfl rfl hcs (HZ.out _) hsz (HO.out _) ?_))
      refine bodyPost_ret (res_box_tmp rfl _ _ (w.heap.size + 1) r rfl (box_row hcs _)) rfl ⟨rfl, HP2.out.out _⟩
  · have hm0 : rmay r probes now = false := by simpa using hm1
    rw [hm0] at HM ⊢
    rw [hm0] at hm
    have hm2 := of_decide_eq_false hm.symm
    have he : rsend r probes now = r := by unfold rsend; rw [if_neg (by omega)]
    rw [he]
    clear hm hm0 hm1 hm2 he
    unfold R.cells at HM ⊢
    unfold zeroR R.cells at HP0
    go_enter Try.func12, Try.ntmps12
    go_wp2_with (first
      | (go_at_call 11; refine (HM.out _).mono ?_; rintro e w1 ⟨rfl, b1⟩; have HP1 := Lib.hid (HP0.out.on b1); obtain ⟨c0, c1, c2, c3⟩ := HP1.out.c; clear b1)
      | (obtain ⟨cs, hcs, hsz⟩ := HP1.out.q; refine wpList_store_row rfl 27 (.tmp 6) (.tmp 13) rfl (w.heap.size + 1) 27 cs (R.cells r) rfl rfl hcs (HZ.out _) hsz (HO.out _) ?_))
    refine bodyPost_ret (res_box_tmp rfl _ _ (w.heap.size + 1) r rfl (box_row hcs _)) rfl ⟨rfl, HP1.out.out _⟩
theorem res_row {fn : Func} {p : Tmp} (h : fn.results = #[.cell p 27]) (tmps : Array Value) (w : World) (g : Nat) (r : R)
    (hp : tmps.getD p undef = .pointer (some ⟨g, 0, none⟩)) (hg : Box w g 27 r.cells) : (results fn tmps).run Try.prog w = .ok (.agg r.cells) w :=
  results_cell_row h _ _ g 27 r.cells (0, 0) _ hp hg Try.underlying27 rfl (sizeR r)
set_option maxHeartbeats 1000000 in
theorem rlost_any (r : R) (now : Int) (w : World) (ho : ROk r) : Calls Try.prog 17 #[.agg r.cells, .int .i64 now] w fun e w' => e = .returned (.agg (rlost r now).cells) ∧ Below w.heap.size w w' := by
  obtain ⟨o1, o2⟩ := ho.ou
  have HP0 := Lib.hid (Pair.start w r)
  have HZ := Lib.hid fun r => sizeR r
  have HO := Lib.hid fun r => oneR r
  by_cases hk : rkind r now = 2
  · have HK := Lib.hid (rkind_is r now hk)
    by_cases hl : 0 < r.ou
    · have he : rlost r now = { r with ou := r.ou - 1 } := by unfold rlost; rw [if_pos ⟨hk, hl⟩]
      rw [he]
      clear hk he
      unfold R.cells at HK ⊢
      unfold zeroR R.cells at HP0
      go_enter Try.func17, Try.ntmps17
      go_wp2_with (first
        | (go_at_call 9; refine (HK.out _).mono ?_; rintro e w1 ⟨rfl, b1⟩; have HP1 := Lib.hid (HP0.out.on b1); obtain ⟨c0, c1, c2, c3⟩ := HP1.out.c; have f3 := HP1.out.p.frozen 3; have HP3 := Lib.hid (HP1.out.put3 (r.ou - 1)); clear b1)
        | (obtain ⟨cs, hcs, hsz⟩ := HP3.out.q; refine wpList_store_row rfl 27 (.tmp 4) (.tmp 18) rfl (w.heap.size + 1) 27 cs (R.cells { r with ou := r.ou - 1 }) rfl rfl hcs (HZ.out _) hsz (HO.out _) ?_))
      refine bodyPost_ret (res_row rfl _ _ (w.heap.size + 1) { r with ou := r.ou - 1 } rfl (box_row hcs _)) rfl ⟨rfl, HP3.out.out _⟩
    · have he : rlost r now = r := by unfold rlost; rw [if_neg (by omega)]
      rw [he]
      clear hk he
      unfold R.cells at HK ⊢
      unfold zeroR R.cells at HP0
      go_enter Try.func17, Try.ntmps17
      go_wp2_with (first
        | (go_at_call 9; refine (HK.out _).mono ?_; rintro e w1 ⟨rfl, b1⟩; have HP1 := Lib.hid (HP0.out.on b1); obtain ⟨c0, c1, c2, c3⟩ := HP1.out.c; clear b1)
        | (obtain ⟨cs, hcs, hsz⟩ := HP1.out.q; refine wpList_store_row rfl 27 (.tmp 4) (.tmp 18) rfl (w.heap.size + 1) 27 cs (R.cells r) rfl rfl hcs (HZ.out _) hsz (HO.out _) ?_))
      refine bodyPost_ret (res_row rfl _ _ (w.heap.size + 1) r rfl (box_row hcs _)) rfl ⟨rfl, HP1.out.out _⟩
  · have he : rlost r now = r := by unfold rlost; rw [if_neg (by omega)]
    have HK := Lib.hid (rkind_any r now)
    have hb : (rkind r now == 2) = false := by simpa using hk
    rw [he]
    clear hk he
    generalize rkind r now = k at HK hb
    unfold R.cells at HK ⊢
    unfold zeroR R.cells at HP0
    go_enter Try.func17, Try.ntmps17
    go_wp2_with (first
      | (go_at_call 9; refine (HK.out _).mono ?_; rintro e w1 ⟨rfl, b1⟩; have HP1 := Lib.hid (HP0.out.on b1); obtain ⟨c0, c1, c2, c3⟩ := HP1.out.c; clear b1)
      | (obtain ⟨cs, hcs, hsz⟩ := HP1.out.q; refine wpList_store_row rfl 27 (.tmp 4) (.tmp 18) rfl (w.heap.size + 1) 27 cs (R.cells r) rfl rfl hcs (HZ.out _) hsz (HO.out _) ?_))
    refine bodyPost_ret (res_row rfl _ _ (w.heap.size + 1) r rfl (box_row hcs _)) rfl ⟨rfl, HP1.out.out _⟩
set_option maxHeartbeats 1000000 in
theorem rdone_any (r : R) (trip cool now : Int) (b : Bool) (w : World) (ho : ROk r) : Calls Try.prog 15 #[.agg r.cells, .int .i64 trip, .int .i64 cool, .int .i64 now, .bool b] w fun e w' => e = .returned (.agg (rdone r trip cool now b).cells) ∧ Below w.heap.size w w' := by
  obtain ⟨o1, o2⟩ := ho.fl
  have HP0 := Lib.hid (Pair.start w r)
  have HZ := Lib.hid fun r => sizeR r
  have HO := Lib.hid fun r => oneR r
  by_cases hk1 : rkind r now = 1
  · have he : rdone r trip cool now b = r := by unfold rdone; rw [if_pos hk1]
    have HK := Lib.hid (rkind_is r now hk1)
    rw [he]
    clear hk1 he
    unfold R.cells at HK ⊢
    unfold zeroR R.cells at HP0
    go_enter Try.func15, Try.ntmps15
    go_wp2_with (first
      | (go_at_call 9; refine (HK.out _).mono ?_; rintro e w1 ⟨rfl, b1⟩; have HP1 := Lib.hid (HP0.out.on b1); obtain ⟨c0, c1, c2, c3⟩ := HP1.out.c; clear b1)
      | (obtain ⟨cs, hcs, hsz⟩ := HP1.out.q; refine wpList_store_row rfl 27 (.tmp 10) (.tmp 17) rfl (w.heap.size + 1) 27 cs (R.cells r) rfl rfl hcs (HZ.out _) hsz (HO.out _) ?_))
    refine bodyPost_ret (res_row rfl _ _ (w.heap.size + 1) r rfl (box_row hcs _)) rfl ⟨rfl, HP1.out.out _⟩
  have HK := Lib.hid (rkind_any r now)
  have hb1 : (rkind r now == 1) = false := by simpa using hk1
  cases b with
  | true =>
    have he : rdone r trip cool now true = ⟨false, 0, r.un, 0⟩ := by unfold rdone; rw [if_neg hk1]; rfl
    rw [he]
    clear hk1 he
    generalize rkind r now = k at HK hb1
    unfold R.cells at HK ⊢
    unfold zeroR R.cells at HP0
    go_enter Try.func15, Try.ntmps15
    go_wp2_with (first
      | (go_at_call 9; refine (HK.out _).mono ?_; rintro e w1 ⟨rfl, b1⟩; have HP1 := Lib.hid (HP0.out.on b1); obtain ⟨c0, c1, c2, c3⟩ := HP1.out.c; clear b1)
      | (obtain ⟨cs, hcs, hsz⟩ := HP1.out.q; refine wpList_store_row rfl 27 (.tmp 10) (.tmp 21) rfl (w.heap.size + 1) 27 cs (R.cells ⟨false, 0, r.un, 0⟩) rfl rfl hcs (HZ.out _) hsz (HO.out _) ?_))
    refine bodyPost_ret (res_row rfl _ _ (w.heap.size + 1) ⟨false, 0, r.un, 0⟩ rfl (box_row hcs _)) rfl ⟨rfl, HP1.out.out _⟩
  | false =>
    by_cases hk2 : rkind r now = 2
    · have he : rdone r trip cool now false = ⟨true, 0, addT now cool, 0⟩ := by unfold rdone; rw [if_neg hk1, if_neg (by decide), if_pos (Or.inl hk2)]
      rw [he]
      rw [hk2] at HK hb1
      clear hk1 he hk2
      unfold R.cells at HK ⊢
      unfold zeroR R.cells at HP0
      go_enter Try.func15, Try.ntmps15
      go_wp2_with (first
        | (go_at_call 9; refine (HK.out _).mono ?_; rintro e w1 ⟨rfl, b1⟩; have HP1 := Lib.hid (HP0.out.on b1); obtain ⟨c0, c1, c2, c3⟩ := HP1.out.c; have f1 := HP1.out.p.frozen 1; have HP3 := Lib.hid (HP1.out.put1 (r.fl + 1)); clear b1)
        | (go_at_call 26; refine (radd_any _ _ _).mono ?_; rintro e w2 ⟨rfl, rfl⟩)
        | (obtain ⟨cs, hcs, hsz⟩ := HP3.out.q; refine wpList_store_row rfl 27 (.tmp 10) (.tmp 37) rfl (w.heap.size + 1) 27 cs (R.cells ⟨true, 0, addT now cool, 0⟩) rfl rfl hcs (HZ.out _) hsz (HO.out _) ?_))
      refine bodyPost_ret (res_row rfl _ _ (w.heap.size + 1) ⟨true, 0, addT now cool, 0⟩ rfl (box_row hcs _)) rfl ⟨rfl, HP3.out.out _⟩
    · have hb2 : (rkind r now == 2) = false := by simpa using hk2
      by_cases ht : trip ≤ r.fl + 1
      · have he : rdone r trip cool now false = ⟨true, 0, addT now cool, 0⟩ := by unfold rdone; rw [if_neg hk1, if_neg (by decide), if_pos (Or.inr ht)]
        rw [he]
        clear hk1 he hk2
        generalize rkind r now = k at HK hb1 hb2
        unfold R.cells at HK ⊢
        unfold zeroR R.cells at HP0
        go_enter Try.func15, Try.ntmps15
        go_wp2_with (first
          | (go_at_call 9; refine (HK.out _).mono ?_; rintro e w1 ⟨rfl, b1⟩; have HP1 := Lib.hid (HP0.out.on b1); obtain ⟨c0, c1, c2, c3⟩ := HP1.out.c; have f1 := HP1.out.p.frozen 1; have HP3 := Lib.hid (HP1.out.put1 (r.fl + 1)); clear b1)
          | (go_at_call 26; refine (radd_any _ _ _).mono ?_; rintro e w2 ⟨rfl, rfl⟩)
          | (obtain ⟨cs, hcs, hsz⟩ := HP3.out.q; refine wpList_store_row rfl 27 (.tmp 10) (.tmp 37) rfl (w.heap.size + 1) 27 cs (R.cells ⟨true, 0, addT now cool, 0⟩) rfl rfl hcs (HZ.out _) hsz (HO.out _) ?_))
        refine bodyPost_ret (res_row rfl _ _ (w.heap.size + 1) ⟨true, 0, addT now cool, 0⟩ rfl (box_row hcs _)) rfl ⟨rfl, HP3.out.out _⟩
      · have he : rdone r trip cool now false = { r with fl := r.fl + 1 } := by unfold rdone; rw [if_neg hk1, if_neg (by decide), if_neg (by omega)]
        rw [he]
        clear hk1 he hk2
        generalize rkind r now = k at HK hb1 hb2
        unfold R.cells at HK ⊢
        unfold zeroR R.cells at HP0
        go_enter Try.func15, Try.ntmps15
        go_wp2_with (first
          | (go_at_call 9; refine (HK.out _).mono ?_; rintro e w1 ⟨rfl, b1⟩; have HP1 := Lib.hid (HP0.out.on b1); obtain ⟨c0, c1, c2, c3⟩ := HP1.out.c; have f1 := HP1.out.p.frozen 1; have HP3 := Lib.hid (HP1.out.put1 (r.fl + 1)); clear b1)
          | (obtain ⟨cs, hcs, hsz⟩ := HP3.out.q; refine wpList_store_row rfl 27 (.tmp 10) (.tmp 38) rfl (w.heap.size + 1) 27 cs (R.cells { r with fl := r.fl + 1 }) rfl rfl hcs (HZ.out _) hsz (HO.out _) ?_))
        refine bodyPost_ret (res_row rfl _ _ (w.heap.size + 1) { r with fl := r.fl + 1 } rfl (box_row hcs _)) rfl ⟨rfl, HP3.out.out _⟩
end Go.Proofs.Ytndpdciehnndoaa.Bk
