/-
  What the functions of package breaker that turn a breaker leave: open, close, fail, Send, Done, Lost, and what New makes.
  Conditions: a breaker's numbers are as New lets them be (S.Ok).
-/
import Derived.Test.YtapnnlebokcmgaaBrkCalls
namespace Go.Proofs.Ytapnnlebokcmgaa.Bk
open Go.RowKit
section
variable {w : World} {g : Nat} {s : S}
set_option maxHeartbeats 400000 in
theorem close_any (h : Brk w g s) : Calls Try.prog 25 #[.pointer (some ⟨g, 0, none⟩)] w fun e w' => e = .returned (.tuple #[]) ∧ Aft w g (closedS s) w' := by
  have c3 := h.c3; have c4 := h.c4; have c6 := h.c6
  have f3 := h.box.frozen 3; have f4 := h.box.frozen 4; have f6 := h.box.frozen 6
  have hF : Aft w g (closedS s) (((w.setCell ⟨g, 3, none⟩ (.bool false)).setCell ⟨g, 4, none⟩ (.int .i64 0)).setCell ⟨g, 6, none⟩ (.int .i64 0)) :=
    ⟨⟨((h.box.put 3 _).put 4 _).put 6 _, h.ok.closedS⟩, only_put (only_put (only_put (Aft.refl h).2 3 _) 4 _) 6 _⟩
  have HF := Lib.hid hF
  clear h hF
  go_enter Try.func25, Try.ntmps25
  go_wp2
  go_end0
  exact ⟨rfl, HF.out⟩
/-- open, of a breaker whose numbers are right behind it alone -/
theorem only_refl (w : World) (g : Nat) : w.grownBy w (some g) := ⟨rfl, rfl, rfl, Nat.le_refl _, fun _ _ _ => rfl⟩
set_option maxHeartbeats 400000 in
theorem open_box (h : Box w g 56 s.cells) (now : Int) (ho : (opened s now).Ok) : Calls Try.prog 26 #[.pointer (some ⟨g, 0, none⟩), .int .i64 now] w fun e w' => e = .returned (.tuple #[]) ∧ Aft w g (opened s now) w' := by
  have c1 : w.cell? ⟨g, 1, none⟩ = some (.int .i64 s.cool) := h.cell 1
  have c3 : w.cell? ⟨g, 3, none⟩ = some (.bool s.tr) := h.cell 3
  have c5 : w.cell? ⟨g, 5, none⟩ = some (.int .i64 s.un) := h.cell 5
  have c6 : w.cell? ⟨g, 6, none⟩ = some (.int .i64 s.ou) := h.cell 6
  have f3 := h.frozen 3; have f5 := h.frozen 5; have f6 := h.frozen 6
  have hF : Aft w g (opened s now) (((w.setCell ⟨g, 3, none⟩ (.bool true)).setCell ⟨g, 6, none⟩ (.int .i64 0)).setCell ⟨g, 5, none⟩ (.int .i64 (addT now s.cool))) :=
    ⟨⟨((h.put 3 _).put 6 _).put 5 _, ho⟩, only_put (only_put (only_put (only_refl w g) 3 _) 6 _) 5 _⟩
  have HF := Lib.hid hF
  clear h hF ho
  go_enter Try.func26, Try.ntmps26
  go_wp2_with (go_at_call 35; refine (tadd_any _ _ _).mono ?_; rintro e w' ⟨rfl, rfl⟩)
  go_end0
  exact ⟨rfl, HF.out⟩
theorem open_any (h : Brk w g s) (now : Int) : Calls Try.prog 26 #[.pointer (some ⟨g, 0, none⟩), .int .i64 now] w fun e w' => e = .returned (.tuple #[]) ∧ Aft w g (opened s now) w' := open_box h.box now (h.ok.opened now)
set_option maxHeartbeats 400000 in
theorem fail_any (h : Brk w g s) (hs : s.tr = false) (now : Int) : Calls Try.prog 27 #[.pointer (some ⟨g, 0, none⟩), .int .i64 now] w fun e w' => e = .returned (.tuple #[]) ∧ Aft w g (failed s now) w' := by
  have c0 := h.c0; have c4 := h.c4
  have f4 := h.box.frozen 4
  have hfl := h.ok.fl
  obtain ⟨w1, hw1⟩ : ∃ w1, w1 = w.setCell ⟨g, 4, none⟩ (.int .i64 (s.fl + 1)) := ⟨_, rfl⟩
  have hB1 : Box w1 g 56 (S.cells { s with fl := s.fl + 1 }) := by rw [hw1]; exact h.box.put 4 _
  have hG1 : w.grownBy w1 (some g) := by rw [hw1]; exact only_put (Aft.refl h).2 4 _
  have d0 : (w.setCell ⟨g, 4, none⟩ (.int .i64 (s.fl + 1))).cell? ⟨g, 0, none⟩ = some (.int .i64 s.trip) := by rw [← hw1]; exact hB1.cell 0
  have d4 : (w.setCell ⟨g, 4, none⟩ (.int .i64 (s.fl + 1))).cell? ⟨g, 4, none⟩ = some (.int .i64 (s.fl + 1)) := by rw [← hw1]; exact hB1.cell 4
  by_cases hq : s.fl + 1 = s.trip
  · have hfa : failed s now = opened { s with fl := s.fl + 1 } now := by unfold failed; rw [if_pos hq]
    have hop : ∀ n, Calls Try.prog 26 #[.pointer (some ⟨g, 0, none⟩), .int .i64 now] ((w.setCell ⟨g, 4, none⟩ (.int .i64 (s.fl + 1))).drewN n) fun e w' => e = .returned (.tuple #[]) ∧ Aft w g (failed s now) w' := fun n => by
      rw [← hw1, hfa]
      have ho := h.ok.failed hs now
      rw [hfa] at ho
      refine (open_box (hB1.drewN n) now ho).mono fun e w' ⟨he, hL⟩ => ⟨he, hL.1, only_trans (only_drewN hG1 n) hL.2⟩
    have HO := Lib.hid hop
    have hb : (s.fl + 1 == s.trip) = true := by simpa using hq
    clear h hfa hop hB1 hG1 hw1 hq
    go_enter Try.func27, Try.ntmps27
    go_wp2
    go_quiet (fail)
    go_wp2_with (go_at_call 26; refine (HO.out _).mono ?_; rintro e w' ⟨rfl, hL⟩)
    go_end0
    exact ⟨rfl, hL⟩
  · have hfa : failed s now = { s with fl := s.fl + 1 } := by unfold failed; rw [if_neg hq]
    have hL : Aft w g (failed s now) w1 := by rw [hfa]; exact ⟨⟨hB1, h.ok.counted hs hq⟩, hG1⟩
    have hb : (s.fl + 1 == s.trip) = false := by simpa using hq
    have HL := Lib.hid hL
    have HW := Lib.hid hw1
    clear h hfa hL hB1 hG1 hw1 hq
    go_enter Try.func27, Try.ntmps27
    go_wp2
    go_quiet (fail)
    go_wp2
    go_end0
    refine ⟨rfl, ?_⟩
    rw [← HW.out]
    exact HL.out.drewN _
set_option maxHeartbeats 400000 in
theorem done_any (h : Brk w g s) (now : Int) (b : Bool) : Calls Try.prog 19 #[.pointer (some ⟨g, 0, none⟩), .int .i64 now, .bool b] w fun e w' => e = .returned (.tuple #[]) ∧ Aft w g (done s now b) w' := by
  rcases kind_3 s now with hk | hk | hk
  · have HS := Lib.hid (state_is h now hk)
    have HC := Lib.hid (close_any h)
    have HA := Lib.hid (fail_any h (kind_0 hk) now)
    have e1 : done s now true = closedS s := by unfold done; rw [hk]; rfl
    have e2 : done s now false = failed s now := by unfold done; rw [hk]; rfl
    have E1 := Lib.hid e1; have E2 := Lib.hid e2
    clear h hk e1 e2
    cases b
    all_goals
      go_enter Try.func19, Try.ntmps19
      go_wp2_with (first
        | (go_at_call 16; refine HS.out.mono ?_; rintro e w' ⟨rfl, rfl⟩)
        | (go_at_call 25; refine HC.out.mono ?_; rintro e w' ⟨rfl, hL⟩)
        | (go_at_call 27; refine HA.out.mono ?_; rintro e w' ⟨rfl, hL⟩))
      go_end0
      first | exact ⟨rfl, by rw [E1.out]; exact hL⟩ | exact ⟨rfl, by rw [E2.out]; exact hL⟩
  · have HS := Lib.hid (state_is h now hk)
    have e1 : done s now b = s := by unfold done; rw [hk]; rfl
    have HL := Lib.hid (Aft.refl h)
    rw [e1]
    clear h hk e1
    go_enter Try.func19, Try.ntmps19
    go_wp2_with (go_at_call 16; refine HS.out.mono ?_; rintro e w' ⟨rfl, rfl⟩)
    go_end0
    exact ⟨rfl, HL.out⟩
  · have HS := Lib.hid (state_is h now hk)
    have HC := Lib.hid (close_any h)
    have HA := Lib.hid (open_any h now)
    have e1 : done s now true = closedS s := by unfold done; rw [hk]; rfl
    have e2 : done s now false = opened s now := by unfold done; rw [hk]; rfl
    have E1 := Lib.hid e1; have E2 := Lib.hid e2
    clear h hk e1 e2
    cases b
    all_goals
      go_enter Try.func19, Try.ntmps19
      go_wp2_with (first
        | (go_at_call 16; refine HS.out.mono ?_; rintro e w' ⟨rfl, rfl⟩)
        | (go_at_call 25; refine HC.out.mono ?_; rintro e w' ⟨rfl, hL⟩)
        | (go_at_call 26; refine HA.out.mono ?_; rintro e w' ⟨rfl, hL⟩))
      go_end0
      first | exact ⟨rfl, by rw [E1.out]; exact hL⟩ | exact ⟨rfl, by rw [E2.out]; exact hL⟩
set_option maxHeartbeats 400000 in
theorem send_any (h : Brk w g s) (now : Int) : Calls Try.prog 17 #[.pointer (some ⟨g, 0, none⟩), .int .i64 now] w fun e w' => e = .returned (.bool (may s now)) ∧ Aft w g (send s now) w' := by
  by_cases hm : may s now = true
  · have HM := Lib.hid (may_is h now hm)
    rw [hm]
    have HS := Lib.hid fun n => state_any (h.drewN n) now
    have hm' := hm
    simp only [may, decide_eq_true_eq] at hm'
    by_cases hk : kind s now = 2
    · have he : send s now = { s with ou := s.ou + 1 } := by unfold send; rw [if_pos ⟨hk, by omega⟩]
      have hok : S.Ok { s with ou := s.ou + 1 } := he ▸ h.ok.send now
      have hou := h.ok.ou; have hpr := h.ok.probes
      have hF : ∀ n, Aft w g (send s now) ((w.drewN n).setCell ⟨g, 6, none⟩ (.int .i64 (s.ou + 1))) := fun n => by
        rw [he]
        exact ⟨⟨(h.box.drewN n).put 6 _, hok⟩, only_put (only_drewN (only_refl w g) n) 6 _⟩
      have hc6 : ∀ n, (w.drewN n).cell? ⟨g, 6, none⟩ = some (.int .i64 s.ou) := fun n => (h.drewN n).c6
      have hf6 : ∀ n, (w.drewN n).frozen? ⟨g, 6, none⟩ = false := fun n => (h.drewN n).box.frozen 6
      have HF := Lib.hid hF
      have HC := Lib.hid hc6
      have HR := Lib.hid hf6
      rw [hk] at HS
      clear h hm hm' hk he hok hF hc6 hf6
      go_enter Try.func17, Try.ntmps17
      go_wp2_with (first
        | (go_at_call 21; refine HM.out.mono ?_; rintro e w1 ⟨rfl, n, hw1⟩
           have hs1 := HS.out n
           have c6 := HC.out n
           have f6 := HR.out n
           have hf1 := HF.out n
           rw [← hw1] at hs1 c6 f6 hf1
           have HS1 := Lib.hid hs1
           have HF1 := Lib.hid hf1
           clear hw1 hs1 hf1)
        | (go_at_call 16; refine HS1.out.mono ?_; rintro e w2 ⟨rfl, rfl⟩))
      go_ret
      exact ⟨rfl, HF1.out⟩
    · have hk0 : kind s now = 0 := by omega
      have he : send s now = s := by unfold send; rw [if_neg (by omega)]
      rw [he]
      rw [hk0] at HS
      have HL := Lib.hid (fun n => (Aft.refl h).drewN n)
      clear h hm hm' hk hk0 he
      go_enter Try.func17, Try.ntmps17
      go_wp2_with (first
        | (go_at_call 21; refine HM.out.mono ?_; rintro e w1 ⟨rfl, n, rfl⟩)
        | (go_at_call 16; refine (HS.out _).mono ?_; rintro e w2 ⟨rfl, rfl⟩))
      go_ret
      exact ⟨rfl, HL.out _⟩
  · have hm0 : may s now = false := by simpa using hm
    have HM := Lib.hid (may_is h now hm0)
    rw [hm0]
    have hm' := hm0
    simp only [may, decide_eq_false_iff_not] at hm'
    have he : send s now = s := by unfold send; rw [if_neg (by omega)]
    rw [he]
    have HL := Lib.hid (fun n => (Aft.refl h).drewN n)
    clear h hm hm0 hm' he
    go_enter Try.func17, Try.ntmps17
    go_wp2_with (go_at_call 21; refine HM.out.mono ?_; rintro e w1 ⟨rfl, n, rfl⟩)
    go_ret
    exact ⟨rfl, HL.out _⟩
set_option maxHeartbeats 400000 in
theorem lost_any (h : Brk w g s) (now : Int) : Calls Try.prog 18 #[.pointer (some ⟨g, 0, none⟩), .int .i64 now] w fun e w' => e = .returned (.tuple #[]) ∧ Aft w g (lost s now) w' := by
  have HS := Lib.hid (state_any h now)
  have c6 := h.c6
  have f6 := h.box.frozen 6
  have hou := h.ok.ou; have hpr := h.ok.probes
  by_cases hk : kind s now = 2
  · have hb : (kind s now == 2) = true := by simpa using hk
    by_cases ho : 0 < s.ou
    · have he : lost s now = { s with ou := s.ou - 1 } := by unfold lost; rw [if_pos ⟨hk, ho⟩]
      have hok : S.Ok { s with ou := s.ou - 1 } := he ▸ h.ok.lost now
      have hF : Aft w g (lost s now) (w.setCell ⟨g, 6, none⟩ (.int .i64 (s.ou - 1))) := by
        rw [he]
        exact ⟨⟨h.box.put 6 _, hok⟩, only_put (only_refl w g) 6 _⟩
      have HF := Lib.hid hF
      rw [hk] at HS
      clear h he hok hF hb hk
      go_enter Try.func18, Try.ntmps18
      go_wp2_with (go_at_call 16; refine HS.out.mono ?_; rintro e w1 ⟨rfl, rfl⟩)
      go_end0
      exact ⟨rfl, HF.out⟩
    · have he : lost s now = s := by unfold lost; rw [if_neg (by omega)]
      rw [he]
      have HL := Lib.hid (Aft.refl h)
      rw [hk] at HS
      clear h he hb hk
      go_enter Try.func18, Try.ntmps18
      go_wp2_with (go_at_call 16; refine HS.out.mono ?_; rintro e w1 ⟨rfl, rfl⟩)
      go_end0
      exact ⟨rfl, HL.out⟩
  · have hb : (kind s now == 2) = false := by simpa using hk
    have he : lost s now = s := by unfold lost; rw [if_neg (by omega)]
    rw [he]
    have HL := Lib.hid (Aft.refl h)
    clear h he hk
    generalize kind s now = k at HS hb
    go_enter Try.func18, Try.ntmps18
    go_wp2_with (go_at_call 16; refine HS.out.mono ?_; rintro e w1 ⟨rfl, rfl⟩)
    go_end0
    exact ⟨rfl, HL.out⟩
end
/-- what New answers where there is none -/
theorem new_no (t c p : Int) (w : World) (hb : t < 1 ∨ 1000 < t ∨ goodN c = false ∨ p < 1 ∨ 1000 < p) :
    Calls Try.prog 28 #[.int .i64 t, .int .i64 c, .int .i64 p] w fun e w' => e = .returned (.pointer none) ∧ w = w' := by
  by_cases h1 : t < 1
  · clear hb
    go_enter Try.func28, Try.ntmps28
    go_wp2
    go_ret
    exact ⟨rfl, rfl⟩
  by_cases h2 : 1000 < t
  · clear hb
    go_enter Try.func28, Try.ntmps28
    go_wp2
    go_ret
    exact ⟨rfl, rfl⟩
  by_cases h3 : goodN c = true
  · have HG := Lib.hid fun w => tgood_yes w h3
    by_cases h4 : p < 1
    · clear hb h3
      go_enter Try.func28, Try.ntmps28
      go_wp2_with (go_at_call 36; refine (HG.out _).mono ?_; rintro e w1 ⟨rfl, rfl⟩)
      go_ret
      exact ⟨rfl, rfl⟩
    · have h5 : 1000 < p := by
        rcases hb with h | h | h | h | h
        · exact absurd h h1
        · exact absurd h h2
        · rw [h3] at h; cases h
        · exact absurd h h4
        · exact h
      clear hb h3
      go_enter Try.func28, Try.ntmps28
      go_wp2_with (go_at_call 36; refine (HG.out _).mono ?_; rintro e w1 ⟨rfl, rfl⟩)
      go_ret
      exact ⟨rfl, rfl⟩
  · have HG := Lib.hid fun w => tgood_no w (by simpa using h3)
    clear hb h3
    go_enter Try.func28, Try.ntmps28
    go_wp2_with (go_at_call 36; refine (HG.out _).mono ?_; rintro e w1 ⟨rfl, rfl⟩)
    go_ret
    exact ⟨rfl, rfl⟩
theorem new_any {t c p : Int} (w : World) (ht : 1 ≤ t ∧ t ≤ 1000) (hc : 0 ≤ c ∧ c ≤ 1099511627776) (hp : 1 ≤ p ∧ p ≤ 1000) :
    Calls Try.prog 28 #[.int .i64 t, .int .i64 c, .int .i64 p] w fun e w' => e = .returned (.pointer (some ⟨w.heap.size, 0, none⟩)) ∧ Brk w' w.heap.size (new t c p) ∧ Below w.heap.size w w' := by
  have HG := Lib.hid fun w => tgood_yes w (n := c) (decide_eq_true hc)
  have hF : Brk (w.alloc (.cells (new t c p).cells 56)) w.heap.size (new t c p) ∧ Below w.heap.size w (w.alloc (.cells (new t c p).cells 56)) :=
    ⟨⟨Box.new w _ _, new_ok ht hc hp⟩, (Below.refl w.heap.size w).alloc (Nat.le_refl _) _⟩
  have HF := Lib.hid hF
  obtain ⟨h1, h2⟩ := ht
  obtain ⟨h3, h4⟩ := hp
  clear hF hc
  go_enter Try.func28, Try.ntmps28
  go_wp2_with (go_at_call 36; refine (HG.out _).mono ?_; rintro e w1 ⟨rfl, rfl⟩)
  go_ret
  exact ⟨rfl, HF.out⟩
end Go.Proofs.Ytapnnlebokcmgaa.Bk
