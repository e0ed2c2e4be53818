/-
  What newBreaker makes, and what Restore answers and leaves.
  Conditions: the guard is one.
-/
import Derived.Test.YtapnnlebokcmgaaGrdDo
namespace Go.Proofs.Ytapnnlebokcmgaa.Gd
open Go.RowKit
open Go.Proofs.Ytapnnlebokcmgaa.Bk (S Brk Aft kind ret_int ret_bool)
/-- a party by value -/
def Pty.val (p : Pty) : Value := .agg #[.string p.nm, .int .i64 p.seats, .int .i64 p.trip, .int .i64 p.cool, .int .i64 p.probes]
theorem newB_no (p : Pty) (w : World) (h : brkB p = false) : Calls Try.prog 20 #[p.val] w fun e w' => e = .returned (.pointer none) ∧ Below w.heap.size w w' := by
  have HN := Lib.hid fun w => Bk.new_no p.trip p.cool p.probes w (brkB_no h)
  have HB := Lib.hid ((Below.refl w.heap.size w).alloc (Nat.le_refl _) (.cells #[.string p.nm, .int .i64 p.seats, .int .i64 p.trip, .int .i64 p.cool, .int .i64 p.probes] 37))
  clear h
  unfold Pty.val
  go_enter Try.func20, Try.ntmps20
  go_wp2_with (go_at_call 28; refine (HN.out _).mono ?_; rintro e w1 ⟨rfl, rfl⟩)
  go_ret
  exact ⟨rfl, HB.out⟩
theorem newB_yes (p : Pty) (w : World) (h : p.Brk) : Calls Try.prog 20 #[p.val] w fun e w' => ∃ b, e = .returned (.pointer (some ⟨b, 0, none⟩)) ∧ w.heap.size ≤ b ∧ Brk w' b (Bk.new p.trip p.cool p.probes) ∧ Below w.heap.size w w' := by
  have HN := Lib.hid fun w => Bk.new_any w h.trip h.cool h.probes
  have HB := Lib.hid ((Below.refl w.heap.size w).alloc (Nat.le_refl _) (.cells #[.string p.nm, .int .i64 p.seats, .int .i64 p.trip, .int .i64 p.cool, .int .i64 p.probes] 37))
  clear h
  unfold Pty.val
  go_enter Try.func20, Try.ntmps20
  go_wp2_with (go_at_call 28; refine (HN.out _).mono ?_; rintro e w1 ⟨rfl, hb, hw⟩; have HQ := Lib.hid hb; have HW := Lib.hid hw; clear hb hw)
  go_ret
  exact ⟨_, rfl, by simp, by simpa using HQ.out, HB.out.trans (HW.out.mono (by simp))⟩
section
variable {w : World} {g : Nat} {X : Nat → Prop} {v : Value} {rs : List Rt}
/-- a gate gets a breaker that was not the guard's -/
theorem Raw.fresh {r c : Nat} (h : Raw w g X (.slice (some ⟨r, 0, none⟩) rs.length c) rs) {i : Nat} {x : Rt} (hx : rs[i]? = some x) {b : Nat} {s : S} (hB : Brk w b s) (ho : ¬ Own g (.slice (some ⟨r, 0, none⟩) rs.length c) rs b) (hX : ¬ X b) (hok : Gt.Ok ⟨x.t.p, s, x.t.fl⟩) :
    Raw (w.setCell ⟨r, i * 7, none⟩ (.pointer (some ⟨b, 0, none⟩))) g X (.slice (some ⟨r, 0, none⟩) rs.length c) (rs.set i ⟨b, ⟨x.t.p, s, x.t.fl⟩⟩) ∧ Keep X w (w.setCell ⟨r, i * 7, none⟩ (.pointer (some ⟨b, 0, none⟩))) := by
  have hm : x ∈ rs := List.mem_of_getElem? hx
  have hne : b ≠ r := fun e => ho (.inr (.inl (by rw [e]; rfl)))
  have hrow := row_set h.row (i * 7 + 0) (.pointer (some ⟨b, 0, none⟩))
  rw [cellsG_set rs i 0 (.pointer (some ⟨b, 0, none⟩)) (by omega) hx (x' := ⟨b, ⟨x.t.p, s, x.t.fl⟩⟩) rfl] at hrow
  refine ⟨h.turn hx (by simp [World.setCell]) (fun k _ h1 _ _ => Below.heap_setCell w ⟨r, i * 7, none⟩ _ k (fun e => h1 (by rw [show k = r from e]; rfl))) hrow ?_ hok (.inr ⟨ho, hX⟩), (Keep.refl X w).setCell (h.xr r rfl) _ _⟩
  exact brk_stay hB (Below.heap_setCell w ⟨r, i * 7, none⟩ _ b hne)
theorem res_no (h : Raw w g X v rs) (p k : Int) (hp : p < 0 ∨ (rs.length : Int) ≤ p) : Calls Try.prog 11 #[ptr g, .int .i64 p, .int .i64 k] w fun e w' => e = .returned (.int .i64 7) ∧ w = w' := by
  have HG := Lib.hid (gate_no h p hp)
  clear h hp
  unfold ptr at HG ⊢
  go_enter Try.func11, Try.ntmps11
  go_wp2_with (go_at_call 15; refine HG.out.mono ?_; rintro e w1 ⟨rfl, rfl⟩)
  go_ret
  exact ⟨rfl, rfl⟩
set_option maxHeartbeats 1000000 in
theorem res_off (h : Raw w g X v rs) {i : Nat} {x : Rt} (hx : rs[i]? = some x) (k : Int) (ho : resE x.t k ≠ 0) : Calls Try.prog 11 #[ptr g, .int .i64 (i : Int), .int .i64 k] w fun e w' => e = .returned (.int .i64 1) ∧ w = w' := by
  obtain ⟨r, c, rfl, hc⟩ := h.at_ hx
  have HG := Lib.hid (gate_at h hx)
  have c2 := (h.cs hx).c2
  clear h hx
  unfold ptr
  generalize i * 7 = q at *
  by_cases h1 : k < 0
  · clear ho
    go_enter Try.func11, Try.ntmps11
    go_wp2_with (go_at_call 15; refine HG.out.mono ?_; rintro e w1 ⟨rfl, rfl⟩)
    go_ret
    exact ⟨rfl, rfl⟩
  by_cases h2 : x.t.p.seats < k
  · clear ho
    go_enter Try.func11, Try.ntmps11
    go_wp2_with (go_at_call 15; refine HG.out.mono ?_; rintro e w1 ⟨rfl, rfl⟩)
    go_ret
    exact ⟨rfl, rfl⟩
  · exact absurd (by unfold resE; rw [if_neg (by omega)]) ho
set_option maxHeartbeats 1000000 in
theorem res_on (h : Raw w g X v rs) {i : Nat} {x : Rt} (hx : rs[i]? = some x) (k : Int) (ho : resE x.t k = 0) : Calls Try.prog 11 #[ptr g, .int .i64 (i : Int), .int .i64 k] w fun e w' => e = .returned (.int .i64 0) ∧ ∃ b, Did w g X ((rs.set i ⟨b, resT x.t k⟩).map Rt.t) w' := by
  obtain ⟨r, c, rfl, hc⟩ := h.at_ hx
  have HG := Lib.hid (gate_at h hx)
  have hxm := List.mem_of_getElem? hx
  have hok := h.ok x hxm
  have hcs := h.cs hx
  have c1 := hcs.c1; have c2 := hcs.c2; have c3 := hcs.c3; have c4 := hcs.c4; have c5 := hcs.c5
  have hk : 0 ≤ k ∧ k ≤ x.t.p.seats := by
    by_cases e : k < 0 ∨ x.t.p.seats < k
    · unfold resE at ho; rw [if_pos e] at ho; cases ho
    · omega
  obtain ⟨u0, u1⟩ := hk
  have HN := Lib.hid (newB_yes x.t.p w hok.p.brk)
  have hend : ∀ b w2, w.heap.size ≤ b → Brk w2 b (Bk.new x.t.p.trip x.t.p.cool x.t.p.probes) → Below w.heap.size w w2 →
      (w2.cell? ⟨r, i * 7, none⟩ = some (.pointer (some ⟨x.b, 0, none⟩)) ∧ w2.frozen? ⟨r, i * 7, none⟩ = false ∧ w2.cell? ⟨r, i * 7 + 6, none⟩ = some (.int .i64 x.t.fl) ∧ w2.frozen? ⟨r, i * 7 + 6, none⟩ = false) ∧
      Did w g X ((rs.set i ⟨b, resT x.t k⟩).map Rt.t) ((w2.setCell ⟨r, i * 7, none⟩ (.pointer (some ⟨b, 0, none⟩))).setCell ⟨r, i * 7 + 6, none⟩ (.int .i64 k)) := fun b w2 hb hB hw => by
    have hR2 := h.below hw
    have hcs2 := hR2.cs hx
    obtain ⟨hR3, hK3⟩ := hR2.fresh hx hB (fun e => by have := h.olt e; omega) (fun e => by have := h.xlt _ e; omega)
      ⟨hok.p, Bk.new_ok hok.p.brk.trip hok.p.brk.cool hok.p.brk.probes, ⟨rfl, rfl, rfl⟩, hok.fl⟩
    have hx3 : (rs.set i ⟨b, ⟨x.t.p, Bk.new x.t.p.trip x.t.p.cool x.t.p.probes, x.t.fl⟩⟩)[i]? = some ⟨b, ⟨x.t.p, Bk.new x.t.p.trip x.t.p.cool x.t.p.probes, x.t.fl⟩⟩ := set_at hx
    have hlen : (rs.set i ⟨b, ⟨x.t.p, Bk.new x.t.p.trip x.t.p.cool x.t.p.probes, x.t.fl⟩⟩).length = rs.length := List.length_set ..
    rw [← hlen] at hR3
    obtain ⟨hR4, hK4⟩ := hR3.put hx3 6 (by omega) (.int .i64 k) (x' := ⟨b, resT x.t k⟩) rfl rfl rfl (hok.resT ho)
    rw [set_set] at hR4
    exact ⟨⟨hcs2.c0, hcs2.f _, hcs2.c6, hcs2.f _⟩, ⟨⟨_, _, hR4, rfl⟩, (Keep.of_below hw).trans (hK3.trans hK4)⟩⟩
  have HE := Lib.hid hend
  clear h hx hxm hok hcs hend ho
  unfold ptr
  unfold Pty.val at HN
  generalize i * 7 = q at *
  go_enter Try.func11, Try.ntmps11
  go_wp2_with (first
    | (go_at_call 15; refine HG.out.mono ?_; rintro e w1 ⟨rfl, rfl⟩)
    | (go_at_call 20; refine HN.out.mono ?_; rintro e w2 ⟨b, rfl, hb, hB, hw⟩; have hq := HE.out b w2 hb hB hw; obtain ⟨⟨d0, f0, d6, f6⟩, hD⟩ := hq; have HD := Lib.hid hD; clear hb hB hw hD))
  go_ret
  exact ⟨rfl, b, HD.out⟩
theorem res_raw (h : Raw w g X v rs) (p k : Int) : Calls Try.prog 11 #[ptr g, .int .i64 p, .int .i64 k] w fun e w' => e = .returned (.int .i64 (resA (rs.map Rt.t) p k)) ∧ Did w g X (resG (rs.map Rt.t) p k) w' := by
  rcases place (rs := rs) p with hp | ⟨i, x, rfl, hx⟩
  · refine (res_no h p k hp).mono ?_
    rintro e w' ⟨rfl, rfl⟩
    refine ⟨ret_int (ans_no hp _ _).symm, ?_⟩
    rw [show resG (rs.map Rt.t) p k = rs.map Rt.t from turn_no hp _ _]
    exact h.did (Keep.refl _ _)
  · have hA : resA (rs.map Rt.t) (i : Int) k = resE x.t k := ans_at hx _ _
    rw [hA]
    by_cases ho : resE x.t k = 0
    · refine (res_on h hx k ho).mono ?_
      rintro e w' ⟨rfl, b, hD⟩
      rw [ho, show resG (rs.map Rt.t) (i : Int) k = (rs.set i ⟨b, resT x.t k⟩).map Rt.t from turn_on hx _ (decide_eq_true ho) b]
      exact ⟨rfl, hD⟩
    · have h1 : resE x.t k = 1 := by
        unfold resE at ho ⊢
        split
        · rfl
        · next e => rw [if_neg e] at ho; exact absurd rfl ho
      rw [show resG (rs.map Rt.t) (i : Int) k = rs.map Rt.t from turn_off hx _ (decide_eq_false ho), h1]
      refine (res_off h hx k ho).mono ?_
      rintro e w' ⟨rfl, rfl⟩
      exact ⟨rfl, h.did (Keep.refl _ _)⟩
end
end Go.Proofs.Ytapnnlebokcmgaa.Gd
