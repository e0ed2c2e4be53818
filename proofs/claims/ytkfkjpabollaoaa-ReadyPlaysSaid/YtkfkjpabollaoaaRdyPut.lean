/-
  What Put answers: an error, or the next handle, and the queue then.
  Conditions: the queue is one; its greatest handle is below 2^62.
-/
import Derived.Test.YtkfkjpabollaoaaRdyQue
namespace Go.Proofs.Ytkfkjpabollaoaa
open Go.RowKit Go.Maps

theorem good_yes {n : Int} (w : World) (h : goodB n = true) : Calls Try.prog 19 #[.int .i64 n] w fun e w' => e = .returned (.bool true) ∧ w = w' := by
  have := good_any n w
  rw [h] at this
  exact this
theorem good_no {n : Int} (w : World) (h : goodB n = false) : Calls Try.prog 19 #[.int .i64 n] w fun e w' => e = .returned (.bool false) ∧ w = w' := by
  have := good_any n w
  rw [h] at this
  exact this
/-- right arguments of Put -/
def argB (prio now : Int) : Bool := decide (0 ≤ prio ∧ prio ≤ 255) && goodB now
section
variable {w : World} {g bm : Nat} {X : Nat → Prop} {s : Qs} {v : Value} {d : List En} {ms : List (Nat × Nat)} {cap age last : Nat}
set_option maxHeartbeats 1000000 in
theorem put_arg (g : Nat) (id prio now : Int) (w : World) (h : argB prio now = false) :
    Calls Try.prog 8 #[ptr g, .int .i64 id, .int .i64 prio, .int .i64 now] w fun e w' => e = .returned (.tuple #[.int .i64 0, .int .i64 1]) ∧ w = w' := by
  unfold ptr
  by_cases h1 : prio < 0
  · go_enter Try.func8, Try.ntmps8
    go_wp2
    go_ret2
    exact ⟨rfl, rfl⟩
  · by_cases h2 : 255 < prio
    · go_enter Try.func8, Try.ntmps8
      go_wp2
      go_ret2
      exact ⟨rfl, rfl⟩
    · have hg : goodB now = false := by
        unfold argB at h
        rw [Bool.and_eq_false_iff] at h
        rcases h with h | h
        · have := of_decide_eq_false h
          omega
        · exact h
      have HG := Lib.hid hg
      clear hg h
      go_enter Try.func8, Try.ntmps8
      go_wp2_with (go_at_call 19; refine (good_no _ HG.out).mono ?_; rintro e w' ⟨rfl, rfl⟩)
      go_ret2
      exact ⟨rfl, rfl⟩
theorem argB_parts {prio now : Int} (h : argB prio now = true) : 0 ≤ prio ∧ prio ≤ 255 ∧ goodB now = true ∧ 0 ≤ now ∧ now ≤ 1099511627776 := by
  unfold argB at h
  rw [Bool.and_eq_true] at h
  have h1 := of_decide_eq_true h.1
  have h2 := of_decide_eq_true h.2
  exact ⟨h1.1, h1.2, h.2, h2.1, h2.2⟩
theorem Raw.c0 (h : Raw w g X bm v d ms cap age last) : w.cell? ⟨g, 0, none⟩ = some (.int .i64 (cap : Int)) := h.box.cell 0
theorem Raw.c1 (h : Raw w g X bm v d ms cap age last) : w.cell? ⟨g, 1, none⟩ = some (.int .i64 (age : Int)) := h.box.cell 1
theorem Raw.c2 (h : Raw w g X bm v d ms cap age last) : w.cell? ⟨g, 2, none⟩ = some (.int .i64 (last : Int)) := h.box.cell 2
theorem Raw.c4 (h : Raw w g X bm v d ms cap age last) : w.cell? ⟨g, 4, none⟩ = some (.map (some bm)) := h.box.cell 4
theorem Que.drewN (h : Que w g X s) (n : Nat) : Que (w.drewN n) g X s := h.below ⟨rfl, rfl, rfl, Nat.le_refl _, fun _ _ => rfl⟩
set_option maxHeartbeats 1000000 in
set_option maxRecDepth 100000 in
theorem put_full (h : Que w g X s) {id prio now : Int} (ha : argB prio now = true) (hf : s.cap ≤ s.xs.length) :
    Calls Try.prog 8 #[ptr g, .int .i64 id, .int .i64 prio, .int .i64 now] w fun e w' => e = .returned (.tuple #[.int .i64 0, .int .i64 8]) ∧ Below w.heap.size w w' := by
  obtain ⟨p0, p1, pg, _, _⟩ := argB_parts ha
  have HG := Lib.hid pg
  have HL := Lib.hid fun n => len_any (h.drewN n)
  obtain ⟨bm, v, d, ms, hH⟩ := h
  have m0 := hH.raw.c0
  have hd : decide (s.cap ≤ s.xs.length) = true := decide_eq_true hf
  clear hH pg ha
  unfold ptr
  unfold ptr at HL
  go_enter Try.func8, Try.ntmps8
  go_wp2_with (go_at_call 19; refine (good_yes _ HG.out).mono ?_; rintro e w' ⟨rfl, rfl⟩)
  go_quiet ((go_at_call 17; exact Calls.quiet_of_same (HL.out _)))
  go_wp2
  go_ret2
  exact ⟨rfl, rfl, rfl, rfl, Nat.le_refl _, fun _ _ => rfl⟩
theorem Raw.lastly (h : Raw w g X bm v d ms cap age last) (n : Nat) : Raw (w.setCell ⟨g, 2, none⟩ (.int .i64 (n : Int))) g X bm v d ms cap age n ∧ Keep X w (w.setCell ⟨g, 2, none⟩ (.int .i64 (n : Int))) := by
  have hg := setCell_only w g 2 (.int .i64 (n : Int))
  refine ⟨⟨h.box.put 2 _, h.row.kept hg (.inr h.rg), fun k hk => (h.ens k hk).grown hg (fun e => h.eg (nth_mem hk) (by injection e)), h.nd, ?_, h.xg, h.xm, h.xr, h.xe, fun i hi => Nat.lt_of_lt_of_le (h.xlt i hi) hg.size⟩, Keep.of_grown hg (fun i e => by injection e with e; exact e ▸ h.xg)⟩
  obtain ⟨es, h1, h2⟩ := h.map
  exact ⟨es, h1.kept hg (fun e => h.gm (by injection e with e; exact e.symm)), h2⟩
def wtOf (prio : Int) (age : Nat) (now : Int) : Int := prio * (age : Int) - now
def Qs.put (s : Qs) (id prio now : Int) : Qs := { s with last := s.last + 1, xs := s.xs ++ [⟨s.last + 1, id, wtOf prio s.age now⟩] }
theorem wt_bounds {prio now : Int} {age : Nat} (h0 : 0 ≤ prio) (h1 : prio ≤ 255) (ha : age ≤ 1048576) (n0 : 0 ≤ now) (n1 : now ≤ 1099511627776) : 0 ≤ prio * (age : Int) ∧ prio * (age : Int) ≤ 267386880 ∧ -1099511627776 ≤ wtOf prio age now ∧ wtOf prio age now ≤ 267386880 := by
  have a0 : (0 : Int) ≤ (age : Int) := by omega
  have b0 : 0 ≤ prio * (age : Int) := Int.mul_nonneg h0 a0
  have b1 : prio * (age : Int) ≤ 255 * (age : Int) := Int.mul_le_mul_of_nonneg_right h1 a0
  unfold wtOf
  refine ⟨b0, ?_, ?_, ?_⟩ <;> omega
theorem Qs.Ok.put (h : s.Ok) {id prio now : Int} (ha : argB prio now = true) (hf : s.xs.length < s.cap) : (s.put id prio now).Ok := by
  obtain ⟨p0, p1, _, n0, n1⟩ := argB_parts ha
  obtain ⟨_, _, b2, b3⟩ := wt_bounds p0 p1 h.age n0 n1
  refine ⟨?_, ?_, ?_, ?_, h.cap, h.age⟩
  · show (s.xs ++ [_]).Pairwise _
    rw [List.pairwise_append]
    refine ⟨h.rise, by simp, fun x hx y hy => ?_⟩
    rw [List.mem_singleton.1 hy]
    have := (h.pos x hx).2
    show x.h < s.last + 1
    omega
  · intro x hx
    show 1 ≤ x.h ∧ x.h ≤ s.last + 1
    rcases List.mem_append.1 hx with h1 | h1
    · have := h.pos x h1; omega
    · rw [List.mem_singleton.1 h1]; simp
  · intro x hx
    rcases List.mem_append.1 hx with h1 | h1
    · exact h.wts x h1
    · rw [List.mem_singleton.1 h1]; exact ⟨b2, by show wtOf prio s.age now ≤ _; omega⟩
  · show (s.xs ++ [_]).length ≤ s.cap
    simp; omega
set_option maxHeartbeats 4000000 in
set_option maxRecDepth 100000 in
theorem put_ok (h : Que w g X s) {id prio now : Int} (ha : argB prio now = true) (hf : s.xs.length < s.cap) (hl : s.last < 4611686018427387904) :
    Calls Try.prog 8 #[ptr g, .int .i64 id, .int .i64 prio, .int .i64 now] w fun e w' => e = .returned (.tuple #[.int .i64 ((s.last : Int) + 1), .int .i64 0]) ∧ Que w' g X (s.put id prio now) ∧ Keep X w w' := by
  obtain ⟨p0, p1, pg, n0, n1⟩ := argB_parts ha
  obtain ⟨b0, b1, b2, b3⟩ := wt_bounds p0 p1 h.ok.age n0 n1
  have hok' := h.ok.put (id := id) ha hf
  have HG := Lib.hid pg
  have HL := Lib.hid fun n => len_any (h.drewN n)
  obtain ⟨bm, v, d, ms, hH⟩ := h
  have m0 := hH.raw.c0
  have m2 := hH.raw.c2
  have f2 := hH.raw.box.frozen 2
  have hd : decide (s.cap ≤ s.xs.length) = false := decide_eq_false (by omega)
  have HH := Lib.hid hH
  clear hH pg ha
  unfold ptr
  unfold ptr at HL
  go_enter Try.func8, Try.ntmps8
  go_wp2_with (go_at_call 19; refine (good_yes _ HG.out).mono ?_; rintro e w' ⟨rfl, rfl⟩)
  go_quiet ((go_at_call 17; exact Calls.quiet_of_same (HL.out _)))
  go_wp2
  obtain ⟨hr1, hk1⟩ := (HH.out.raw.below (w' := w.drewN nq) ⟨rfl, rfl, rfl, Nat.le_refl _, fun _ _ => rfl⟩).lastly (s.last + 1)
  have hk1' : Keep X w ((w.drewN nq).setCell ⟨g, 2, none⟩ (.int .i64 ((s.last + 1 : Nat) : Int))) := ⟨hk1.os, hk1.tape, hk1.output, hk1.size, hk1.block⟩
  rw [show (((s.last + 1 : Nat) : Int)) = (s.last : Int) + 1 by omega] at hr1 hk1'
  clear hk1
  generalize ((w.drewN nq).setCell ⟨g, 2, none⟩ (.int .i64 ((s.last : Int) + 1))) = W1 at hr1 hk1' ⊢
  have k1 := hr1.c1
  have k2 := hr1.c2
  rw [show (((s.last + 1 : Nat) : Int)) = (s.last : Int) + 1 by omega] at k2
  have e1 : IntKind.i64.wrap (prio * (s.age : Int)) = prio * (s.age : Int) := IntWalk.i64_in _ (by omega)
  have e2 : IntKind.i64.wrap (prio * (s.age : Int) - now) = wtOf prio s.age now := IntWalk.i64_in _ (by unfold wtOf at b2 b3; omega)
  have hgl := hr1.box.lt
  clear m0 m2 f2 hd HL HG
  refine wp_region_still_tail 14 (by kernel_rfl) (by kernel_rfl) ?_
  simp only [List.take_succ_cons, List.take_zero, List.drop_succ_cons, List.drop_zero]
  change wpStill _ _ W1.drew _ _ _
  iterate 14 still_step
  refine wpStill_nil ?_
  have zl : (((s.last + 1 : Nat) : Int)) = (s.last : Int) + 1 := by omega
  have hlen := HH.out.small
  have hml := HH.out.mlen
  have hP := heappush_any (w := (W1.alloc (.cells #[.int .i64 id, .int .i64 ((s.last : Int) + 1), .int .i64 (wtOf prio s.age now), .int .i64 0] 60)).drew)
    (hr1.below (((Below.refl _ W1).alloc (Nat.le_refl _) _).drew)) HH.out.hp (e := ⟨W1.heap.size, id, s.last + 1, wtOf prio s.age now⟩) (p := .int .i64 0)
    (by rw [zl]; exact (Box.new W1 60 #[.int .i64 id, .int .i64 ((s.last : Int) + 1), .int .i64 (wtOf prio s.age now), .int .i64 0]).drewN 1)
    (fun y hy => by obtain ⟨k, _, _, hb⟩ := hr1.ek hy; have := hb.lt; show y.b ≠ W1.heap.size; omega) (fun hx => by have := hr1.xlt _ hx; exact absurd this (Nat.lt_irrefl _)) (by omega)
  unfold hpv ptr at hP
  have hkp : Keep X W1 ((W1.alloc (.cells #[.int .i64 id, .int .i64 ((s.last : Int) + 1), .int .i64 (wtOf prio s.age now), .int .i64 0] 60)).drew) := Keep.of_below (((Below.refl _ W1).alloc (Nat.le_refl _) _).drew)
  have HP := Lib.hid hP
  have HKP := Lib.hid (hk1'.trans hkp)
  clear hP hkp hk1' k1 k2 e1 e2 hr1 zl
  go_wp2_with (go_at_call 20; refine HP.out.mono ?_; rintro E W3 ⟨rfl, v', d', hp', hh', hT'⟩)
  have zl : (((s.last + 1 : Nat) : Int)) = (s.last : Int) + 1 := by omega
  have hx' : (⟨W1.heap.size, id, s.last + 1, wtOf prio s.age now⟩ : En) ∈ d' := hp'.mem_iff.2 (by simp)
  obtain ⟨kx, _, _, hbx⟩ := hT'.1.ek hx'
  have q4 := hT'.1.c4
  have q1 : W3.cell? ⟨W1.heap.size, 1, none⟩ = some (.int .i64 ((s.last : Int) + 1)) := by
    have h1 := hbx.cell 1
    simp only [En.cells, zl] at h1
    exact h1
  have hnew : ∀ p ∈ ms, (p.1 : Int) ≠ ((s.last + 1 : Nat) : Int) := fun p hp => by
    obtain ⟨y, hy, rfl⟩ := List.mem_map.1 (HH.out.ms.mem_iff.1 hp)
    have := (HH.out.ok.pos _ (HH.out.mem hy)).2
    show (y.h : Int) ≠ _
    have : y.h ≤ s.last := this
    omega
  obtain ⟨W4, hrun, hT4, ht4⟩ := hT'.1.drew.mput (k := s.last + 1) (b := W1.heap.size) (by omega) hnew (by omega)
  have r1 : W4.cell? ⟨W1.heap.size, 1, none⟩ = some (.int .i64 ((s.last : Int) + 1)) := by
    obtain ⟨kx, _, _, hbx⟩ := hT4.1.ek hx'
    have h1 := hbx.cell 1
    simp only [En.cells, zl] at h1
    exact h1
  rw [zl] at hrun
  unfold ptr at hrun
  have HT4 := Lib.hid hT4
  have HT3 := Lib.hid hT'
  have Hp := Lib.hid hp'
  have Hh := Lib.hid hh'
  clear hT4 hT' hp' hh' ht4 hbx hnew hx' zl hml hlen
  refine wp_region_still_tail 9 (by kernel_rfl) (by kernel_rfl) ?_
  simp only [List.take_succ_cons, List.take_zero, List.drop_succ_cons, List.drop_zero]
  change wpStill _ _ W3.drew _ _ _
  iterate 9 still_step
  refine wpStill_nil ?_
  go_wp2
  go_ret2
  refine ⟨rfl, ⟨bm, v', d', ms ++ [(s.last + 1, W1.heap.size)], HT4.out.1, ?_, Hh.out, ?_, hok'⟩, (HKP.out.trans HT3.out.2).trans ⟨HT4.out.2.os, HT4.out.2.tape, HT4.out.2.output, HT4.out.2.size, HT4.out.2.block⟩⟩
  · refine (List.Perm.append HH.out.ms (List.Perm.refl _)).trans ?_
    have := (Hp.out.map fun x => (x.h, x.b)).symm
    rw [List.map_append] at this
    exact this
  · refine (Hp.out.map En.e).trans ?_
    rw [List.map_append]
    exact List.Perm.append HH.out.pm (List.Perm.refl _)
end
end Go.Proofs.Ytkfkjpabollaoaa
