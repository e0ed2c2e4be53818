/-
  What Set answers: an error, or the next handle, and the wheel then.
  Conditions: the wheel is one; its greatest handle is below 2^62.
-/
import Derived.Test.YtobodianbjfgfaaWhlState
namespace Go.Proofs.Ytobodianbjfgfaa.Wh
open Go.RowKit Go.Maps

section
variable {w w' : World} {g bm : Nat} {X : Nat → Prop} {s : Ws} {lev : Nat → Option Nat} {rv : Nat → Nat → Value} {ct : Nat → Nat → List En} {ms : List (Nat × Nat)} {d : List En}
theorem len_same (h : Whl w g X s) (n : Nat) : Calls Try.prog 19 #[ptr g] (w.drewN n) fun e w' => e = .returned (.int .i64 (s.xs.length : Int)) ∧ w' = w.drewN n := (len_any (h.drewN n)).mono fun _ _ ⟨h1, h2⟩ => ⟨h1, h2.symm⟩
set_option maxHeartbeats 400000 in
theorem set_arg (g : Nat) (id at_ : Int) (w : World) (h : goodB at_ = false) :
    Calls Try.prog 9 #[ptr g, .int .i64 id, .int .i64 at_] w fun e w' => e = .returned (.tuple #[.int .i64 0, .int .i64 1]) ∧ w = w' := by
  have HG := Lib.hid h
  clear h
  unfold ptr
  go_enter Try.func9, Try.ntmps9
  go_wp2_with (go_at_call 21; refine (good_no _ HG.out).mono ?_; rintro e w' ⟨rfl, rfl⟩)
  go_ret2
  exact ⟨rfl, rfl⟩
set_option maxHeartbeats 1000000 in
set_option maxRecDepth 100000 in
theorem set_full (h : Whl w g X s) {id at_ : Int} (ha : goodB at_ = true) (hf : s.cap ≤ s.xs.length) :
    Calls Try.prog 9 #[ptr g, .int .i64 id, .int .i64 at_] w fun e w' => e = .returned (.tuple #[.int .i64 0, .int .i64 8]) ∧ ∃ n, w' = w.drewN n := by
  have HG := Lib.hid ha
  have HL := Lib.hid (len_same h)
  obtain ⟨bm, lev, rv, ct, ms, d, hH⟩ := h
  have m0 := hH.raw.c0
  have hd : decide (s.cap ≤ s.xs.length) = true := decide_eq_true hf
  clear hH ha
  unfold ptr
  unfold ptr at HL
  go_enter Try.func9, Try.ntmps9
  go_wp2_with (go_at_call 21; refine (good_yes _ HG.out).mono ?_; rintro e w' ⟨rfl, rfl⟩)
  go_quiet ((go_at_call 19; exact Calls.quiet_of_same (HL.out _)))
  go_wp2
  go_ret2
  exact ⟨rfl, _, rfl⟩
/-- the tick at which a timer that is set at a is due -/
def dueAt (now a : Nat) : Nat := max a (min (now + 1) 1099511627776)
theorem dueAt_le {now a : Nat} (ha : a ≤ 1099511627776) : dueAt now a ≤ 1099511627776 := by unfold dueAt; omega
theorem dueAt_gt {now a : Nat} (hn : now ≤ 1099511627776) (ha : a ≤ 1099511627776) : now < dueAt now a ∨ now = 1099511627776 ∧ dueAt now a = 1099511627776 := by unfold dueAt; omega
theorem add_one {now : Nat} (hn : now ≤ 1099511627776) : addT (now : Int) 1 = ((min (now + 1) 1099511627776 : Nat) : Int) := by
  unfold addT
  rw [ofT_id (n := (now : Int)) (by omega) (by omega), ofT_id (n := 1) (by omega) (by omega)]
  unfold ofT
  repeat' split
  all_goals omega
def Ws.set (s : Ws) (id : Int) (a : Nat) : Ws := { s with last := s.last + 1, xs := s.xs ++ [⟨s.last + 1, id, dueAt s.now a⟩] }
theorem Ws.Ok.set (h : s.Ok) (id : Int) {a : Nat} (ha : a ≤ 1099511627776) (hf : s.xs.length < s.cap) : (s.set id a).Ok := by
  refine ⟨?_, ?_, ?_, ?_, h.cap, h.now⟩
  · show (s.xs ++ [_]).Pairwise _
    rw [List.pairwise_append]
    refine ⟨h.rise, by simp, fun x hx y hy => ?_⟩
    rw [List.mem_singleton.1 hy]
    have := (h.pos x hx).2
    show x.h < s.last + 1
    omega
  · intro x hx
    rcases List.mem_append.1 hx with h1 | h1
    · have := h.pos x h1
      show 1 ≤ x.h ∧ x.h ≤ s.last + 1
      omega
    · rw [List.mem_singleton.1 h1]
      show 1 ≤ s.last + 1 ∧ s.last + 1 ≤ s.last + 1
      omega
  · intro x hx
    rcases List.mem_append.1 hx with h1 | h1
    · exact h.due x h1
    · rw [List.mem_singleton.1 h1]
      exact ⟨dueAt_le ha, dueAt_gt h.now ha⟩
  · show (s.xs ++ [_]).length ≤ s.cap
    rw [List.length_append]
    simp
    omega
set_option maxHeartbeats 4000000 in
set_option maxRecDepth 100000 in
theorem set_ok (h : Whl w g X s) {id : Int} {a : Nat} (ha : a ≤ 1099511627776) (hf : s.xs.length < s.cap) (hlast : s.last < 4611686018427387904) :
    Calls Try.prog 9 #[ptr g, .int .i64 id, .int .i64 (a : Int)] w fun e w' => e = .returned (.tuple #[.int .i64 ((s.last : Int) + 1), .int .i64 0]) ∧ Whl w' g X (s.set id a) ∧ Keep X w w' := by
  have hok' := h.ok.set id ha hf
  have HG : Hid (goodB (a : Int) = true) := decide_eq_true (by omega)
  have HL := Lib.hid (len_same h)
  obtain ⟨bm, lev, rv, ct, ms, d, hH⟩ := h
  have m0 := hH.raw.c0
  have m2 := hH.raw.c2
  have f2 := hH.raw.box.frozen 2
  have hd : decide (s.cap ≤ s.xs.length) = false := decide_eq_false (by omega)
  have hnow := hH.ok.now
  have HH := Lib.hid hH
  have HO := Lib.hid hok'
  clear hH hok'
  unfold ptr
  unfold ptr at HL
  go_enter Try.func9, Try.ntmps9
  go_wp2_with (go_at_call 21; refine (good_yes _ HG.out).mono ?_; rintro e w' ⟨rfl, rfl⟩)
  go_quiet ((go_at_call 19; exact Calls.quiet_of_same (HL.out _)))
  go_wp2
  obtain ⟨hr1, hk1⟩ := (HH.out.raw.drewN nq).self 2 (.int .i64 ((s.last + 1 : Nat) : Int)) (wcells_last s.cap s.now s.last (s.last + 1) lev bm)
  have hk1' : Keep X w ((w.drewN nq).setCell ⟨g, 2, none⟩ (.int .i64 ((s.last + 1 : Nat) : Int))) := ⟨hk1.os, hk1.tape, hk1.output, hk1.size, hk1.block⟩
  rw [show (((s.last + 1 : Nat) : Int)) = (s.last : Int) + 1 by omega] at hr1 hk1'
  clear hk1
  generalize ((w.drewN nq).setCell ⟨g, 2, none⟩ (.int .i64 ((s.last : Int) + 1))) = W1 at hr1 hk1' ⊢
  have k1 := hr1.c1
  have k2 := hr1.c2
  rw [show (((s.last + 1 : Nat) : Int)) = (s.last : Int) + 1 by omega] at k2
  have hgl := hr1.box.lt
  have H1 := add_any (s.now : Int) 1 W1.drew
  rw [add_one hnow] at H1
  have hdue : max (a : Int) ((min (s.now + 1) 1099511627776 : Nat) : Int) = ((dueAt s.now a : Nat) : Int) := by unfold dueAt; omega
  obtain ⟨dd, hdd⟩ : ∃ dd, dd = dueAt s.now a := ⟨_, rfl⟩
  have hddl : dd ≤ 1099511627776 := by rw [hdd]; exact dueAt_le ha
  rw [← hdd] at hdue
  have HDD := Lib.hid hdd
  generalize min (s.now + 1) 1099511627776 = n1 at H1 hdue
  have H1' := Lib.hid (H1.mono fun e w' ⟨h3, h4⟩ => (⟨h3, h4.symm⟩ : e = Ending.returned (.int .i64 (n1 : Int)) ∧ w' = W1.drew))
  clear m0 m2 f2 hd HL HG H1 hdd
  refine wp_region_still_tail 14 (by kernel_rfl) (by kernel_rfl) ?_
  simp only [List.take_succ_cons, List.take_zero, List.drop_succ_cons, List.drop_zero]
  change wpStill _ _ W1.drew _ _ _
  iterate 10 still_step
  still_call H1'.out
  iterate 3 still_step
  refine wpStill_nil ?_
  go_wp2
  have zl : (((s.last + 1 : Nat) : Int)) = (s.last : Int) + 1 := by omega
  obtain ⟨x, hx⟩ : ∃ x : En, x = ⟨W1.heap.size, s.last + 1, id, dd⟩ := ⟨_, rfl⟩
  have hxb : x.b = W1.heap.size := by rw [hx]
  have hxh : x.h = s.last + 1 := by rw [hx]
  have hxd : x.due = dd := by rw [hx]
  have hxt : x.t = ⟨s.last + 1, id, dd⟩ := by rw [hx]; rfl
  have hr2 := hr1.below (((Below.refl _ W1).alloc (Nat.le_refl _) (.cells #[.int .i64 ((s.last : Int) + 1), .int .i64 id, .int .i64 (dd : Int), .int .i64 0] 61)).drew)
  have hbx : Box ((W1.alloc (.cells #[.int .i64 ((s.last : Int) + 1), .int .i64 id, .int .i64 (dd : Int), .int .i64 0] 61)).drew) W1.heap.size 61 #[.int .i64 ((s.last : Int) + 1), .int .i64 id, .int .i64 (dd : Int), .int .i64 0] := (Box.new W1 _ _).drewN 1
  have hkp : Keep X W1 ((W1.alloc (.cells #[.int .i64 ((s.last : Int) + 1), .int .i64 id, .int .i64 (dd : Int), .int .i64 0] 61)).drew) := Keep.of_below (((Below.refl _ W1).alloc (Nat.le_refl _) _).drew)
  have hnx : ¬ X W1.heap.size := fun hx => by have := hr1.xlt _ hx; exact absurd this (Nat.lt_irrefl _)
  have hno : ∀ k j, In k j → ∀ y ∈ ct k j, y.b ≠ W1.heap.size := fun k j hk y hy => by obtain ⟨cs, hc⟩ := hr1.ebox hk hy; have := hc.lt; omega
  generalize (W1.alloc (.cells #[.int .i64 ((s.last : Int) + 1), .int .i64 id, .int .i64 (dd : Int), .int .i64 0] 61)).drew = W2 at *
  generalize W1.heap.size = xb at *
  have q0 : W2.cell? ⟨xb, 0, none⟩ = some (.int .i64 ((s.last : Int) + 1)) := hbx.cell 0
  have q7 := hr2.c7
  have hnew : ∀ p ∈ ms, (p.1 : Int) ≠ ((s.last + 1 : Nat) : Int) := fun p hp => by
    obtain ⟨y, hy, rfl⟩ := List.mem_map.1 (HH.out.ms.mem_iff.1 hp)
    have := (HH.out.ok.pos _ (HH.out.mem hy)).2
    have : y.h ≤ s.last := this
    show (y.h : Int) ≠ _
    omega
  have hml := HH.out.mlen
  have hsl := HH.out.ok.len
  have hcp := HH.out.ok.cap
  obtain ⟨W4, hrun, hM4, ht4⟩ := hr2.drew.mput (k := s.last + 1) (b := xb) (by omega) hnew (by omega)
  have hxm : xb ≠ bm := by
    obtain ⟨es, n, hm⟩ := hr2.mblk
    exact map_ne hbx hm
  have hbx4 : Box W4 xb _ _ := (hbx.drewN 1).grown ht4.grown (fun e => hxm (by injection e))
  have hlone : Lone W4 x := ⟨.int .i64 0, by rw [hxb, hxh, hxd, zl]; rw [hx]; exact hbx4⟩
  rw [← hxb] at hnx hno
  have HPU := Lib.hid (put_any hM4.1 hnow hlone (by omega) hno hnx HH.out.rsmall)
  have hKW : Keep X w W4 := hk1'.trans (hkp.trans ⟨hM4.2.os, hM4.2.tape, hM4.2.output, hM4.2.size, hM4.2.block⟩)
  have r0 : ∀ w', PutAt W4 g X bm rv ct (ms ++ [(s.last + 1, xb)]) s.cap s.now (s.last + 1) x (lvl s.now x.due) (dig (lvl s.now x.due) x.due) w' → w'.cell? ⟨xb, 0, none⟩ = some (.int .i64 ((s.last : Int) + 1)) ∧ Whl w' g X (s.set id a) ∧ Keep X w w' := fun w' ⟨lev', v', hR, hK⟩ => by
    have hin : In (lvl s.now x.due) (dig (lvl s.now x.due) x.due) := ⟨lvl_lt _ _, dig_lt _ _⟩
    refine ⟨?_, ⟨bm, lev', _, _, _, d ++ [x], hR, HH.out.std.push x, ?_, ?_, HO.out⟩, hKW.trans hK⟩
    · obtain ⟨i, _, _, hB⟩ := hR.ek hin (x := x) (by rw [upd_same]; simp)
      have := hB.cell 0
      rw [hxb] at this
      rw [this]
      simp only [En.cells, hxh, zl]
      rfl
    · rw [List.map_append]
      refine HH.out.ms.append (List.Perm.of_eq ?_)
      simp [hb, hxh, hxb]
    · rw [List.map_append, HH.out.xs]
      simp only [List.map_cons, List.map_nil, hxt, Ws.set]
      rw [HDD.out]
  have HR0 := Lib.hid r0
  rw [zl] at hrun
  rw [hxb] at HPU
  unfold ptr at hrun HPU
  clear hr1 hk1' hr2 hbx hkp hnx hno hM4 ht4 hxm hbx4 hlone hKW r0 hnew hx hxb hxh hxd hxt hdue H1' k1 k2 zl hml
  refine wp_region_still_tail 10 (by kernel_rfl) (by kernel_rfl) ?_
  simp only [List.take_succ_cons, List.take_zero, List.drop_succ_cons, List.drop_zero]
  change wpStill _ _ W2.drew _ _ _
  iterate 10 still_step
  refine wpStill_nil ?_
  go_wp2_with (go_at_call 24; refine HPU.out.mono ?_; rintro e W5 ⟨rfl, hp⟩
               obtain ⟨r0, r1⟩ := HR0.out _ hp
               have HF := Lib.hid r1
               clear hp r1)
  go_ret2
  exact ⟨rfl, HF.out⟩
end
end Go.Proofs.Ytobodianbjfgfaa.Wh
