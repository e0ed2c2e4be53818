/-
  What letGo, Take, Remove and Weight answer, and the queue then.
  Conditions: the queue is one; handles that are asked for are ints of 64 bits.
-/
import Derived.Test.YtkfkjpabollaoaaRdyRem
import Derived.Test.YtkfkjpabollaoaaRdyPut
namespace Go.Proofs.Ytkfkjpabollaoaa
open Go.RowKit Go.Maps

/-- without the entry of a handle -/
def Qs.drop (s : Qs) (h : Nat) : Qs := { s with xs := s.xs.filter fun x => decide (x.h ≠ h) }
theorem Qs.Ok.drop {s : Qs} (h : s.Ok) (k : Nat) : (s.drop k).Ok :=
  ⟨h.rise.filter _, fun x hx => h.pos x ((List.mem_filter.1 hx).1), fun x hx => h.wts x ((List.mem_filter.1 hx).1), Nat.le_trans (List.length_filter_le _ _) h.len, h.cap, h.age⟩
section
variable {w : World} {g bm : Nat} {X : Nat → Prop} {s : Qs} {v : Value} {d : List En} {ms : List (Nat × Nat)} {cap age last : Nat}
theorem Held.dropped (h : Held w g X s bm v d ms) {w2 : World} {x : En} {v' : Value} {d' : List En} (hp : (x :: d').Perm d) (hh : Heap d' d'.length) (hR : Raw w2 g X bm v' d' (delM ms (x.h : Int)) s.cap s.age s.last) : Held w2 g X (s.drop x.h) bm v' d' (delM ms (x.h : Int)) := by
  have hnd : ((x :: d').map En.h).Nodup := (hp.map En.h).nodup_iff.2 h.hnd
  rw [List.map_cons, List.nodup_cons] at hnd
  have hne : ∀ y ∈ d', y.h ≠ x.h := fun y hy e => hnd.1 (List.mem_map.2 ⟨y, hy, e⟩)
  refine ⟨hR, ?_, hh, ?_, h.ok.drop _⟩
  · have h1 := (h.ms.trans (hp.map fun x => (x.h, x.b)).symm).filter fun p => decide ((p.1 : Int) ≠ (x.h : Int))
    rw [List.map_cons, List.filter_cons_of_neg (by simp)] at h1
    have e1 : (d'.map fun x => (x.h, x.b)).filter (fun p => decide ((p.1 : Int) ≠ (x.h : Int))) = d'.map fun x => (x.h, x.b) := List.filter_eq_self.2 fun p hp => by
      obtain ⟨y, hy, rfl⟩ := List.mem_map.1 hp
      have := hne y hy
      exact decide_eq_true (by show (y.h : Int) ≠ _; omega)
    rw [e1] at h1
    exact h1
  · have h1 := ((hp.map En.e).trans h.pm).filter fun y => decide (y.h ≠ x.h)
    rw [List.map_cons, List.filter_cons_of_neg (by simp [En.e])] at h1
    have e1 : (d'.map En.e).filter (fun y => decide (y.h ≠ x.h)) = d'.map En.e := List.filter_eq_self.2 fun p hp => by
      obtain ⟨y, hy, rfl⟩ := List.mem_map.1 hp
      exact decide_eq_true (hne y hy)
    rw [e1] at h1
    exact h1.trans (List.Perm.refl _)
/-- what letGo leaves: the queue without x, x's block as it was but for its place -/
def LetGo (w : World) (g : Nat) (X : Nat → Prop) (s : Qs) (x : En) (w' : World) : Prop := Que w' g X (s.drop x.h) ∧ Keep X w w' ∧ ∃ k, Box w' x.b 60 (x.cells k)
set_option maxHeartbeats 4000000 in
set_option maxRecDepth 100000 in
theorem letgo_any (h : Held w g X s bm v d ms) {i : Nat} (hi : i < d.length) (hl : s.last < 4611686018427387905) :
    Calls Try.prog 21 #[ptr g, .int .i64 (i : Int)] w fun E w' => E = .returned (ptr (nth d i).b) ∧ LetGo w g X s (nth d i) w' := by
  obtain ⟨n, hn⟩ : ∃ n, d.length = n + 1 := ⟨d.length - 1, by omega⟩
  obtain ⟨r, c, rfl, hc, _⟩ := h.raw.live (by omega)
  have hsm := h.small
  have hR := h.raw
  have ho := h.hp
  rw [hn] at hR ho
  have hrem := heaprem_any (i := i) hR hn ho (by omega) (by omega)
  have hxl := (h.ok.pos _ (h.mem (nth_mem hi))).2
  have hxl' : (nth d i).h ≤ s.last := hxl
  have HR := Lib.hid hrem
  have HH := Lib.hid h
  generalize nth d i = x at HR hxl' ⊢
  clear hrem h hR ho hxl
  unfold ptr
  unfold hpv ptr at HR
  have ta := fun w => assertE (.pointer (some ⟨x.b, 0, none⟩)) w
  go_enter Try.func21, Try.ntmps21
  go_wp2_with (go_at_call 26; (with_reducible refine HR.out.mono ?_); rintro e w1 ⟨rfl, hg⟩)
  obtain ⟨v', d', hp, hh, ⟨hR1, hK1⟩, k, hB⟩ := hg
  have m4 := hR1.c4
  have x1 : w1.cell? ⟨x.b, 1, none⟩ = some (.int .i64 (x.h : Int)) := hB.cell 1
  obtain ⟨w2, u, hrun0, hT2, ht2⟩ := hR1.drew.mdel (x := (x.h : Int)) (by omega) (by omega) 0
  have hxm : x.b ≠ bm := fun e1 => by
    obtain ⟨es, c, h1⟩ := hR1.mblk
    unfold Box at hB
    rw [e1, h1] at hB
    cases hB
  have hB2 : Box w2 x.b 60 (x.cells k) := (hB.drewN 1).grown ht2.grown (fun e => hxm (by injection e))
  have hHd := HH.out.dropped hp hh hT2.1
  have HF := Lib.hid (show LetGo w g X s x w2 from ⟨⟨bm, v', d', _, hHd⟩, hK1.trans ⟨hT2.2.os, hT2.2.tape, hT2.2.output, hT2.2.size, hT2.2.block⟩, k, hB2⟩)
  clear hHd hB2 hxm hT2 ht2 hR1 hK1 hB hp hh
  refine wp_region_still_tail 8 (by kernel_rfl) (by kernel_rfl) ?_
  simp only [List.take_succ_cons, List.take_zero, List.drop_succ_cons, List.drop_zero]
  change wpStill _ _ w1.drew _ _ _
  iterate 8 still_step
  refine wpStill_nil ?_
  go_wp2
  go_ret
  exact ⟨rfl, HF.out⟩
theorem take_none (h : Que w g X s) (hx : s.xs = []) : Calls Try.prog 10 #[ptr g] w fun e w' => e = .returned (.tuple #[.int .i64 0, .int .i64 0, .bool false]) ∧ w' = w := by
  have hl := len_any h
  rw [hx] at hl
  have HL := Lib.hid hl
  clear hl
  unfold ptr
  unfold ptr at HL
  go_enter Try.func10, Try.ntmps10
  go_wp2_with (go_at_call 17; refine HL.out.mono ?_; rintro e w' ⟨rfl, rfl⟩)
  refine bodyPost_ret (v := .tuple #[.int .i64 0, .int .i64 0, .bool false]) (by simp [results, Try.results10, go_sem]) rfl ⟨rfl, rfl⟩
def TakeEnd (w : World) (g : Nat) (X : Nat → Prop) (s : Qs) (e : Ending) (w' : World) : Prop :=
  ∃ x, FirstOf s.xs x ∧ e = .returned (.tuple #[.int .i64 x.id, .int .i64 (x.h : Int), .bool true]) ∧ Que w' g X (s.drop x.h) ∧ Keep X w w'
set_option maxHeartbeats 1000000 in
set_option maxRecDepth 100000 in
theorem take_some (h : Que w g X s) (hx : s.xs ≠ []) (hlast : s.last < 4611686018427387905) : Calls Try.prog 10 #[ptr g] w (TakeEnd w g X s) := by
  have HL := Lib.hid (len_any h)
  obtain ⟨bm, v, d, ms, hH⟩ := h
  obtain ⟨hl, hf⟩ := hH.first hx
  have hne : ((s.xs.length : Int) == 0) = false := by rw [beq_eq_false_iff_ne]; rw [hH.dlen] at hl; omega
  have hg := letgo_any hH hl hlast
  have HG := Lib.hid hg
  have HF := Lib.hid hf
  generalize nth d 0 = x at HG HF
  clear hH hf hx hg
  unfold ptr
  unfold ptr at HL HG
  go_enter Try.func10, Try.ntmps10
  go_wp2_with (first
    | (go_at_call 17; refine HL.out.mono ?_; rintro e w' ⟨rfl, rfl⟩)
    | (go_at_call 21; refine HG.out.mono ?_; rintro e w1 ⟨rfl, hq, hk, k, hB⟩; have x0 : w1.cell? ⟨x.b, 0, none⟩ = some (.int .i64 x.e.id) := hB.cell 0; have x1 : w1.cell? ⟨x.b, 1, none⟩ = some (.int .i64 (x.e.h : Int)) := hB.cell 1; have HQ := Lib.hid hq; clear hB hq))
  go_quiet (fail)
  go_wp2
  exact bodyPost_ret (v := .tuple #[.int .i64 x.e.id, .int .i64 (x.e.h : Int), .bool true]) (by simp [results, Try.results10, go_sem]) rfl ⟨x.e, HF.out, rfl, HQ.out.drewN _, hk.drewN _⟩
/-- no entry has that handle -/
def NoH (s : Qs) (x : Int) : Prop := ∀ y ∈ s.xs, (y.h : Int) ≠ x
theorem Held.look_no (h : Held w g X s bm v d ms) {x : Int} (hx : NoH s x) (h0 : -9223372036854775808 ≤ x) (h1 : x ≤ 9223372036854775807) :
    (Instr.lookup 53 (.map (some bm)) (.int .i64 x) true).run Try.prog w = .ok (.tuple #[.pointer none, .bool false]) w := by
  have := h.raw.look h.mnd h0 h1
  rw [not_handle (fun p hp => by
    obtain ⟨y, hy, rfl⟩ := List.mem_map.1 (h.ms.mem_iff.1 hp)
    exact hx _ (h.mem hy))] at this
  exact this
theorem Held.look_yes (h : Held w g X s bm v d ms) {y : E} (hy : y ∈ s.xs) (h1 : (y.h : Int) ≤ 9223372036854775807) : ∃ k, k < d.length ∧ (nth d k).e = y ∧
    (Instr.lookup 53 (.map (some bm)) (.int .i64 (y.h : Int)) true).run Try.prog w = .ok (.tuple #[ptr (nth d k).b, .bool true]) w := by
  obtain ⟨z, hz, rfl⟩ := List.mem_map.1 (h.pm.mem_iff.2 hy)
  obtain ⟨k, hk, rfl⟩ := mem_nth hz
  refine ⟨k, hk, rfl, ?_⟩
  have := h.raw.look h.mnd (x := ((nth d k).e.h : Int)) (by omega) h1
  have e : lookM ms ((nth d k).e.h : Int) = some (nth d k).b := lookM_of h.mnd (h.ms.mem_iff.2 (List.mem_map.2 ⟨_, hz, rfl⟩))
  rw [e] at this
  exact this
set_option maxHeartbeats 400000 in
theorem weight_no (h : Que w g X s) {x : Int} (hx : NoH s x) (h0 : -9223372036854775808 ≤ x) (h1 : x ≤ 9223372036854775807) :
    Calls Try.prog 13 #[ptr g, .int .i64 x] w fun e w' => e = .returned (.tuple #[.int .i64 0, .bool false]) ∧ w' = w := by
  obtain ⟨bm, v, d, ms, hH⟩ := h
  have m4 := hH.raw.c4
  have hl := hH.look_no hx h0 h1
  clear hH hx
  unfold ptr
  go_enter Try.func13, Try.ntmps13
  go_wp2
  go_ret2
  exact ⟨rfl, rfl⟩
set_option maxHeartbeats 400000 in
theorem weight_yes (h : Que w g X s) {y : E} (hy : y ∈ s.xs) (hlast : s.last < 4611686018427387905) :
    Calls Try.prog 13 #[ptr g, .int .i64 (y.h : Int)] w fun e w' => e = .returned (.tuple #[.int .i64 y.wt, .bool true]) ∧ w' = w := by
  have hb := (h.ok.pos y hy).2
  obtain ⟨bm, v, d, ms, hH⟩ := h
  have m4 := hH.raw.c4
  obtain ⟨k, hk, hek, hl⟩ := hH.look_yes hy (by omega)
  have x2 : w.cell? ⟨(nth d k).b, 2, none⟩ = some (.int .i64 (nth d k).e.wt) := hH.raw.ecell hk 2
  rw [hek] at x2
  unfold ptr at hl
  generalize (nth d k).b = b at hl x2
  clear hH hek hy
  unfold ptr
  go_enter Try.func13, Try.ntmps13
  go_wp2
  go_ret2
  exact ⟨rfl, rfl⟩
set_option maxHeartbeats 400000 in
theorem remove_no (h : Que w g X s) {x : Int} (hx : NoH s x) (h0 : -9223372036854775808 ≤ x) (h1 : x ≤ 9223372036854775807) :
    Calls Try.prog 14 #[ptr g, .int .i64 x] w fun e w' => e = .returned (.bool false) ∧ w' = w := by
  obtain ⟨bm, v, d, ms, hH⟩ := h
  have m4 := hH.raw.c4
  have hl := hH.look_no hx h0 h1
  clear hH hx
  unfold ptr
  go_enter Try.func14, Try.ntmps14
  go_wp2
  go_ret
  exact ⟨rfl, rfl⟩
set_option maxHeartbeats 400000 in
theorem remove_yes (h : Que w g X s) {y : E} (hy : y ∈ s.xs) (hlast : s.last < 4611686018427387905) :
    Calls Try.prog 14 #[ptr g, .int .i64 (y.h : Int)] w fun e w' => e = .returned (.bool true) ∧ Que w' g X (s.drop y.h) ∧ Keep X w w' := by
  have hb := (h.ok.pos y hy).2
  obtain ⟨bm, v, d, ms, hH⟩ := h
  have m4 := hH.raw.c4
  obtain ⟨k, hk, hek, hl⟩ := hH.look_yes hy (by omega)
  have x3 : w.cell? ⟨(nth d k).b, 3, none⟩ = some (.int .i64 (k : Int)) := hH.raw.ecell hk 3
  have HG := Lib.hid (letgo_any hH hk hlast)
  have hh : (nth d k).h = y.h := by rw [← hek]; rfl
  have HE := Lib.hid hh
  unfold ptr at hl HG
  generalize nth d k = x at hl x3 HG HE
  clear hH hek hy hh
  unfold ptr
  go_enter Try.func14, Try.ntmps14
  go_wp2_with (go_at_call 21; refine HG.out.mono ?_; rintro e w1 ⟨rfl, hq, hk, _⟩; rw [HE.out] at hq; have HQ := Lib.hid hq; clear hq)
  go_ret
  exact ⟨rfl, HQ.out, hk⟩
end
end Go.Proofs.Ytkfkjpabollaoaa
