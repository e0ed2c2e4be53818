/-
  What Due, Cancel and Next answer, and the wheel behind a Cancel.
  Conditions: the wheel is one; handles that are asked for are ints of 64 bits; its greatest handle is below 2^62.
-/
import Derived.Test.YtobodianbjfgfaaWhlSet
namespace Go.Proofs.Ytobodianbjfgfaa.Wh
open Go.RowKit Go.Maps

/-- no timer has that handle -/
def NoH (s : Ws) (x : Int) : Prop := ∀ y ∈ s.xs, (y.h : Int) ≠ x
def Ws.drop (s : Ws) (h : Nat) : Ws := { s with xs := s.xs.filter fun x => decide (x.h ≠ h) }
theorem Ws.Ok.drop {s : Ws} (h : s.Ok) (k : Nat) : (s.drop k).Ok :=
  ⟨h.rise.filter _, fun x hx => h.pos x ((List.mem_filter.1 hx).1), fun x hx => h.due x ((List.mem_filter.1 hx).1), Nat.le_trans (List.length_filter_le _ _) h.len, h.cap, h.now⟩
section
variable {w w' : World} {g bm : Nat} {X : Nat → Prop} {s : Ws} {lev : Nat → Option Nat} {rv : Nat → Nat → Value} {ct : Nat → Nat → List En} {ms : List (Nat × Nat)} {d : List En}
theorem Held.look_no (h : Held w g X s bm lev rv ct ms d) {x : Int} (hx : NoH s x) (h0 : -9223372036854775808 ≤ x) (h1 : x ≤ 9223372036854775807) :
    (Instr.lookup 53 (.map (some bm)) (.int .i64 x) true).run Try.prog w = .ok (.tuple #[.pointer none, .bool false]) w := by
  have := h.raw.look h.mnd h0 h1
  rw [not_handle (fun p hp => by
    obtain ⟨y, hy, rfl⟩ := List.mem_map.1 (h.ms.mem_iff.1 hp)
    exact hx _ (h.mem hy))] at this
  exact this
theorem Held.look_yes (h : Held w g X s bm lev rv ct ms d) {y : T} (hy : y ∈ s.xs) (h1 : (y.h : Int) ≤ 9223372036854775807) : ∃ x ∈ d, x.t = y ∧
    (Instr.lookup 53 (.map (some bm)) (.int .i64 (y.h : Int)) true).run Try.prog w = .ok (.tuple #[ptr x.b, .bool true]) w := by
  obtain ⟨x, hx, rfl⟩ := h.of hy
  refine ⟨x, hx, rfl, ?_⟩
  have := h.raw.look h.mnd (x := (x.t.h : Int)) (by omega) h1
  have e : lookM ms (x.t.h : Int) = some x.b := lookM_of h.mnd (h.ms.mem_iff.2 (List.mem_map.2 ⟨_, hx, rfl⟩))
  rw [e] at this
  exact this
theorem Held.ebox (h : Held w g X s bm lev rv ct ms d) {x : En} (hx : x ∈ d) : ∃ i, Box w x.b 61 (x.cells i) := by
  have hin : In (lvl s.now x.due) (dig (lvl s.now x.due) x.due) := ⟨lvl_lt _ _, dig_lt _ _⟩
  obtain ⟨i, _, _, hB⟩ := h.raw.ek hin ((h.std.mem hin).2 ⟨hx, rfl, rfl⟩)
  exact ⟨i, hB⟩
set_option maxHeartbeats 400000 in
theorem due_no (h : Whl w g X s) {x : Int} (hx : NoH s x) (h0 : -9223372036854775808 ≤ x) (h1 : x ≤ 9223372036854775807) :
    Calls Try.prog 11 #[ptr g, .int .i64 x] w fun e w' => e = .returned (.tuple #[.int .i64 0, .bool false]) ∧ w = w' := by
  obtain ⟨bm, lev, rv, ct, ms, d, hH⟩ := h
  have m7 := hH.raw.c7
  have hl := hH.look_no hx h0 h1
  clear hH hx
  unfold ptr
  go_enter Try.func11, Try.ntmps11
  go_wp2
  go_ret2
  exact ⟨rfl, rfl⟩
set_option maxHeartbeats 400000 in
theorem due_yes (h : Whl w g X s) {y : T} (hy : y ∈ s.xs) (hlast : s.last < 4611686018427387905) :
    Calls Try.prog 11 #[ptr g, .int .i64 (y.h : Int)] w fun e w' => e = .returned (.tuple #[.int .i64 (y.due : Int), .bool true]) ∧ w = w' := by
  have hb := (h.ok.pos y hy).2
  obtain ⟨bm, lev, rv, ct, ms, d, hH⟩ := h
  have m7 := hH.raw.c7
  obtain ⟨x, hx, hxt, hl⟩ := hH.look_yes hy (by omega)
  obtain ⟨i, hB⟩ := hH.ebox hx
  have x2 : w.cell? ⟨x.b, 2, none⟩ = some (.int .i64 (x.t.due : Int)) := hB.cell 2
  rw [hxt] at x2
  unfold ptr at hl
  generalize x.b = b at hl x2
  clear hH hxt hy hB hx
  unfold ptr
  go_enter Try.func11, Try.ntmps11
  go_wp2
  go_ret2
  exact ⟨rfl, rfl⟩
set_option maxHeartbeats 400000 in
theorem cancel_no (h : Whl w g X s) {x : Int} (hx : NoH s x) (h0 : -9223372036854775808 ≤ x) (h1 : x ≤ 9223372036854775807) :
    Calls Try.prog 12 #[ptr g, .int .i64 x] w fun e w' => e = .returned (.bool false) ∧ w = w' := by
  obtain ⟨bm, lev, rv, ct, ms, d, hH⟩ := h
  have m7 := hH.raw.c7
  have hl := hH.look_no hx h0 h1
  clear hH hx
  unfold ptr
  go_enter Try.func12, Try.ntmps12
  go_wp2
  go_ret
  exact ⟨rfl, rfl⟩
/-- a slot without a timer: the others stand as they stood -/
theorem std_out (hS : Std s.now ct d) (hnd : (d.map En.h).Nodup) {x : En} (hx : x ∈ d) {c' : List En} (hp : (x :: c').Perm (ct (lvl s.now x.due) (dig (lvl s.now x.due) x.due))) :
    Std s.now (upd ct (lvl s.now x.due) (dig (lvl s.now x.due) x.due) c') (d.filter fun y => decide (y.h ≠ x.h)) := fun k j hk => by
  rw [List.filter_filter]
  by_cases e : k = lvl s.now x.due ∧ j = dig (lvl s.now x.due) x.due
  · obtain ⟨rfl, rfl⟩ := e
    rw [upd_same]
    have h1 := hp.trans (hS _ _ hk)
    have h2 := h1.filter fun y => decide (y.h ≠ x.h)
    rw [List.filter_cons_of_neg (by simp), List.filter_filter] at h2
    have hn : ((x :: c').map En.h).Nodup := ((h1.map En.h).nodup_iff).2 (hnd.sublist (List.filter_sublist.map _))
    rw [List.map_cons, List.nodup_cons] at hn
    have e1 : c'.filter (fun y => decide (y.h ≠ x.h)) = c' := List.filter_eq_self.2 fun y hy => decide_eq_true fun e => hn.1 (List.mem_map.2 ⟨y, hy, e⟩)
    rw [e1] at h2
    refine h2.trans (List.Perm.of_eq (List.filter_congr fun y _ => ?_))
    rw [Bool.and_comm]
  · rw [upd_ne _ _ e]
    refine (hS k j hk).trans (List.Perm.of_eq (List.filter_congr fun y hy => ?_))
    by_cases hyx : y.h = x.h
    · have : y = x := by
        have h1 := List.pairwise_map.1 hnd
        rcases List.mem_iff_getElem.1 hy with ⟨a, ha, rfl⟩
        rcases List.mem_iff_getElem.1 hx with ⟨b, hb, rfl⟩
        have h2 := List.pairwise_iff_getElem.1 h1
        rcases Nat.lt_trichotomy a b with h3 | h3 | h3
        · exact absurd hyx (h2 a b ha hb h3)
        · subst h3; rfl
        · exact absurd hyx.symm (h2 b a hb ha h3)
      subst this
      have : ¬ (lvl s.now y.due = k ∧ dig k y.due = j) := fun h => e ⟨h.1.symm, by rw [h.1]; exact h.2.symm⟩
      simp [this]
    · simp [hyx]
set_option maxHeartbeats 1000000 in
theorem cancel_yes (h : Whl w g X s) {y : T} (hy : y ∈ s.xs) (hlast : s.last < 4611686018427387905) :
    Calls Try.prog 12 #[ptr g, .int .i64 (y.h : Int)] w fun e w' => e = .returned (.bool true) ∧ Whl w' g X (s.drop y.h) ∧ Keep X w w' := by
  have hb := (h.ok.pos y hy).2
  have hok := h.ok
  obtain ⟨bm, lev, rv, ct, ms, d, hH⟩ := h
  have m7 := hH.raw.c7
  obtain ⟨x, hx, hxt, hl⟩ := hH.look_yes hy (by omega)
  have hxh : x.h = y.h := by rw [← hxt]; rfl
  obtain ⟨w2, u, hrun, hM, ht⟩ := hH.raw.mdel (x := (y.h : Int)) (by omega) (by omega) 0
  have hin : In (lvl s.now x.due) (dig (lvl s.now x.due) x.due) := ⟨lvl_lt _ _, dig_lt _ _⟩
  have hxd : x.due ≤ 1099511627776 := (hok.due _ (hH.mem hx)).1
  have ht := takeOut_any hM.1 hok.now hxd ((hH.std.mem hin).2 ⟨hx, rfl, rfl⟩) hH.rsmall
  have hfin : ∀ w', OutAt w2 g X bm rv ct (delM ms (y.h : Int)) s.cap s.now s.last x (lvl s.now x.due) (dig (lvl s.now x.due) x.due) w' → Whl w' g X (s.drop y.h) ∧ Keep X w w' := fun w' ⟨lev', v', c', hR, hp, hK⟩ => by
    refine ⟨⟨bm, lev', _, _, _, d.filter (fun z => decide (z.h ≠ x.h)), hR, std_out hH.std hH.hnd hx hp, ?_, ?_, hok.drop _⟩, hM.2.trans hK⟩
    · have h1 := hH.ms.filter fun p => decide ((p.1 : Int) ≠ (y.h : Int))
      rw [List.filter_map] at h1
      refine h1.trans (List.Perm.of_eq ?_)
      congr 1
      apply List.filter_congr
      intro z _
      show decide ((z.h : Int) ≠ (y.h : Int)) = decide (z.h ≠ x.h)
      rw [decide_eq_decide]
      omega
    · show _ = s.xs.filter _
      rw [← hH.xs, List.filter_map]
      congr 1
      apply List.filter_congr
      intro z _
      show decide (z.h ≠ x.h) = decide (z.h ≠ y.h)
      rw [hxh]
  have HT := Lib.hid ht
  have HF := Lib.hid hfin
  unfold ptr at hl HT
  clear hH hxt hy hx hM ht hfin hin hxh
  unfold ptr
  go_enter Try.func12, Try.ntmps12
  go_wp2_with (go_at_call 25; refine HT.out.mono ?_; rintro e w1 ⟨rfl, hq⟩; have HQ := Lib.hid (HF.out _ hq); clear hq)
  go_ret
  exact ⟨rfl, HQ.out⟩
/-- what Next answers -/
def NextOf (xs : List T) (to : Nat) (e : Ending) : Prop :=
  (∃ y, y ∈ xs ∧ (∀ x ∈ xs, y.due ≤ x.due) ∧ e = .returned (.tuple #[.int .i64 (y.due : Int), .bool true])) ∨ ((∀ x ∈ xs, to < x.due) ∧ e = .returned (.tuple #[.int .i64 0, .bool false]))
theorem nxt_any (h : Whl w g X s) (hd : ∀ x ∈ s.xs, s.now < x.due) {to : Nat} (hto : to ≤ 1099511627776) :
    Calls Try.prog 26 #[ptr g, .int .i64 (to : Int)] w fun e w' => NextOf s.xs to e ∧ Below w.heap.size w w' := by
  obtain ⟨bm, lev, rv, ct, ms, d, hH⟩ := h
  have hs := hH.small
  refine (next_any hH.raw hH.ok.now hH.std (fun x hx => ⟨hd _ (hH.mem hx), (hH.ok.due _ (hH.mem hx)).1⟩) (by omega) hto).mono fun e w' ⟨h1, h2⟩ => ⟨?_, h2⟩
  rcases h1 with ⟨y, hy, hm, he⟩ | ⟨hm, he⟩
  · refine .inl ⟨y.t, hH.mem hy, fun x hx => ?_, he⟩
    obtain ⟨z, hz, rfl⟩ := hH.of hx
    exact hm z hz
  · refine .inr ⟨fun x hx => ?_, he⟩
    obtain ⟨z, hz, rfl⟩ := hH.of hx
    exact hm z hz
set_option maxHeartbeats 1000000 in
theorem next_pub (h : Whl w g X s) : Calls Try.prog 17 #[ptr g] w fun e w' => NextOf s.xs 1099511627776 e ∧ Below w.heap.size w w' := by
  have HL := Lib.hid (len_any h)
  have hok := h.ok
  have m1 : w.cell? ⟨g, 1, none⟩ = some (.int .i64 (s.now : Int)) := by obtain ⟨bm, lev, rv, ct, ms, d, hH⟩ := h; exact hH.raw.c1
  by_cases hn : s.now = 1099511627776
  · have e1 : ((s.now : Int) == 1099511627776) = true := by rw [beq_iff_eq]; omega
    by_cases hx : 0 < s.xs.length
    · have HF : Hid (NextOf s.xs 1099511627776 (.returned (.tuple #[.int .i64 (s.now : Int), .bool true]))) := by
        obtain ⟨y, hy⟩ : ∃ y, y ∈ s.xs := ⟨s.xs[0], List.getElem_mem _⟩
        have hd : ∀ x ∈ s.xs, x.due = 1099511627776 := fun x hx => by have := hok.due x hx; omega
        exact .inl ⟨y, hy, fun x hx => by rw [hd y hy, hd x hx]; exact Nat.le_refl _, by rw [hd y hy, hn]⟩
      have HN := Lib.hid hn
      clear hn h
      unfold ptr
      unfold ptr at HL
      go_enter Try.func17, Try.ntmps17
      go_wp2_with (go_at_call 19; refine HL.out.mono ?_; rintro e w' ⟨rfl, rfl⟩)
      go_ret2
      exact ⟨HF.out, Below.refl _ _⟩
    · have hx0 : s.xs = [] := List.eq_nil_of_length_eq_zero (by omega)
      have HQ := Lib.hid (nxt_any h (by rw [hx0]; simp) (Nat.le_refl 1099511627776))
      have HN := Lib.hid hn
      clear hn h hx0
      unfold ptr
      unfold ptr at HL HQ
      go_enter Try.func17, Try.ntmps17
      go_wp2_with (first
        | (go_at_call 19; refine HL.out.mono ?_; rintro e w' ⟨rfl, rfl⟩)
        | (go_at_call 26; refine HQ.out.mono ?_; rintro e w1 ⟨hnx, hb⟩; rcases hnx with ⟨y, hy, hm, rfl⟩ | ⟨hm, rfl⟩))
      · go_ret2
        exact ⟨.inl ⟨y, hy, hm, rfl⟩, hb⟩
      · go_ret2
        exact ⟨.inr ⟨hm, rfl⟩, hb⟩
  · have e1 : ((s.now : Int) == 1099511627776) = false := by rw [beq_eq_false_iff_ne]; omega
    have HQ := Lib.hid (nxt_any h (fun x hx => by have := hok.due x hx; have := hok.now; omega) (Nat.le_refl 1099511627776))
    clear h
    unfold ptr
    unfold ptr at HQ
    go_enter Try.func17, Try.ntmps17
    go_wp2_with (go_at_call 26; refine HQ.out.mono ?_; rintro e w1 ⟨hnx, hb⟩; rcases hnx with ⟨y, hy, hm, rfl⟩ | ⟨hm, rfl⟩)
    · go_ret2
      exact ⟨.inl ⟨y, hy, hm, rfl⟩, hb⟩
    · go_ret2
      exact ⟨.inr ⟨hm, rfl⟩, hb⟩
end
end Go.Proofs.Ytobodianbjfgfaa.Wh
