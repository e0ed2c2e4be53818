/-
  What the functions of package guard that turn a guard answer and leave: Send, Over, newBreaker, Restore.
  Conditions: the guard is one.
-/
import Derived.Test.YtapnnlebokcmgaaGrdCalls
namespace Go.Proofs.Ytapnnlebokcmgaa.Gd
open Go.RowKit
open Go.Proofs.Ytapnnlebokcmgaa.Bk (S Brk Aft kind ret_int ret_bool)
/-- a guard behind a call: its gates then -/
def Did (w : World) (g : Nat) (X : Nat → Prop) (L : List Gt) (w' : World) : Prop := Grd w' g X L ∧ Keep X w w'
section
variable {w : World} {g : Nat} {X : Nat → Prop} {v : Value} {rs : List Rt}
theorem turn_no {p : Int} (hp : p < 0 ∨ (rs.length : Int) ≤ p) (ok : Gt → Bool) (f : Gt → Gt) : turn (rs.map Rt.t) p ok f = rs.map Rt.t := by
  unfold turn
  rw [at_none (by simpa using hp)]
theorem turn_off {i : Nat} {x : Rt} (hx : rs[i]? = some x) {ok : Gt → Bool} (f : Gt → Gt) (ho : ok x.t = false) : turn (rs.map Rt.t) (i : Int) ok f = rs.map Rt.t := by
  unfold turn
  rw [at_nat, List.getElem?_map, hx]
  show (if ok x.t = true then _ else _) = _
  rw [ho]
  rfl
theorem turn_on {i : Nat} {x : Rt} (hx : rs[i]? = some x) {ok : Gt → Bool} (f : Gt → Gt) (ho : ok x.t = true) (b : Nat) : turn (rs.map Rt.t) (i : Int) ok f = (rs.set i ⟨b, f x.t⟩).map Rt.t := by
  unfold turn
  rw [at_nat, List.getElem?_map, hx]
  show (if ok x.t = true then _ else _) = _
  rw [ho, if_pos rfl, List.map_set]
  rfl
theorem Raw.did (h : Raw w g X v rs) (hk : Keep X w w) : Did w g X (rs.map Rt.t) w := ⟨⟨v, rs, h, rfl⟩, hk⟩
theorem set_at {i : Nat} {x y : Rt} (hx : rs[i]? = some x) : (rs.set i y)[i]? = some y := by
  rw [List.getElem?_set, if_pos rfl, if_pos (at_lt hx)]
theorem set_set (i : Nat) (y z : Rt) : (rs.set i y).set i z = rs.set i z := by simp
set_option maxHeartbeats 1000000 in
theorem send_raw (h : Raw w g X v rs) (p now : Int) : Calls Try.prog 9 #[ptr g, .int .i64 p, .int .i64 now] w fun e w' => e = .returned (.int .i64 (mayG (rs.map Rt.t) p now)) ∧ Did w g X (sendG (rs.map Rt.t) p now) w' := by
  by_cases hm : mayG (rs.map Rt.t) p now = 0
  · obtain ⟨i, x, rfl, hx⟩ : ∃ (i : Nat) (x : Rt), p = (i : Int) ∧ rs[i]? = some x := by
      rcases place (rs := rs) p with hp | hp
      · unfold mayG at hm
        rw [ans_no hp] at hm
        cases hm
      · exact hp
    have HM := Lib.hid (may_is h (i : Int) now hm)
    have hme : mayE x.t now = 0 := by unfold mayG at hm; rw [ans_at hx] at hm; exact hm
    obtain ⟨r, c, rfl, hc⟩ := h.at_ hx
    have hG : sendG (rs.map Rt.t) (i : Int) now = (rs.set i ⟨x.b, sendT x.t now⟩).map Rt.t := turn_on hx _ (decide_eq_true hme) x.b
    have hxm := List.mem_of_getElem? hx
    have hok := h.ok x hxm
    have hfl := hok.fl
    have hse := hok.p.seats
    have hok1 := hok.sendT hme
    rw [hm, hG]
    have HGa := Lib.hid fun n => gate_at (h.drewN n) hx
    have HS := Lib.hid fun n => Bk.send_any ((h.drewN n).brk x hxm) now
    have hc0 := fun n => ((h.drewN n).cs hx).c0
    have HC := Lib.hid hc0
    have hend : ∀ n w2, Aft (w.drewN n) x.b (Bk.send x.t.s now) w2 → (w2.cell? ⟨r, i * 7 + 6, none⟩ = some (.int .i64 x.t.fl) ∧ w2.frozen? ⟨r, i * 7 + 6, none⟩ = false) ∧ Did w g X ((rs.set i ⟨x.b, sendT x.t now⟩).map Rt.t) (w2.setCell ⟨r, i * 7 + 6, none⟩ (.int .i64 (x.t.fl + 1))) := fun n w2 ha => by
      obtain ⟨hR2, hK2⟩ := (h.drewN n).aft hx ha (hok.sendB now)
      have hx2 : (rs.set i ⟨x.b, ⟨x.t.p, Bk.send x.t.s now, x.t.fl⟩⟩)[i]? = some ⟨x.b, ⟨x.t.p, Bk.send x.t.s now, x.t.fl⟩⟩ := set_at hx
      have hlen : (rs.set i ⟨x.b, ⟨x.t.p, Bk.send x.t.s now, x.t.fl⟩⟩).length = rs.length := List.length_set ..
      rw [← hlen] at hR2
      have hcs := hR2.cs hx2
      obtain ⟨hR3, hK3⟩ := hR2.put hx2 6 (by omega) (.int .i64 (x.t.fl + 1)) (x' := ⟨x.b, sendT x.t now⟩) rfl rfl rfl hok1
      rw [set_set] at hR3
      exact ⟨⟨hcs.c6, hcs.f _⟩, ⟨⟨_, _, hR3, rfl⟩, ((Keep.refl X w).drewN n).trans (hK2.trans hK3)⟩⟩
    have HE := Lib.hid hend
    clear h hx hm hme hG hxm hok hok1 hend hc0
    unfold ptr at HM ⊢
    generalize i * 7 = q at *
    go_enter Try.func9, Try.ntmps9
    go_wp2_with (first
      | (go_at_call 13; refine HM.out.mono ?_; rintro e w1 ⟨rfl, n, hw1⟩
         have hga := HGa.out n; have hs := HS.out n; have c0 := HC.out n; have he := HE.out n
         rw [← hw1] at hga hs c0 he
         have HGa1 := Lib.hid hga; have HS1 := Lib.hid hs; have HE1 := Lib.hid he
         clear hga hs he hw1)
      | (go_at_call 15; refine HGa1.out.mono ?_; rintro e w2 ⟨rfl, rfl⟩)
      | (go_at_call 17; refine HS1.out.mono ?_; rintro e w2 ⟨rfl, ha⟩; have hq := HE1.out _ ha; obtain ⟨⟨c6, f6⟩, hD⟩ := hq; have HD := Lib.hid hD; clear ha hD))
    go_ret
    exact ⟨rfl, HD.out⟩
  · have HM := Lib.hid (may_raw h p now)
    have hb : (mayG (rs.map Rt.t) p now != 0) = true := by simpa using hm
    have hS : sendG (rs.map Rt.t) p now = rs.map Rt.t := by
      rcases place (rs := rs) p with hp | ⟨i, x, rfl, hx⟩
      · exact turn_no hp _ _
      · refine turn_off hx _ (decide_eq_false ?_)
        unfold mayG at hm
        rw [ans_at hx] at hm
        exact hm
    have HD : Hid (∀ n, Did w g X (sendG (rs.map Rt.t) p now) (w.drewN n)) := Lib.hid fun n => by
      rw [hS]
      exact ⟨⟨v, rs, h.drewN n, rfl⟩, (Keep.refl X w).drewN n⟩
    clear h hm hS
    unfold ptr at HM ⊢
    generalize mayG (rs.map Rt.t) p now = me at HM hb ⊢
    go_enter Try.func9, Try.ntmps9
    go_wp2_with (go_at_call 13; refine HM.out.mono ?_; rintro e w1 ⟨rfl, n, rfl⟩)
    go_ret
    exact ⟨rfl, HD.out n⟩
theorem over_no (h : Raw w g X v rs) (p now how : Int) (hp : p < 0 ∨ (rs.length : Int) ≤ p) : Calls Try.prog 10 #[ptr g, .int .i64 p, .int .i64 now, .int .i64 how] w fun e w' => e = .returned (.int .i64 7) ∧ w = w' := by
  have HG := Lib.hid (gate_no h p hp)
  clear h hp
  unfold ptr at HG ⊢
  go_enter Try.func10, Try.ntmps10
  go_wp2_with (go_at_call 15; refine HG.out.mono ?_; rintro e w1 ⟨rfl, rfl⟩)
  go_ret
  exact ⟨rfl, rfl⟩
set_option maxHeartbeats 1000000 in
theorem over_off (h : Raw w g X v rs) {i : Nat} {x : Rt} (hx : rs[i]? = some x) (now how : Int) (ho : overE x.t how ≠ 0) : Calls Try.prog 10 #[ptr g, .int .i64 (i : Int), .int .i64 now, .int .i64 how] w fun e w' => e = .returned (.int .i64 (overE x.t how)) ∧ w = w' := by
  obtain ⟨r, c, rfl, hc⟩ := h.at_ hx
  have HG := Lib.hid (gate_at h hx)
  have c6 := (h.cs hx).c6
  clear h hx
  unfold ptr
  generalize i * 7 = q at *
  by_cases h1 : how < 0
  · have he : overE x.t how = 11 := by unfold overE; rw [if_pos (Or.inl h1)]
    rw [he]
    clear ho he
    go_enter Try.func10, Try.ntmps10
    go_wp2_with (go_at_call 15; refine HG.out.mono ?_; rintro e w1 ⟨rfl, rfl⟩)
    go_ret
    exact ⟨rfl, rfl⟩
  by_cases h2 : 2 < how
  · have he : overE x.t how = 11 := by unfold overE; rw [if_pos (Or.inr h2)]
    rw [he]
    clear ho he
    go_enter Try.func10, Try.ntmps10
    go_wp2_with (go_at_call 15; refine HG.out.mono ?_; rintro e w1 ⟨rfl, rfl⟩)
    go_ret
    exact ⟨rfl, rfl⟩
  by_cases h3 : x.t.fl = 0
  · have he : overE x.t how = 9 := by unfold overE; rw [if_neg (by omega), if_pos h3]
    rw [he]
    have hb : (x.t.fl == 0) = true := by simpa using h3
    clear ho he
    go_enter Try.func10, Try.ntmps10
    go_wp2_with (go_at_call 15; refine HG.out.mono ?_; rintro e w1 ⟨rfl, rfl⟩)
    go_ret
    exact ⟨rfl, rfl⟩
  · exact absurd (by unfold overE; rw [if_neg (by omega), if_neg h3]) ho
set_option maxHeartbeats 1000000 in
theorem over_on (h : Raw w g X v rs) {i : Nat} {x : Rt} (hx : rs[i]? = some x) (now how : Int) (ho : overE x.t how = 0) : Calls Try.prog 10 #[ptr g, .int .i64 (i : Int), .int .i64 now, .int .i64 how] w fun e w' => e = .returned (.int .i64 0) ∧ Did w g X ((rs.set i ⟨x.b, overT x.t now how⟩).map Rt.t) w' := by
  obtain ⟨r, c, rfl, hc⟩ := h.at_ hx
  have HG := Lib.hid (gate_at h hx)
  have hxm := List.mem_of_getElem? hx
  have hok := h.ok x hxm
  have hcs := h.cs hx
  have c6 := hcs.c6
  have f6 := hcs.f (i * 7 + 6)
  obtain ⟨u0, u1⟩ := hok.fl
  have useat := hok.p.seats.2
  have hhow : ¬ (how < 0 ∨ 2 < how) := fun e => by unfold overE at ho; rw [if_pos e] at ho; cases ho
  have h0 : x.t.fl ≠ 0 := fun e => by unfold overE at ho; rw [if_neg hhow, if_pos e] at ho; cases ho
  have hb : (x.t.fl == 0) = false := by simpa using h0
  obtain ⟨hR1, hK1⟩ := h.put hx 6 (by omega) (.int .i64 (x.t.fl - 1)) (x' := ⟨x.b, ⟨x.t.p, x.t.s, x.t.fl - 1⟩⟩) rfl rfl rfl (hok.less h0)
  have hx1 : (rs.set i ⟨x.b, ⟨x.t.p, x.t.s, x.t.fl - 1⟩⟩)[i]? = some ⟨x.b, ⟨x.t.p, x.t.s, x.t.fl - 1⟩⟩ := set_at hx
  have hlen : (rs.set i ⟨x.b, ⟨x.t.p, x.t.s, x.t.fl - 1⟩⟩).length = rs.length := List.length_set ..
  have d0 : (w.setCell ⟨r, i * 7 + 6, none⟩ (.int .i64 (x.t.fl - 1))).cell? ⟨r, i * 7, none⟩ = some (.pointer (some ⟨x.b, 0, none⟩)) := by
    have hR1' := hR1
    rw [← hlen] at hR1'
    exact (hR1'.cs hx1).c0
  have hB := hR1.brk _ (List.mem_of_getElem? hx1)
  have hend : ∀ w2, Aft (w.setCell ⟨r, i * 7 + 6, none⟩ (.int .i64 (x.t.fl - 1))) x.b (overS x.t.s now how) w2 → Did w g X ((rs.set i ⟨x.b, overT x.t now how⟩).map Rt.t) w2 := fun w2 ha => by
    have hA := hR1.aft hx1 ha (hok.overT now how h0)
    rw [set_set] at hA
    exact ⟨⟨_, _, hA.1, rfl⟩, hK1.trans hA.2⟩
  have HE := Lib.hid hend
  have HL : how = 2 → Hid (Calls Try.prog 18 #[.pointer (some ⟨x.b, 0, none⟩), .int .i64 now] (w.setCell ⟨r, i * 7 + 6, none⟩ (.int .i64 (x.t.fl - 1))) fun e w' => e = .returned (.tuple #[]) ∧ Did w g X ((rs.set i ⟨x.b, overT x.t now how⟩).map Rt.t) w') := fun e => Lib.hid (by
    refine (Bk.lost_any hB now).mono fun e' w' ⟨h1, h2⟩ => ⟨h1, HE.out _ ?_⟩
    unfold overS
    rw [if_pos e]
    exact h2)
  have HD : how ≠ 2 → Hid (Calls Try.prog 19 #[.pointer (some ⟨x.b, 0, none⟩), .int .i64 now, .bool (decide (how = 0))] (w.setCell ⟨r, i * 7 + 6, none⟩ (.int .i64 (x.t.fl - 1))) fun e w' => e = .returned (.tuple #[]) ∧ Did w g X ((rs.set i ⟨x.b, overT x.t now how⟩).map Rt.t) w') := fun e => Lib.hid (by
    refine (Bk.done_any hB now _).mono fun e' w' ⟨h1, h2⟩ => ⟨h1, HE.out _ ?_⟩
    unfold overS
    rw [if_neg e]
    exact h2)
  clear h hx hxm hok hcs hR1 hK1 hx1 hlen hB hend HE h0 ho
  unfold ptr
  generalize i * 7 = q at *
  rcases (by omega : how = 0 ∨ how = 1 ∨ how = 2) with rfl | rfl | rfl
  · have HD1 := HD (by decide)
    clear HL HD hhow
    go_enter Try.func10, Try.ntmps10
    go_wp2_with (first
      | (go_at_call 15; refine HG.out.mono ?_; rintro e w1 ⟨rfl, rfl⟩)
      | (go_at_call 19; refine HD1.out.mono ?_; rintro e w1 ⟨rfl, hq⟩))
    go_ret
    exact ⟨rfl, hq⟩
  · have HD1 := HD (by decide)
    clear HL HD hhow
    go_enter Try.func10, Try.ntmps10
    go_wp2_with (first
      | (go_at_call 15; refine HG.out.mono ?_; rintro e w1 ⟨rfl, rfl⟩)
      | (go_at_call 19; refine HD1.out.mono ?_; rintro e w1 ⟨rfl, hq⟩))
    go_ret
    exact ⟨rfl, hq⟩
  · have HL1 := HL rfl
    clear HL HD hhow
    go_enter Try.func10, Try.ntmps10
    go_wp2_with (first
      | (go_at_call 15; refine HG.out.mono ?_; rintro e w1 ⟨rfl, rfl⟩)
      | (go_at_call 18; refine HL1.out.mono ?_; rintro e w1 ⟨rfl, hq⟩))
    go_ret
    exact ⟨rfl, hq⟩
theorem over_raw (h : Raw w g X v rs) (p now how : Int) : Calls Try.prog 10 #[ptr g, .int .i64 p, .int .i64 now, .int .i64 how] w fun e w' => e = .returned (.int .i64 (overA (rs.map Rt.t) p how)) ∧ Did w g X (overG (rs.map Rt.t) p now how) w' := by
  rcases place (rs := rs) p with hp | ⟨i, x, rfl, hx⟩
  · refine (over_no h p now how hp).mono ?_
    rintro e w' ⟨rfl, rfl⟩
    refine ⟨ret_int (ans_no hp _ _).symm, ?_⟩
    rw [show overG (rs.map Rt.t) p now how = rs.map Rt.t from turn_no hp _ _]
    exact h.did (Keep.refl _ _)
  · have hA : overA (rs.map Rt.t) (i : Int) how = overE x.t how := ans_at hx _ _
    rw [hA]
    by_cases ho : overE x.t how = 0
    · rw [ho, show overG (rs.map Rt.t) (i : Int) now how = (rs.set i ⟨x.b, overT x.t now how⟩).map Rt.t from turn_on hx _ (decide_eq_true ho) x.b]
      exact over_on h hx now how ho
    · rw [show overG (rs.map Rt.t) (i : Int) now how = rs.map Rt.t from turn_off hx _ (decide_eq_false ho)]
      refine (over_off h hx now how ho).mono ?_
      rintro e w' ⟨rfl, rfl⟩
      exact ⟨rfl, h.did (Keep.refl _ _)⟩
end
end Go.Proofs.Ytapnnlebokcmgaa.Gd
