/-
  Plain mathematics of rows of acts: a saga's number stays, its tries stay few.
  Conditions: none.
-/
import Derived.Test.YteejocnogpaifaaGreatDoorSagActs
namespace Go.Proofs.YteejocnogpaifaaGreatDoor.Sa
open Go.Proofs.YteejocnogpaifaaGreatDoor.Bo (P left wait)
open Go.Proofs.YteejocnogpaifaaGreatDoor.Df

section
variable {nm : ByteArray} {dl now : Int} {ss : List Stp} {s : Sg}
theorem id_ahead {l : Int} : (aheadS s l now).id = s.id := by unfold aheadS; split <;> rfl
theorem id_done {n : Nat} : (doneS n s now).id = s.id := by
  unfold doneS
  repeat' split
  all_goals first | rfl | exact id_ahead
theorem id_fail : (failS ss s now).id = s.id := by
  unfold failS
  repeat' split
  all_goals first | rfl | exact id_ahead
theorem id_doA {a : Ac} : (doA nm dl ss s a).1.id = s.id := by
  unfold doA
  split
  · unfold emitA
    repeat' split
    all_goals rfl
  · split
    · unfold replyA
      repeat' split
      all_goals first | rfl | exact id_done | exact id_fail
    · split
      · unfold numA lateA expireA cancelA retryA skipA abandonA
        repeat' split
        all_goals first | rfl | exact id_fail | exact id_ahead | exact id_done
      · rfl
theorem tr_ahead {l : Int} (h : 0 ≤ s.tr ∧ s.tr ≤ 1001) : 0 ≤ (aheadS s l now).tr ∧ (aheadS s l now).tr ≤ 1001 := by
  unfold aheadS
  split
  · exact h
  · exact ⟨Int.le_refl _, by show (0 : Int) ≤ 1001; decide⟩
theorem tr_done {n : Nat} (h : 0 ≤ s.tr ∧ s.tr ≤ 1001) : 0 ≤ (doneS n s now).tr ∧ (doneS n s now).tr ≤ 1001 := by
  unfold doneS
  repeat' split
  · exact h
  · exact ⟨Int.le_refl _, by show (0 : Int) ≤ 1001; decide⟩
  · exact tr_ahead h
  · exact tr_ahead h
theorem tr_fail (h : 0 ≤ s.tr ∧ s.tr ≤ 1001) : 0 ≤ (failS ss s now).tr ∧ (failS ss s now).tr ≤ 1001 := by
  unfold failS
  repeat' split
  · exact h
  · exact tr_ahead h
  · exact h
theorem tr_skip (h : 0 ≤ s.tr ∧ s.tr ≤ 1001) : 0 ≤ (skipS s).tr ∧ (skipS s).tr ≤ 1001 := h
theorem tr_doA {a : Ac} (hg : GoodS nm dl ss s) (h : 0 ≤ s.tr ∧ s.tr ≤ 1001) : 0 ≤ (doA nm dl ss s a).1.tr ∧ (doA nm dl ss s a).1.tr ≤ 1001 := by
  unfold doA
  split
  · unfold emitA
    split
    · exact h
    · split
      · exact h
      · next hm =>
        have hm' : mayC dl ss s a.now = true := by simpa using hm
        have hm2 := of_decide_eq_true hm'
        have hp := good_plan hg
        have hr := hp.2.1
        exact ⟨by show 0 ≤ s.tr + 1; omega, by show s.tr + 1 ≤ 1001; omega⟩
  · split
    · unfold replyA
      repeat' split
      all_goals first | exact h | exact tr_done h | exact tr_fail h
    · split
      · unfold numA lateA expireA cancelA retryA skipA abandonA
        repeat' split
        all_goals first | exact h | exact tr_fail h | exact tr_ahead h | exact tr_done (tr_skip h) | exact ⟨Int.le_refl _, by show (0 : Int) ≤ 1001; decide⟩
      · exact h
/-- a saga that a row of acts has come to -/
structure Row7 (nm : ByteArray) (dl : Int) (ss : List Stp) (id : Int) (s : Sg) : Prop where
  live : Live nm dl ss s
  id : s.id = id
  tr : 0 ≤ s.tr ∧ s.tr ≤ 1001
theorem row_begin (h : RightD nm dl ss) {id t : Int} (hi : 0 ≤ id) : Row7 nm dl ss id (beginS nm id t) := ⟨live_begin h hi, rfl, Int.le_refl _, by show (0 : Int) ≤ 1001; decide⟩
theorem Row7.does {id : Int} (h : Row7 nm dl ss id s) (a : Ac) : Row7 nm dl ss id (doA nm dl ss s a).1 := ⟨(live_doA h.live).1, id_doA.trans h.id, tr_doA h.live.good h.tr⟩
/-- its tries never pass the plan's -/
theorem Row7.tries {id : Int} (h : Row7 nm dl ss id s) : (planOf ss s).r + 1 < s.tr → overB s = true := by
  intro ht
  unfold overB
  rw [decide_eq_true_eq]
  rcases h.live.good.tries with h1 | h1 | h1
  · omega
  · omega
  · exact h1.1
/-- a command's key, try, and what is out behind it -/
theorem emit_tells {a : Ac} (hk : 0 ≤ a.k ∧ a.k ≤ 2) (he : (doA nm dl ss s a).2.2 = 0) : (doA nm dl ss s a).2.1 = emitC ss s ∧ (doA nm dl ss s a).1.out = true := by
  unfold doA at *
  rw [if_pos hk] at *
  unfold emitA at *
  split at he
  · next h => exact absurd he h
  · next h =>
    split at he
    · cases he
    · next hm =>
      rw [if_neg h, if_neg hm]
      exact ⟨rfl, rfl⟩
end
end Go.Proofs.YteejocnogpaifaaGreatDoor.Sa
