/-
  Plain mathematics of what is done with a saga: every act, what it leaves, and what is due.
  Conditions: none.
-/
import Derived.Test.YteejocnogpaifaaGreatDoorSagMath
import Derived.Test.YteejocnogpaifaaGreatDoorDefKey
namespace Go.Proofs.YteejocnogpaifaaGreatDoor.Sa
open Go.Proofs.YteejocnogpaifaaGreatDoor.Bo (P left wait)
open Go.Proofs.YteejocnogpaifaaGreatDoor.Df

/-- an act -/
structure Ac where
  k : Int
  now : Int
  r : Rp
def keyS (s : Sg) (ss : List Stp) : ByteArray := ⟨(keyL s.id s.sp ss (decide (s.ph = 1))).toArray⟩
def emitC (ss : List Stp) (s : Sg) : Cm := ⟨s.id, s.sp, decide (s.ph = 1), s.tr + 1, (stp ss s.sp).pt, keyS s ss⟩
def emitA (nm : ByteArray) (dl : Int) (ss : List Stp) (s : Sg) (now : Int) : Sg × Cm × Int :=
  if refE nm dl ss s now ≠ 0 then (s, cm0, refE nm dl ss s now)
  else if mayC dl ss s now = false then (s, cm0, 9) else (emitS ss s now, emitC ss s, 0)
/-- Late to Abandon, by number -/
def numA (nm : ByteArray) (dl : Int) (ss : List Stp) (s : Sg) (k now : Int) : Sg × Int :=
  if k = 0 then lateA nm dl ss s now
  else if k = 1 then expireA nm dl ss s now
  else if k = 2 then cancelA nm dl ss s now
  else if k = 3 then retryA nm dl ss s now
  else if k = 4 then skipA nm dl ss s now
  else if k = 5 then abandonA nm dl ss s now
  else if refE nm dl ss s now ≠ 0 then (s, refE nm dl ss s now) else (s, 9)
def doA (nm : ByteArray) (dl : Int) (ss : List Stp) (s : Sg) (a : Ac) : Sg × Cm × Int :=
  if 0 ≤ a.k ∧ a.k ≤ 2 then emitA nm dl ss s a.now
  else if 3 ≤ a.k ∧ a.k ≤ 5 then ((replyA nm dl ss s a.r a.now).1, cm0, (replyA nm dl ss s a.r a.now).2)
  else if 6 ≤ a.k ∧ a.k ≤ 11 then ((numA nm dl ss s (a.k - 6) a.now).1, cm0, (numA nm dl ss s (a.k - 6) a.now).2)
  else (s, cm0, 0)

/-! ### What is right stays right, an error changes nothing -/
section
variable {nm : ByteArray} {dl now : Int} {ss : List Stp} {s : Sg}
theorem live_emitA (h : Live nm dl ss s) : Live nm dl ss (emitA nm dl ss s now).1 ∧ ((emitA nm dl ss s now).2.2 ≠ 0 → (emitA nm dl ss s now).1 = s) := by
  unfold emitA
  split
  · exact ⟨h, fun _ => rfl⟩
  · split
    · exact ⟨h, fun _ => rfl⟩
    · next hm => exact ⟨live_emit h.good (by simpa using hm), fun e => absurd rfl e⟩
theorem acc_phase {r : Rp} (h : accB s r = true) : s.ph = 0 ∨ s.ph = 1 := by
  unfold accB at h
  simp only [Bool.and_eq_true, Bool.or_eq_true, decide_eq_true_eq] at h
  rcases h.1.1 with ⟨h1, _⟩ | ⟨h1, _⟩
  · exact .inl h1
  · exact .inr h1
theorem out_phase (h : GoodS nm dl ss s) (ho : s.out = true) : s.ph = 0 ∨ s.ph = 1 := by
  rcases h.tries with h3 | ⟨_, _, h3⟩ | ⟨_, h3⟩
  · exact h3.1
  · rw [ho] at h3; cases h3
  · rw [ho] at h3; cases h3
theorem live_replyA {r : Rp} (h : Live nm dl ss s) : Live nm dl ss (replyA nm dl ss s r now).1 ∧ ((replyA nm dl ss s r now).2 ≠ 0 → (replyA nm dl ss s r now).1 = s) := by
  unfold replyA
  split
  · exact ⟨h, fun _ => rfl⟩
  · next h0 =>
    have hr := refE_zero (Decidable.not_not.1 h0)
    split
    · exact ⟨h, fun _ => rfl⟩
    · split
      · exact ⟨h, fun _ => rfl⟩
      · next ha =>
        split
        · exact ⟨live_done h.good hr.2.1, fun e => absurd rfl e⟩
        · exact ⟨live_fail h.good (acc_phase (by simpa using ha)) hr.2.1, fun e => absurd rfl e⟩
theorem live_numA {k : Int} (h : Live nm dl ss s) : Live nm dl ss (numA nm dl ss s k now).1 ∧ ((numA nm dl ss s k now).2 ≠ 0 → (numA nm dl ss s k now).1 = s) := by
  by_cases h0 : refE nm dl ss s now = 0
  · have hr := refE_zero h0
    unfold numA lateA expireA cancelA retryA skipA abandonA
    simp only [h0, ne_eq, not_true_eq_false, if_false]
    split
    · split
      · exact ⟨h, fun _ => rfl⟩
      · next hl => exact ⟨live_fail h.good (out_phase h.good (by simpa using fun e => hl (.inl e))) hr.2.1, fun e => absurd rfl e⟩
    · split
      · split
        · exact ⟨h, fun _ => rfl⟩
        · exact ⟨live_ahead h.good (by omega) hr.2.1, fun e => absurd rfl e⟩
      · split
        · split
          · exact ⟨h, fun _ => rfl⟩
          · exact ⟨live_ahead h.good (by omega) hr.2.1, fun e => absurd rfl e⟩
        · split
          · split
            · exact ⟨h, fun _ => rfl⟩
            · exact ⟨live_put h.good (.inr rfl) h.good.fld.sp.1 h.good.fld.sp.2 hr.2.1, fun e => absurd rfl e⟩
          · split
            · split
              · exact ⟨h, fun _ => rfl⟩
              · exact ⟨live_done (good_skip h.good) hr.2.1, fun e => absurd rfl e⟩
            · split
              · split
                · exact ⟨h, fun _ => rfl⟩
                · exact ⟨live_end h.good (by omega), fun e => absurd rfl e⟩
              · exact ⟨h, fun _ => rfl⟩
  · unfold numA lateA expireA cancelA retryA skipA abandonA
    simp only [ne_eq, h0, not_false_eq_true, if_true]
    repeat' split
    all_goals exact ⟨h, fun _ => rfl⟩
theorem live_doA {a : Ac} (h : Live nm dl ss s) : Live nm dl ss (doA nm dl ss s a).1 ∧ ((doA nm dl ss s a).2.2 ≠ 0 → (doA nm dl ss s a).1 = s) := by
  unfold doA
  split
  · exact live_emitA h
  · split
    · exact live_replyA h
    · split
      · exact live_numA h
      · exact ⟨h, fun _ => rfl⟩
/-- how it begins -/
def beginS (nm : ByteArray) (id now : Int) : Sg := ⟨id, nm, ofT now, 0, 0, 0, false, ofT now, 0⟩
theorem live_begin (h : RightD nm dl ss) {id : Int} (hi : 0 ≤ id) : Live nm dl ss (beginS nm id now) := by
  have hl := (right_all h).1
  have hp : (planOf ss (beginS nm id now)).Good := plan_at h (Int.le_refl _) (by show (0 : Int) < _; omega)
  have hr := hp.1
  exact ⟨⟨h, rfl, ⟨⟨Int.le_refl _, by show (0 : Int) < _; omega⟩, hi, ⟨ofT_lo _, ofT_hi _⟩, ⟨ofT_lo _, ofT_hi _⟩, ⟨Int.le_refl _, by show (0 : Int) ≤ 32; decide⟩, Int.le_refl _⟩, .inl ⟨.inl rfl, by show (0 : Int) ≤ _; omega, fun e => by cases e⟩⟩, fun _ => .inr hr⟩
/-- what is over stays -/
theorem over_stays {a : Ac} (ho : 3 ≤ s.ph) : (doA nm dl ss s a).1 = s := by
  have h0 : ¬ refE nm dl ss s a.now = 0 := fun e => by have := refE_zero e; omega
  unfold doA emitA replyA numA lateA expireA cancelA retryA skipA abandonA
  simp only [ne_eq, h0, not_false_eq_true, if_true]
  repeat' split
  all_goals rfl
/-- what is parked stays, but for an operator -/
theorem parked_stays {a : Ac} (h : GoodS nm dl ss s) (ho : s.ph = 2) (hk : a.k < 9) : (doA nm dl ss s a).1 = s := by
  have hm : mayC dl ss s a.now = false := by unfold mayC; exact decide_eq_false (by omega)
  have ha : accB s a.r = false := by
    cases e : accB s a.r with
    | false => rfl
    | true => have := acc_phase e; omega
  have hout : s.out = false := by
    cases e : s.out with
    | false => rfl
    | true => have := out_phase h e; omega
  unfold doA emitA replyA numA lateA expireA cancelA
  simp only [hm, ha, hout, if_true, true_or]
  repeat' split
  all_goals first | rfl | omega
/-! ### What is due -/
/-- the end, of one that goes forward -/
def endI (dl : Int) (s : Sg) : Int := if s.ph = 0 then endT dl s.st else 1099511627777
def dueN (dl : Int) (ss : List Stp) (s : Sg) : Int := if (s.ph = 0 ∨ s.ph = 1) ∧ (s.out = true ∨ s.tr ≤ (planOf ss s).r) then min (endI dl s) s.at_ else endI dl s
def dueI (nm : ByteArray) (dl : Int) (ss : List Stp) (s : Sg) : Int := if GoodS nm dl ss s ∧ 0 ≤ dueN dl ss s ∧ dueN dl ss s ≤ 1099511627776 then dueN dl ss s else 0
def dueB (nm : ByteArray) (dl : Int) (ss : List Stp) (s : Sg) : Bool := decide (GoodS nm dl ss s ∧ 0 ≤ dueN dl ss s ∧ dueN dl ss s ≤ 1099511627776)
theorem end_in {dl st : Int} : 0 ≤ endT dl st ∧ endT dl st ≤ 1099511627777 := by
  unfold endT
  split
  · omega
  · have h1 := addT_lo st dl
    have h2 := addT_hi st dl
    omega
theorem due_live (h : Live nm dl ss s) (hp : s.ph = 0 ∨ s.ph = 1) : dueB nm dl ss s = true ∧ dueI nm dl ss s = min (endI dl s) s.at_ ∧ 0 ≤ dueI nm dl ss s ∧ dueI nm dl ss s ≤ 1099511627776 := by
  have hl := h.live hp
  have ha := h.good.fld.at_
  have he : 0 ≤ endI dl s := by
    have := end_in (dl := dl) (st := s.st)
    unfold endI
    split <;> omega
  have hd : dueN dl ss s = min (endI dl s) s.at_ := by unfold dueN; rw [if_pos ⟨hp, hl⟩]
  have hg : GoodS nm dl ss s ∧ 0 ≤ dueN dl ss s ∧ dueN dl ss s ≤ 1099511627776 := ⟨h.good, by omega, by omega⟩
  unfold dueB dueI
  rw [if_pos hg, decide_eq_true hg]
  exact ⟨rfl, hd, hg.2.1, hg.2.2⟩
theorem due_rest (hp : ¬ (s.ph = 0 ∨ s.ph = 1)) : dueB nm dl ss s = false ∧ dueI nm dl ss s = 0 := by
  have hd : dueN dl ss s = 1099511627777 := by
    unfold dueN endI
    rw [if_neg (fun e => hp e.1), if_neg (by omega)]
  have hg : ¬ (GoodS nm dl ss s ∧ 0 ≤ dueN dl ss s ∧ dueN dl ss s ≤ 1099511627776) := by omega
  unfold dueB dueI
  rw [if_neg hg, decide_eq_false hg]
  exact ⟨rfl, rfl⟩
/-- can anything be done by time? -/
def timeB (nm : ByteArray) (dl : Int) (ss : List Stp) (s : Sg) (n : Int) : Bool := decide ((lateA nm dl ss s n).2 = 0) || decide ((expireA nm dl ss s n).2 = 0) || mayB nm dl ss s n
theorem time_due (h : Live nm dl ss s) (hp : s.ph = 0 ∨ s.ph = 1) {n : Int} (hn : 0 ≤ n ∧ n ≤ 1099511627776) : timeB nm dl ss s n = decide (dueI nm dl ss s ≤ n) := by
  have hl := h.live hp
  have h0 : refE nm dl ss s n = 0 := refE_fine h.good hn (by unfold overB; exact decide_eq_false (by omega))
  rw [(due_live h hp).2.1]
  have e1 : ((lateA nm dl ss s n).2 = 0) ↔ (s.out = true ∧ s.at_ ≤ n) := by
    unfold lateA
    rw [if_neg (by simpa using h0)]
    split
    · next hh =>
      refine ⟨fun e => (by cases e), fun e => ?_⟩
      rcases hh with hh | hh
      · rw [e.1] at hh; cases hh
      · omega
    · next hh => exact ⟨fun _ => ⟨by simpa using fun e => hh (.inl e), by omega⟩, fun _ => rfl⟩
  have e2 : ((expireA nm dl ss s n).2 = 0) ↔ (s.ph = 0 ∧ endT dl s.st ≤ n) := by
    unfold expireA
    rw [if_neg (by simpa using h0)]
    split
    · next hh => exact ⟨fun e => (by cases e), fun e => by omega⟩
    · next hh => exact ⟨fun _ => by omega, fun _ => rfl⟩
  rw [Bool.eq_iff_iff]
  unfold timeB mayB mayC endI
  rw [h0]
  simp only [Bool.or_eq_true, Bool.and_eq_true, decide_eq_true_eq, e1, e2, true_and]
  cases ho : s.out with
  | true => split <;> simp <;> omega
  | false =>
    have hl' : s.tr ≤ (planOf ss s).r := by
      rcases hl with hl | hl
      · rw [ho] at hl; cases hl
      · exact hl
    split <;> simp <;> omega
end
end Go.Proofs.YteejocnogpaifaaGreatDoor.Sa
