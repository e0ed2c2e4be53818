/-
  Events: which are right. Plain mathematics, it needs nothing of the program.
  Conditions: none.
-/
import Derived.Test.YteejocnogpaifaaGreatDoorMrg2
import Derived.Test.YteejocnogpaifaaGreatDoorDefSame
namespace Go.Proofs.YteejocnogpaifaaGreatDoor.Co
open Go.Proofs.YteejocnogpaifaaGreatDoor.Bo (P)
open Go.Proofs.YteejocnogpaifaaGreatDoor.Df
open Go.Proofs.YteejocnogpaifaaGreatDoor.Sa (Sg Rp)

/-- an event -/
structure Ev where
  k : Int
  now : Int
  sg : Int
  nm : ByteArray
  r : Rp
  dn : ByteArray
  dl : Int
  ss : List Stp
/-! ### What is right -/
def stepsB (ss : List Stp) : Bool := (List.range ss.length).all fun i => match ss[i]? with
  | some s => decide (stepE ss i s = 0)
  | none => true
def rightB (nm : ByteArray) (dl : Int) (ss : List Stp) : Bool := nameB nm.data.toList && decide (0 ≤ dl) && decide (dl ≤ 1099511627776) && decide (ss.length ≠ 0) && decide (ss.length ≤ 32) && stepsB ss
theorem stepsB_iff (ss : List Stp) : stepsB ss = true ↔ ∀ i s, ss[i]? = some s → stepE ss i s = 0 := by
  unfold stepsB
  rw [List.all_eq_true]
  constructor
  · intro h i s hs
    have hi : i < ss.length := by
      rcases Nat.lt_or_ge i ss.length with h1 | h1
      · exact h1
      · rw [List.getElem?_eq_none h1] at hs; cases hs
    have := h i (List.mem_range.2 hi)
    rw [hs] at this
    exact of_decide_eq_true this
  · intro h i _
    cases hs : ss[i]? with
    | none => rfl
    | some s => exact decide_eq_true (h i s hs)
theorem chk_right {nm : ByteArray} {dl : Int} {ss : List Stp} {k e : Int} (h : ChkIs nm dl ss k e) : rightB nm dl ss = decide (e = 0) := by
  unfold ChkIs at h
  unfold rightB
  by_cases h1 : nameB nm.data.toList = false
  · rw [if_pos h1] at h
    rw [h1, h.2]
    rfl
  · rw [if_neg h1] at h
    rw [Bool.not_eq_false] at h1
    rw [h1]
    by_cases h2 : dl < 0 ∨ 1099511627776 < dl
    · rw [if_pos h2] at h
      rw [h.2]
      rcases h2 with h2 | h2
      · rw [decide_eq_false (p := 0 ≤ dl) (by omega)]; rfl
      · rw [decide_eq_false (p := dl ≤ 1099511627776) (by omega)]; simp
    · rw [if_neg h2] at h
      rw [decide_eq_true (p := 0 ≤ dl) (by omega), decide_eq_true (p := dl ≤ 1099511627776) (by omega)]
      by_cases h3 : ss.length = 0
      · rw [if_pos h3] at h
        rw [h.2, decide_eq_false (p := ss.length ≠ 0) (by omega)]
        rfl
      · rw [if_neg h3] at h
        rw [decide_eq_true (p := ss.length ≠ 0) h3]
        by_cases h4 : 32 < ss.length
        · rw [if_pos h4] at h
          rw [h.2, decide_eq_false (p := ss.length ≤ 32) (by omega)]
          rfl
        · rw [if_neg h4] at h
          rw [decide_eq_true (p := ss.length ≤ 32) (by omega)]
          simp only [Bool.and_true, Bool.true_and]
          rcases h with ⟨i, s, hs, rfl, h0, _, _⟩ | ⟨_, rfl, ha⟩
          · rw [decide_eq_false h0]
            cases hb : stepsB ss with
            | false => rfl
            | true => exact absurd ((stepsB_iff ss).1 hb i s hs) h0
          · rw [(stepsB_iff ss).2 ha]
            rfl
theorem step_zero {ss : List Stp} {i : Nat} {s : Stp} (h : stepE ss i s = 0) : (1 ≤ s.tm ∧ s.tm ≤ 1099511627776 ∧ 0 ≤ s.pr ∧ s.pr ≤ 255) ∧ s.t.Good ∧ s.u.Good := by
  unfold stepE at h
  split at h
  · cases h
  · split at h
    · cases h
    · split at h
      · cases h
      · split at h
        · cases h
        · next h1 h2 =>
          refine ⟨by omega, ?_, ?_⟩
          · exact Decidable.byContradiction fun hn => h2 (.inl hn)
          · exact Decidable.byContradiction fun hn => h2 (.inr hn)
theorem right_parts {nm : ByteArray} {dl : Int} {ss : List Stp} (h : rightB nm dl ss = true) : 0 ≤ dl ∧ dl ≤ 1099511627776 ∧ ss.length ≤ 32 ∧ ∀ i s, ss[i]? = some s → stepE ss i s = 0 := by
  unfold rightB at h
  simp only [Bool.and_eq_true, decide_eq_true_eq] at h
  obtain ⟨⟨⟨⟨⟨_, h1⟩, h2⟩, _⟩, h3⟩, h4⟩ := h
  exact ⟨h1, h2, h3, (stepsB_iff ss).1 h4⟩
def rp0 : Rp := ⟨0, 0, false, 0, false⟩
def tx0 : ByteArray := ⟨#[]⟩
def ev0 : Ev := ⟨0, 0, 0, tx0, rp0, tx0, 0, []⟩
def eqRp (a b : Rp) : Bool := decide (a.sg = b.sg) && decide (a.sp = b.sp) && decide (a.un = b.un) && decide (a.tr = b.tr) && decide (a.good = b.good)
theorem eqRp_iff {a b : Rp} : eqRp a b = true ↔ a = b := by
  obtain ⟨a1, a2, a3, a4, a5⟩ := a
  obtain ⟨b1, b2, b3, b4, b5⟩ := b
  simp [eqRp, and_assoc]
def nameG (v : Ev) : Bool := if v.k = 1 then nameB v.nm.data.toList else decide (v.nm = tx0)
def defG (v : Ev) : Bool := if v.k = 0 then decide (v.sg = 0) && rightB v.dn v.dl v.ss else sameB v.dn tx0 v.dl 0 v.ss []
def replyG (v : Ev) : Bool := if v.k = 3 then decide (0 ≤ v.r.sg) && decide (0 ≤ v.r.sp) && decide (0 ≤ v.r.tr) else eqRp v.r rp0
def kindG (k : Int) : Bool := decide (0 ≤ k) && decide (k ≤ 10)
def goodE (v : Ev) : Bool := kindG v.k && (decide (0 ≤ v.now) && decide (v.now ≤ 1099511627776)) && decide (0 ≤ v.sg) && nameG v && defG v && replyG v
theorem good_parts {v : Ev} (h : goodE v = true) : (0 ≤ v.k ∧ v.k ≤ 10) ∧ (0 ≤ v.now ∧ v.now ≤ 1099511627776) ∧ 0 ≤ v.sg ∧ nameG v = true ∧ defG v = true ∧ replyG v = true := by
  unfold goodE kindG at h
  simp only [Bool.and_eq_true, decide_eq_true_eq] at h
  obtain ⟨⟨⟨⟨⟨h1, h2⟩, h3⟩, h4⟩, h5⟩, h6⟩ := h
  exact ⟨h1, h2, h3, h4, h5, h6⟩
/-- texts and steps of a moderate size -/
def Mod (nm : ByteArray) (ss : List Stp) : Prop := nm.size ≤ 1000000 ∧ ss.length ≤ 1000 ∧ ∀ x ∈ ss, x.nm.size ≤ 1000000 ∧ x.pt.size ≤ 1000000
end Go.Proofs.YteejocnogpaifaaGreatDoor.Co
