/-
  Plain mathematics of a saga that is answered well: step by step forward, and back.
  Conditions: the definition is right, and has no deadline.
-/
import Derived.Test.YtkmldgcnbjjbcaaDoorSagActs
namespace Go.Proofs.YtkmldgcnbjjbcaaDoor.Sa
open Go.Proofs.YtkmldgcnbjjbcaaDoor.Bo (P left wait)
open Go.Proofs.YtkmldgcnbjjbcaaDoor.Df

def runS (nm : ByteArray) (T i at_ : Int) : Sg := ⟨3, nm, T, 0, i, 0, false, at_, 0⟩
def undS (nm : ByteArray) (T i at_ : Int) : Sg := ⟨3, nm, T, 1, i, 0, false, at_, 0⟩
section
variable {nm : ByteArray} {ss : List Stp} {T i at_ t : Int} (hr : RightD nm 0 ss) (hT : 0 ≤ T ∧ T ≤ 4294967296) (hi : 0 ≤ i ∧ i < ss.length) (ha : T ≤ at_ ∧ at_ ≤ t) (ht : t ≤ 4294967496)
include hr hT hi ha ht
theorem run_good (ph : Int) (hp : ph = 0 ∨ ph = 1) : Live nm 0 ss ⟨3, nm, T, ph, i, 0, false, at_, 0⟩ := by
  have hg : (planOf ss ⟨3, nm, T, ph, i, 0, false, at_, 0⟩).Good := plan_at hr hi.1 hi.2
  have hrr := hg.1
  exact ⟨⟨hr, rfl, ⟨hi, by show (0 : Int) ≤ 3; decide, ⟨hT.1, by show T ≤ _; omega⟩, ⟨by show 0 ≤ at_; omega, by show at_ ≤ _; omega⟩, ⟨Int.le_refl _, by show (0 : Int) ≤ 32; decide⟩, Int.le_refl _⟩, .inl ⟨hp, by show (0 : Int) ≤ _; omega, fun e => by cases e⟩⟩, fun _ => .inr hrr⟩
theorem run_may (ph : Int) (hp : ph = 0 ∨ ph = 1) : mayC 0 ss ⟨3, nm, T, ph, i, 0, false, at_, 0⟩ t = true := by
  have hg := (run_good hr hT hi ha ht ph hp).live hp
  have hl : (0 : Int) ≤ (planOf ss ⟨3, nm, T, ph, i, 0, false, at_, 0⟩).r := by
    rcases hg with hg | hg
    · cases hg
    · exact hg
  unfold mayC
  refine decide_eq_true ⟨?_, rfl, ha.2, hl⟩
  rcases hp with rfl | rfl
  · refine .inl ⟨rfl, ?_⟩
    show t < endT 0 T
    unfold endT
    rw [if_pos rfl]
    omega
  · exact .inr rfl
theorem run_emit (ph : Int) (hp : ph = 0 ∨ ph = 1) : emitA nm 0 ss ⟨3, nm, T, ph, i, 0, false, at_, 0⟩ t = (emitS ss ⟨3, nm, T, ph, i, 0, false, at_, 0⟩ t, emitC ss ⟨3, nm, T, ph, i, 0, false, at_, 0⟩, 0) := by
  have h0 : refE nm 0 ss ⟨3, nm, T, ph, i, 0, false, at_, 0⟩ t = 0 := refE_fine (run_good hr hT hi ha ht ph hp).good (by omega) (by unfold overB; exact decide_eq_false (by show ¬ (3 ≤ ph ∧ ph ≤ 5); omega))
  unfold emitA
  rw [if_neg (by simpa using h0), if_neg (by rw [run_may hr hT hi ha ht ph hp]; simp)]
theorem run_reply (ph : Int) (hp : ph = 0 ∨ ph = 1) (u : Bool) (hu : u = decide (ph = 1)) : replyA nm 0 ss (emitS ss ⟨3, nm, T, ph, i, 0, false, at_, 0⟩ t) ⟨3, i, u, 1, true⟩ t = (doneS ss.length (emitS ss ⟨3, nm, T, ph, i, 0, false, at_, 0⟩ t) t, 0) := by
  have hl := live_emit (run_good hr hT hi ha ht ph hp).good (run_may hr hT hi ha ht ph hp)
  have h0 : refE nm 0 ss (emitS ss ⟨3, nm, T, ph, i, 0, false, at_, 0⟩ t) t = 0 := refE_fine hl.good (by omega) (by unfold overB; exact decide_eq_false (by show ¬ (3 ≤ ph ∧ ph ≤ 5); omega))
  have hac : accB (emitS ss ⟨3, nm, T, ph, i, 0, false, at_, 0⟩ t) ⟨3, i, u, 1, true⟩ = true := by
    unfold accB emitS
    subst hu
    rcases hp with rfl | rfl <;> simp
  unfold replyA
  rw [if_neg (by simpa using h0), if_neg (by show ¬ (3 : Int) ≠ 3; simp), if_neg (by rw [hac]; simp), if_pos rfl]
end
theorem run_done {nm : ByteArray} {ss : List Stp} {T i at_ t : Int} {n : Nat} (hi : 0 ≤ i ∧ i < n) :
    (i + 1 < n ∧ doneS n (emitS ss ⟨3, nm, T, 0, i, 0, false, at_, 0⟩ t) t = runS nm T (i + 1) t) ∨ (i + 1 = n ∧ (doneS n (emitS ss ⟨3, nm, T, 0, i, 0, false, at_, 0⟩ t) t).ph = 3) := by
  unfold doneS
  rw [if_pos (by rfl)]
  by_cases h : i = (n : Int) - 1
  · rw [if_pos (by exact h)]
    exact .inr ⟨by omega, rfl⟩
  · rw [if_neg (by exact h)]
    exact .inl ⟨by omega, rfl⟩
theorem und_done {nm : ByteArray} {ss : List Stp} {T i at_ t : Int} {n : Nat} (hi : 0 ≤ i) :
    (1 ≤ i ∧ doneS n (emitS ss ⟨3, nm, T, 1, i, 0, false, at_, 0⟩ t) t = undS nm T (i - 1) t) ∨ (i = 0 ∧ (doneS n (emitS ss ⟨3, nm, T, 1, i, 0, false, at_, 0⟩ t) t).ph = 4 ∧ (doneS n (emitS ss ⟨3, nm, T, 1, i, 0, false, at_, 0⟩ t) t).sk = 0) := by
  unfold doneS
  rw [if_neg (by show ¬ (1 : Int) = 0; decide), if_neg (by show ¬ (0 : Int) < 0; decide)]
  unfold aheadS
  by_cases h : i = 0
  · rw [if_pos (by exact h)]
    exact .inr ⟨h, rfl, rfl⟩
  · rw [if_neg (by exact h)]
    exact .inl ⟨by omega, rfl⟩
theorem run_cancel {nm : ByteArray} {ss : List Stp} {T i at_ t : Int} (hr : RightD nm 0 ss) (hT : 0 ≤ T ∧ T ≤ 4294967296) (hi : 0 ≤ i ∧ i < ss.length) (ha : T ≤ at_ ∧ at_ ≤ t) (ht : t ≤ 4294967496) : cancelA nm 0 ss (runS nm T i at_) t = (aheadS (runS nm T i at_) 4 t, 0) := by
  have h0 : refE nm 0 ss (runS nm T i at_) t = 0 := refE_fine (run_good hr hT hi ha ht 0 (.inl rfl)).good (by omega) (by unfold overB; exact decide_eq_false (by show ¬ (3 ≤ (0 : Int) ∧ _); omega))
  unfold cancelA
  rw [if_neg (by simpa using h0), if_neg (by show ¬ (0 : Int) ≠ 0; simp)]
theorem cancel_is {nm : ByteArray} {T i at_ t : Int} (hi : 0 ≤ i) : (1 ≤ i ∧ aheadS (runS nm T i at_) 4 t = undS nm T (i - 1) t) ∨ (i = 0 ∧ (aheadS (runS nm T i at_) 4 t).ph = 4 ∧ (aheadS (runS nm T i at_) 4 t).sk = 0) := by
  unfold aheadS
  by_cases h : i = 0
  · rw [if_pos (by exact h)]
    exact .inr ⟨h, rfl, rfl⟩
  · rw [if_neg (by exact h)]
    exact .inl ⟨by omega, rfl⟩
end Go.Proofs.YtkmldgcnbjjbcaaDoor.Sa
