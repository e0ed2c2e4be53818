/-
  Plain mathematics of sagas: which may be, what is done with one, what is due; what is right stays right. It needs nothing of the program.
  Conditions: none.
-/
import Derived.Test.YteejocnogpaifaaGreatDoorDefMath
namespace Go.Proofs.YteejocnogpaifaaGreatDoor.Sa
open Go.Proofs.YteejocnogpaifaaGreatDoor.Bo (P left wait)
open Go.Proofs.YteejocnogpaifaaGreatDoor.Df

structure Sg where
  id : Int
  dn : ByteArray
  st : Int
  ph : Int
  sp : Int
  tr : Int
  out : Bool
  at_ : Int
  sk : Int
/-- a command -/
structure Cm where
  sg : Int
  sp : Int
  un : Bool
  tr : Int
  pt : ByteArray
  key : ByteArray
/-- a reply -/
structure Rp where
  sg : Int
  sp : Int
  un : Bool
  tr : Int
  good : Bool
def cm0 : Cm := ⟨0, 0, false, 0, ⟨#[]⟩, ⟨#[]⟩⟩
def eqG (a b : Sg) : Bool := decide (a.id = b.id) && decide (a.dn = b.dn) && decide (a.st = b.st) && decide (a.ph = b.ph) && decide (a.sp = b.sp) && decide (a.tr = b.tr) && decide (a.out = b.out) && decide (a.at_ = b.at_) && decide (a.sk = b.sk)
theorem eqG_iff {a b : Sg} : eqG a b = true ↔ a = b := by
  obtain ⟨a1, a2, a3, a4, a5, a6, a7, a8, a9⟩ := a
  obtain ⟨b1, b2, b3, b4, b5, b6, b7, b8, b9⟩ := b
  simp [eqG, and_assoc]
theorem eqG_self (a : Sg) : eqG a a = true := eqG_iff.2 rfl
def eqC (a b : Cm) : Bool := decide (a.sg = b.sg) && decide (a.sp = b.sp) && decide (a.un = b.un) && decide (a.tr = b.tr) && decide (a.pt = b.pt) && decide (a.key = b.key)
theorem eqC_iff {a b : Cm} : eqC a b = true ↔ a = b := by
  obtain ⟨a1, a2, a3, a4, a5, a6⟩ := a
  obtain ⟨b1, b2, b3, b4, b5, b6⟩ := b
  simp [eqC, and_assoc]
theorem eqC_self (a : Cm) : eqC a a = true := eqC_iff.2 rfl

/-! ### Right definitions -/
def RightD (nm : ByteArray) (dl : Int) (ss : List Stp) : Prop := ∃ k, ChkIs nm dl ss k 0
section
variable {nm : ByteArray} {dl k ev : Int} {ss : List Stp}
theorem right_iff (h : ChkIs nm dl ss k ev) : ev = 0 ↔ RightD nm dl ss :=
  ⟨fun e => ⟨k, e ▸ h⟩, fun ⟨_, h'⟩ => (chk_uniq h h').2⟩
theorem right_all (h : RightD nm dl ss) : (1 ≤ ss.length ∧ ss.length ≤ 32) ∧ (0 ≤ dl ∧ dl ≤ 1099511627776) ∧ ∀ i x, ss[i]? = some x → stepE ss i x = 0 := by
  obtain ⟨k, h⟩ := h
  unfold ChkIs at h
  split at h
  · exact absurd h.2 (by decide)
  · split at h
    · exact absurd h.2 (by decide)
    · split at h
      · exact absurd h.2 (by decide)
      · split at h
        · exact absurd h.2 (by decide)
        · refine ⟨by omega, by omega, ?_⟩
          rcases h with ⟨j, t, _, h2, h3, _⟩ | ⟨_, _, h3⟩
          · exact absurd h2.symm h3
          · exact h3
theorem right_step (h : RightD nm dl ss) {i : Nat} {x : Stp} (hx : ss[i]? = some x) : (1 ≤ x.tm ∧ x.tm ≤ 1099511627776) ∧ x.t.Good ∧ x.u.Good := by
  have := (right_all h).2.2 i x hx
  unfold stepE at this
  split at this
  · cases this
  · split at this
    · cases this
    · split at this
      · cases this
      · split at this
        · cases this
        · next h3 =>
          refine ⟨by omega, ?_, ?_⟩
          · exact Decidable.byContradiction fun e => h3 (.inl e)
          · exact Decidable.byContradiction fun e => h3 (.inr e)
end
def stp (ss : List Stp) (i : Int) : Stp := (ss[i.toNat]?).getD ⟨⟨#[]⟩, ⟨#[]⟩, 0, ⟨0, 0, 0, 0⟩, ⟨0, 0, 0, 0⟩, 0⟩
theorem stp_at {ss : List Stp} {i : Int} (h0 : 0 ≤ i) (h1 : i < ss.length) : ss[i.toNat]? = some (stp ss i) := by
  unfold stp
  rw [List.getElem?_eq_getElem (by omega)]
  rfl
theorem stp_is {ss : List Stp} {i : Int} {x : Stp} (h : ss[i.toNat]? = some x) : stp ss i = x := by
  unfold stp
  rw [h]
  rfl
def planOf (ss : List Stp) (s : Sg) : P := if s.ph = 0 then (stp ss s.sp).t else (stp ss s.sp).u

/-! ### Which sagas may be -/
def TriesOk (p : P) (s : Sg) : Prop := (s.ph = 0 ∨ s.ph = 1) ∧ s.tr ≤ p.r + 1 ∧ (s.out = true → 0 < s.tr) ∨ s.ph = 2 ∧ s.tr = p.r + 1 ∧ s.out = false ∨ (3 ≤ s.ph ∧ s.ph ≤ 5) ∧ s.out = false
structure FieldsOk (n : Nat) (s : Sg) : Prop where
  sp : 0 ≤ s.sp ∧ s.sp < n
  id : 0 ≤ s.id
  st : 0 ≤ s.st ∧ s.st ≤ 1099511627776
  at_ : 0 ≤ s.at_ ∧ s.at_ ≤ 1099511627776
  sk : 0 ≤ s.sk ∧ s.sk ≤ 32
  tr : 0 ≤ s.tr
structure GoodS (nm : ByteArray) (dl : Int) (ss : List Stp) (s : Sg) : Prop where
  right : RightD nm dl ss
  dn : s.dn = nm
  fld : FieldsOk ss.length s
  tries : TriesOk (planOf ss s) s
theorem right_name {nm : ByteArray} {dl : Int} {ss : List Stp} (h : RightD nm dl ss) : nameB nm.data.toList = true := by
  obtain ⟨k, h⟩ := h
  unfold ChkIs at h
  split at h
  · exact absurd h.2 (by decide)
  · next hn => simpa using hn
def rightB (nm : ByteArray) (dl : Int) (ss : List Stp) : Bool := nameB nm.data.toList && decide (0 ≤ dl ∧ dl ≤ 1099511627776) && decide (1 ≤ ss.length ∧ ss.length ≤ 32) && (List.range ss.length).all fun i => decide (stepE ss i (stp ss (i : Int)) = 0)
theorem rightB_iff {nm : ByteArray} {dl : Int} {ss : List Stp} : rightB nm dl ss = true ↔ RightD nm dl ss := by
  unfold rightB
  simp only [Bool.and_eq_true, decide_eq_true_eq, List.all_eq_true, List.mem_range]
  constructor
  · rintro ⟨⟨⟨h1, h2⟩, h3⟩, h4⟩
    refine ⟨-1, ?_⟩
    unfold ChkIs
    rw [if_neg (by rw [h1]; simp), if_neg (by omega), if_neg (by omega), if_neg (by omega)]
    refine .inr ⟨rfl, rfl, fun j t ht => ?_⟩
    have hj : j < ss.length := by
      rcases Nat.lt_or_ge j ss.length with h | h
      · exact h
      · rw [List.getElem?_eq_none h] at ht; cases ht
    have := h4 j hj
    rwa [stp_is (i := (j : Int)) (x := t) (by simpa using ht)] at this
  · intro h
    obtain ⟨h3, h2, h4⟩ := right_all h
    exact ⟨⟨⟨right_name h, h2⟩, h3⟩, fun i hi => h4 i _ (by have := stp_at (ss := ss) (i := (i : Int)) (by omega) (by omega); simpa using this)⟩
instance (p : P) (s : Sg) : Decidable (TriesOk p s) := by unfold TriesOk; exact inferInstance
instance (nm : ByteArray) (dl : Int) (ss : List Stp) (s : Sg) : Decidable (GoodS nm dl ss s) :=
  decidable_of_iff (rightB nm dl ss = true ∧ s.dn = nm ∧ ((0 ≤ s.sp ∧ s.sp < ss.length) ∧ 0 ≤ s.id ∧ (0 ≤ s.st ∧ s.st ≤ 1099511627776) ∧ (0 ≤ s.at_ ∧ s.at_ ≤ 1099511627776) ∧ (0 ≤ s.sk ∧ s.sk ≤ 32) ∧ 0 ≤ s.tr) ∧ TriesOk (planOf ss s) s)
    ⟨fun ⟨h1, h2, ⟨h3, h4, h5, h6, h7, h8⟩, h9⟩ => ⟨rightB_iff.1 h1, h2, ⟨h3, h4, h5, h6, h7, h8⟩, h9⟩, fun h => ⟨rightB_iff.2 h.right, h.dn, ⟨h.fld.sp, h.fld.id, h.fld.st, h.fld.at_, h.fld.sk, h.fld.tr⟩, h.tries⟩⟩
def goodB (nm : ByteArray) (dl : Int) (ss : List Stp) (s : Sg) : Bool := decide (GoodS nm dl ss s)
def overB (s : Sg) : Bool := decide (3 ≤ s.ph ∧ s.ph ≤ 5)
/-- why nothing is done with a saga, whatever it is -/
def refE (nm : ByteArray) (dl : Int) (ss : List Stp) (s : Sg) (now : Int) : Int :=
  if GoodS nm dl ss s ∧ 0 ≤ now ∧ now ≤ 1099511627776 then (if overB s = true then 19 else 0) else 1
section
variable {nm : ByteArray} {dl now : Int} {ss : List Stp} {s : Sg}
theorem goodB_yes (h : GoodS nm dl ss s) : goodB nm dl ss s = true := by unfold goodB; exact decide_eq_true h
theorem goodB_no (h : ¬ GoodS nm dl ss s) : goodB nm dl ss s = false := by unfold goodB; exact decide_eq_false h
theorem goodB_iff : goodB nm dl ss s = true ↔ GoodS nm dl ss s := by unfold goodB; exact decide_eq_true_iff
theorem refE_bad (h : ¬ GoodS nm dl ss s) : refE nm dl ss s now = 1 := by unfold refE; rw [if_neg fun e => h e.1]
theorem refE_now (h : ¬ (0 ≤ now ∧ now ≤ 1099511627776)) : refE nm dl ss s now = 1 := by unfold refE; rw [if_neg fun e => h e.2]
theorem refE_over (h : GoodS nm dl ss s) (hn : 0 ≤ now ∧ now ≤ 1099511627776) (ho : overB s = true) : refE nm dl ss s now = 19 := by unfold refE; rw [if_pos ⟨h, hn⟩, if_pos ho]
theorem refE_fine (h : GoodS nm dl ss s) (hn : 0 ≤ now ∧ now ≤ 1099511627776) (ho : overB s = false) : refE nm dl ss s now = 0 := by unfold refE; rw [if_pos ⟨h, hn⟩, if_neg (by rw [ho]; simp)]
theorem refE_zero (h : refE nm dl ss s now = 0) : GoodS nm dl ss s ∧ (0 ≤ now ∧ now ≤ 1099511627776) ∧ (s.ph = 0 ∨ s.ph = 1 ∨ s.ph = 2) := by
  unfold refE at h
  split at h
  · next hg =>
    refine ⟨hg.1, hg.2, ?_⟩
    split at h
    · cases h
    · next ho =>
      have ho' : ¬ (3 ≤ s.ph ∧ s.ph ≤ 5) := by simpa [overB] using ho
      rcases hg.1.tries with h1 | h1 | h1
      · omega
      · omega
      · exact absurd h1.1 ho'
  · cases h
theorem good_step (h : GoodS nm dl ss s) : ss[s.sp.toNat]? = some (stp ss s.sp) := stp_at h.fld.sp.1 h.fld.sp.2
theorem good_plan (h : GoodS nm dl ss s) : (planOf ss s).Good := by
  have := right_step h.right (good_step h)
  unfold planOf
  split
  · exact this.2.1
  · exact this.2.2
theorem good_tr (h : GoodS nm dl ss s) (hp : s.ph = 0 ∨ s.ph = 1 ∨ s.ph = 2) : 0 ≤ s.tr ∧ s.tr ≤ (planOf ss s).r + 1 ∧ s.tr ≤ 1001 := by
  have h0 := h.fld.tr
  obtain ⟨h1, h2, _⟩ := good_plan h
  rcases h.tries with h3 | h3 | h3 <;> omega
end

/-! ### What is done -/
def mayC (dl : Int) (ss : List Stp) (s : Sg) (now : Int) : Bool := decide ((s.ph = 0 ∧ now < endT dl s.st ∨ s.ph = 1) ∧ s.out = false ∧ s.at_ ≤ now ∧ s.tr ≤ (planOf ss s).r)
def mayB (nm : ByteArray) (dl : Int) (ss : List Stp) (s : Sg) (now : Int) : Bool := decide (refE nm dl ss s now = 0) && mayC dl ss s now
def emitS (ss : List Stp) (s : Sg) (now : Int) : Sg := ⟨s.id, s.dn, s.st, s.ph, s.sp, s.tr + 1, true, addT now (stp ss s.sp).tm, s.sk⟩
def putS (s : Sg) (ph sp now : Int) : Sg := ⟨s.id, s.dn, s.st, ph, sp, 0, false, now, s.sk⟩
def endS (s : Sg) (ph : Int) : Sg := ⟨s.id, s.dn, s.st, ph, s.sp, s.tr, false, s.at_, s.sk⟩
def aheadS (s : Sg) (last now : Int) : Sg := if s.sp = 0 then endS s last else putS s 1 (s.sp - 1) now
def doneS (n : Nat) (s : Sg) (now : Int) : Sg := if s.ph = 0 then (if s.sp = (n : Int) - 1 then endS s 3 else putS s 0 (s.sp + 1) now) else if 0 < s.sk then aheadS s 5 now else aheadS s 4 now
def restS (ss : List Stp) (s : Sg) (now : Int) : Sg := ⟨s.id, s.dn, s.st, s.ph, s.sp, s.tr, false, addT now (wait (planOf ss s) (s.tr - 1).toNat), s.sk⟩
def failS (ss : List Stp) (s : Sg) (now : Int) : Sg := if s.tr ≤ (planOf ss s).r then restS ss s now else if s.ph = 0 then aheadS s 4 now else endS s 2
def skipS (s : Sg) : Sg := ⟨s.id, s.dn, s.st, s.ph, s.sp, s.tr, s.out, s.at_, min (s.sk + 1) 32⟩
def accB (s : Sg) (r : Rp) : Bool := (decide (s.ph = 0) && !r.un || decide (s.ph = 1) && r.un) && (decide (r.sp = s.sp) && decide (1 ≤ r.tr) && decide (r.tr ≤ s.tr)) && (r.good || decide (r.tr = s.tr) && s.out)
def replyA (nm : ByteArray) (dl : Int) (ss : List Stp) (s : Sg) (r : Rp) (now : Int) : Sg × Int :=
  if refE nm dl ss s now ≠ 0 then (s, refE nm dl ss s now)
  else if r.sg ≠ s.id then (s, 7)
  else if accB s r = false then (s, 15)
  else if r.good = true then (doneS ss.length s now, 0)
  else (failS ss s now, 0)
def lateA (nm : ByteArray) (dl : Int) (ss : List Stp) (s : Sg) (now : Int) : Sg × Int :=
  if refE nm dl ss s now ≠ 0 then (s, refE nm dl ss s now)
  else if s.out = false ∨ now < s.at_ then (s, 9) else (failS ss s now, 0)
def expireA (nm : ByteArray) (dl : Int) (ss : List Stp) (s : Sg) (now : Int) : Sg × Int :=
  if refE nm dl ss s now ≠ 0 then (s, refE nm dl ss s now)
  else if s.ph ≠ 0 ∨ now < endT dl s.st then (s, 9) else (aheadS s 4 now, 0)
def cancelA (nm : ByteArray) (dl : Int) (ss : List Stp) (s : Sg) (now : Int) : Sg × Int :=
  if refE nm dl ss s now ≠ 0 then (s, refE nm dl ss s now)
  else if s.ph ≠ 0 then (s, 9) else (aheadS s 4 now, 0)
def retryA (nm : ByteArray) (dl : Int) (ss : List Stp) (s : Sg) (now : Int) : Sg × Int :=
  if refE nm dl ss s now ≠ 0 then (s, refE nm dl ss s now)
  else if s.ph ≠ 2 then (s, 9) else (putS s 1 s.sp now, 0)
def skipA (nm : ByteArray) (dl : Int) (ss : List Stp) (s : Sg) (now : Int) : Sg × Int :=
  if refE nm dl ss s now ≠ 0 then (s, refE nm dl ss s now)
  else if s.ph ≠ 2 then (s, 9) else (doneS ss.length (skipS s) now, 0)
def abandonA (nm : ByteArray) (dl : Int) (ss : List Stp) (s : Sg) (now : Int) : Sg × Int :=
  if refE nm dl ss s now ≠ 0 then (s, refE nm dl ss s now)
  else if s.ph ≠ 2 then (s, 9) else (endS s 5, 0)

/-! ### What is right stays right; and it has a try that is out, or one that is left -/
structure Live (nm : ByteArray) (dl : Int) (ss : List Stp) (s : Sg) : Prop where
  good : GoodS nm dl ss s
  live : s.ph = 0 ∨ s.ph = 1 → s.out = true ∨ s.tr ≤ (planOf ss s).r
section
variable {nm : ByteArray} {dl now : Int} {ss : List Stp} {s : Sg}
theorem plan_at (hr : RightD nm dl ss) {t : Sg} (h0 : 0 ≤ t.sp) (h1 : t.sp < ss.length) : (planOf ss t).Good := by
  have := right_step hr (stp_at h0 h1)
  unfold planOf
  split
  · exact this.2.1
  · exact this.2.2
theorem live_put (h : GoodS nm dl ss s) {ph sp : Int} (hp : ph = 0 ∨ ph = 1) (h0 : 0 ≤ sp) (h1 : sp < ss.length) (hn : 0 ≤ now ∧ now ≤ 1099511627776) : Live nm dl ss (putS s ph sp now) := by
  have hg : (planOf ss (putS s ph sp now)).Good := plan_at h.right h0 h1
  have hr := hg.1
  exact ⟨⟨h.right, h.dn, ⟨⟨h0, h1⟩, h.fld.id, h.fld.st, hn, h.fld.sk, Int.le_refl _⟩, .inl ⟨hp, by show (0 : Int) ≤ _; omega, fun e => by cases e⟩⟩, fun _ => .inr hr⟩
theorem live_end (h : GoodS nm dl ss s) {ph : Int} (hp : 3 ≤ ph ∧ ph ≤ 5) : Live nm dl ss (endS s ph) :=
  ⟨⟨h.right, h.dn, ⟨h.fld.sp, h.fld.id, h.fld.st, h.fld.at_, h.fld.sk, h.fld.tr⟩, .inr (.inr ⟨hp, rfl⟩)⟩, fun e => by
    have e' : ph = 0 ∨ ph = 1 := e
    omega⟩
theorem live_ahead (h : GoodS nm dl ss s) {last : Int} (hl : 3 ≤ last ∧ last ≤ 5) (hn : 0 ≤ now ∧ now ≤ 1099511627776) : Live nm dl ss (aheadS s last now) := by
  have := h.fld.sp
  unfold aheadS
  split
  · exact live_end h hl
  · exact live_put h (.inr rfl) (by omega) (by omega) hn
theorem live_done (h : GoodS nm dl ss s) (hn : 0 ≤ now ∧ now ≤ 1099511627776) : Live nm dl ss (doneS ss.length s now) := by
  have := h.fld.sp
  unfold doneS
  split
  · split
    · exact live_end h (by omega)
    · exact live_put h (.inl rfl) (by omega) (by omega) hn
  · split
    · exact live_ahead h (by omega) hn
    · exact live_ahead h (by omega) hn
theorem live_fail (h : GoodS nm dl ss s) (hp : s.ph = 0 ∨ s.ph = 1) (hn : 0 ≤ now ∧ now ≤ 1099511627776) : Live nm dl ss (failS ss s now) := by
  have ht := good_tr h (by omega)
  unfold failS
  split
  · next hl =>
    exact ⟨⟨h.right, h.dn, ⟨h.fld.sp, h.fld.id, h.fld.st, ⟨addT_lo _ _, addT_hi _ _⟩, h.fld.sk, h.fld.tr⟩, .inl ⟨hp, ht.2.1, fun e => by cases e⟩⟩, fun _ => .inr hl⟩
  · split
    · exact live_ahead h (by omega) hn
    · next hl h0 =>
      have h1 : s.ph = 1 := by omega
      have hpl : planOf ss (endS s 2) = planOf ss s := by
        unfold planOf
        rw [if_neg (show ¬ (endS s 2).ph = 0 by show ¬ (2 : Int) = 0; decide), if_neg h0]
        rfl
      exact ⟨⟨h.right, h.dn, ⟨h.fld.sp, h.fld.id, h.fld.st, h.fld.at_, h.fld.sk, h.fld.tr⟩, .inr (.inl ⟨rfl, by rw [hpl]; show s.tr = _; omega, rfl⟩)⟩, fun e => by
        have e' : (2 : Int) = 0 ∨ (2 : Int) = 1 := e
        omega⟩
theorem live_emit (h : GoodS nm dl ss s) (hm : mayC dl ss s now = true) : Live nm dl ss (emitS ss s now) := by
  have hm' := of_decide_eq_true hm
  have ht := good_tr h (by omega)
  exact ⟨⟨h.right, h.dn, ⟨h.fld.sp, h.fld.id, h.fld.st, ⟨addT_lo _ _, addT_hi _ _⟩, h.fld.sk, by show 0 ≤ s.tr + 1; omega⟩, .inl ⟨by show s.ph = 0 ∨ s.ph = 1; omega, by
    show s.tr + 1 ≤ (planOf ss s).r + 1
    omega, fun _ => by show 0 < s.tr + 1; omega⟩⟩, fun _ => .inl rfl⟩
theorem good_skip (h : GoodS nm dl ss s) : GoodS nm dl ss (skipS s) :=
  ⟨h.right, h.dn, ⟨h.fld.sp, h.fld.id, h.fld.st, h.fld.at_, by show 0 ≤ min (s.sk + 1) 32 ∧ min (s.sk + 1) 32 ≤ 32; have := h.fld.sk; omega, h.fld.tr⟩, h.tries⟩
end
end Go.Proofs.YteejocnogpaifaaGreatDoor.Sa
