/-
  Plain mathematics of breakers: a breaker as its numbers, its state at a tick, what may go, what comes of a Send, a Done, a Lost; what the document's own numbers say of it. It needs nothing of the program.
  Conditions: none.
-/
import Derived.Test.YtapnnlebokcmgaaTickMath
namespace Go.Proofs.Ytapnnlebokcmgaa.Bk

/-- a breaker: its three numbers, whether it was opened and not closed since, the failures counted, until when it is open, the probes out -/
structure S where
  trip : Int
  cool : Int
  probes : Int
  tr : Bool
  fl : Int
  un : Int
  ou : Int
/-- its state at a tick: 0 closed, 1 open, 2 half-open -/
def kind (s : S) (now : Int) : Int := if s.tr then (if s.un ≤ ofT now then 2 else 1) else 0
def may (s : S) (now : Int) : Bool := decide (kind s now = 0 ∨ kind s now = 2 ∧ s.ou < s.probes)
def send (s : S) (now : Int) : S := if kind s now = 2 ∧ s.ou < s.probes then { s with ou := s.ou + 1 } else s
def opened (s : S) (now : Int) : S := { s with tr := true, ou := 0, un := addT now s.cool }
def closedS (s : S) : S := { s with tr := false, fl := 0, ou := 0 }
def failed (s : S) (now : Int) : S := if s.fl + 1 = s.trip then opened { s with fl := s.fl + 1 } now else { s with fl := s.fl + 1 }
def done (s : S) (now : Int) (b : Bool) : S := if kind s now = 1 then s else if b then closedS s else if kind s now = 2 then opened s now else failed s now
def lost (s : S) (now : Int) : S := if kind s now = 2 ∧ 0 < s.ou then { s with ou := s.ou - 1 } else s
structure S.Ok (s : S) : Prop where
  trip : 1 ≤ s.trip ∧ s.trip ≤ 1000
  cool : 0 ≤ s.cool ∧ s.cool ≤ 1099511627776
  probes : 1 ≤ s.probes ∧ s.probes ≤ 1000
  fl : 0 ≤ s.fl ∧ s.fl ≤ 1000
  few : s.tr = false → s.fl < s.trip
  un : 0 ≤ s.un ∧ s.un ≤ 1099511627776
  ou : 0 ≤ s.ou ∧ s.ou ≤ s.probes
  none : s.tr = false → s.ou = 0
theorem kind_3 (s : S) (now : Int) : kind s now = 0 ∨ kind s now = 1 ∨ kind s now = 2 := by
  unfold kind; split
  · split
    · exact .inr (.inr rfl)
    · exact .inr (.inl rfl)
  · exact .inl rfl
theorem kind_0 {s : S} {now : Int} (h : kind s now = 0) : s.tr = false := by
  unfold kind at h
  split at h
  · split at h <;> cases h
  · next h1 => simpa using h1
theorem kind_t {s : S} {now : Int} (h : kind s now ≠ 0) : s.tr = true := by
  unfold kind at h
  split at h
  · next h1 => exact h1
  · exact absurd rfl h
theorem kind_of_closed {s : S} (now : Int) (h : s.tr = false) : kind s now = 0 := by unfold kind; rw [h]; rfl
def new (trip cool probes : Int) : S := ⟨trip, cool, probes, false, 0, 0, 0⟩
section
variable {s : S}
theorem S.Ok.opened (h : s.Ok) (now : Int) : (opened s now).Ok :=
  ⟨h.trip, h.cool, h.probes, h.fl, (by intro e; cases e), ⟨addT_lo _ _, addT_hi _ _⟩, ⟨Int.le_refl _, by have := h.probes; show (0 : Int) ≤ s.probes; omega⟩, (by intro e; cases e)⟩
theorem S.Ok.closedS (h : s.Ok) : (closedS s).Ok := by
  have h1 := h.trip; have h2 := h.probes
  exact ⟨h.trip, h.cool, h.probes, ⟨Int.le_refl _, by show (0 : Int) ≤ 1000; decide⟩, fun _ => by show (0 : Int) < s.trip; omega, h.un, ⟨Int.le_refl _, by show (0 : Int) ≤ s.probes; omega⟩, fun _ => rfl⟩
theorem S.Ok.counted (h : s.Ok) (hs : s.tr = false) (hne : s.fl + 1 ≠ s.trip) : S.Ok { s with fl := s.fl + 1 } := by
  have h1 := h.fl; have h2 := h.few hs; have h3 := h.trip
  exact ⟨h.trip, h.cool, h.probes, ⟨by show 0 ≤ s.fl + 1; omega, by show s.fl + 1 ≤ 1000; omega⟩, fun _ => by show s.fl + 1 < s.trip; omega, h.un, h.ou, h.none⟩
theorem S.Ok.failed (h : s.Ok) (hs : s.tr = false) (now : Int) : (failed s now).Ok := by
  have h1 := h.fl; have h2 := h.few hs; have h3 := h.trip
  unfold Bk.failed
  split
  · exact ⟨h.trip, h.cool, h.probes, ⟨by show 0 ≤ s.fl + 1; omega, by show s.fl + 1 ≤ 1000; omega⟩, (by intro e; cases e), ⟨addT_lo _ _, addT_hi _ _⟩, ⟨Int.le_refl _, by have := h.probes; show (0 : Int) ≤ s.probes; omega⟩, (by intro e; cases e)⟩
  · next hne => exact h.counted hs hne
theorem S.Ok.done (h : s.Ok) (now : Int) (b : Bool) : (done s now b).Ok := by
  unfold Bk.done
  split
  · exact h
  · split
    · exact h.closedS
    · split
      · exact h.opened now
      · next h1 _ h2 => exact h.failed (kind_0 (now := now) (by have := kind_3 s now; omega)) now
theorem S.Ok.send (h : s.Ok) (now : Int) : (send s now).Ok := by
  unfold Bk.send
  split
  · next h1 =>
    have h2 := h.ou
    have ht : s.tr = true := kind_t (now := now) (by omega)
    exact ⟨h.trip, h.cool, h.probes, h.fl, h.few, h.un, ⟨by show 0 ≤ s.ou + 1; omega, by show s.ou + 1 ≤ s.probes; omega⟩, fun e => by rw [show s.tr = false from e] at ht; cases ht⟩
  · exact h
theorem S.Ok.lost (h : s.Ok) (now : Int) : (lost s now).Ok := by
  unfold Bk.lost
  split
  · next h1 =>
    have h2 := h.ou
    have ht : s.tr = true := kind_t (now := now) (by omega)
    exact ⟨h.trip, h.cool, h.probes, h.fl, h.few, h.un, ⟨by show 0 ≤ s.ou - 1; omega, by show s.ou - 1 ≤ s.probes; omega⟩, fun e => by rw [show s.tr = false from e] at ht; cases ht⟩
  · exact h
theorem new_ok {t c p : Int} (ht : 1 ≤ t ∧ t ≤ 1000) (hc : 0 ≤ c ∧ c ≤ 1099511627776) (hp : 1 ≤ p ∧ p ≤ 1000) : (new t c p).Ok :=
  ⟨ht, hc, hp, ⟨Int.le_refl _, by show (0 : Int) ≤ 1000; decide⟩, fun _ => by show (0 : Int) < t; omega, ⟨Int.le_refl _, by show (0 : Int) ≤ 1099511627776; decide⟩, ⟨Int.le_refl _, by show (0 : Int) ≤ p; omega⟩, fun _ => rfl⟩
end
/-- the three numbers stay -/
def Same (s s' : S) : Prop := s'.trip = s.trip ∧ s'.cool = s.cool ∧ s'.probes = s.probes
theorem same_done (s : S) (now : Int) (b : Bool) : Same s (done s now b) := by
  unfold done failed opened closedS
  repeat' split
  all_goals exact ⟨rfl, rfl, rfl⟩
theorem same_send (s : S) (now : Int) : Same s (send s now) := by unfold send; split <;> exact ⟨rfl, rfl, rfl⟩
theorem same_lost (s : S) (now : Int) : Same s (lost s now) := by unfold lost; split <;> exact ⟨rfl, rfl, rfl⟩

/-- the document's numbers of a breaker -/
structure R where
  op : Bool
  fl : Int
  un : Int
  ou : Int
def refOf (s : S) : R := ⟨s.tr, if s.tr then 0 else s.fl, s.un, s.ou⟩
def rkind (r : R) (now : Int) : Int := if r.op then (if ofT now < r.un then 1 else 2) else 0
def rmay (r : R) (probes now : Int) : Bool := decide (rkind r now = 0 ∨ rkind r now = 2 ∧ r.ou < probes)
def rsend (r : R) (probes now : Int) : R := if rkind r now = 2 ∧ r.ou < probes then { r with ou := r.ou + 1 } else r
def rdone (r : R) (trip cool now : Int) (b : Bool) : R :=
  if rkind r now = 1 then r else if b then ⟨false, 0, r.un, 0⟩ else if rkind r now = 2 ∨ trip ≤ r.fl + 1 then ⟨true, 0, addT now cool, 0⟩ else { r with fl := r.fl + 1 }
def rlost (r : R) (now : Int) : R := if rkind r now = 2 ∧ 0 < r.ou then { r with ou := r.ou - 1 } else r
theorem rkind_of (s : S) (now : Int) : rkind (refOf s) now = kind s now := by
  unfold rkind kind refOf
  by_cases h : s.tr = true
  · simp only [h, if_true]
    repeat' split
    all_goals omega
  · simp only [h, Bool.false_eq_true, if_false]
theorem rmay_of (s : S) (now : Int) : rmay (refOf s) s.probes now = may s now := by unfold rmay may; rw [rkind_of]; rfl
theorem rsend_of (s : S) (now : Int) : rsend (refOf s) s.probes now = refOf (send s now) := by
  unfold rsend send
  rw [rkind_of]
  show (if kind s now = 2 ∧ s.ou < s.probes then _ else _) = _
  split <;> rfl
theorem rlost_of (s : S) (now : Int) : rlost (refOf s) now = refOf (lost s now) := by
  unfold rlost lost
  rw [rkind_of]
  show (if kind s now = 2 ∧ 0 < s.ou then _ else _) = _
  split <;> rfl
theorem rdone_of {s : S} (h : s.Ok) (now : Int) (b : Bool) : rdone (refOf s) s.trip s.cool now b = refOf (done s now b) := by
  unfold rdone done
  rw [rkind_of]
  rcases kind_3 s now with h1 | h1 | h1
  · have h2 := kind_0 h1
    have h3 := h.few h2
    have h4 : (refOf s).fl = s.fl := by unfold refOf; rw [h2]; rfl
    rw [h1, h4]
    cases b
    · unfold failed
      by_cases h5 : s.fl + 1 = s.trip
      · rw [if_neg (by decide), if_neg (by decide), if_pos (Or.inr (by omega)), if_neg (by decide), if_neg (by decide), if_neg (by decide), if_pos h5]
        rfl
      · rw [if_neg (by decide), if_neg (by decide), if_neg (by omega), if_neg (by decide), if_neg (by decide), if_neg (by decide), if_neg h5]
        unfold refOf
        simp [h2]
    · rfl
  · rw [h1]; rfl
  · rw [h1]
    cases b
    · rw [if_neg (by decide), if_neg (by decide), if_pos (Or.inl rfl), if_neg (by decide), if_neg (by decide), if_pos rfl]
      rfl
    · rfl
end Go.Proofs.Ytapnnlebokcmgaa.Bk
