/-
  Plain mathematics of guards: a party by its parts, a gate (a party, its breaker's numbers, how many are in flight), what May, Send, Over, Restore make of a row of gates. It needs nothing of the program.
  Conditions: none.
-/
import Derived.Test.YtapnnlebokcmgaaBrkCalls
import Derived.Test.YtapnnlebokcmgaaLabMath
namespace Go.Proofs.Ytapnnlebokcmgaa.Gd
open Go.Proofs.Ytapnnlebokcmgaa.Bk (S kind)

/-- a party by its parts -/
structure Pty where
  nm : ByteArray
  seats : Int
  trip : Int
  cool : Int
  probes : Int
/-- its breaker's numbers are right -/
structure Pty.Brk (p : Pty) : Prop where
  trip : 1 ≤ p.trip ∧ p.trip ≤ 1000
  cool : 0 ≤ p.cool ∧ p.cool ≤ 1099511627776
  probes : 1 ≤ p.probes ∧ p.probes ≤ 1000
/-- it is right, its name let out -/
structure Pty.Ok (p : Pty) : Prop where
  seats : 1 ≤ p.seats ∧ p.seats ≤ 10000
  brk : p.Brk
def brkB (p : Pty) : Bool := decide (1 ≤ p.trip ∧ p.trip ≤ 1000 ∧ (0 ≤ p.cool ∧ p.cool ≤ 1099511627776) ∧ 1 ≤ p.probes ∧ p.probes ≤ 1000)
theorem brkB_yes {p : Pty} (h : brkB p = true) : p.Brk := by
  unfold brkB at h
  obtain ⟨h1, h2, h3, h4, h5⟩ := of_decide_eq_true h
  exact ⟨⟨h1, h2⟩, h3, ⟨h4, h5⟩⟩
theorem brkB_no {p : Pty} (h : brkB p = false) : p.trip < 1 ∨ 1000 < p.trip ∨ Bk.goodN p.cool = false ∨ p.probes < 1 ∨ 1000 < p.probes := by
  unfold brkB at h
  have h' := of_decide_eq_false h
  by_cases h3 : 0 ≤ p.cool ∧ p.cool ≤ 1099511627776
  · by_cases a : p.trip < 1
    · exact .inl a
    by_cases b : 1000 < p.trip
    · exact .inr (.inl b)
    by_cases c : p.probes < 1
    · exact .inr (.inr (.inr (.inl c)))
    by_cases d : 1000 < p.probes
    · exact .inr (.inr (.inr (.inr d)))
    exact absurd ⟨by omega, by omega, h3, by omega, by omega⟩ h'
  · exact .inr (.inr (.inl (decide_eq_false h3)))
/-- it is right -/
def rightB (p : Pty) : Bool := brkB p && (nameB p.nm.data.toList && (decide (1 ≤ p.seats) && decide (p.seats ≤ 10000)))
theorem rightB_ok {p : Pty} (h : rightB p = true) : p.Ok := by
  unfold rightB at h
  simp only [Bool.and_eq_true, decide_eq_true_eq] at h
  exact ⟨⟨h.2.2.1, h.2.2.2⟩, brkB_yes h.1⟩
/-- a gate: a party, its breaker's numbers, how many are in flight -/
structure Gt where
  p : Pty
  s : S
  fl : Int
structure Gt.Ok (x : Gt) : Prop where
  p : x.p.Ok
  s : x.s.Ok
  same : x.s.trip = x.p.trip ∧ x.s.cool = x.p.cool ∧ x.s.probes = x.p.probes
  fl : 0 ≤ x.fl ∧ x.fl ≤ x.p.seats
def gnew (p : Pty) : Gt := ⟨p, Bk.new p.trip p.cool p.probes, 0⟩
theorem gnew_ok {p : Pty} (h : p.Ok) : (gnew p).Ok := by
  have h1 := h.seats
  exact ⟨h, Bk.new_ok h.brk.trip h.brk.cool h.brk.probes, ⟨rfl, rfl, rfl⟩, ⟨Int.le_refl _, by show (0 : Int) ≤ p.seats; omega⟩⟩
/-- the gate at a place -/
def at? (L : List Gt) (p : Int) : Option Gt := if p < 0 then none else L[p.toNat]?
theorem at_nat (L : List Gt) (i : Nat) : at? L (i : Int) = L[i]? := by
  unfold at?
  rw [if_neg (by omega)]
  rfl
theorem at_none {L : List Gt} {p : Int} (h : p < 0 ∨ (L.length : Int) ≤ p) : at? L p = none := by
  unfold at?
  split
  · rfl
  · rw [List.getElem?_eq_none (by omega)]
/-- an answer of the gate at a place, and another where there is none -/
def ans (L : List Gt) (p : Int) (d : Int) (f : Gt → Int) : Int := match at? L p with | none => d | some x => f x
/-- the gates, that at a place turned where a test of it holds -/
def turn (L : List Gt) (p : Int) (ok : Gt → Bool) (f : Gt → Gt) : List Gt := match at? L p with | none => L | some x => if ok x then L.set p.toNat (f x) else L
def flyG (L : List Gt) (p : Int) : Int := ans L p 0 Gt.fl
def stateG (L : List Gt) (p now : Int) : Int := ans L p 0 fun x => kind x.s now
def mayE (x : Gt) (now : Int) : Int := if x.fl = x.p.seats then 8 else if Bk.may x.s now then 0 else 16
def mayG (L : List Gt) (p now : Int) : Int := ans L p 7 fun x => mayE x now
def sendT (x : Gt) (now : Int) : Gt := ⟨x.p, Bk.send x.s now, x.fl + 1⟩
def sendG (L : List Gt) (p now : Int) : List Gt := turn L p (fun x => decide (mayE x now = 0)) fun x => sendT x now
def overE (x : Gt) (how : Int) : Int := if how < 0 ∨ 2 < how then 11 else if x.fl = 0 then 9 else 0
def overS (s : S) (now how : Int) : S := if how = 2 then Bk.lost s now else Bk.done s now (decide (how = 0))
def overT (x : Gt) (now how : Int) : Gt := ⟨x.p, overS x.s now how, x.fl - 1⟩
def overA (L : List Gt) (p how : Int) : Int := ans L p 7 fun x => overE x how
def overG (L : List Gt) (p now how : Int) : List Gt := turn L p (fun x => decide (overE x how = 0)) fun x => overT x now how
def resE (x : Gt) (k : Int) : Int := if k < 0 ∨ x.p.seats < k then 1 else 0
def resT (x : Gt) (k : Int) : Gt := ⟨x.p, Bk.new x.p.trip x.p.cool x.p.probes, k⟩
def resA (L : List Gt) (p k : Int) : Int := ans L p 7 fun x => resE x k
def resG (L : List Gt) (p k : Int) : List Gt := turn L p (fun x => decide (resE x k = 0)) fun x => resT x k
section
variable {x : Gt}
theorem Gt.Ok.sendB (h : x.Ok) (now : Int) : Gt.Ok ⟨x.p, Bk.send x.s now, x.fl⟩ := by
  have h1 := Bk.same_send x.s now
  exact ⟨h.p, h.s.send now, ⟨h1.1.trans h.same.1, h1.2.1.trans h.same.2.1, h1.2.2.trans h.same.2.2⟩, h.fl⟩
theorem Gt.Ok.sendT (h : x.Ok) {now : Int} (hm : mayE x now = 0) : (sendT x now).Ok := by
  have h1 := Bk.same_send x.s now
  have h2 := h.fl
  have h3 : x.fl ≠ x.p.seats := fun e => by unfold mayE at hm; rw [if_pos e] at hm; cases hm
  exact ⟨h.p, h.s.send now, ⟨h1.1.trans h.same.1, h1.2.1.trans h.same.2.1, h1.2.2.trans h.same.2.2⟩, ⟨by show 0 ≤ x.fl + 1; omega, by show x.fl + 1 ≤ x.p.seats; omega⟩⟩
theorem Gt.Ok.less (h : x.Ok) (h0 : x.fl ≠ 0) : Gt.Ok ⟨x.p, x.s, x.fl - 1⟩ := by
  have h2 := h.fl
  exact ⟨h.p, h.s, h.same, ⟨by show 0 ≤ x.fl - 1; omega, by show x.fl - 1 ≤ x.p.seats; omega⟩⟩
theorem overS_ok {s : S} (h : s.Ok) (now how : Int) : (overS s now how).Ok := by
  unfold overS
  split
  · exact h.lost now
  · exact h.done now _
theorem overS_same (s : S) (now how : Int) : Bk.Same s (overS s now how) := by
  unfold overS
  split
  · exact Bk.same_lost s now
  · exact Bk.same_done s now _
theorem Gt.Ok.overT (h : x.Ok) (now how : Int) (h0 : x.fl ≠ 0) : (overT x now how).Ok := by
  have h1 := overS_same x.s now how
  exact ⟨h.p, overS_ok h.s now how, ⟨h1.1.trans h.same.1, h1.2.1.trans h.same.2.1, h1.2.2.trans h.same.2.2⟩, (h.less h0).fl⟩
theorem Gt.Ok.resT (h : x.Ok) {k : Int} (hk : resE x k = 0) : (resT x k).Ok := by
  have h1 : ¬ (k < 0 ∨ x.p.seats < k) := fun e => by unfold resE at hk; rw [if_pos e] at hk; cases hk
  exact ⟨h.p, Bk.new_ok h.p.brk.trip h.p.brk.cool h.p.brk.probes, ⟨rfl, rfl, rfl⟩, ⟨by show 0 ≤ k; omega, by show k ≤ x.p.seats; omega⟩⟩
end
/-- the place of a name; -1: there is none -/
def findI : List Gt → ByteArray → Int
  | [], _ => -1
  | x :: r, s => if x.p.nm = s then 0 else if findI r s = -1 then -1 else findI r s + 1
theorem findI_lo (L : List Gt) (s : ByteArray) : -1 ≤ findI L s := by
  induction L with
  | nil => exact Int.le_refl _
  | cons x r ih =>
    unfold findI
    split
    · omega
    · split <;> omega
theorem findI_none {L : List Gt} {s : ByteArray} (h : ∀ x ∈ L, x.p.nm ≠ s) : findI L s = -1 := by
  induction L with
  | nil => rfl
  | cons x r ih =>
    unfold findI
    rw [if_neg (h x (by simp)), if_pos (ih fun y hy => h y (by simp [hy]))]
theorem findI_at {L : List Gt} {s : ByteArray} {i : Nat} {x : Gt} (hx : L[i]? = some x) (hs : x.p.nm = s) (h : ∀ j y, j < i → L[j]? = some y → y.p.nm ≠ s) : findI L s = i := by
  induction L generalizing i with
  | nil => simp at hx
  | cons y r ih =>
    unfold findI
    cases i with
    | zero =>
      simp only [List.getElem?_cons_zero, Option.some.injEq] at hx
      subst hx
      rw [if_pos hs]
      rfl
    | succ i =>
      rw [if_neg (h 0 y (by omega) (by simp))]
      have := ih (i := i) (by simpa using hx) fun j z hj hz => h (j + 1) z (by omega) (by simpa using hz)
      rw [this, if_neg (by omega)]
      omega
/-- what add answers -/
def addE (L : List Gt) (p : Pty) : Int := if rightB p then (if findI L p.nm = -1 then 0 else 6) else 3
theorem addE_ok {L : List Gt} {p : Pty} (h : addE L p = 0) : p.Ok := by
  unfold addE at h
  split at h
  · next h1 => exact rightB_ok h1
  · cases h
/-- the first k parties are let in -/
def Ins (ps : List Pty) (k : Nat) : Prop := ∀ i p, i < k → ps[i]? = some p → addE ((ps.take i).map gnew) p = 0
theorem Ins.none (ps : List Pty) : Ins ps 0 := fun i p h => absurd h (by omega)
theorem Ins.one {ps : List Pty} {k : Nat} (h : Ins ps k) {p : Pty} (hp : ps[k]? = some p) (he : addE ((ps.take k).map gnew) p = 0) : Ins ps (k + 1) := fun i q hi hq => by
  by_cases hk : i = k
  · subst hk
    rw [hp] at hq
    injection hq with hq
    subst hq
    exact he
  · exact h i q (by omega) hq
theorem Ins.ok {ps : List Pty} {k : Nat} (h : Ins ps k) {i : Nat} (hi : i < k) {p : Pty} (hp : ps[i]? = some p) : p.Ok := addE_ok (h i p hi hp)
end Go.Proofs.Ytapnnlebokcmgaa.Gd
