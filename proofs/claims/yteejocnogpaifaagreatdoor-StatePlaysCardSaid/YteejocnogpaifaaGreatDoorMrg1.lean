/-
  Texts put together: plain mathematics, memory and small contracts of the layers below.
  Conditions: those that each text names.
-/
import Derived.Handed
import Derived.SizedLaws
import Derived.Deep.RegionHeld
import Derived.Deep.RegionHeld3
import Derived.WalkKit
import Derived.Lib.Hide
import Derived.Laws.Rows
import Derived.Laws.Tables
import Derived.Laws.BytesArg
import Derived.Laws.OwnMore
import Derived.Maps.AppendAt
import Derived.Deep.Draws
import Derived.RegionTactic
import Derived.ProofKit
import Derived.OpenShut
import Derived.Carry
import Derived.Deep.Slices
import Derived.Deep.Fields
import Derived.ChangeSame
import Derived.Test.YteejocnogpaifaaGreatDoorRows
import Derived.BigQuiet
import Derived.Deep.QuietTactic
import Derived.LoopTactic
import Derived.WalkMore
import Derived.Shelf.SlSortCmp.QuietGrown
import Derived.Lib.RuneBytes
import Derived.Lib.Strings
import Derived.Laws.RangeAny
import Derived.Test.YteejocnogpaifaaGreatDoorShelf
import Derived.BigCall
import Derived.Shelf.Strings.SplitShaped
import Derived.Lib.OthersKept
/-
  The step from a contract of a function to a row's statement, where the row lists package-level variables and the contract also wants the shape of the world that it begins in.
  Conditions: as the theorem names them.
-/
namespace Go.Proofs.YteejocnogpaifaaGreatDoor
open Go
variable {H : Type} {enc : TypeId × Value → H}

theorem returns_both {a : Assume} {C : Checked} {os : Os} {f : FuncId} {fn : Func} {s : ChangeSpec} {conds : List PathCond} {apart fresh handsOn again : Bool} {X : World → Array Value → Prop}
    (hX : ∀ (w w' : World) (args : Array Value), w.heap = w'.heap → X w args → X w' args)
    (own : ownKnob C.prog.godebug = none) (started : os.Started) (noInit : C.prog.inits.idxOf? f = none) (hfn : C.prog.funcs[f]? = some fn)
    (witness : ∃ (w : World) (tape : Tape) (i : Input), w.os = os ∧ (w.forCall tape i).Shaped C.prog ∧ i.vars = [] ∧ Input.okWide C.prog (w.forCall tape i) .any w.heap.size f i ∧
      ((s.pre enc C.prog fn conds apart (w.forCall tape i).memory i.args ∧ X (w.forCall tape i).memory i.args) ∧ sizedMet enc C.prog fn (OpenSpec.ofChange s) apart (w.forCall tape i).memory i.args) ∧ a.holds C.prog (lone (Frame.enter C.prog f i.args .normal) [] (w.forCall tape i)))
    (contract : ∀ (W : World) (base : Nat) (args : Array Value) (ds gs : List (DataW H)) (before : List MemPlace),
      (∀ (j : Nat) t v, fn.params[j]? = some t → args[j]? = some v → Value.okWide C.prog W .any base t v) →
      DataW.Whole enc C.prog fn.params.toList s.vars apart W args.toList ds gs before →
      (DataW.weightsEach C.prog (fn.params.toList ++ s.plain.varTypes C.prog) (ds ++ gs)).all (· ≤ reachBytes) = true → X W args → W.ShapedOpen C.prog →
      Calls C.prog f args W fun e W' => ∃ v, e = .returned v ∧ s.post enc C.prog fn apart fresh handsOn again W args v W') :
    ReturnsInHanded a C os f .any (fun w args => (s.pre enc C.prog fn conds apart w args ∧ X w args) ∧ sizedMet enc C.prog fn (OpenSpec.ofChange s) apart w args) (s.post enc C.prog fn apart fresh handsOn again) := by
  refine returnsInHanded_of_calls own started noInit witness ?_
  intro w tape i _ shape _ ok pre _
  obtain ⟨_, _, _, g, hg, _, _, _, _, val⟩ := ok
  obtain rfl : g = fn := Option.some.inj (hg.symm.trans hfn)
  obtain ⟨⟨⟨ds, gs, before, whole, _⟩, met⟩, sized⟩ := pre
  refine (contract _ w.heap.size i.args ds gs before val (DataW.Whole.of_heap (w' := w.forCall tape i) (by rfl) whole) (sized.weights whole) (hX _ _ _ (by rfl) met) shape).mono ?_
  rintro e W' ⟨v, rfl, post⟩
  exact ChangeSpec.post_blind post
end Go.Proofs.YteejocnogpaifaaGreatDoor
/-
  Plain mathematics of ticks: the nearest tick of a number, sums, differences, products and powers of ticks, and that a power whose next product is the same stays. It needs nothing of the program.
  Conditions: none.
-/
namespace Go.Proofs.YteejocnogpaifaaGreatDoor

/-- the nearest tick -/
def ofT (n : Int) : Int := if n < 0 then 0 else if 1099511627776 < n then 1099511627776 else n
def addT (a b : Int) : Int := ofT (ofT a + ofT b)
def subT (a b : Int) : Int := ofT (ofT a - ofT b)
def timesT (a b : Int) : Int := ofT (ofT a * ofT b)
def iterT (b : Int) : Nat → Int
  | 0 => 1
  | k + 1 => timesT (iterT b k) b
def powT (b k : Int) : Int := iterT b (ofT k).toNat
def goodB (n : Int) : Bool := decide (ofT n = n)
def dueB (a b : Int) : Bool := decide (ofT b ≤ ofT a)

theorem ofT_lo (n : Int) : 0 ≤ ofT n := by unfold ofT; split <;> (try split) <;> omega
theorem ofT_hi (n : Int) : ofT n ≤ 1099511627776 := by unfold ofT; split <;> (try split) <;> omega
theorem ofT_id {n : Int} (h : 0 ≤ n) (h' : n ≤ 1099511627776) : ofT n = n := by unfold ofT; split <;> (try split) <;> omega
theorem ofT_neg {n : Int} (h : n < 0) : ofT n = 0 := by unfold ofT; split <;> (try split) <;> omega
theorem ofT_big {n : Int} (h : 1099511627776 ≤ n) : ofT n = 1099511627776 := by unfold ofT; split <;> (try split) <;> omega
theorem ofT_ofT (n : Int) : ofT (ofT n) = ofT n := ofT_id (ofT_lo n) (ofT_hi n)
theorem ofT_mono {a b : Int} (h : a ≤ b) : ofT a ≤ ofT b := by
  unfold ofT; repeat' split
  all_goals omega
theorem goodB_ofT (n : Int) : goodB (ofT n) = true := by simp [goodB, ofT_ofT]
theorem addT_lo (a b : Int) : 0 ≤ addT a b := ofT_lo _
theorem addT_hi (a b : Int) : addT a b ≤ 1099511627776 := ofT_hi _
theorem subT_lo (a b : Int) : 0 ≤ subT a b := ofT_lo _
theorem subT_hi (a b : Int) : subT a b ≤ 1099511627776 := ofT_hi _
theorem timesT_lo (a b : Int) : 0 ≤ timesT a b := ofT_lo _
theorem timesT_hi (a b : Int) : timesT a b ≤ 1099511627776 := ofT_hi _
theorem addT_comm (a b : Int) : addT a b = addT b a := by unfold addT; rw [Int.add_comm]
theorem timesT_comm (a b : Int) : timesT a b = timesT b a := by unfold timesT; rw [Int.mul_comm]
theorem addT_ofT (a b : Int) : addT (ofT a) (ofT b) = addT a b := by unfold addT; rw [ofT_ofT, ofT_ofT]
theorem timesT_ofT (a b : Int) : timesT (ofT a) (ofT b) = timesT a b := by unfold timesT; rw [ofT_ofT, ofT_ofT]
theorem timesT_ofT_right (a b : Int) : timesT a (ofT b) = timesT a b := by unfold timesT; rw [ofT_ofT]
theorem addT_assoc (a b c : Int) : addT (addT a b) c = addT a (addT b c) := by
  have h := ofT_lo a; have h' := ofT_hi a; have g := ofT_lo b; have g' := ofT_hi b; have k := ofT_lo c; have k' := ofT_hi c
  show ofT (ofT (addT a b) + ofT c) = ofT (ofT a + ofT (addT b c))
  rw [ofT_id (addT_lo a b) (addT_hi a b), ofT_id (addT_lo b c) (addT_hi b c)]
  unfold addT
  generalize ofT a = x at *; generalize ofT b = y at *; generalize ofT c = z at *
  unfold ofT; repeat' split
  all_goals omega
theorem addT_mono {a b : Int} (c : Int) (h : a ≤ b) : addT a c ≤ addT b c := ofT_mono (by have := ofT_mono h; omega)
theorem subT_mono {a b : Int} (c : Int) (h : a ≤ b) : subT a c ≤ subT b c := ofT_mono (by have := ofT_mono h; omega)
theorem timesT_mono {a b : Int} (c : Int) (h : a ≤ b) : timesT a c ≤ timesT b c :=
  ofT_mono (Int.mul_le_mul_of_nonneg_right (ofT_mono h) (ofT_lo c))
theorem add_back {a b : Int} (h : addT a b < 1099511627776) : subT (addT a b) b = ofT a := by
  have ha := ofT_lo a; have ha' := ofT_hi a; have g := ofT_lo b; have g' := ofT_hi b
  unfold subT
  rw [ofT_id (addT_lo a b) (addT_hi a b)]
  revert h
  unfold addT
  generalize ofT a = x at *; generalize ofT b = y at *
  intro h
  have e : ofT (x + y) = x + y := by
    unfold ofT at h ⊢; repeat' split at h
    all_goals (repeat' split) <;> omega
  rw [e, ofT_id (by omega) (by omega)]; omega
theorem sub_back {a b : Int} (h : dueB a b = true) : addT (subT a b) b = ofT a := by
  have ha := ofT_lo a; have ha' := ofT_hi a; have g := ofT_lo b; have g' := ofT_hi b
  have hd : ofT b ≤ ofT a := by simpa [dueB] using h
  unfold addT
  rw [ofT_id (subT_lo a b) (subT_hi a b)]
  unfold subT
  generalize ofT a = x at *; generalize ofT b = y at *
  rw [ofT_id (n := x - y) (by omega) (by omega), ofT_id (by omega) (by omega)]; omega
/-- a product of two ticks, by a quotient -/
theorem times_over {a n : Int} (h0 : 0 < a) (h1 : 1099511627776 / a < n) : 1099511627776 ≤ a * n := by
  have h := Int.lt_mul_of_ediv_lt h0 h1
  rw [Int.mul_comm] at h
  omega
theorem times_under {a n : Int} (h0 : 0 < a) (h1 : n ≤ 1099511627776 / a) : a * n ≤ 1099511627776 := by
  have h := Int.mul_le_of_le_ediv h0 h1
  rw [Int.mul_comm] at h
  exact h
theorem iterT_lo (b : Int) (k : Nat) : 0 ≤ iterT b k := by
  cases k with
  | zero => simp [iterT]
  | succ k => exact timesT_lo _ _
theorem iterT_hi (b : Int) (k : Nat) : iterT b k ≤ 1099511627776 := by
  cases k with
  | zero => simp [iterT]
  | succ k => exact timesT_hi _ _
theorem iterT_stays {b : Int} {k : Nat} (h : timesT (iterT b k) b = iterT b k) : ∀ j, k ≤ j → iterT b j = iterT b k := by
  intro j hj
  induction j with
  | zero => obtain rfl : k = 0 := by omega
            rfl
  | succ j ih =>
    by_cases e : k = j + 1
    · rw [e]
    · have := ih (by omega)
      show timesT (iterT b j) b = _
      rw [this, h]
theorem powT_lo (b k : Int) : 0 ≤ powT b k := iterT_lo _ _
theorem powT_hi (b k : Int) : powT b k ≤ 1099511627776 := iterT_hi _ _
theorem powT_nat (b : Int) (k : Nat) (h : k ≤ 1099511627776) : powT b k = iterT b k := by
  unfold powT; rw [ofT_id (by omega) (by omega)]; simp
theorem iterT_one (b : Int) : iterT b 1 = ofT b := by
  show ofT (ofT 1 * ofT b) = ofT b
  rw [ofT_id (n := 1) (by omega) (by omega), Int.one_mul, ofT_ofT]
theorem iterT_ofT (b : Int) (k : Nat) : iterT (ofT b) k = iterT b k := by
  induction k with
  | zero => rfl
  | succ k ih => show timesT (iterT (ofT b) k) (ofT b) = timesT (iterT b k) b; rw [ih, timesT_ofT_right]
end Go.Proofs.YteejocnogpaifaaGreatDoor
/-
  Plain mathematics of the document's own answers for ticks: products made bit by bit, and powers stopped at 64 products, are the ticks that are nearest to product and power.
  Conditions: none.
-/
namespace Go.Proofs.YteejocnogpaifaaGreatDoor

theorem ofT_add_left {x y : Int} (hx : 0 ≤ x) (hy : 0 ≤ y) : ofT (ofT x + y) = ofT (x + y) := by
  by_cases h : x ≤ 1099511627776
  · rw [ofT_id hx h]
  · rw [ofT_big (n := x) (by omega), ofT_big (by omega), ofT_big (by omega)]
theorem ofT_mul_left {x y m : Int} (hx : 0 ≤ x) (hy : 0 ≤ y) (hm : 0 ≤ m) : ofT (x + ofT y * m) = ofT (x + y * m) := by
  by_cases h : y ≤ 1099511627776
  · rw [ofT_id hy h]
  · rw [ofT_big (n := y) (by omega)]
    by_cases hz : m = 0
    · subst hz; simp
    · have h1 : 1 ≤ m := by omega
      have e1 : 1099511627776 * 1 ≤ 1099511627776 * m := Int.mul_le_mul_of_nonneg_left h1 (by omega)
      have e2 : y * 1 ≤ y * m := Int.mul_le_mul_of_nonneg_left h1 hy
      rw [ofT_big (by omega), ofT_big (by omega)]
/-- what a round of the product by bits leaves as it is -/
def bitsT (out a n v : Int) : Prop := ofT (out + a * n) = v
theorem bitsT_odd {out a n v : Int} (ho : 0 ≤ out) (ha : 0 ≤ a) (ha' : a ≤ 1099511627776) (ho' : out ≤ 1099511627776) (hn : 0 < n) (hb : n % 2 = 1) (h : bitsT out a n v) : bitsT (addT out a) (addT a a) (n / 2) v := by
  unfold bitsT at *
  have hm : 0 ≤ n / 2 := by omega
  have e : n = 2 * (n / 2) + 1 := by omega
  unfold addT
  rw [ofT_id ha ha', ofT_id ho ho', ofT_mul_left (ofT_lo _) (by omega) hm, ofT_add_left (by omega) (Int.mul_nonneg (by omega) hm), ← h]
  congr 1
  have : a * n = a * (2 * (n / 2) + 1) := by rw [← e]
  rw [this, Int.mul_add, Int.mul_one, Int.add_mul, ← Int.mul_assoc a 2, Int.mul_comm a 2, Int.two_mul, Int.add_mul]
  omega
theorem bitsT_even {out a n v : Int} (ho : 0 ≤ out) (ha : 0 ≤ a) (ha' : a ≤ 1099511627776) (hn : 0 < n) (hb : ¬ n % 2 = 1) (h : bitsT out a n v) : bitsT out (addT a a) (n / 2) v := by
  unfold bitsT at *
  have hm : 0 ≤ n / 2 := by omega
  have e : n = 2 * (n / 2) := by omega
  unfold addT
  rw [ofT_id ha ha', ofT_mul_left ho (by omega) hm, ← h]
  congr 1
  have : a * n = a * (2 * (n / 2)) := by rw [← e]
  rw [this, ← Int.mul_assoc a 2, Int.mul_comm a 2, Int.two_mul]
theorem bitsT_start (a b : Int) : bitsT 0 (ofT a) (ofT b) (timesT a b) := by unfold bitsT timesT; simp
theorem bitsT_end {out a v : Int} (ho : 0 ≤ out) (ho' : out ≤ 1099511627776) (h : bitsT out a 0 v) : out = v := by
  unfold bitsT at h; rw [← h]; simp [ofT_id ho ho']

theorem pow2_le_iterT {b : Int} (hb : 2 ≤ ofT b) : ∀ j : Nat, (2 : Int) ^ j ≤ 1099511627776 → (2 : Int) ^ j ≤ iterT b j := by
  intro j
  induction j with
  | zero => intro _; simp [iterT]
  | succ j ih =>
    intro h
    have hp : (2 : Int) ^ (j + 1) = 2 ^ j * 2 := Int.pow_succ 2 j
    have h0 : (0 : Int) ≤ 2 ^ j := Int.pow_nonneg (by omega)
    have hj := ih (by omega)
    show _ ≤ ofT (ofT (iterT b j) * ofT b)
    rw [ofT_id (iterT_lo b j) (iterT_hi b j)]
    have h1 : (2 : Int) ^ j * 2 ≤ iterT b j * ofT b := Int.mul_le_mul hj hb (by omega) (iterT_lo b j)
    rw [hp]
    rw [hp] at h
    have := ofT_mono h1
    rwa [ofT_id (n := 2 ^ j * 2) (by omega) h] at this
theorem iterT_64 (b : Int) (j : Nat) (h : 64 ≤ j) : iterT b j = iterT b 64 := by
  have hb := ofT_lo b
  have key : ∃ k : Nat, k ≤ 64 ∧ timesT (iterT b k) b = iterT b k := by
    by_cases h2 : 2 ≤ ofT b
    · refine ⟨40, by omega, ?_⟩
      have h40 := pow2_le_iterT h2 40 (by decide)
      have hh := iterT_hi b 40
      have e : iterT b 40 = 1099511627776 := by
        have : (2 : Int) ^ 40 = 1099511627776 := by decide
        omega
      rw [e]
      show ofT (ofT 1099511627776 * ofT b) = _
      rw [ofT_id (n := 1099511627776) (by omega) (by omega)]
      exact ofT_big (by omega)
    · by_cases h1 : ofT b = 1
      · refine ⟨0, by omega, ?_⟩
        show ofT (ofT 1 * ofT b) = 1
        rw [h1]; decide
      · refine ⟨1, by omega, ?_⟩
        have h0 : ofT b = 0 := by omega
        rw [iterT_one, h0]
        show ofT (ofT 0 * ofT b) = 0
        rw [h0]; decide
  obtain ⟨k, hk, e⟩ := key
  rw [iterT_stays e j (by omega), iterT_stays e 64 hk]
theorem powT_min (b k : Int) (j : Nat) (h : (j : Int) ≤ ofT k) (h' : ¬ ((j : Int) < ofT k ∧ (j : Int) < 64)) (h64 : j ≤ 64) : powT b k = iterT b j := by
  unfold powT
  by_cases e : j = 64
  · subst e; exact iterT_64 b _ (by omega)
  · have : (ofT k).toNat = j := by omega
    rw [this]
end Go.Proofs.YteejocnogpaifaaGreatDoor
/-
  Plain mathematics of waits: the wait behind another one, the n-th wait, the sum of the first waits, and what all tries take at most. It needs nothing of the program.
  Conditions: a plan is right (Good), where a fact asks it.
-/
namespace Go.Proofs.YteejocnogpaifaaGreatDoor.Bo

/-- a plan: retries, base, factor, cap -/
structure P where
  r : Int
  b : Int
  f : Int
  c : Int
/-- it is right -/
def P.Good (p : P) : Prop := 0 ≤ p.r ∧ p.r ≤ 1000 ∧ 1 ≤ p.b ∧ p.b ≤ p.c ∧ p.c ≤ 1099511627776 ∧ 1 ≤ p.f ∧ p.f ≤ 16
instance (p : P) : Decidable p.Good := inferInstanceAs (Decidable (_ ∧ _))
/-- the wait behind another one -/
def behind (p : P) (x : Int) : Int := min (timesT x p.f) p.c
/-- the n-th wait -/
def wait (p : P) : Nat → Int
  | 0 => p.b
  | k + 1 => behind p (wait p k)
/-- the sum of the first waits -/
def total (p : P) : Nat → Int
  | 0 => 0
  | k + 1 => addT (total p k) (wait p k)
/-- tries left, and what all tries take at most -/
def left (p : P) (n : Int) : Int := max (p.r + 1 - max n 0) 0
def worst (p : P) (t : Int) : Int := addT (timesT t (p.r + 1)) (total p p.r.toNat)

section
variable {p : P} (h : p.Good)
include h
theorem behind_up {x : Int} (h0 : p.b ≤ x) (h1 : x ≤ p.c) : x ≤ behind p x ∧ behind p x ≤ p.c := by
  obtain ⟨_, _, hb, _, hc, hf, hf'⟩ := h
  unfold behind timesT
  rw [ofT_id (n := x) (by omega) (by omega), ofT_id (n := p.f) (by omega) (by omega)]
  have hx : x * 1 ≤ x * p.f := Int.mul_le_mul_of_nonneg_left hf (by omega)
  rw [Int.mul_one] at hx
  have := ofT_mono hx
  rw [ofT_id (n := x) (by omega) (by omega)] at this
  omega
theorem wait_in (n : Nat) : p.b ≤ wait p n ∧ wait p n ≤ p.c := by
  induction n with
  | zero => exact ⟨Int.le_refl _, h.2.2.2.1⟩
  | succ k ih =>
    have := behind_up h ih.1 ih.2
    show p.b ≤ behind p (wait p k) ∧ behind p (wait p k) ≤ p.c
    omega
theorem wait_up (n : Nat) : wait p n ≤ wait p (n + 1) := (behind_up h (wait_in h n).1 (wait_in h n).2).1
theorem wait_pos (n : Nat) : 1 ≤ wait p n ∧ wait p n ≤ 1099511627776 := by
  have := wait_in h n
  obtain ⟨_, _, hb, _, hc, _, _⟩ := h
  omega
end
/-- once a wait is like the one ahead of it, all further ones are -/
theorem wait_stays {p : P} {k : Nat} (e : behind p (wait p k) = wait p k) : ∀ j, k ≤ j → wait p j = wait p k := by
  intro j hj
  induction j with
  | zero => obtain rfl : k = 0 := by omega
            rfl
  | succ j ih =>
    by_cases e' : k = j + 1
    · rw [e']
    · have := ih (by omega)
      show behind p (wait p j) = _
      rw [this, e]
theorem total_in (p : P) (n : Nat) : 0 ≤ total p n ∧ total p n ≤ 1099511627776 := by
  cases n with
  | zero => exact ⟨Int.le_refl _, show (0 : Int) ≤ 1099511627776 by decide⟩
  | succ k => exact ⟨addT_lo _ _, addT_hi _ _⟩
theorem times_next {w m : Int} (hw : 1 ≤ w) (hw' : w ≤ 1099511627776) (hm : 0 ≤ m) : addT (timesT w m) w = timesT w (m + 1) := by
  unfold addT timesT
  rw [ofT_id (n := w) (by omega) hw']
  by_cases h : m < 1099511627776
  · rw [ofT_id (n := m) hm (by omega), ofT_id (n := m + 1) (by omega) (by omega), Int.mul_add, Int.mul_one]
    have h0 : 0 ≤ w * m := Int.mul_nonneg (by omega) hm
    generalize w * m = x at *
    unfold ofT
    repeat' split
    all_goals omega
  · have hb : 1099511627776 ≤ w * 1099511627776 := by omega
    rw [ofT_big (n := m) (by omega), ofT_big (n := m + 1) (by omega), ofT_big (n := w * 1099511627776) hb]
    rw [ofT_id (n := 1099511627776) (by omega) (by omega), ofT_big (by omega)]
theorem times_zero {w : Int} : timesT w 0 = 0 := by
  unfold timesT
  rw [ofT_id (n := 0) (by omega) (by omega), Int.mul_zero, ofT_id (by omega) (by omega)]
/-- the sum, where all further waits are alike -/
theorem total_stays {p : P} (h : p.Good) {k : Nat} (e : behind p (wait p k) = wait p k) : ∀ n, k ≤ n → total p n = addT (total p k) (timesT (wait p k) (n - k)) := by
  intro n hn
  have hw := wait_pos h k
  have ht := total_in p k
  induction n with
  | zero =>
    obtain rfl : k = 0 := by omega
    rw [show ((0 : Nat) : Int) - ((0 : Nat) : Int) = 0 by omega, times_zero]
    rfl
  | succ j ih =>
    by_cases e' : k = j + 1
    · subst e'
      rw [Int.sub_self, times_zero]
      unfold addT
      rw [ofT_id (n := total p (j + 1)) ht.1 ht.2, ofT_id (n := 0) (by omega) (by omega), Int.add_zero, ofT_id ht.1 ht.2]
    · show addT (total p j) (wait p j) = _
      rw [ih (by omega), wait_stays e j (by omega), addT_assoc, times_next hw.1 hw.2 (by omega)]
      congr 2
      omega
theorem left_in {p : P} (h : p.Good) {n : Int} (h0 : 0 ≤ n) (h1 : n ≤ p.r + 1) : left p n = p.r + 1 - n := by
  obtain ⟨_, _, _⟩ := h
  unfold left
  omega
theorem total_next {p : P} (h : p.Good) (n : Nat) : total p (n + 1) = min (total p n + wait p n) 1099511627776 := by
  have hw := wait_pos h n
  have ht := total_in p n
  show addT _ _ = _
  unfold addT
  rw [ofT_id ht.1 ht.2, ofT_id (n := wait p n) (by omega) hw.2]
  unfold ofT
  repeat' split
  all_goals omega
theorem worst_mono (p : P) {s t : Int} (h : s ≤ t) : worst p s ≤ worst p t := addT_mono _ (timesT_mono _ h)
theorem worst_least {p : P} (h : p.Good) {t : Int} (h0 : 0 ≤ t) (h1 : t ≤ 1099511627776) : min (t * (p.r + 1)) 1099511627776 ≤ worst p t := by
  obtain ⟨hr, hr', _⟩ := h
  have ht := total_in p p.r.toNat
  unfold worst addT timesT
  rw [ofT_id h0 h1, ofT_id (n := p.r + 1) (by omega) (by omega), ofT_id ht.1 ht.2]
  have hp : 0 ≤ t * (p.r + 1) := Int.mul_nonneg h0 (by omega)
  generalize t * (p.r + 1) = x at *
  unfold ofT
  repeat' split
  all_goals omega
theorem worst_in (p : P) (t : Int) : 0 ≤ worst p t ∧ worst p t ≤ 1099511627776 := ⟨addT_lo _ _, addT_hi _ _⟩
end Go.Proofs.YteejocnogpaifaaGreatDoor.Bo
/-
  Plain mathematics of the document's own wait: products alone, cut at the cap at the end, and stopped at 64 of them.
  Conditions: a plan is right, where a fact asks it.
-/
namespace Go.Proofs.YteejocnogpaifaaGreatDoor.Sa
open Go.Proofs.YteejocnogpaifaaGreatDoor.Bo

def raw (p : P) : Nat → Int
  | 0 => p.b
  | k + 1 => timesT (raw p k) p.f
section
variable {p : P} (h : p.Good)
include h
theorem times_ge {a : Int} (h0 : 0 ≤ a) (h1 : a ≤ 1099511627776) : a ≤ timesT a p.f := by
  obtain ⟨_, _, hb, _, hc, hf, hf'⟩ := h
  unfold timesT
  rw [ofT_id h0 h1, ofT_id (n := p.f) (by omega) (by omega)]
  have hx : a * 1 ≤ a * p.f := Int.mul_le_mul_of_nonneg_left hf h0
  rw [Int.mul_one] at hx
  have := ofT_mono hx
  rwa [ofT_id h0 h1] at this
theorem raw_in (k : Nat) : 1 ≤ raw p k ∧ raw p k ≤ 1099511627776 := by
  induction k with
  | zero =>
    obtain ⟨_, _, hb, _, hc, hf, hf'⟩ := h
    show 1 ≤ p.b ∧ p.b ≤ _
    omega
  | succ k ih =>
    have := times_ge h (a := raw p k) (by omega) (by omega)
    have h2 := timesT_hi (raw p k) p.f
    show 1 ≤ timesT (raw p k) p.f ∧ timesT (raw p k) p.f ≤ _
    omega
theorem wait_raw (k : Nat) : wait p k = min (raw p k) p.c := by
  induction k with
  | zero =>
    have := h.2.2.2.1
    show p.b = min p.b p.c
    omega
  | succ k ih =>
    have hr := raw_in h k
    have hc : 1 ≤ p.c ∧ p.c ≤ 1099511627776 := by obtain ⟨_, _, hb, _, hc, hf, hf'⟩ := h; omega
    show min (timesT (wait p k) p.f) p.c = min (timesT (raw p k) p.f) p.c
    rw [ih]
    by_cases hq : raw p k ≤ p.c
    · rw [show min (raw p k) p.c = raw p k by omega]
    · rw [show min (raw p k) p.c = p.c by omega]
      have h1 := times_ge h (a := p.c) (by omega) hc.2
      have h2 := times_ge h (a := raw p k) (by omega) hr.2
      omega
theorem wait_pow (hf : 2 ≤ p.f) : ∀ j : Nat, j ≤ 40 → min ((2 : Int) ^ j) p.c ≤ wait p j := by
  intro j
  induction j with
  | zero =>
    intro _
    have := wait_pos h 0
    rw [show ((2 : Int) ^ 0) = 1 from rfl]
    omega
  | succ j ih =>
    intro hj
    have h1 := ih (by omega)
    have hw := wait_in h j
    have hb := h.2.2.1
    have hc : p.c ≤ 1099511627776 := h.2.2.2.2.1
    have hf' : p.f ≤ 16 := h.2.2.2.2.2.2
    have hp : (2 : Int) ^ (j + 1) = 2 ^ j * 2 := Int.pow_succ 2 j
    have h0 : (0 : Int) ≤ 2 ^ j := Int.pow_nonneg (by omega)
    show _ ≤ min (timesT (wait p j) p.f) p.c
    unfold timesT
    rw [ofT_id (n := wait p j) (by omega) (by omega), ofT_id (n := p.f) (by omega) (by omega)]
    have hx : wait p j * 2 ≤ wait p j * p.f := Int.mul_le_mul_of_nonneg_left hf (by omega)
    generalize wait p j * p.f = y at *
    generalize (2 : Int) ^ j = z at *
    rw [hp]
    unfold ofT
    repeat' split
    all_goals omega
theorem wait_end : ∃ k, k ≤ 64 ∧ behind p (wait p k) = wait p k := by
  by_cases hf : 2 ≤ p.f
  · refine ⟨40, by omega, ?_⟩
    have h1 := wait_pow h hf 40 (by omega)
    have hw := wait_in h 40
    have hc : p.c ≤ 1099511627776 := h.2.2.2.2.1
    have hb := h.2.2.1
    have e : wait p 40 = p.c := by
      have : (2 : Int) ^ 40 = 1099511627776 := by decide
      omega
    have h2 := times_ge h (a := p.c) (by omega) hc
    rw [e]
    unfold behind
    omega
  · refine ⟨0, by omega, ?_⟩
    obtain ⟨_, _, hb, hbc, hc, hf1, _⟩ := h
    have e : p.f = 1 := by omega
    show min (timesT p.b p.f) p.c = p.b
    rw [e]
    unfold timesT
    rw [ofT_id (n := p.b) (by omega) (by omega), ofT_id (n := 1) (by omega) (by omega), Int.mul_one, ofT_id (by omega) (by omega)]
    omega
/-- what the document's loop of at most 64 products comes to -/
theorem wait_min {n : Int} {k : Nat} (hk : (k : Int) ≤ n) (h64 : k ≤ 64) (he : ¬ ((k : Int) < n ∧ (k : Int) < 64)) : wait p n.toNat = min (raw p k) p.c := by
  rw [← wait_raw h]
  by_cases e : k = 64
  · subst e
    obtain ⟨j, hj, hs⟩ := wait_end h
    rw [wait_stays hs n.toNat (by omega), wait_stays hs 64 hj]
  · rw [show n.toNat = k by omega]
end
end Go.Proofs.YteejocnogpaifaaGreatDoor.Sa
/-
  A drawn region whose last store writes a cell that the region loads: what is held is held until that store; what the store waits for is taken first.
  Conditions: none. It needs nothing of the program.
-/
namespace Go.Proofs.YteejocnogpaifaaGreatDoor.Un
open Go
section
variable {P : Program} {ops : Array Oper} {Q : Exit → Act → World → Prop} {md : Region.Mode} {S : World → Prop} {k : Nat}

/-- whatever order is picked from here on; S holds behind each operation until number k has come up -/
def wpAnyU (P : Program) (md : Region.Mode) (ops : Array Oper) (Q : Exit → Act → World → Prop) (S : World → Prop) (k : Nat) : Nat → Array Bool → Act → World → Prop
  | 0, listed, a, w => Region.ready md ops listed = [] ∧ Q .normal a w
  | fuel + 1, listed, a, w =>
    (Region.ready md ops listed = [] → Q .normal a w) ∧
    ∀ i ∈ Region.ready md ops listed, wpOp P ops Q i (fun a' w' => ((listed.setIfInBounds i true).getD k true = false → S w') ∧ wpAnyU P md ops Q S k fuel (listed.setIfInBounds i true) a' w') a w
theorem any_of_until : ∀ (fuel : Nat) (listed : Array Bool) (a : Act) (w : World), wpAnyU P md ops Q S k fuel listed a w → wpAny P md ops Q fuel listed a w
  | 0, _, _, _, h => h
  | fuel + 1, _, _, _, h => ⟨h.1, fun i hi => wpOp_mono (fun a' w' h' => any_of_until fuel _ a' w' h'.2) (h.2 i hi)⟩

/-- each of a row of operations waits for the one ahead of it; none has come up -/
def chainB (md : Region.Mode) (ops : Array Oper) (listed : Array Bool) : Nat → List Nat → Bool
  | p, [] => listed.getD p true == false
  | p, g :: r => (listed.getD p true == false) && ((match ops[g]? with | some o => o.after.any (fun e => Region.binds md e && e.on == p) | none => false) && chainB md ops listed g r)
theorem chain_keep {listed : Array Bool} {j : Nat} (hj : j ∈ Region.ready md ops listed) : ∀ (r : List Nat) (p : Nat), j ≠ p → chainB md ops listed p r = true → chainB md ops (listed.setIfInBounds j true) p r = true
  | [], p, hp, h => by
    unfold chainB at *
    rw [getD_set_ne true hp]; exact h
  | g :: r, p, hp, h => by
    unfold chainB at h ⊢
    simp only [Bool.and_eq_true, beq_iff_eq] at h ⊢
    obtain ⟨h1, h2, h3⟩ := h
    refine ⟨by rw [getD_set_ne true hp]; exact h1, h2, chain_keep hj r g (fun e => ?_) h3⟩
    subst e
    obtain ⟨_, oj, hoj, hall⟩ := mem_ready.1 hj
    rw [hoj] at h2
    simp only [Array.any_eq_true, Bool.and_eq_true, beq_iff_eq] at h2
    obtain ⟨x, hx, hb, he⟩ := h2
    have h4 := hall _ (Array.getElem_mem hx) hb
    rw [he] at h4
    rcases Nat.lt_or_ge p listed.size with h' | h'
    · simp [h'] at h1 h4; rw [h1] at h4; cases h4
    · simp [Array.getElem?_eq_none h'] at h4
theorem chain_last {listed : Array Bool} : ∀ (r : List Nat) (p : Nat), chainB md ops listed p r = true → listed.getD ((p :: r).getLast (by simp)) true = false
  | [], p, h => by unfold chainB at h; simpa using h
  | g :: r, p, h => by
    unfold chainB at h
    simp only [Bool.and_eq_true] at h
    have := chain_last r g h.2.2
    rwa [List.getLast_cons (by simp)]
theorem first_until {i : Nat} {oi : Oper} {v : Value} {r : List Nat} (hk : (i :: r).getLast (by simp) = k) (hik : i ≠ k) (hi : ops[i]? = some oi) (hsel : ∀ (j : Nat) (o : Oper) cs b, ops[j]? = some o → o.op ≠ .select cs b)
    (hQ : ∀ c a w, Q (.panic c) (a.put oi.dst v) w → Q (.panic c) a w) :
    ∀ (fuel : Nat) (listed : Array Bool) (a : Act) (w : World),
      (∀ j oj, ops[j]? = some oj → j ≠ i → listed.getD j true = false → (∀ e ∈ oj.after, Region.binds md e = true → e.on ≠ i) → oi.apart ops oj = true) →
      i ∈ Region.ready md ops listed → chainB md ops listed i r = true → YieldsIf P ops S oi v a → S w →
      ((listed.setIfInBounds i true).getD k true = false → S w) →
      wpAnyU P md ops Q S k fuel (listed.setIfInBounds i true) (a.put oi.dst v) w → wpAnyU P md ops Q S k (fuel + 1) listed a w := by
  intro fuel
  induction fuel with
  | zero =>
    intro listed a w _ hr hc hy hS hS2 H
    refine ⟨fun h => (by rw [h] at hr; cases hr), fun j hj => ?_⟩
    by_cases hji : j = i
    · subst hji; exact hy.wpOp hi hS ⟨hS2, H⟩
    · have := ready_mono hj hji
      rw [H.1] at this
      cases this
  | succ fuel ih =>
    intro listed a w hfree hr hc hy hS hS2 H
    refine ⟨fun h => (by rw [h] at hr; cases hr), fun j hj => ?_⟩
    by_cases hji : j = i
    · subst hji; exact hy.wpOp hi hS ⟨hS2, H⟩
    · have h1 := H.2 j (ready_mono hj hji)
      have hc' := chain_keep hj r i hji hc
      have hlast : (listed.setIfInBounds j true).getD k true = false := by rw [← hk]; exact chain_last r i hc'
      obtain ⟨hjun, oj, hoj, hall⟩ := mem_ready.1 hj
      have hnot : ∀ e ∈ oj.after, Region.binds md e = true → e.on ≠ i := fun e he hb heq => by
        have h1 := hall e he hb
        have h0 := (mem_ready.1 hr).1
        rw [heq] at h1
        rcases Nat.lt_or_ge i listed.size with h' | h'
        · simp [h'] at h0 h1; rw [h0] at h1; cases h1
        · simp [Array.getElem?_eq_none h'] at h1
      have h2 := wpOp_putIf hoj (hfree j oj hoj hji hjun hnot) (fun cs b => hsel i oi cs b hi) (fun cs b => hsel j oj cs b hoj) hQ hy h1
      have hfree' : ∀ n on, ops[n]? = some on → n ≠ i → (listed.setIfInBounds j true).getD n true = false →
          (∀ e ∈ on.after, Region.binds md e = true → e.on ≠ i) → oi.apart ops on = true := fun n on hn hni hun hno => by
        refine hfree n on hn hni ?_ hno
        by_cases hjn : j = n
        · subst hjn; exact hjun
        · rw [getD_set_ne true hjn] at hun; exact hun
      refine wpOp_mono (fun a' w' h3 => ?_) h2
      obtain ⟨hy3, hS3, hW3⟩ := h3
      rw [Array.setIfInBounds_comm _ _ (Ne.symm hji)] at hS3 hW3
      have hS' : S w' := hS3 (by rw [getD_set_ne true hik]; exact hlast)
      exact ⟨fun _ => hS', ih (listed.setIfInBounds j true) a' w' hfree' (ready_mono hr (Ne.symm hji)) hc' hy3 hS' (fun _ => hS') hW3⟩

/-! ### The moves of a walk -/
/-- number i is taken first: number k, behind which S is no longer asked, waits for it by way of r -/
theorem u_take (r : List Nat) {i : Nat} {oi : Oper} {v : Value} {fuel : Nat} {listed : Array Bool} {a : Act} {w : World} (hk : (i :: r).getLast (by simp) = k) (hik : i ≠ k) (hi : ops[i]? = some oi)
    (hs : Region.noSelect ops = true) (hf : Region.free md ops listed i = true) (hr : (Region.ready md ops listed).contains i = true) (hc : chainB md ops listed i r = true)
    (hQ : ∀ c a w, Q (.panic c) (a.put oi.dst v) w → Q (.panic c) a w) (hy : YieldsIf P ops S oi v a) (hS : S w)
    (h : wpAnyU P md ops Q S k fuel (listed.setIfInBounds i true) (a.put oi.dst v) w) : wpAnyU P md ops Q S k (fuel + 1) listed a w :=
  first_until hk hik hi (Region.noSelect_spec hs) hQ fuel listed a w (Region.free_spec hi hf) (by simpa using hr) hc hy hS (fun _ => hS) h
/-- each of those that may come up -/
def AllU (P : Program) (md : Region.Mode) (ops : Array Oper) (Q : Exit → Act → World → Prop) (S : World → Prop) (k fuel : Nat) (listed : Array Bool) (a : Act) (w : World) (rs : List Nat) : Prop :=
  ∀ i ∈ rs, wpOp P ops Q i (fun a' w' => ((listed.setIfInBounds i true).getD k true = false → S w') ∧ wpAnyU P md ops Q S k fuel (listed.setIfInBounds i true) a' w') a w
theorem u_nil {fuel : Nat} {listed : Array Bool} {a : Act} {w : World} : AllU P md ops Q S k fuel listed a w [] := fun _ h => by cases h
theorem u_cons {fuel : Nat} {listed : Array Bool} {a : Act} {w : World} {i : Nat} {o : Oper} {rs : List Nat} (ho : ops[i]? = some o)
    (h : ∀ K' : Act → World → Prop, Shut (∀ a w, ((listed.setIfInBounds i true).getD k true = false → S w) → (((listed.setIfInBounds i true).getD k true = false → S w) → wpAnyU P md ops Q S k fuel (listed.setIfInBounds i true) a w) → K' a w) → if Region.wanted o (yielded ops a.tmps) = true then Oper.wp P o a w K' Q else K' (a.put o.dst undef) w)
    (hs : AllU P md ops Q S k fuel listed a w rs) : AllU P md ops Q S k fuel listed a w (i :: rs) := fun j hj => by
  rcases List.mem_cons.1 hj with rfl | hj
  · exact wpOp_step ho (fun K' hK => h K' (fun a w hS hW => hK a w ⟨hS, hW hS⟩))
  · exact hs j hj
theorem u_ready {rs : List Nat} {fuel : Nat} {listed : Array Bool} {a : Act} {w : World} (hr : Region.ready md ops listed = rs) (hne : rs ≠ [])
    (h : AllU P md ops Q S k fuel listed a w rs) : wpAnyU P md ops Q S k (fuel + 1) listed a w := ⟨fun h0 => absurd (hr ▸ h0) hne, hr ▸ h⟩
theorem u_done {listed : Array Bool} {a : Act} {w : World} (hr : Region.ready md ops listed = []) (h : Q .normal a w) : ∀ fuel, wpAnyU P md ops Q S k fuel listed a w
  | 0 => ⟨hr, h⟩
  | _ + 1 => ⟨fun _ => h, by rw [hr]; simp⟩
/-- the beginning: S is shown of the world behind the draw, once, and handed on -/
theorem u_start (k : Nat) {id : Nat} {a : Act} {w : World} (hm : P.follows .mixedOrders = true) (hS : S w.drew)
    (h : S w.drew → wpAnyU P .any ops Q S k ops.size (Array.replicate ops.size false) a w.drew) : (Code.region id ops true).wp P Q a w :=
  wp_region_any hm (any_of_until _ _ _ _ (h hS))
end
end Go.Proofs.YteejocnogpaifaaGreatDoor.Un
/-
  The first steps of a drawn region in few words: an operation that only reads is taken first, its value reckoned on the spot.
  Conditions: none. It needs nothing of the program.
-/
namespace Go.Proofs.YteejocnogpaifaaGreatDoor.Un
open Go
section
variable {P : Program} {ops : Array Oper} {Q : Exit → Act → World → Prop} {md : Region.Mode} {S : World → Prop} {k : Nat}
/-- number i is taken first -/
theorem tk (i d : Nat) {op : Op} {ty : TypeId} {pos : String} {aft : Array Edge} {gd : Option (Nat × Bool)} {v : Value} {a a' : Act} {fuel : Nat} {listed : Array Bool} {w : World}
    (hi : ops[i]? = some ⟨some d, op, ty, pos, aft, gd⟩) (h : wpAnyH P md ops Q S fuel (listed.setIfInBounds i true) a' w) 
    (hs : Region.noSelect ops = true := by kernel_rfl) (hf : Region.free md ops listed i = true := by kernel_rfl) (hr : (Region.ready md ops listed).contains i = true := by kernel_rfl)
    (hw : Region.wanted ⟨some d, op, ty, pos, aft, gd⟩ (yielded ops a.tmps) = true := by rfl) (hS : S w := by assumption)
    (hy : ∀ u, S u → (execOp a.eval ⟨some d, op, ty, pos, aft, gd⟩).run P u = .ok (.value v) u := by (intro u hu; (try dsimp only at hu); go_simp; (try with_reducible rfl)))
    (ha : a.put (some d) v = a' := by ((try simp only [Act.put, List.setIfInBounds_toArray, List.set_cons_zero, List.set_cons_succ]); (try with_reducible rfl)))
    (hQ : ∀ c a w, Q (.panic c) (a.put (some d) v) w → Q (.panic c) a w := by exact fun _ _ _ h => h) :
    wpAnyH P md ops Q S (fuel + 1) listed a w := by
  subst ha
  exact wpAnyH_take hi hs hf hr hQ (Or.inl ⟨hw, hy⟩) hS h
/-- so, where what is held is held until number k -/
theorem utk (i d : Nat) (r : List Nat) {op : Op} {ty : TypeId} {pos : String} {aft : Array Edge} {gd : Option (Nat × Bool)} {v : Value} {a a' : Act} {fuel : Nat} {listed : Array Bool} {w : World}
    (hi : ops[i]? = some ⟨some d, op, ty, pos, aft, gd⟩) (h : wpAnyU P md ops Q S k fuel (listed.setIfInBounds i true) a' w) (hS : S w := by assumption)
    (hk : (i :: r).getLast (by simp) = k := by rfl) (hik : i ≠ k := by decide) (hc : chainB md ops listed i r = true := by kernel_rfl)
    (hs : Region.noSelect ops = true := by kernel_rfl) (hf : Region.free md ops listed i = true := by kernel_rfl) (hr : (Region.ready md ops listed).contains i = true := by kernel_rfl)
    (hw : Region.wanted ⟨some d, op, ty, pos, aft, gd⟩ (yielded ops a.tmps) = true := by rfl)
    (hy : ∀ u, S u → (execOp a.eval ⟨some d, op, ty, pos, aft, gd⟩).run P u = .ok (.value v) u := by (intro u hu; (try dsimp only at hu); go_simp; (try with_reducible rfl)))
    (ha : a.put (some d) v = a' := by ((try simp only [Act.put, List.setIfInBounds_toArray, List.set_cons_zero, List.set_cons_succ]); (try with_reducible rfl)))
    (hQ : ∀ c a w, Q (.panic c) (a.put (some d) v) w → Q (.panic c) a w := by exact fun _ _ _ h => h) :
    wpAnyU P md ops Q S k (fuel + 1) listed a w := by
  subst ha
  exact u_take r hk hik hi hs hf hr hc hQ (Or.inl ⟨hw, hy⟩) hS h
/-- an operation whose guard strikes it is passed over -/
theorem ofk (i d : Nat) {op : Op} {ty : TypeId} {pos : String} {aft : Array Edge} {gd : Option (Nat × Bool)} {a a' : Act} {fuel : Nat} {listed : Array Bool} {w : World}
    (hi : ops[i]? = some ⟨some d, op, ty, pos, aft, gd⟩) (h : wpAnyH P md ops Q S fuel (listed.setIfInBounds i true) a' w)
    (hs : Region.noSelect ops = true := by kernel_rfl) (hf : Region.free md ops listed i = true := by kernel_rfl) (hr : (Region.ready md ops listed).contains i = true := by kernel_rfl)
    (hw : Region.wanted ⟨some d, op, ty, pos, aft, gd⟩ (yielded ops a.tmps) = false := by rfl) (hS : S w := by assumption)
    (ha : a.put (some d) undef = a' := by ((try simp only [Act.put, List.setIfInBounds_toArray, List.set_cons_zero, List.set_cons_succ]); (try with_reducible rfl)))
    (hQ : ∀ c a w, Q (.panic c) (a.put (some d) undef) w → Q (.panic c) a w := by exact fun _ _ _ h => h) :
    wpAnyH P md ops Q S (fuel + 1) listed a w := by
  subst ha
  exact wpAnyH_take hi hs hf hr hQ (Or.inr ⟨hw, rfl⟩) hS h
end
end Go.Proofs.YteejocnogpaifaaGreatDoor.Un
/-
  Memory for the walks over the sum: an array that lies in a block of its own, out of it and into it whole; a slice of bytes that reads as a list; its cuts, its text, and an append of it.
  Conditions: as each theorem names them.
-/
namespace Go.Proofs.YteejocnogpaifaaGreatDoor
open Go.RowKit
variable {P : Program}

/-! ### An array in a block of its own -/
theorem wpList_load_row {ops : Array Oper} {rest : List Oper} {op : Oper} {a : Act} {w : World} {Q : Exit → Act → World → Prop} (hgd : op.guard = none) (ty : TypeId) (x : Operand) (ho : op.op = .load ty x)
    (g : Nat) (t : TypeId) (cs : Array Value) (d : TypeDesc) (hx : a.eval x = .pointer (some ⟨g, 0, none⟩)) (hg : w.heap[g]? = some (.cells cs t (0, 0)))
    (hu : P.underlying ty = some d) (hd : (match d with | .struct _ | .array _ _ => true | _ => false) = true) (hi : (P.info? ty).map (·.size) = some cs.size)
    (h : wpList P ops Q rest (a.put op.dst (.agg cs)) w) : wpList P ops Q (op :: rest) a w :=
  wpList_plain hgd fun _ hK => by
    unfold Oper.wp execOp
    simp only [ho, hx, Instr.loadAt, Instr.sureAddr, Sem.run_bind, Sem.run_pure, Result.andThen_ok, run_loadVar_row w g t ty cs (0, 0) d hg hu hd hi]
    exact hK _ _ h
theorem wpList_store_row {ops : Array Oper} {rest : List Oper} {op : Oper} {a : Act} {w : World} {Q : Exit → Act → World → Prop} (hgd : op.guard = none) (ty : TypeId) (x y : Operand) (ho : op.op = .store ty x y)
    (g : Nat) (t : TypeId) (old cs : Array Value) (hx : a.eval x = .pointer (some ⟨g, 0, none⟩)) (hy : a.eval y = .agg cs) (hg : w.heap[g]? = some (.cells old t (0, 0)))
    (hi : (P.info? ty).map (·.size) = some cs.size) (hs : old.size = cs.size) (h1 : cs.all (·.oneCell') = true)
    (h : wpList P ops Q rest (a.put op.dst undef) (w.setRow g cs)) : wpList P ops Q (op :: rest) a w :=
  wpList_plain hgd fun _ hK => by
    unfold Oper.wp execOp
    simp only [ho, hx, hy, Instr.storeAt, Instr.sureAddr, Sem.run_bind, Sem.run_pure, Result.andThen_ok, run_storeVar_row w g t ty old cs hg hi hs h1]
    exact hK _ _ h
theorem setRow_size (w : World) (g : Nat) (cs : Array Value) : (w.setRow g cs).heap.size = w.heap.size := by simp [World.setRow]
theorem below_putRow {B : Nat} {w wr : World} (h : Below B w wr) {g : Nat} (hg : B ≤ g) (cs : Array Value) : Below B w (wr.setRow g cs) :=
  h.trans ⟨rfl, rfl, rfl, by rw [setRow_size]; exact Nat.le_refl _, fun k hk => setRow_other wr g k cs (by omega)⟩

/-! ### A slice of bytes that reads as a list -/
/-- the cells of bytes -/
def cellsB (l : List UInt8) : List Value := l.map fun b => Value.int .u8 (b.toNat : Int)
theorem cellsB_len (l : List UInt8) : (cellsB l).length = l.length := by simp [cellsB]
theorem cellsB_app (l m : List UInt8) : cellsB (l ++ m) = cellsB l ++ cellsB m := by simp [cellsB]
theorem cellsB_at (l : List UInt8) (k : Nat) (h : k < l.length) : (cellsB l)[k]? = some (.int .u8 (l[k].toNat : Int)) := by simp [cellsB, h]
theorem cellsB_one (l : List UInt8) : ∀ u ∈ cellsB l, u.oneCell' = true := by
  intro u hu
  obtain ⟨b, _, rfl⟩ := List.mem_map.1 hu
  rfl
theorem cellsB_set (l : List UInt8) (k : Nat) (c : UInt8) : (cellsB l).set k (.int .u8 (c.toNat : Int)) = cellsB (l.set k c) := by simp [cellsB, List.map_set]

/-- the slice at A has the bytes l, below block B -/
def Byt (w : World) (B : Nat) (A : Option Addr) (l : List UInt8) : Prop :=
  l ≠ [] → ∃ b o, A = some ⟨b, o, none⟩ ∧ b < B ∧ ∀ k (h : k < l.length), w.cell? ⟨b, o + k, none⟩ = some (.int .u8 (l[k].toNat : Int))

theorem ne_of_lt {l : List UInt8} {k : Nat} (h : k < l.length) : l ≠ [] := by rintro rfl; simp at h
theorem Byt.none (w : World) (B : Nat) (A : Option Addr) : Byt w B A [] := fun h => absurd rfl h
theorem Byt.get {w : World} {B : Nat} {A : Option Addr} {l : List UInt8} (h : Byt w B A l) {k : Nat} (hk : k < l.length) :
    ∃ b o, A = some ⟨b, o, Option.none⟩ ∧ b < B ∧ w.cell? ⟨b, o + k, Option.none⟩ = some (.int .u8 (l[k].toNat : Int)) := by
  obtain ⟨b, o, e, hb, hc⟩ := h (ne_of_lt hk)
  exact ⟨b, o, e, hb, hc k hk⟩
theorem Byt.below {w w' : World} {B : Nat} {A : Option Addr} {l : List UInt8} (h : Byt w B A l) (hb : Below B w w') : Byt w' B A l := fun hl => by
  obtain ⟨b, o, e, hlt, hc⟩ := h hl
  exact ⟨b, o, e, hlt, fun k hk => (hb.cell (p := ⟨b, o + k, Option.none⟩) hlt).trans (hc k hk)⟩
theorem Byt.more {w : World} {B B' : Nat} {A : Option Addr} {l : List UInt8} (h : Byt w B A l) (hB : B ≤ B') : Byt w B' A l := fun hl => by
  obtain ⟨b, o, e, hlt, hc⟩ := h hl
  exact ⟨b, o, e, by omega, hc⟩
theorem Byt.take {w : World} {B : Nat} {A : Option Addr} {l : List UInt8} (h : Byt w B A l) (n : Nat) : Byt w B A (l.take n) := fun hl => by
  obtain ⟨b, o, e, hlt, hc⟩ := h (by rintro rfl; simp at hl)
  exact ⟨b, o, e, hlt, fun k hk => by rw [List.getElem_take]; exact hc k (by simp at hk; omega)⟩
theorem Byt.drop {w : World} {B : Nat} {A : Option Addr} {l : List UInt8} (h : Byt w B A l) {n c : Nat} (hc : l.length ≤ c) : Byt w B (if c = n then A else A.map (·.add n)) (l.drop n) := fun hl => by
  have hn : n < l.length := by
    rcases Nat.lt_or_ge n l.length with h1 | h1
    · exact h1
    · exact absurd (List.drop_eq_nil_of_le h1) hl
  obtain ⟨b, o, rfl, hlt, hcell⟩ := h (ne_of_lt hn)
  rw [if_neg (by omega)]
  refine ⟨b, o + n, ?_, hlt, fun k hk => ?_⟩
  · simp only [Option.map_some, Option.some.injEq]
    unfold Addr.add
    split <;> simp_all
  · rw [List.getElem_drop, Nat.add_assoc]
    exact hcell (n + k) (by simp at hk; omega)
theorem own_form {w : World} {base : Nat} {e : TypeId} {v : Value} {n : Nat} {xs : List Value} (h : w.ownsRow base e 1 v n xs) : ∃ A c, v = .slice A n c ∧ n ≤ c := by
  rcases h.2 with ⟨rfl, rfl⟩ | ⟨g, cap, cur, rfl, _, _, hc, _⟩
  · exact ⟨_, _, rfl, Nat.le_refl _⟩
  · exact ⟨_, _, rfl, hc⟩
theorem Byt.own {w : World} {base : Nat} {e : TypeId} {A : Option Addr} {n c : Nat} {l : List UInt8} (h : w.ownsRow base e 1 (.slice A n c) n (cellsB l)) : Byt w w.heap.size A l := fun hl => by
  have hn : n = l.length := by have := h.1; rw [cellsB_len] at this; omega
  rcases h.2 with ⟨h1, h0⟩ | ⟨g, cap, cur, h1, _, hg, _⟩
  · exact absurd (List.eq_nil_of_length_eq_zero (by omega)) hl
  · injection h1 with h1 _ h2
    subst h1
    subst h2
    refine ⟨g, 0, rfl, (Array.getElem?_eq_some_iff.1 hg).1, fun k hk => ?_⟩
    rw [Nat.zero_add, h.cellAt k (by omega), cellsB_at l k hk]

/-- its text -/
theorem Byt.text {w : World} {B : Nat} {A : Option Addr} {l : List UInt8} (h : Byt w B A l) (src e dst : TypeId) (hs : P.underlying src = some (.slice e)) (he : P.underlying e = some (.int .u8)) (hd : P.underlying dst = some .string) (c : Nat) :
    (convert src dst (.slice A l.length c)).run P w = .ok (.string ⟨l.toArray⟩) w := by
  by_cases hl : l = []
  · subst hl
    cases A with
    | none => rw [run_convert_bytes_nil w src e hs he _ _ dst hd]; rfl
    | some a =>
      rw [run_convert_bytes_string w src dst e _ _ c hs he hd, run_bytesToString w a _ c [] (by simpa [loadCells] using run_loadCells_list (P := P) w a [] (by simp))]
      rfl
  · obtain ⟨b, o, rfl, _, hc⟩ := h hl
    rw [run_convert_bytes_arg w src e hs he b o l.length c (l.map fun b => (b.toNat : Int)) (by simp) (fun i hi => by rw [hc i hi]; simp [List.getD, hi]) dst hd]
    congr 2
    unfold strOfNums
    rw [List.map_map]
    congr 2
    conv => rhs; rw [← List.map_id l]
    apply List.map_congr_left
    intro x _
    simp

/-- an append of it onto a row of the call's own -/
theorem run_append_byt (w : World) (base : Nat) (t ty e : TypeId) (i : TypeInfo) (z : Value) (ht : P.underlying t = some (.slice e)) (hi : P.info? e = some i) (hz : i.zero = some z)
    (hsize : i.size = 1) (hby : i.bytes = 1) (hzs : z.cells.size = 1)
    (v : Value) (n : Nat) (xs : List Value) (hown : w.ownsRow base e 1 v n xs) (B : Nat) (A : Option Addr) (c : Nat) (l : List UInt8) (hr : Byt w B A l)
    (hb : n + l.length ≤ 140737488355328) (hbase : base ≤ w.heap.size) :
    ∃ v' w', (Builtin.append_ #[t, t] ty #[v, .slice A l.length c]).run P w = .ok v' w' ∧ w'.ownsRow base e 1 v' (n + l.length) (xs ++ cellsB l) ∧ w.grownBy w' v.ownBlock ∧
      (v'.ownBlock = v.ownBlock ∨ v'.ownBlock = some w.heap.size) := by
  have key : ∀ a : Addr, A = some a → (∀ j u, (cellsB l)[j]? = some u → w.cell? (a.add j) = some u) → ∃ v' w', (Builtin.append_ #[t, t] ty #[v, .slice A l.length c]).run P w = .ok v' w' ∧
      w'.ownsRow base e 1 v' (n + l.length) (xs ++ cellsB l) ∧ w.grownBy w' v.ownBlock ∧ (v'.ownBlock = v.ownBlock ∨ v'.ownBlock = some w.heap.size) := by
    rintro a rfl hc
    obtain ⟨v', w', h1, h2, h3, _, h5⟩ := run_append_own_at (P := P) w base t ty e i z 1 1 ht hi hz hsize hby hzs (by omega) v n xs hown a l.length c (cellsB l) (by rw [cellsB_len]; omega) hc (cellsB_one l)
      (by unfold maxLen; omega) (by omega) hbase
    exact ⟨v', w', h1, h2, h3, h5⟩
  by_cases hl : l = []
  · subst hl
    cases A with
    | some a => exact key a rfl (by simp [cellsB])
    | none =>
      refine ⟨v, w, ?_, by simpa [cellsB] using hown, World.grownBy.refl w _, .inl rfl⟩
      rcases hown.2 with ⟨rfl, rfl⟩ | ⟨g, cap, cur, rfl, _, _, hnc, _⟩
      · simp [Builtin.append_, run_underlying ht, sizeOf, typeInfo, hi, Builtin.lenOf, Builtin.firstCells]
      · simp [Builtin.append_, run_underlying ht, sizeOf, typeInfo, hi, Builtin.lenOf, Builtin.firstCells, hnc, storeCells]
  · obtain ⟨b, o, rfl, _, hc⟩ := hr hl
    refine key _ rfl fun j u hu => ?_
    have hj : j < l.length := by
      rcases Nat.lt_or_ge j l.length with h | h
      · exact h
      · rw [List.getElem?_eq_none (by rw [cellsB_len]; exact h)] at hu; cases hu
    rw [cellsB_at l j hj] at hu
    rw [show (⟨b, o, Option.none⟩ : Addr).add j = ⟨b, o + j, Option.none⟩ by unfold Addr.add; split <;> simp_all, hc j hj, hu]
theorem wp_append_byt (w : World) {o : Oper} {a : Act} {K : Act → World → Prop} {Q : Exit → Act → World → Prop} (s x : Operand) (t : TypeId)
    (ho : o.op = .call { callee := .builtin .append, args := #[s, x], argTypes := #[t, t] })
    (base : Nat) (e : TypeId) (i : TypeInfo) (z : Value) (ht : P.underlying t = some (.slice e)) (hi : P.info? e = some i) (hz : i.zero = some z) (hsize : i.size = 1) (hby : i.bytes = 1) (hzs : z.cells.size = 1)
    (v : Value) (n : Nat) (xs : List Value) (hs : a.eval s = v) (hown : w.ownsRow base e 1 v n xs) (B : Nat) (A : Option Addr) (m c : Nat) (l : List UInt8) (hx : a.eval x = .slice A m c) (hm : m = l.length) (hr : Byt w B A l)
    (hb : n + l.length ≤ 140737488355328) (hbase : base ≤ w.heap.size)
    (h : ∀ v' w', w'.ownsRow base e 1 v' (n + l.length) (xs ++ cellsB l) → w.grownBy w' v.ownBlock → (v'.ownBlock = v.ownBlock ∨ v'.ownBlock = some w.heap.size) → K (a.put o.dst v') w') : o.wp P a w K Q := by
  subst hm
  obtain ⟨v', w', hrun, h2, h3, h4⟩ := run_append_byt (P := P) w base t o.type e i z ht hi hz hsize hby hzs v n xs hown B A c l hr hb hbase
  unfold Oper.wp execOp
  simp only [ho, resolve, invoke, builtin, Sem.run_bind, Sem.run_pure, Result.andThen_ok, List.map_toArray, List.map_cons, List.map_nil, hs, hx, hrun]
  exact h v' w' h2 h3 h4
theorem wpList_append_byt (w : World) {ops : Array Oper} {rest : List Oper} {o : Oper} {a : Act} {Q : Exit → Act → World → Prop} (hgd : o.guard = none) (s x : Operand) (t : TypeId)
    (ho : o.op = .call { callee := .builtin .append, args := #[s, x], argTypes := #[t, t] })
    (base : Nat) (e : TypeId) (i : TypeInfo) (z : Value) (ht : P.underlying t = some (.slice e)) (hi : P.info? e = some i) (hz : i.zero = some z) (hsize : i.size = 1) (hby : i.bytes = 1) (hzs : z.cells.size = 1)
    (v : Value) (n : Nat) (xs : List Value) (hs : a.eval s = v) (hown : w.ownsRow base e 1 v n xs) (B : Nat) (A : Option Addr) (m c : Nat) (l : List UInt8) (hx : a.eval x = .slice A m c) (hm : m = l.length) (hr : Byt w B A l)
    (hb : n + l.length ≤ 140737488355328) (hbase : base ≤ w.heap.size)
    (h : ∀ v' w', w'.ownsRow base e 1 v' (n + l.length) (xs ++ cellsB l) → w.grownBy w' v.ownBlock → (v'.ownBlock = v.ownBlock ∨ v'.ownBlock = some w.heap.size) → wpList P ops Q rest (a.put o.dst v') w') : wpList P ops Q (o :: rest) a w :=
  wpList_plain hgd fun _ hK => wp_append_byt w s x t ho base e i z ht hi hz hsize hby hzs v n xs hs hown B A m c l hx hm hr hb hbase fun v' w' h2 h3 h4 => hK _ _ (h v' w' h2 h3 h4)

/-- b[:k] -/
theorem run_cut_to (w : World) (t e : TypeId) (ht : P.underlying t = some (.slice e)) (hz : ∀ w, (Go.sizeOf e).run P w = .ok 1 w) (A : Option Addr) (n c : Nat) (h : Int) (h0 : 0 ≤ h) (hh : h ≤ c) :
    (Instr.slice t (.slice A n c) none (some (.int .i64 h)) none).run P w = .ok (.slice A h.toNat c) w := by
  have ht' : P.underlying t = some (.slice (P.elem t)) := by simp [Program.elem, ht]
  have he : P.elem t = e := by simp [Program.elem, ht]
  rw [run_slice_h w t _ _ _ ht' .i64 _ h0 hh, he, hz]
  cases A <;> simp [Result.andThen, sliced, Addr.add]
/-- b[k:] -/
theorem run_cut_from (w : World) (t e : TypeId) (ht : P.underlying t = some (.slice e)) (hz : ∀ w, (Go.sizeOf e).run P w = .ok 1 w) (A : Option Addr) (n c : Nat) (h : Int) (h0 : 0 ≤ h) (hh : h ≤ n) :
    (Instr.slice t (.slice A n c) (some (.int .i64 h)) none none).run P w = .ok (.slice (if c = h.toNat then A else A.map (·.add h.toNat)) (n - h.toNat) (c - h.toNat)) w := by
  have ht' : P.underlying t = some (.slice (P.elem t)) := by simp [Program.elem, ht]
  have he : P.elem t = e := by simp [Program.elem, ht]
  rw [run_slice_l w t _ _ _ ht' .i64 _ h0 hh, he, hz]
  simp [Result.andThen, sliced]
end Go.Proofs.YteejocnogpaifaaGreatDoor
/-
  Memory for the walks over the reader and the writer of fields: a block that is known whole, and what leaves it so; an append onto a row in a field.
  Conditions: as each theorem names them.
-/
namespace Go.Proofs.YteejocnogpaifaaGreatDoor
open Go.RowKit
variable {P : Program}

/-- block g has the cells cs -/
def Box (w : World) (g : Nat) (t : TypeId) (cs : Array Value) : Prop := w.heap[g]? = some (.cells cs t (0, 0))
section
variable {w w' : World} {g : Nat} {t : TypeId} {cs : Array Value}
theorem Box.lt (h : Box w g t cs) : g < w.heap.size := (Array.getElem?_eq_some_iff.1 h).1
theorem Box.cell (h : Box w g t cs) (i : Nat) : w.cell? ⟨g, i, none⟩ = cs[i]? := cell_of_row w g i cs t (0, 0) h
theorem Box.frozen (h : Box w g t cs) (i : Nat) : w.frozen? ⟨g, i, none⟩ = false := by
  unfold Box at h
  simp [World.frozen?, h]
theorem Box.new (w : World) (t : TypeId) (cs : Array Value) : Box (w.alloc (.cells cs t)) w.heap.size t cs := heap_alloc_new w _
theorem Box.drewN (h : Box w g t cs) (n : Nat) : Box (w.drewN n) g t cs := h
theorem Box.alloc (h : Box w g t cs) (o : Obj) : Box (w.alloc o) g t cs := (Below.heap_alloc w o g h.lt).trans h
theorem Box.put (h : Box w g t cs) (i : Nat) (u : Value) : Box (w.setCell ⟨g, i, none⟩ u) g t (cs.setIfInBounds i u) := by
  unfold Box at h ⊢
  simp [World.setCell, Array.getElem?_modify, h]
theorem Box.far (h : Box w g t cs) {p : Addr} (hp : g ≠ p.block) (u : Value) : Box (w.setCell p u) g t cs := (Below.heap_setCell w p u g hp).trans h
theorem Box.below {B : Nat} (h : Box w g t cs) (hb : Below B w w') (hg : g < B) : Box w' g t cs := (hb.block g hg).trans h
theorem Box.grown {row : Option Nat} (h : Box w g t cs) (hb : w.grownBy w' row) (hg : some g ≠ row) : Box w' g t cs := (hb.block g h.lt hg).trans h
theorem Box.apart {g' : Nat} {t' : TypeId} {cs' : Array Value} (h : Box w g t cs) (h' : Box w g' t' cs') (hne : t ≠ t') : g ≠ g' := by
  rintro rfl
  have e := Option.some.inj (Eq.trans (Eq.symm h) h')
  injection e with _ e
  exact hne e
end
/-- a draw, and a store into block g: nothing else has turned -/
theorem only_drewN {a w : World} {row : Option Nat} (h : a.grownBy w row) (n : Nat) : a.grownBy (w.drewN n) row := ⟨h.os, h.tape, h.output, h.size, h.block⟩
theorem only_put {a w : World} {g : Nat} (h : a.grownBy w (some g)) (i : Nat) (u : Value) : a.grownBy (w.setCell ⟨g, i, none⟩ u) (some g) :=
  ⟨h.os, h.tape, h.output, by simpa [World.setCell] using h.size, fun k hk hne => (Below.heap_setCell w ⟨g, i, none⟩ u k (fun e => hne (congrArg some e))).trans (h.block k hk hne)⟩
theorem only_trans {a b c : World} {row : Option Nat} (h : a.grownBy b row) (k : b.grownBy c row) : a.grownBy c row :=
  ⟨k.os.trans h.os, k.tape.trans h.tape, k.output.trans h.output, Nat.le_trans h.size k.size, fun i hi hne => (k.block i (Nat.lt_of_lt_of_le hi h.size) hne).trans (h.block i hi hne)⟩
theorem Byt.grown {w w' : World} {B g : Nat} {A : Option Addr} {l : List UInt8} (h : Byt w B A l) (hg : w.grownBy w' (some g)) (hB : B ≤ g) (hs : B ≤ w.heap.size) : Byt w' B A l := fun hl => by
  obtain ⟨b, o, e, hlt, hc⟩ := h hl
  exact ⟨b, o, e, hlt, fun k hk => (World.cell?_of_block (hg.block b (by omega) (by intro e; injection e; omega))).trans (hc k hk)⟩
end Go.Proofs.YteejocnogpaifaaGreatDoor
/-
  A slice of structs of k cells that reads as a list; an argument of such a slice, opened to one.
  Conditions: none.
-/
namespace Go.Proofs.YteejocnogpaifaaGreatDoor.El
open Go.ChangeShapes Go.WideShapes Go.ChangeAt Go.RowKit

/-- a function of places out of what each place has -/
theorem pick_fun {α : Type} (d : α) {n : Nat} {Q : Nat → α → Prop} (h : ∀ i, i < n → ∃ a, Q i a) : ∃ f : Nat → α, ∀ i, i < n → Q i (f i) :=
  ⟨fun i => if hi : i < n then Classical.choose (h i hi) else d, fun i hi => by simp only [dif_pos hi]; exact Classical.choose_spec (h i hi)⟩
theorem at_lt {α : Type} {l : List α} {i : Nat} {a : α} (h : l[i]? = some a) : i < l.length := by
  rcases Nat.lt_or_ge i l.length with h1 | h1
  · exact h1
  · rw [List.getElem?_eq_none h1] at h; cases h
/-- a slice that reads as a list of structs of k cells, below block B -/
def Els {α : Type} (ec : α → List Value) (k : Nat) (w : World) (B : Nat) (A : Option Addr) (l : List α) : Prop :=
  ∀ i a, l[i]? = some a → ∃ b o, A = some ⟨b, o, none⟩ ∧ b < B ∧ ∀ j u, (ec a)[j]? = some u → w.cell? ⟨b, o + i * k + j, none⟩ = some u
section
variable {α : Type} {ec : α → List Value} {k : Nat} {w w' : World} {B : Nat} {A : Option Addr} {l : List α}
theorem Els.nil (ec : α → List Value) (k : Nat) (w : World) (B : Nat) (A : Option Addr) : Els ec k w B A [] := fun i a h => by simp at h
theorem Els.below (h : Els ec k w B A l) (hb : Below B w w') : Els ec k w' B A l := fun i p hp => by
  obtain ⟨b, o, e, hlt, hc⟩ := h i p hp
  exact ⟨b, o, e, hlt, fun j u hu => (hb.cell (p := ⟨b, o + i * k + j, none⟩) hlt).trans (hc j u hu)⟩
theorem Els.more {B' : Nat} (h : Els ec k w B A l) (hB : B ≤ B') : Els ec k w B' A l := fun i p hp => by
  obtain ⟨b, o, e, hlt, hc⟩ := h i p hp
  exact ⟨b, o, e, Nat.lt_of_lt_of_le hlt hB, hc⟩
/-- behind a call that turns nothing that is there -/
theorem Els.on (h : Els ec k w w.heap.size A l) (hb : Below w.heap.size w w') : Els ec k w' w'.heap.size A l := (h.below hb).more hb.size
theorem Els.at_ (h : Els ec k w B A l) {i : Nat} {a : α} (ha : l[i]? = some a) : ∃ b o, A = some ⟨b, o, none⟩ ∧ b < B := by
  obtain ⟨b, o, e, hlt, _⟩ := h i a ha
  exact ⟨b, o, e, hlt⟩
theorem Els.live (h : Els ec k w B A l) (hl : 0 < l.length) : ∃ b o, A = some ⟨b, o, none⟩ ∧ b < B := h.at_ (List.getElem?_eq_getElem hl)
theorem Els.get {b o : Nat} (h : Els ec k w B (some ⟨b, o, none⟩) l) {i : Nat} {a : α} (ha : l[i]? = some a) (j : Nat) {u : Value} (hu : (ec a)[j]? = some u) : w.cell? ⟨b, o + i * k + j, none⟩ = some u := by
  obtain ⟨b', o', e, _, hc⟩ := h i a ha
  injection e with e
  injection e with e1 e2
  subst e1 e2
  exact hc j u hu
theorem Els.take (h : Els ec k w B A l) (n : Nat) : Els ec k w B A (l.take n) := fun i a ha => by
  have hi := at_lt ha
  rw [List.length_take] at hi
  rw [List.getElem?_take, if_pos (by omega)] at ha
  exact h i a ha
end
theorem els_of {P : Program} {H : Type} {enc : TypeId × Value → H} {W : World} {cs : List Value} {y : DataW H × List MemPlace} {U e : TypeId} {fuel : Nat} {α : Type} (dflt : α) (ec : α → List Value) (Good : α → Prop) (k : Nat) (k0 : 0 < k) (hT : P.underlying U = some (.slice e)) (he : P.cellsOf e = k)
    (hel : ∀ fuel cs x, DataW.trod enc P W 0 (fun _ => true) true fuel e cs = some x → cs.length = k → ∃ a, Good a ∧ cs = ec a)
    (hf : DataW.trod enc P W 0 (fun _ => true) true fuel U cs = some y) :
    ∃ (a0 : Option Addr) (len cap : Nat) (l : List α), cs = [.slice a0 len cap] ∧ len = l.length ∧ len ≤ cap ∧ len ≤ 9223372036854775807 ∧ (∀ a ∈ l, Good a) ∧ Els ec k W W.heap.size a0 l ∧ (a0 = none → len = 0 ∧ cap = 0) := by
  rcases Deep.open_slice hT hf with ⟨rfl, _⟩ | ⟨a, len', cap', m, n, D, Pl, rfl, _, hl, hm, hmm, _, hi⟩
  · exact ⟨none, 0, 0, [], rfl, rfl, Nat.le_refl _, by omega, by simp, fun i a ha => by simp at ha, fun _ => ⟨rfl, rfl⟩⟩
  · simp only [if_true] at hmm
    subst hmm
    suffices HH : ∀ i, i < len' → ∃ x, Good x ∧ ∃ b o, (some a : Option Addr) = some ⟨b, o, none⟩ ∧ b < W.heap.size ∧ ∀ j u, (ec x)[j]? = some u → W.cell? ⟨b, o + i * k + j, none⟩ = some u by
      obtain ⟨f, hf⟩ := pick_fun dflt HH
      have hget : ∀ i x, ((List.range len').map f)[i]? = some x → i < len' ∧ x = f i := fun i x hx => by
        have hi' : i < len' := by
          rcases Nat.lt_or_ge i len' with h1 | h1
          · exact h1
          · rw [List.getElem?_eq_none (by simpa using h1)] at hx; cases hx
        simp [hi'] at hx
        exact ⟨hi', hx.symm⟩
      refine ⟨some a, len', m, (List.range len').map f, rfl, by simp, hl, by unfold maxLen at hm; omega, fun x hx => ?_, fun i x hx => ?_, fun h => by cases h⟩
      · obtain ⟨i, hi'⟩ := List.mem_iff_getElem?.1 hx
        obtain ⟨h1, rfl⟩ := hget i x hi'
        exact (hf i h1).1
      · obtain ⟨h1, rfl⟩ := hget i x hx
        exact (hf i h1).2
    intro i hi'
    have hsp : a.spot = none ∧ a.block < W.heap.size := by
      obtain ⟨cs0, hc0, _⟩ := hi 0 (by omega)
      rw [he] at hc0
      obtain ⟨_, hlen0, hat0⟩ := World.cells?_some hc0
      have g0 := hat0 0 (by omega)
      rw [List.getElem?_eq_getElem (by omega)] at g0
      exact ⟨World.cell?_spot (by simpa [Addr.add] using g0), by simpa [Addr.add] using World.block_lt_of_cell? _ _ g0⟩
    obtain ⟨b, o, sp⟩ := a
    simp only at hsp
    obtain ⟨rfl, hblt⟩ := hsp
    obtain ⟨cs', hc, ht⟩ := hi i (by omega)
    rw [he] at hc
    obtain ⟨_, hlen, hat⟩ := World.cells?_some hc
    obtain ⟨x, hg, rfl⟩ := hel _ _ _ ht hlen
    refine ⟨x, hg, b, o, rfl, hblt, fun j u hu => ?_⟩
    have hj : j < k := by
      rcases Nat.lt_or_ge j k with h1 | h1
      · exact h1
      · rw [List.getElem?_eq_none (by omega)] at hu; cases hu
    have hx := hat j hj
    rw [Addr.add_lit, Addr.add_lit] at hx
    rw [hx]
    exact hu
end Go.Proofs.YteejocnogpaifaaGreatDoor.El
/-
  What Good of package backoff answers, at a plan by value, and Good, Of and Add of package tick; what a call leaves that makes blocks of its own.
  Conditions: none.
-/
namespace Go.Proofs.YteejocnogpaifaaGreatDoor.Bo
open Go.RowKit Go.Sort

theorem ret_int {k : IntKind} {a b : Int} (h : a = b) : Ending.returned (.int k a) = .returned (.int k b) := by rw [h]
theorem ret_bool {a b : Bool} (h : a = b) : Ending.returned (.bool a) = .returned (.bool b) := by rw [h]
def P.cells (p : P) : Array Value := #[.int .i64 p.r, .int .i64 p.b, .int .i64 p.f, .int .i64 p.c]
/-- the world behind a plan's being laid -/
def P.lay (p : P) (w : World) : World := w.alloc (.cells p.cells 52)
def goodN (n : Int) : Bool := decide (0 ≤ n ∧ n ≤ 1099511627776)
set_option maxHeartbeats 400000 in
theorem tgood_any (n : Int) (w : World) :
    Calls Tryz.prog 36 #[.int .i64 n] w fun e w' => e = .returned (.bool (goodN n)) ∧ w = w' := by
  by_cases h : 0 ≤ n
  all_goals
    go_enter Tryz.func36, Tryz.ntmps36
    go_wp2
    go_ret
    refine ⟨ret_bool ?_, rfl⟩
    simp only [goodN, Bool.decide_and, h]
    simp <;> omega
set_option maxHeartbeats 400000 in
theorem tof_any (n : Int) (w : World) :
    Calls Tryz.prog 77 #[.int .i64 n] w fun e w' => e = .returned (.int .i64 (ofT n)) ∧ w = w' := by
  go_enter Tryz.func77, Tryz.ntmps77
  go_wp2
  all_goals
    go_ret
    refine ⟨ret_int ?_, rfl⟩
    unfold ofT
    repeat' split
    all_goals (first | omega | (split at * <;> omega))
set_option maxHeartbeats 400000 in
theorem tadd_any (a b : Int) (w : World) :
    Calls Tryz.prog 105 #[.int .i64 a, .int .i64 b] w fun e w' => e = .returned (.int .i64 (addT a b)) ∧ w = w' := by
  have h1 := ofT_lo a; have h2 := ofT_hi a; have h3 := ofT_lo b; have h4 := ofT_hi b
  go_enter Tryz.func105, Tryz.ntmps105
  go_wp2_with (go_at_call 77; refine (tof_any _ _).mono ?_; rintro e w' ⟨rfl, rfl⟩)
  go_ret
  exact ⟨rfl, rfl⟩
/-- what a call leaves: it has drawn, and laid blocks of its own -/
def Made (w w' : World) : Prop := ∃ q os, w' = grow (w.drewN q) os
theorem Made.below {w w' : World} (h : Made w w') : Below w.heap.size w w' := by
  obtain ⟨q, os, rfl⟩ := h
  exact ⟨rfl, rfl, rfl, by rw [size_grow]; exact Nat.le_add_right _ _, fun i hi => by
    show (w.heap ++ os)[i]? = w.heap[i]?
    exact Array.getElem?_append_left hi⟩
theorem alloc_grow (w : World) (o : Obj) : w.alloc o = grow w #[o] := by
  unfold grow
  show { w with heap := w.heap.push o } = _
  simp
theorem Made.refl (w : World) : Made w w := ⟨0, #[], by rw [grow_empty]; rfl⟩
theorem Made.trans {a b c : World} (h : Made a b) (k : Made b c) : Made a c := by
  obtain ⟨q, os, rfl⟩ := h
  obtain ⟨q', os', rfl⟩ := k
  exact ⟨q + q', os ++ os', by show grow (grow ((a.drewN q).drewN q') os) os' = _; rw [grow_grow, World.drewN_drewN]⟩
theorem Made.alloc (w : World) (o : Obj) : Made w (w.alloc o) := ⟨0, #[o], alloc_grow w o⟩
theorem Made.drewN (w : World) (n : Nat) : Made w (w.drewN n) := ⟨n, #[], by rw [grow_empty]⟩
theorem Made.lay (p : P) (w : World) : Made w (p.lay w) := Made.alloc w _
theorem Box.made {w w' : World} {g : Nat} {t : TypeId} {cs : Array Value} (h : Box w g t cs) (hm : Made w w') : Box w' g t cs := h.below hm.below h.lt
theorem lay_box (p : P) (w : World) : Box (p.lay w) w.heap.size 52 p.cells := Box.new w _ _
def P.goodB (p : P) : Bool := decide p.Good
theorem goodB_yes {p : P} (h : p.Good) : p.goodB = true := decide_eq_true h
theorem goodB_no {p : P} (h : ¬p.Good) : p.goodB = false := decide_eq_false h
theorem goodB_iff {r b f c : Int} : (P.goodB ⟨r, b, f, c⟩ = true) = (0 ≤ r ∧ r ≤ 1000 ∧ 1 ≤ b ∧ b ≤ c ∧ c ≤ 1099511627776 ∧ 1 ≤ f ∧ f ≤ 16) := propext ⟨fun h => of_decide_eq_true h, fun h => decide_eq_true (p := P.Good ⟨r, b, f, c⟩) h⟩
/-- a plan as a value -/
def P.val (p : P) : Value := .agg p.cells
set_option maxHeartbeats 800000 in
theorem good_any (p : P) (w : World) :
    Calls Tryz.prog 118 #[p.val] w fun e w' => e = .returned (.bool p.goodB) ∧ Made w w' := by
  obtain ⟨r, b, f, c⟩ := p
  show Calls Tryz.prog 118 #[.agg #[.int .i64 r, .int .i64 b, .int .i64 f, .int .i64 c]] w fun e w' => e = .returned (.bool (P.goodB ⟨r, b, f, c⟩)) ∧ Made w w'
  have HG := Lib.hid (tgood_any c)
  by_cases h1 : 0 ≤ r
  all_goals by_cases h2 : 1 ≤ f
  all_goals
    go_enter Tryz.func118, Tryz.ntmps118
    go_wp2_with (go_at_call 36; refine (HG.out _).mono ?_; rintro e w' ⟨rfl, rfl⟩)
    all_goals
      go_ret
      refine ⟨ret_bool ?_, Made.alloc _ _⟩
      clear HG
      rw [Bool.eq_iff_iff]
      simp only [goodB_iff, goodN, decide_eq_true_eq, Bool.false_eq_true, false_iff]
      omega
section
variable {w : World} {g : Nat} {p : P} (h : Box w g 52 p.cells)
include h
theorem Pc0 : w.cell? ⟨g, 0, none⟩ = some (.int .i64 p.r) := h.cell 0
theorem Pc1 : w.cell? ⟨g, 1, none⟩ = some (.int .i64 p.b) := h.cell 1
theorem Pc2 : w.cell? ⟨g, 2, none⟩ = some (.int .i64 p.f) := h.cell 2
theorem Pc3 : w.cell? ⟨g, 3, none⟩ = some (.int .i64 p.c) := h.cell 3
end
theorem val_is (p : P) : p.val = .agg #[.int .i64 p.r, .int .i64 p.b, .int .i64 p.f, .int .i64 p.c] := rfl
theorem good_is (p : P) {v : Bool} (h : p.goodB = v) (w : World) : Calls Tryz.prog 118 #[.agg #[.int .i64 p.r, .int .i64 p.b, .int .i64 p.f, .int .i64 p.c]] w fun e w' => e = .returned (.bool v) ∧ Made w w' := h ▸ good_any p w
/-- the plan's own block, as a call lays it, behind whatever has been made since -/
theorem own_at {p : P} {w w' : World} (h : Made (w.alloc (.cells #[.int .i64 p.r, .int .i64 p.b, .int .i64 p.f, .int .i64 p.c] 52)) w') : Box w' w.heap.size 52 p.cells := Box.made (Box.new w _ _) h
end Go.Proofs.YteejocnogpaifaaGreatDoor.Bo
/-
  The document's own Good of a plan: it answers as the program's.
  Conditions: none.
-/
namespace Go.Proofs.YteejocnogpaifaaGreatDoor.Bo
open Go.RowKit Go.Sort

set_option maxHeartbeats 800000 in
theorem rgood_any (p : P) (w : World) :
    Calls Tryz.prog 86 #[p.val] w fun e w' => e = .returned (.bool p.goodB) ∧ Made w w' := by
  obtain ⟨r, b, f, c⟩ := p
  show Calls Tryz.prog 86 #[.agg #[.int .i64 r, .int .i64 b, .int .i64 f, .int .i64 c]] w fun e w' => e = .returned (.bool (P.goodB ⟨r, b, f, c⟩)) ∧ Made w w'
  go_enter Tryz.func86, Tryz.ntmps86
  go_wp2
  all_goals
    go_ret
    refine ⟨ret_bool ?_, Made.alloc _ _⟩
    rw [Bool.eq_iff_iff]
    simp only [goodB_iff, decide_eq_true_eq, Bool.false_eq_true, false_iff]
    omega
theorem rgood_is (p : P) {v : Bool} (h : p.goodB = v) (w : World) : Calls Tryz.prog 86 #[.agg #[.int .i64 p.r, .int .i64 p.b, .int .i64 p.f, .int .i64 p.c]] w fun e w' => e = .returned (.bool v) ∧ Made w w' := h ▸ rgood_any p w
end Go.Proofs.YteejocnogpaifaaGreatDoor.Bo
/-
  What the functions of package backoff answer, at a plan by value: the wait behind another one, Left and Wait. Each lays its plan in a block of its own, and turns nothing else.
  Conditions: a plan is right, where a contract asks it.
-/
namespace Go.Proofs.YteejocnogpaifaaGreatDoor.Bo
open Go.RowKit Go.Sort

theorem times_val {a n : Int} (h0 : 0 ≤ a) (h1 : 0 ≤ n) (h2 : a * n ≤ 1099511627776) : ofT (a * n) = a * n := ofT_id (Int.mul_nonneg h0 h1) h2
set_option maxHeartbeats 400000 in
theorem ttimes_any (a b : Int) (w : World) :
    Calls Tryz.prog 138 #[.int .i64 a, .int .i64 b] w fun e w' => e = .returned (.int .i64 (timesT a b)) ∧ w = w' := by
  have h1 := ofT_lo a; have h2 := ofT_hi a; have h3 := ofT_lo b; have h4 := ofT_hi b
  by_cases hz : 0 < ofT a
  · by_cases hq : 1099511627776 / ofT a < ofT b
    · have hd : 0 ≤ 1099511627776 / ofT a := Int.ediv_nonneg (by omega) h1
      go_enter Tryz.func138, Tryz.ntmps138
      go_wp2_with (go_at_call 77; refine (tof_any _ _).mono ?_; rintro e w' ⟨rfl, rfl⟩)
      go_ret
      refine ⟨ret_int ?_, rfl⟩
      exact (ofT_big (times_over hz hq)).symm
    · have hp := times_under (n := ofT b) hz (by omega)
      have hp0 := Int.mul_nonneg h1 h3
      go_enter Tryz.func138, Tryz.ntmps138
      go_wp2_with (go_at_call 77; refine (tof_any _ _).mono ?_; rintro e w' ⟨rfl, rfl⟩)
      go_ret
      refine ⟨ret_int ?_, rfl⟩
      exact (times_val h1 h3 hp).symm
  · have hp : ofT a * ofT b ≤ 1099511627776 := by
      have : ofT a = 0 := by omega
      rw [this]; simp
    have hp0 := Int.mul_nonneg h1 h3
    go_enter Tryz.func138, Tryz.ntmps138
    go_wp2_with (go_at_call 77; refine (tof_any _ _).mono ?_; rintro e w' ⟨rfl, rfl⟩)
    go_ret
    refine ⟨ret_int ?_, rfl⟩
    exact (times_val h1 h3 hp).symm
set_option maxHeartbeats 800000 in
theorem behind_any (p : P) (x : Int) (w : World) :
    Calls Tryz.prog 134 #[.agg #[.int .i64 p.r, .int .i64 p.b, .int .i64 p.f, .int .i64 p.c], .int .i64 x] w fun e w' => e = .returned (.int .i64 (behind p x)) ∧ Made w w' := by
  have HT := Lib.hid (ttimes_any x p.f)
  go_enter Tryz.func134, Tryz.ntmps134
  go_wp2
  go_quiet ((go_at_call 138; exact Calls.quiet_of_same ((HT.out _).mono fun e w' ⟨h3, h4⟩ => ⟨h3, h4.symm⟩)))
  go_wp2
  all_goals
    go_ret
    exact ⟨ret_int (by unfold behind; omega), (Made.alloc _ _).trans (Made.drewN _ _)⟩
set_option maxHeartbeats 800000 in
theorem left_any (p : P) (h : p.Good) (n : Int) (hn : -9223372036854775808 ≤ n ∧ n ≤ 9223372036854775807) (w : World) :
    Calls Tryz.prog 129 #[.agg #[.int .i64 p.r, .int .i64 p.b, .int .i64 p.f, .int .i64 p.c], .int .i64 n] w fun e w' => e = .returned (.int .i64 (left p n)) ∧ Made w w' := by
  have HG := Lib.hid (good_is p (goodB_yes h))
  have hr : 0 ≤ p.r ∧ p.r ≤ 1000 := ⟨h.1, h.2.1⟩
  clear h
  go_enter Tryz.func129, Tryz.ntmps129
  go_wp2_with (go_at_call 118; refine (HG.out _).mono ?_; rintro e w1 ⟨rfl, hm⟩; have k0 := Pc0 (own_at hm); have HM := Lib.hid hm; clear hm)
  all_goals
    go_ret
    exact ⟨ret_int (by unfold left; omega), (Made.alloc _ _).trans HM.out⟩
set_option maxHeartbeats 800000 in
theorem wait_neg (p : P) (h : p.Good) (n : Int) (hn : n < 0) (w : World) :
    Calls Tryz.prog 126 #[.agg #[.int .i64 p.r, .int .i64 p.b, .int .i64 p.f, .int .i64 p.c], .int .i64 n] w fun e w' => e = .returned (.int .i64 0) ∧ Made w w' := by
  have HG := Lib.hid (good_is p (goodB_yes h))
  clear h
  go_enter Tryz.func126, Tryz.ntmps126
  go_wp2_with (go_at_call 118; refine (HG.out _).mono ?_; rintro e w1 ⟨rfl, hm⟩; have HM := Lib.hid hm; clear hm)
  go_ret
  exact ⟨rfl, (Made.alloc _ _).trans HM.out⟩
set_option maxHeartbeats 800000 in
theorem wait_any (p : P) (h : p.Good) (n : Int) (hn : 0 ≤ n) (hn' : n ≤ 9223372036854775807) (w : World) :
    Calls Tryz.prog 126 #[.agg #[.int .i64 p.r, .int .i64 p.b, .int .i64 p.f, .int .i64 p.c], .int .i64 n] w fun e w' => e = .returned (.int .i64 (wait p n.toNat)) ∧ Made w w' := by
  have HG := Lib.hid (good_is p (goodB_yes h))
  have HGood := Lib.hid h
  clear h
  go_enter Tryz.func126, Tryz.ntmps126
  go_wp2_with (go_at_call 118; refine (HG.out _).mono ?_; rintro e w1 ⟨rfl, hm⟩; have k1 := Pc1 (own_at hm); have HM := Lib.hid hm; clear hm)
  have HI := Lib.hid (And.intro (own_at HM.out) ((Made.alloc _ _).trans HM.out))
  clear HM k1 HG
  generalize w.heap.size = g at HI ⊢
  go_loopw [5, 17] (fun v i wr => ∃ k : Nat, (k : Int) ≤ n ∧ i = .int .i64 (k : Int) ∧ v = .int .i64 (wait p k) ∧ Hid (Box wr g 52 p.cells ∧ Made w wr)) (fun _ i _ => n.toNat - (intOf i).toNat)
  case atStart => exact ⟨0, by simpa using hn, rfl, rfl, HI.out⟩
  case round =>
    obtain ⟨k, hk, rfl, rfl, HR⟩ := hrel
    have k0 := Pc0 HR.out.1; have k1 := Pc1 HR.out.1; have k2 := Pc2 HR.out.1; have k3 := Pc3 HR.out.1
    by_cases hlt : (k : Int) < n
    · by_cases hq : behind p (wait p k) = wait p k
      · have hb : (behind p (wait p k) == wait p k) = true := by rw [hq]; simp
        have HQ : Hid (behind p (wait p k) = wait p k) := hq
        clear hq
        go_wp2_with (go_at_call 134; refine (behind_any _ _ _).mono ?_; rintro e w' ⟨rfl, hm⟩; have HM := Lib.hid hm; clear hm)
        go_ret
        exact ⟨ret_int (wait_stays HQ.out _ (by omega)).symm, HR.out.2.trans HM.out⟩
      · have hb : (behind p (wait p k) == wait p k) = false := by simpa using hq
        clear hq
        go_wp2_with (go_at_call 134; refine (behind_any _ _ _).mono ?_; rintro e w' ⟨rfl, hm⟩; have HM := Lib.hid hm; clear hm)
        go_roundw
        case rel => exact ⟨k + 1, by omega, by go_num, rfl, Box.made HR.out.1 HM.out, HR.out.2.trans HM.out⟩
        case measure => simp [intOf]; omega
    · go_wp2
      go_ret
      exact ⟨ret_int (by congr 1; omega), HR.out.2⟩
theorem wait_is (p : P) (h : p.Good) (n : Int) (hn' : n ≤ 9223372036854775807) (w : World) :
    Calls Tryz.prog 126 #[.agg #[.int .i64 p.r, .int .i64 p.b, .int .i64 p.f, .int .i64 p.c], .int .i64 n] w fun e w' => e = .returned (.int .i64 (if n < 0 then 0 else wait p n.toNat)) ∧ Made w w' := by
  by_cases hn : n < 0
  · rw [if_pos hn]; exact wait_neg p h n hn w
  · rw [if_neg hn]; exact wait_any p h n (by omega) hn' w
end Go.Proofs.YteejocnogpaifaaGreatDoor.Bo
/-
  Plain mathematics of labels: the rune at the head of a text of bytes, a text's pieces (a rune that may stand in a name as it is, all else as one _), their number, the masked text, and which texts are names. It needs nothing of the program.
  Conditions: none.
-/
namespace Go.Proofs.YteejocnogpaifaaGreatDoor

/-- byte k of a text (0 behind its end) -/
def byt (l : List UInt8) (k : Nat) : Nat := (l.getD k 0).toNat
/-- the rune that these bytes begin with, and how many of them it has (0: none) -/
def d4 (a b c d : Nat) : Nat × Nat :=
  if a < 128 then (a, 1)
  else if a / 32 = 6 then (if b / 64 = 2 ∧ 128 ≤ (a % 32) * 64 + b % 64 then ((a % 32) * 64 + b % 64, 2) else (0, 0))
  else if a / 16 = 14 then (if b / 64 = 2 ∧ c / 64 = 2 ∧ 2048 ≤ (a % 16) * 4096 + (b % 64) * 64 + c % 64 ∧ ¬ (55296 ≤ (a % 16) * 4096 + (b % 64) * 64 + c % 64 ∧ (a % 16) * 4096 + (b % 64) * 64 + c % 64 ≤ 57343) then ((a % 16) * 4096 + (b % 64) * 64 + c % 64, 3) else (0, 0))
  else if a / 8 = 30 then (if b / 64 = 2 ∧ c / 64 = 2 ∧ d / 64 = 2 ∧ 65536 ≤ (a % 8) * 262144 + (b % 64) * 4096 + (c % 64) * 64 + d % 64 ∧ (a % 8) * 262144 + (b % 64) * 4096 + (c % 64) * 64 + d % 64 ≤ 1114111 then ((a % 8) * 262144 + (b % 64) * 4096 + (c % 64) * 64 + d % 64, 4) else (0, 0))
  else (0, 0)
def dec (l : List UInt8) : Nat × Nat := d4 (byt l 0) (byt l 1) (byt l 2) (byt l 3)
def wd (l : List UInt8) : Nat := if (dec l).2 = 0 then 1 else (dec l).2
def lettI (r : Int) : Bool := (decide (97 ≤ r) && decide (r ≤ 122)) || (decide (65 ≤ r) && decide (r ≤ 90)) || decide (128 ≤ r)
def fitI (r : Int) : Bool := lettI r || (decide (48 ≤ r) && decide (r ≤ 57)) || r == 45 || r == 95
/-- the rune at the head, -1 where the byte there is none's -/
def metI (l : List UInt8) : Int := if (dec l).2 = 0 then -1 else (dec l).1
/-- the rune at the head may stand in a name -/
def gd (l : List UInt8) : Bool := fitI (metI l)
def hd (l : List UInt8) : List UInt8 := if gd l then l.take (wd l) else [95]
def chunksF : Nat → List UInt8 → List (List UInt8)
  | 0, _ => []
  | _ + 1, [] => []
  | f + 1, b :: t => hd (b :: t) :: chunksF f ((b :: t).drop (wd (b :: t)))
def chunks (l : List UInt8) : List (List UInt8) := chunksF l.length l
def runes (l : List UInt8) : Nat := (chunks l).length
def mask (l : List UInt8) : List UInt8 := (chunks l).flatten
def nameB (l : List UInt8) : Bool := !l.isEmpty && lettI (metI l) && decide (mask l = l) && decide (runes l ≤ 64)

theorem byt_lt (l : List UInt8) (k : Nat) : byt l k < 256 := (l.getD k 0).toNat_lt
theorem byt_pos {l : List UInt8} {k : Nat} (h : byt l k ≠ 0) : k < l.length := by
  rcases Nat.lt_or_ge k l.length with hlt | hge
  · exact hlt
  · exact absurd (by simp [byt, List.getD_eq_getElem?_getD, List.getElem?_eq_none hge]) h
theorem byt_get {l : List UInt8} {k : Nat} (h : k < l.length) : byt l k = (l[k]'h).toNat := by simp [byt, List.getD_eq_getElem?_getD, h]
theorem byt_app {c t : List UInt8} {k : Nat} (h : k < c.length) : byt (c ++ t) k = byt c k := by
  simp [byt, List.getD_eq_getElem?_getD, List.getElem?_append_left h]
theorem byt_take {l : List UInt8} {n k : Nat} (h : k < n) : byt (l.take n) k = byt l k := by
  simp [byt, List.getD_eq_getElem?_getD, h]
theorem byt_drop (l : List UInt8) (n k : Nat) : byt (l.drop n) k = byt l (n + k) := by
  simp [byt, List.getD_eq_getElem?_getD, List.getElem?_drop]

theorem d4_cases (a b c d : Nat) :
    (a < 128 ∧ d4 a b c d = (a, 1)) ∨
    (a / 32 = 6 ∧ b / 64 = 2 ∧ 128 ≤ (a % 32) * 64 + b % 64 ∧ d4 a b c d = ((a % 32) * 64 + b % 64, 2)) ∨
    (a / 16 = 14 ∧ b / 64 = 2 ∧ c / 64 = 2 ∧ 2048 ≤ (a % 16) * 4096 + (b % 64) * 64 + c % 64 ∧ ¬ (55296 ≤ (a % 16) * 4096 + (b % 64) * 64 + c % 64 ∧ (a % 16) * 4096 + (b % 64) * 64 + c % 64 ≤ 57343) ∧ d4 a b c d = ((a % 16) * 4096 + (b % 64) * 64 + c % 64, 3)) ∨
    (a / 8 = 30 ∧ b / 64 = 2 ∧ c / 64 = 2 ∧ d / 64 = 2 ∧ 65536 ≤ (a % 8) * 262144 + (b % 64) * 4096 + (c % 64) * 64 + d % 64 ∧ (a % 8) * 262144 + (b % 64) * 4096 + (c % 64) * 64 + d % 64 ≤ 1114111 ∧ d4 a b c d = ((a % 8) * 262144 + (b % 64) * 4096 + (c % 64) * 64 + d % 64, 4)) ∨
    (128 ≤ a ∧ d4 a b c d = (0, 0)) := by
  unfold d4
  by_cases h1 : a < 128
  · exact .inl ⟨h1, by rw [if_pos h1]⟩
  rw [if_neg h1]
  by_cases h2 : a / 32 = 6
  · rw [if_pos h2]
    split
    · rename_i h; exact .inr (.inl ⟨h2, h.1, h.2, rfl⟩)
    · exact .inr (.inr (.inr (.inr ⟨by omega, rfl⟩)))
  rw [if_neg h2]
  by_cases h3 : a / 16 = 14
  · rw [if_pos h3]
    split
    · rename_i h; exact .inr (.inr (.inl ⟨h3, h.1, h.2.1, h.2.2.1, h.2.2.2, rfl⟩))
    · exact .inr (.inr (.inr (.inr ⟨by omega, rfl⟩)))
  rw [if_neg h3]
  by_cases h4 : a / 8 = 30
  · rw [if_pos h4]
    split
    · rename_i h; exact .inr (.inr (.inr (.inl ⟨h4, h.1, h.2.1, h.2.2.1, h.2.2.2.1, h.2.2.2.2, rfl⟩)))
    · exact .inr (.inr (.inr (.inr ⟨by omega, rfl⟩)))
  rw [if_neg h4]
  exact .inr (.inr (.inr (.inr ⟨by omega, rfl⟩)))

theorem d4_ext {a b c d a' b' c' d' : Nat} (hk : (d4 a b c d).2 ≠ 0) (h1 : a' = a) (h2 : 2 ≤ (d4 a b c d).2 → b' = b) (h3 : 3 ≤ (d4 a b c d).2 → c' = c) (h4 : 4 ≤ (d4 a b c d).2 → d' = d) :
    d4 a' b' c' d' = d4 a b c d := by
  subst h1
  rcases d4_cases a' b c d with ⟨p, e⟩ | ⟨p, q, r, e⟩ | ⟨p, q, r, s, t, e⟩ | ⟨p, q, r, s, t, u, e⟩ | ⟨p, e⟩
  · rw [e, d4, if_pos p]
  · rw [e] at h2
    rw [e, h2 (by simp), d4, if_neg (by omega), if_pos p, if_pos ⟨q, r⟩]
  · rw [e] at h2 h3
    rw [e, h2 (by simp), h3 (by simp), d4, if_neg (by omega), if_neg (by omega), if_pos p, if_pos ⟨q, r, s, t⟩]
  · rw [e] at h2 h3 h4
    rw [e, h2 (by simp), h3 (by simp), h4 (by simp), d4, if_neg (by omega), if_neg (by omega), if_neg (by omega), if_pos p, if_pos ⟨q, r, s, t, u⟩]
  · rw [e] at hk; exact absurd rfl hk

theorem dec_le (l : List UInt8) (hl : l ≠ []) : (dec l).2 ≤ l.length := by
  have hp : 0 < l.length := List.length_pos_iff.2 hl
  have p1 : byt l 1 / 64 = 2 → 1 < l.length := fun h => byt_pos (fun e => by rw [e] at h; omega)
  have p2 : byt l 2 / 64 = 2 → 2 < l.length := fun h => byt_pos (fun e => by rw [e] at h; omega)
  have p3 : byt l 3 / 64 = 2 → 3 < l.length := fun h => byt_pos (fun e => by rw [e] at h; omega)
  unfold dec
  rcases d4_cases (byt l 0) (byt l 1) (byt l 2) (byt l 3) with ⟨p, e⟩ | ⟨p, q, r, e⟩ | ⟨p, q, r, s, t, e⟩ | ⟨p, q, r, s, t, u, e⟩ | ⟨p, e⟩ <;> rw [e] <;> simp only
  · omega
  · have := p1 q; omega
  · have := p2 r; omega
  · have := p3 s; omega
  · omega
theorem dec_bd (l : List UInt8) : (dec l).1 ≤ 1114111 ∧ (dec l).2 ≤ 4 := by
  have h0 := byt_lt l 0
  unfold dec
  rcases d4_cases (byt l 0) (byt l 1) (byt l 2) (byt l 3) with ⟨p, e⟩ | ⟨p, q, r, e⟩ | ⟨p, q, r, s, t, e⟩ | ⟨p, q, r, s, t, u, e⟩ | ⟨p, e⟩ <;> rw [e] <;> simp only <;> omega
theorem wd_pos (l : List UInt8) : 1 ≤ wd l := by unfold wd; split <;> omega
theorem wd_le (l : List UInt8) (hl : l ≠ []) : wd l ≤ l.length := by
  have hp : 0 < l.length := List.length_pos_iff.2 hl
  unfold wd; split
  · omega
  · exact dec_le l hl
theorem wd_bd (l : List UInt8) : wd l ≤ 4 := by
  have := dec_bd l
  unfold wd; split <;> omega
theorem metI_lo (l : List UInt8) : -1 ≤ metI l := by unfold metI; split <;> omega
theorem metI_hi (l : List UInt8) : metI l ≤ 1114111 := by have := dec_bd l; unfold metI; split <;> omega

theorem gd_valid {l : List UInt8} (h : gd l = true) : (dec l).2 ≠ 0 := by
  intro e
  unfold gd metI at h
  rw [if_pos e] at h
  exact absurd h (by decide)
theorem gd_wd {l : List UInt8} (h : gd l = true) : wd l = (dec l).2 := by unfold wd; rw [if_neg (gd_valid h)]

theorem chunksF_same : ∀ (f g : Nat) (l : List UInt8), l.length ≤ f → l.length ≤ g → chunksF f l = chunksF g l := by
  intro f
  induction f with
  | zero =>
    intro g l hf _
    have : l = [] := List.length_eq_zero_iff.1 (by omega)
    subst this
    cases g <;> rfl
  | succ f ih =>
    intro g l hf hg
    cases l with
    | nil => cases g <;> rfl
    | cons b t =>
      cases g with
      | zero => simp at hg
      | succ g =>
        have hw := wd_pos (b :: t)
        simp only [chunksF]
        rw [ih g ((b :: t).drop (wd (b :: t))) (by simp at hf ⊢; omega) (by simp at hg ⊢; omega)]

theorem chunks_nil : chunks [] = [] := rfl
theorem chunks_step (l : List UInt8) (h : l ≠ []) : chunks l = hd l :: chunks (l.drop (wd l)) := by
  cases l with
  | nil => exact absurd rfl h
  | cons b t =>
    have hw := wd_pos (b :: t)
    show chunksF (t.length + 1) (b :: t) = _
    simp only [chunksF]
    rw [chunksF_same t.length ((b :: t).drop (wd (b :: t))).length _ (by simp; omega) (Nat.le_refl _)]
    rfl

theorem runes_step (l : List UInt8) (h : l ≠ []) : runes l = runes (l.drop (wd l)) + 1 := by
  unfold runes; rw [chunks_step l h]; rfl
theorem mask_step (l : List UInt8) (h : l ≠ []) : mask l = hd l ++ mask (l.drop (wd l)) := by
  unfold mask; rw [chunks_step l h]; rfl
theorem runes_nil : runes [] = 0 := rfl
theorem mask_nil : mask [] = [] := rfl

/-- one rune that may stand in a name -/
def Gc (c : List UInt8) : Prop := c ≠ [] ∧ gd c = true ∧ (dec c).2 = c.length

theorem dec_app {c : List UInt8} (t : List UInt8) (hc : c ≠ []) (h : (dec c).2 = c.length) : dec (c ++ t) = dec c := by
  have hp : 0 < c.length := List.length_pos_iff.2 hc
  unfold dec at h ⊢
  exact d4_ext (by omega) (byt_app hp) (fun q => byt_app (by omega)) (fun q => byt_app (by omega)) (fun q => byt_app (by omega))
theorem dec_take {l : List UInt8} (h : (dec l).2 ≠ 0) : dec (l.take (dec l).2) = dec l := by
  have hp : 0 < (dec l).2 := Nat.pos_of_ne_zero h
  have h' := h
  unfold dec at h'
  show d4 _ _ _ _ = d4 _ _ _ _
  exact d4_ext h' (byt_take hp) (fun q => byt_take (by unfold dec; omega)) (fun q => byt_take (by unfold dec; omega)) (fun q => byt_take (by unfold dec; omega))
theorem metI_of_dec {l m : List UInt8} (h : dec l = dec m) : metI l = metI m := by unfold metI; rw [h]

theorem Gc_hd (l : List UInt8) (hl : l ≠ []) : Gc (hd l) := by
  unfold hd
  split
  · rename_i h
    have hv := gd_valid h
    have hle := dec_le l hl
    rw [gd_wd h]
    refine ⟨fun e => ?_, ?_, ?_⟩
    · have := congrArg List.length e
      simp at this
      exact this.elim hv (by simpa using hl)
    · unfold gd; rw [metI_of_dec (dec_take hv)]; exact h
    · rw [dec_take hv]; simp; omega
  · exact ⟨by simp, by decide, by decide⟩
theorem Gc_app {c : List UInt8} (h : Gc c) (t : List UInt8) : gd (c ++ t) = true ∧ wd (c ++ t) = c.length ∧ hd (c ++ t) = c := by
  obtain ⟨h0, h1, h2⟩ := h
  have e := dec_app t h0 h2
  have g : gd (c ++ t) = true := by unfold gd; rw [metI_of_dec e]; exact h1
  have w : wd (c ++ t) = c.length := by rw [gd_wd g, e, h2]
  exact ⟨g, w, by unfold hd; rw [if_pos g, w]; simp⟩

theorem chunks_good (l : List UInt8) : ∀ c ∈ chunks l, Gc c := by
  suffices h : ∀ n (l : List UInt8), l.length ≤ n → ∀ c ∈ chunks l, Gc c from h l.length l (Nat.le_refl _)
  intro n
  induction n with
  | zero =>
    intro l hl c hc
    have : l = [] := List.length_eq_zero_iff.1 (by omega)
    subst this
    simp [chunks_nil] at hc
  | succ n ih =>
    intro l hl c hc
    by_cases h : l = []
    · subst h; simp [chunks_nil] at hc
    · rw [chunks_step l h] at hc
      have hw := wd_pos l
      rcases List.mem_cons.1 hc with rfl | hc
      · exact Gc_hd l h
      · exact ih _ (by simp; omega) c hc

theorem chunks_app {c : List UInt8} (h : Gc c) (t : List UInt8) : chunks (c ++ t) = c :: chunks t := by
  obtain ⟨_, w, e⟩ := Gc_app h t
  rw [chunks_step (c ++ t) (by simp [h.1]), e, w]
  simp
theorem chunks_flat (cs : List (List UInt8)) (h : ∀ c ∈ cs, Gc c) (t : List UInt8) : chunks (cs.flatten ++ t) = cs ++ chunks t := by
  induction cs with
  | nil => rfl
  | cons c cs ih =>
    rw [List.flatten_cons, List.append_assoc, chunks_app (h c (by simp)), ih (fun x hx => h x (by simp [hx]))]
    rfl
theorem chunks_mask_app (l t : List UInt8) : chunks (mask l ++ t) = chunks l ++ chunks t := chunks_flat _ (chunks_good l) t
theorem chunks_mask (l : List UInt8) : chunks (mask l) = chunks l := by
  have := chunks_mask_app l []
  simpa [chunks_nil] using this
theorem runes_mask (l : List UInt8) : runes (mask l) = runes l := by unfold runes; rw [chunks_mask]
theorem mask_mask (l : List UInt8) : mask (mask l) = mask l := by
  show (chunks (mask l)).flatten = mask l
  rw [chunks_mask]; rfl
theorem runes_join (a b : List UInt8) : runes (mask a ++ mask b) = runes a + runes b := by
  unfold runes; rw [chunks_mask_app, chunks_mask]; simp
theorem mask_join (a b : List UInt8) : mask (mask a ++ mask b) = mask a ++ mask b := by
  show (chunks (mask a ++ mask b)).flatten = _
  rw [chunks_mask_app, chunks_mask]; simp [mask]
theorem runes_le (l : List UInt8) : runes l ≤ l.length := by
  suffices h : ∀ n (l : List UInt8), l.length ≤ n → runes l ≤ l.length from h l.length l (Nat.le_refl _)
  intro n
  induction n with
  | zero =>
    intro l hl
    have : l = [] := List.length_eq_zero_iff.1 (by omega)
    subst this; simp [runes_nil]
  | succ n ih =>
    intro l hl
    by_cases h : l = []
    · subst h; simp [runes_nil]
    · rw [runes_step l h]
      have hw := wd_pos l
      have hw2 := wd_le l h
      have := ih (l.drop (wd l)) (by simp; omega)
      simp at this
      omega
theorem hd_len (l : List UInt8) : (hd l).length ≤ wd l := by
  have := wd_pos l
  unfold hd; split <;> simp <;> omega
theorem mask_len (l : List UInt8) : (mask l).length ≤ l.length := by
  suffices h : ∀ n (l : List UInt8), l.length ≤ n → (mask l).length ≤ l.length from h l.length l (Nat.le_refl _)
  intro n
  induction n with
  | zero =>
    intro l hl
    have : l = [] := List.length_eq_zero_iff.1 (by omega)
    subst this; simp [mask_nil]
  | succ n ih =>
    intro l hl
    by_cases h : l = []
    · subst h; simp [mask_nil]
    · rw [mask_step l h]
      have hw := wd_pos l
      have hw2 := wd_le l h
      have hh := hd_len l
      have := ih (l.drop (wd l)) (by simp; omega)
      simp at this ⊢
      omega

theorem name_a (s : List UInt8) : nameB (97 :: mask s) = decide (runes s < 64) := by
  have e : chunks (97 :: mask s) = [97] :: chunks s := by
    have := chunks_app (c := [97]) ⟨by simp, by decide, by decide⟩ (mask s)
    rw [chunks_mask] at this
    exact this
  have em : mask (97 :: mask s) = 97 :: mask s := by
    show (chunks (97 :: mask s)).flatten = _
    rw [e]; rfl
  have er : runes (97 :: mask s) = runes s + 1 := by unfold runes; rw [e]; rfl
  have ed : dec (97 :: mask s) = (97, 1) := by
    have := dec_app (c := [97]) (mask s) (by simp) (by decide)
    exact this
  have el : lettI (metI (97 :: mask s)) = true := by
    unfold metI; rw [ed]; decide
  unfold nameB
  rw [el, em, er]
  by_cases h : runes s < 64
  · simp [h]; omega
  · simp [h]; omega
theorem name_mask {s : List UInt8} (h : nameB s = true) : mask s = s := by
  unfold nameB at h
  simp only [Bool.and_eq_true, decide_eq_true_eq] at h
  exact h.1.2

/-! ### the runs of the program's Good -/
theorem name_nolet {l : List UInt8} (h : lettI (metI l) = false) : nameB l = false := by unfold nameB; simp [h]
theorem name_many {l : List UInt8} (h : 64 < runes l) : nameB l = false := by
  unfold nameB
  have : decide (runes l ≤ 64) = false := by simp; omega
  rw [this]; simp
theorem gd_95 {l : List UInt8} (h : byt l 0 = 95) : gd l = true := by
  have : dec l = (95, 1) := by unfold dec d4; rw [h]; simp
  unfold gd metI; rw [this]; decide
theorem name_bad {l : List UInt8} {p : Nat} (hm : mask l = l.take p ++ mask (l.drop p)) (hp : p < l.length) (hg : gd (l.drop p) = false) : nameB l = false := by
  unfold nameB
  have hne : l.drop p ≠ [] := fun e => by have := congrArg List.length e; simp at this; omega
  have : decide (mask l = l) = false := by
    rw [decide_eq_false_iff_not]
    intro e
    rw [e] at hm
    have hd' : l.drop p = mask (l.drop p) := by
      have h2 : l.take p ++ l.drop p = l.take p ++ mask (l.drop p) := by rw [List.take_append_drop]; exact hm
      exact List.append_cancel_left h2
    rw [mask_step _ hne] at hd'
    unfold hd at hd'
    rw [hg] at hd'
    have h95 : byt (l.drop p) 0 = 95 := by rw [hd']; rfl
    rw [gd_95 h95] at hg
    cases hg
  rw [this]; simp
theorem mask_go {l : List UInt8} {p : Nat} (hm : mask l = l.take p ++ mask (l.drop p)) (hp : p < l.length) (hg : gd (l.drop p) = true) :
    mask l = l.take (p + wd (l.drop p)) ++ mask (l.drop (p + wd (l.drop p))) := by
  have hne : l.drop p ≠ [] := fun e => by have := congrArg List.length e; simp at this; omega
  rw [hm, mask_step _ hne]
  unfold hd
  rw [if_pos hg, List.drop_drop, List.take_add, List.append_assoc]

/-! ### the model's own reading of runes -/
theorem get_byt (s : ByteArray) (i k : Nat) : (s.get! (i + k)).toNat = byt (s.data.toList.drop i) k := by
  rw [byt_drop]
  show (s.data[i + k]!).toNat = _
  unfold byt
  rw [List.getD_eq_getElem?_getD, Array.getElem?_toList, Array.getElem!_eq_getD, Array.getD_eq_getD_getElem?]
  rfl
theorem cont_byt (s : ByteArray) (i k : Nat) : (decide (i + k < s.size) && (s.get! (i + k)).toNat / 64 == 2) = decide (byt (s.data.toList.drop i) k / 64 = 2) := by
  rw [get_byt]
  by_cases h : byt (s.data.toList.drop i) k / 64 = 2
  · have hlt : k < (s.data.toList.drop i).length := byt_pos (fun e => by rw [e] at h; omega)
    rw [List.length_drop, Array.length_toList] at hlt
    have : i + k < s.size := by show i + k < s.data.size; omega
    simp [h, this]
  · simp [h]
theorem decode_eq (s : ByteArray) (i : Nat) : Utf8.decode s i = if (dec (s.data.toList.drop i)).2 = 0 then (65533, 1) else dec (s.data.toList.drop i) := by
  unfold Utf8.decode
  simp only [cont_byt]
  simp only [get_byt]
  unfold dec
  generalize byt (s.data.toList.drop i) 0 = a
  generalize byt (s.data.toList.drop i) 1 = b
  generalize byt (s.data.toList.drop i) 2 = c
  generalize byt (s.data.toList.drop i) 3 = d
  unfold d4 Utf8.valid Utf8.runeError
  by_cases h1 : a < 128
  · simp [h1]
  by_cases h2 : a / 32 = 6
  · have h3 : ¬ a / 16 = 14 := by omega
    have h4 : ¬ a / 8 = 30 := by omega
    by_cases hb : b / 64 = 2
    · by_cases hv : 128 ≤ (a % 32) * 64 + b % 64
      · simp [h1, h2, hb, hv]
      · simp [h1, h2, hb, hv]
    · simp [h1, h2, hb]
  by_cases h3 : a / 16 = 14
  · have h4 : ¬ a / 8 = 30 := by omega
    by_cases hb : b / 64 = 2
    · by_cases hc : c / 64 = 2
      · simp only [h1, h2, h3, hb, hc, if_false, beq_iff_eq, Bool.and_eq_true, decide_eq_true_eq, decide_true, and_self, if_true, true_and, false_and, Bool.or_eq_true, ge_iff_le]
        by_cases hv : 2048 ≤ (a % 16) * 4096 + (b % 64) * 64 + c % 64 ∧ ¬ (55296 ≤ (a % 16) * 4096 + (b % 64) * 64 + c % 64 ∧ (a % 16) * 4096 + (b % 64) * 64 + c % 64 ≤ 57343)
        · rw [if_pos (by omega), if_pos hv]; simp
        · rw [if_neg (by omega), if_neg hv]; simp
      · simp [h1, h2, h3, hb, hc]
    · simp [h1, h2, h3, hb]
  by_cases h4 : a / 8 = 30
  · by_cases hb : b / 64 = 2
    · by_cases hc : c / 64 = 2
      · by_cases hd : d / 64 = 2
        · simp only [h1, h2, h3, h4, hb, hc, hd, if_false, beq_iff_eq, Bool.and_eq_true, decide_eq_true_eq, decide_true, and_self, if_true, true_and, false_and, Bool.or_eq_true, ge_iff_le]
          by_cases hv : 65536 ≤ (a % 8) * 262144 + (b % 64) * 4096 + (c % 64) * 64 + d % 64 ∧ (a % 8) * 262144 + (b % 64) * 4096 + (c % 64) * 64 + d % 64 ≤ 1114111
          · rw [if_pos (by omega), if_pos hv]; simp
          · rw [if_neg (by omega), if_neg hv]; simp
        · simp [h1, h2, h3, h4, hb, hc, hd]
      · simp [h1, h2, h3, h4, hb, hc]
    · simp [h1, h2, h3, h4, hb]
  simp [h1, h2, h3, h4]
theorem decode_wd (s : ByteArray) (i : Nat) : (Utf8.decode s i).2 = wd (s.data.toList.drop i) := by
  rw [decode_eq]; unfold wd; split <;> rfl

theorem pre_iff (l : List UInt8) : Lib.hasPrefix l [239, 191, 189] = true ↔ byt l 0 = 239 ∧ byt l 1 = 191 ∧ byt l 2 = 189 := by
  unfold Lib.hasPrefix
  have hu : ∀ (x : UInt8) (n : Nat), n < 256 → (UInt8.ofNat n == x) = decide (x.toNat = n) := by
    intro x n hn
    rw [Bool.eq_iff_iff]
    simp only [beq_iff_eq, decide_eq_true_eq]
    exact ⟨fun e => by rw [← e]; simp; omega, fun e => by rw [← e]; simp⟩
  match l with
  | [] => simp [byt]
  | [a] => simp [byt, List.isPrefixOf]
  | [a, b] => simp [byt, List.isPrefixOf]
  | a :: b :: c :: t =>
    have ha := hu a 239 (by omega)
    have hb := hu b 191 (by omega)
    have hc := hu c 189 (by omega)
    simp only [List.isPrefixOf, byt, List.getD_cons_zero, List.getD_cons_succ, Bool.and_true, Bool.and_eq_true]
    rw [show ((239 : UInt8) == a) = decide (a.toNat = 239) from ha, show ((191 : UInt8) == b) = decide (b.toNat = 191) from hb, show ((189 : UInt8) == c) = decide (c.toNat = 189) from hc]
    simp
/-- the program's 'met' -/
theorem met_bad {l : List UInt8} (h : (dec l).2 = 0) : Lib.hasPrefix l [239, 191, 189] = false := by
  rw [← Bool.not_eq_true]
  intro e
  obtain ⟨h0, h1, h2⟩ := (pre_iff l).1 e
  unfold dec d4 at h
  rw [h0, h1, h2] at h
  simp at h
theorem met_good {l : List UInt8} (h : (dec l).1 = 65533) : Lib.hasPrefix l [239, 191, 189] = true := by
  rw [pre_iff]
  have b0 := byt_lt l 0
  unfold dec at h
  rcases d4_cases (byt l 0) (byt l 1) (byt l 2) (byt l 3) with ⟨p, e⟩ | ⟨p, q, r, e⟩ | ⟨p, q, r, s, t, e⟩ | ⟨p, q, r, s, t, u, e⟩ | ⟨p, e⟩ <;> rw [e] at h <;> simp only at h <;> omega

theorem u8_of {x : UInt8} {n : Int} (h : n = (x.toNat : Int)) : n.toNat.toUInt8 = x := by
  subst h
  simp
theorem len3 {l : List UInt8} (h : 3 ≤ l.length) : ∃ a b c t, l = a :: b :: c :: t := by
  rcases l with _ | ⟨a, _ | ⟨b, _ | ⟨c, t⟩⟩⟩
  · simp at h
  · simp at h
  · simp at h
  · exact ⟨a, b, c, t, rfl⟩
theorem len4 {l : List UInt8} (h : 4 ≤ l.length) : ∃ a b c d t, l = a :: b :: c :: d :: t := by
  rcases l with _ | ⟨a, _ | ⟨b, _ | ⟨c, _ | ⟨d, t⟩⟩⟩⟩
  · simp at h
  · simp at h
  · simp at h
  · simp at h
  · exact ⟨a, b, c, d, t, rfl⟩
theorem enc_dec {l : List UInt8} (hl : l ≠ []) (h : (dec l).2 ≠ 0) : Lib.encodeRune (dec l).1 = l.take (dec l).2 := by
  have hle := dec_le l hl
  unfold dec at h hle ⊢
  unfold Lib.encodeRune
  rcases d4_cases (byt l 0) (byt l 1) (byt l 2) (byt l 3) with ⟨p, e⟩ | ⟨p, q, r, e⟩ | ⟨p, q, r, s, t, e⟩ | ⟨p, q, r, s, t, u, e⟩ | ⟨p, e⟩
  · rw [e] at hle ⊢
    match l, hle with
    | a :: t, _ =>
      simp only [byt, List.getD_cons_zero] at p ⊢
      rw [Lib.encodeRuneZ_one (by omega) (by omega)]
      simp
  · rw [e] at hle ⊢
    match l, hle with
    | a :: b :: t, _ =>
      have ha := a.toNat_lt
      have hb := b.toNat_lt
      simp only [byt, List.getD_cons_zero, List.getD_cons_succ] at p q r ⊢
      rw [Lib.encodeRuneZ_two (by omega) (by omega)]
      simp only [List.map_cons, List.map_nil, List.take_succ_cons, List.take_zero]
      rw [u8_of (x := a) (by omega), u8_of (x := b) (by omega)]
  · rw [e] at hle ⊢
    obtain ⟨a, b, c, t', rfl⟩ := len3 hle
    have ha := a.toNat_lt
    have hb := b.toNat_lt
    have hc := c.toNat_lt
    simp only [byt, List.getD_cons_zero, List.getD_cons_succ] at p q r s t ⊢
    rw [Lib.encodeRuneZ_three (by omega)]
    simp only [List.map_cons, List.map_nil, List.take_succ_cons, List.take_zero]
    rw [u8_of (x := a) (by omega), u8_of (x := b) (by omega), u8_of (x := c) (by omega)]
  · rw [e] at hle ⊢
    obtain ⟨a, b, c, d, t', rfl⟩ := len4 hle
    have ha := a.toNat_lt
    have hb := b.toNat_lt
    have hc := c.toNat_lt
    have hd := d.toNat_lt
    simp only [byt, List.getD_cons_zero, List.getD_cons_succ] at p q r s t u ⊢
    rw [Lib.encodeRuneZ_four (by omega) (by omega)]
    simp only [List.map_cons, List.map_nil, List.take_succ_cons, List.take_zero]
    rw [u8_of (x := a) (by omega), u8_of (x := b) (by omega), u8_of (x := c) (by omega), u8_of (x := d) (by omega)]
  · rw [e] at h; exact absurd rfl h

end Go.Proofs.YteejocnogpaifaaGreatDoor
/-
  What the program's functions of package label on single runes answer: met, letter and fits.
  Conditions: the rune is one that a range over the text met.
-/
namespace Go.Proofs.YteejocnogpaifaaGreatDoor
open Go.RowKit

theorem ret_bool {a b : Bool} (h : a = b) : Ending.returned (.bool a) = .returned (.bool b) := by rw [h]
theorem ret_i32 {a b : Int} (h : a = b) : Ending.returned (.int .i32 a) = .returned (.int .i32 b) := by rw [h]

set_option maxHeartbeats 1000000 in
theorem letter_any (r : Int) (w : World) : Calls Tryz.prog 99 #[.int .i32 r] w fun e w' => e = .returned (.bool (lettI r)) ∧ w = w' := by
  go_enter Tryz.func99, Tryz.ntmps99
  go_wp2
  all_goals
    go_ret
    refine ⟨ret_bool ?_, rfl⟩
    unfold lettI
    rw [Bool.eq_iff_iff]
    simp [*] <;> omega

set_option maxHeartbeats 1000000 in
theorem fits_any (r : Int) (w : World) : Calls Tryz.prog 100 #[.int .i32 r] w fun e w' => e = .returned (.bool (fitI r)) ∧ w = w' := by
  go_enter Tryz.func100, Tryz.ntmps100
  go_wp2_with (first
    | (go_at_call 99; (with_reducible refine (letter_any _ _).mono ?_); rintro e w' ⟨rfl, rfl⟩))
  all_goals
    go_ret
    refine ⟨ret_bool ?_, rfl⟩
    unfold fitI
    rw [Bool.eq_iff_iff]
    simp [*] <;> omega

/-- 'met' at the rune that a range met at the head of a text -/
def rngI (l : List UInt8) : Int := if (dec l).2 = 0 then 65533 else (dec l).1
theorem rng_eq (s : ByteArray) (i : Nat) : ((Utf8.decode s i).1 : Int) = rngI (s.data.toList.drop i) := by
  rw [decode_eq]; unfold rngI; split <;> rfl
theorem rngI_lo (l : List UInt8) : 0 ≤ rngI l := by unfold rngI; split <;> omega
theorem rngI_hi (l : List UInt8) : rngI l ≤ 1114111 := by have := dec_bd l; unfold rngI; split <;> omega

set_option maxHeartbeats 1000000 in
theorem met_any (s : ByteArray) (w : World) : Calls Tryz.prog 98 #[.int .i32 (rngI s.data.toList), .string s] w fun e w' => e = .returned (.int .i32 (metI s.data.toList)) ∧ w = w' := by
  by_cases h0 : (dec s.data.toList).2 = 0
  · have e1 : rngI s.data.toList = 65533 := by unfold rngI; rw [if_pos h0]
    have e2 : metI s.data.toList = -1 := by unfold metI; rw [if_pos h0]
    have e3 := met_bad h0
    rw [e1, e2]
    clear h0 e1 e2
    go_enter Tryz.func98, Tryz.ntmps98
    go_wp2_with (go_at_call 120; (with_reducible refine (Tryz.strings_HasPrefix _ _ _).mono ?_); rintro e w' ⟨rfl, rfl⟩)
    go_ret
    exact ⟨rfl, rfl⟩
  · have e1 : rngI s.data.toList = metI s.data.toList := by unfold rngI metI; rw [if_neg h0, if_neg h0]
    rw [e1]
    by_cases h1 : metI s.data.toList = 65533
    · have e3 : Lib.hasPrefix s.data.toList [239, 191, 189] = true := met_good (by unfold metI at h1; rw [if_neg h0] at h1; omega)
      rw [h1]
      clear h0 e1 h1
      go_enter Tryz.func98, Tryz.ntmps98
      go_wp2_with (go_at_call 120; (with_reducible refine (Tryz.strings_HasPrefix _ _ _).mono ?_); rintro e w' ⟨rfl, rfl⟩)
      go_ret
      exact ⟨rfl, rfl⟩
    · have h2 : (metI s.data.toList == 65533) = false := by simpa using h1
      clear h0 e1 h1
      go_enter Tryz.func98, Tryz.ntmps98
      go_wp2_with (fail)
      go_ret
      exact ⟨rfl, rfl⟩

theorem extract_drop (s : ByteArray) (pos : Nat) : (s.extract pos s.size).data.toList = s.data.toList.drop pos := by
  rw [ByteArray.data_extract]
  simp only [Array.toList_extract, List.extract]
  exact List.take_of_length_le (by rw [List.length_drop, Array.length_toList]; exact Nat.le_refl _)
theorem met_at (s : ByteArray) (pos : Nat) (w : World) : Calls Tryz.prog 98 #[.int .i32 ((Utf8.decode s pos).1 : Int), .string (s.extract pos s.size)] w fun e w' => e = .returned (.int .i32 (metI (s.data.toList.drop pos))) ∧ w = w' := by
  have h := met_any (s.extract pos s.size) w
  rw [extract_drop, ← rng_eq] at h
  exact h
theorem mask_size (s : ByteArray) : (mask s.data.toList).length ≤ s.size := by
  have h := mask_len s.data.toList
  have e : s.data.toList.length = s.size := Array.length_toList
  omega
theorem runes_size (s : ByteArray) : runes s.data.toList ≤ s.size := by
  have h := runes_le s.data.toList
  have e : s.data.toList.length = s.size := Array.length_toList
  omega
theorem drop_ne {s : ByteArray} {pos : Nat} (h : pos < s.size) : s.data.toList.drop pos ≠ [] := fun e => by
  have := congrArg List.length e
  rw [List.length_drop, Array.length_toList] at this
  have h' : pos < s.data.size := h
  simp at this
  omega
/-- what a rune that may stand in a name is written as -/
theorem enc_hd {s : ByteArray} {pos : Nat} (h : pos < s.size) (hg : fitI (metI (s.data.toList.drop pos)) = true) : Lib.encodeRune ((Utf8.decode s pos).1 : Int) = hd (s.data.toList.drop pos) := by
  have hv := gd_valid (l := s.data.toList.drop pos) hg
  have e : ((Utf8.decode s pos).1 : Int) = ((dec (s.data.toList.drop pos)).1 : Int) := by rw [decode_eq, if_neg hv]
  rw [e, enc_dec (drop_ne h) hv]
  have hg' : gd (s.data.toList.drop pos) = true := hg
  unfold hd
  rw [if_pos hg', gd_wd hg']
theorem hd_95 {l : List UInt8} (hg : fitI (metI l) = false) : hd l = [95] := by
  have hg' : gd l = false := hg
  unfold hd
  rw [hg']; rfl
theorem wd_size {s : ByteArray} {pos : Nat} (h : pos < s.size) : pos + wd (s.data.toList.drop pos) ≤ s.size := by
  have := wd_le _ (drop_ne h)
  rw [List.length_drop, Array.length_toList] at this
  have h' : pos < s.data.size := h
  show _ ≤ s.data.size
  omega

end Go.Proofs.YteejocnogpaifaaGreatDoor
/-
  Plain mathematics of texts that are cut at each /: the pieces of a text; that cutting into at most so many pieces tells the same ones, where there are no more; that a name has no / in it.
  Conditions: none.
-/
namespace Go.Proofs.YteejocnogpaifaaGreatDoor
open Go.RowKit

def pieces : List UInt8 → List UInt8 → List (List UInt8)
  | w, [] => [w]
  | w, b :: t => if b = 47 then w :: pieces [] t else pieces (w ++ [b]) t

theorem pieces_app (a : List UInt8) : ∀ (w t : List UInt8), (47 : UInt8) ∉ a → pieces w (a ++ t) = pieces (w ++ a) t := by
  induction a with
  | nil => intro w t _; simp
  | cons b a ih =>
    intro w t h
    simp only [List.mem_cons, not_or] at h
    rw [List.cons_append, pieces, if_neg (fun e => h.1 e.symm), ih _ _ h.2, List.append_assoc]
    rfl
theorem pieces_slash (w t : List UInt8) : pieces w (47 :: t) = w :: pieces [] t := by rw [pieces, if_pos rfl]
theorem pieces_none (w a : List UInt8) (h : (47 : UInt8) ∉ a) : pieces w a = [w ++ a] := by
  have := pieces_app a w [] h
  rw [List.append_nil] at this
  rw [this]; rfl
theorem pieces_len : ∀ (s w : List UInt8), (pieces w s).length ≤ s.length + 1 := by
  intro s
  induction s with
  | nil => intro w; simp [pieces]
  | cons b s ih =>
    intro w
    unfold pieces
    split
    · have := ih []; simp; omega
    · have := ih (w ++ [b]); simp; omega
theorem pieces_pos : ∀ (s w : List UInt8), 1 ≤ (pieces w s).length := by
  intro s
  induction s with
  | nil => intro w; simp [pieces]
  | cons b s ih =>
    intro w
    unfold pieces
    split
    · simp
    · exact ih _
theorem pieces_size : ∀ (s w : List UInt8), ∀ x ∈ pieces w s, x.length ≤ w.length + s.length := by
  intro s
  induction s with
  | nil => intro w x hx; simp [pieces] at hx; subst hx; simp
  | cons b s ih =>
    intro w x hx
    unfold pieces at hx
    split at hx
    · rcases List.mem_cons.1 hx with rfl | hx
      · simp
      · have := ih [] x hx; simp at this ⊢; omega
    · have := ih _ x hx; simp at this ⊢; omega
theorem slash_or (s : List UInt8) : (47 : UInt8) ∉ s ∨ ∃ a b, s = a ++ 47 :: b ∧ (47 : UInt8) ∉ a := by
  induction s with
  | nil => exact .inl (by simp)
  | cons c s ih =>
    by_cases hc : c = 47
    · subst hc; exact .inr ⟨[], s, rfl, by simp⟩
    · rcases ih with h | ⟨a, b, rfl, h⟩
      · exact .inl (by simp [h]; exact fun e => hc e.symm)
      · exact .inr ⟨c :: a, b, rfl, by simp [h]; exact fun e => hc e.symm⟩
theorem idx_none {s : List UInt8} (h : (47 : UInt8) ∉ s) : Lib.index s [47] = -1 := by
  induction s with
  | nil => rfl
  | cons c s ih =>
    simp only [List.mem_cons, not_or] at h
    have e : ([47] : List UInt8).isPrefixOf (c :: s) = false := by simp [List.isPrefixOf, h.1]
    rw [Lib.index, e, ih h.2]
    rfl
theorem idx_hit : ∀ (a b : List UInt8), (47 : UInt8) ∉ a → Lib.index (a ++ 47 :: b) [47] = (a.length : Int) := by
  intro a
  induction a with
  | nil => intro b _; rw [List.nil_append, Lib.index]; simp [List.isPrefixOf]
  | cons c a ih =>
    intro b h
    simp only [List.mem_cons, not_or] at h
    have e : ([47] : List UInt8).isPrefixOf (c :: (a ++ 47 :: b)) = false := by simp [List.isPrefixOf, h.1]
    rw [List.cons_append, Lib.index, e, ih b h.2]
    have : ((a.length : Int) == -1) = false := by simp
    rw [this]
    simp
theorem splitK_pieces : ∀ (k : Nat) (s : List UInt8), ((pieces [] s).length ≤ k + 1 → Lib.splitK [47] 0 k s = pieces [] s) ∧ (k + 1 < (pieces [] s).length → (Lib.splitK [47] 0 k s).length = k + 1) := by
  intro k
  induction k with
  | zero =>
    intro s
    rcases slash_or s with h | ⟨a, b, rfl, h⟩
    · rw [pieces_none [] s h]; exact ⟨fun _ => rfl, fun h => by simp at h⟩
    · rw [pieces_app a [] _ h, pieces_slash]
      have := pieces_pos b []
      exact ⟨fun h => by rw [List.length_cons] at h; omega, fun _ => rfl⟩
  | succ k ih =>
    intro s
    rcases slash_or s with h | ⟨a, b, rfl, h⟩
    · rw [pieces_none [] s h, Lib.splitK, idx_none h]
      exact ⟨fun _ => rfl, fun h => by simp at h⟩
    · rw [pieces_app a [] _ h, pieces_slash, Lib.splitK, idx_hit a b h]
      have hne : ((a.length : Int) == -1) = false := by simp
      rw [hne, Int.toNat_natCast]
      have e1 : (a ++ 47 :: b).take (a.length + 0) = a := by simp
      have e2 : (a ++ 47 :: b).drop (a.length + ([47] : List UInt8).length) = b := by
        rw [show a.length + ([47] : List UInt8).length = (a ++ [47]).length by simp, show a ++ 47 :: b = (a ++ [47]) ++ b by simp, List.drop_left]
      rw [e1, e2]
      obtain ⟨i1, i2⟩ := ih b
      simp only [Bool.false_eq_true, if_false, List.nil_append, List.length_cons]
      exact ⟨fun h => by rw [i1 (by omega)], fun h => by rw [i2 (by omega)]⟩
theorem Gc_no47 {c : List UInt8} (h : Gc c) : (47 : UInt8) ∉ c := by
  intro hm
  obtain ⟨j, hj, e⟩ := List.getElem_of_mem hm
  have hb : byt c j = 47 := by rw [byt_get hj, e]; rfl
  obtain ⟨_, hg, hd⟩ := h
  have hv := gd_valid hg
  unfold gd metI at hg
  rw [if_neg hv] at hg
  unfold dec at hd hg
  rcases d4_cases (byt c 0) (byt c 1) (byt c 2) (byt c 3) with ⟨p, e⟩ | ⟨p, q, r, e⟩ | ⟨p, q, r, s, t, e⟩ | ⟨p, q, r, s, t, u, e⟩ | ⟨p, e⟩ <;> rw [e] at hd hg <;> simp only at hd hg
  · obtain rfl : j = 0 := by omega
    rw [hb] at hg
    exact absurd hg (by decide)
  · rcases (by omega : j = 0 ∨ j = 1) with rfl | rfl <;> omega
  · rcases (by omega : j = 0 ∨ j = 1 ∨ j = 2) with rfl | rfl | rfl <;> omega
  · rcases (by omega : j = 0 ∨ j = 1 ∨ j = 2 ∨ j = 3) with rfl | rfl | rfl | rfl <;> omega
  · have h0 : c.length ≠ 0 := by omega
    omega
theorem name_no47 {x : List UInt8} (h : nameB x = true) : (47 : UInt8) ∉ x := by
  intro hm
  have e := name_mask h
  rw [← e] at hm
  obtain ⟨c, hc, hx⟩ := List.mem_flatten.1 (show (47 : UInt8) ∈ (chunks x).flatten from hm)
  exact Gc_no47 (chunks_good x c hc) hx
end Go.Proofs.YteejocnogpaifaaGreatDoor
/-
  What the program's Runes and Good answer: how many runes a text has, and whether it is a name.
  Conditions: the text has at most 2^45 bytes.
-/
namespace Go.Proofs.YteejocnogpaifaaGreatDoor
open Go.RowKit


def GoodRel (s : ByteArray) (pos k : Nat) : Prop :=
  k + runes (s.data.toList.drop pos) = runes s.data.toList ∧ mask s.data.toList = s.data.toList.take pos ++ mask (s.data.toList.drop pos) ∧ (0 < pos → lettI (metI s.data.toList) = true) ∧ (0 < pos → 0 < k)

set_option maxHeartbeats 4000000 in
set_option maxRecDepth 1000000 in
theorem good_any (s : ByteArray) (w : World) (hs : s.size ≤ 35184372088832) :
    Calls Tryz.prog 72 #[.string s] w fun e w' => e = .returned (.bool (nameB s.data.toList)) ∧ Below w.heap.size w w' := by
  go_enter Tryz.func72, Tryz.ntmps72
  go_wp2
  go_loopw [3] (fun n wr => ∃ (pos k : Nat), n = .int .i64 k ∧ wr.heap[w.heap.size]? = some (.stringIter s pos) ∧ Below w.heap.size w wr ∧ GoodRel s pos k ∧ pos ≤ s.size ∧ k ≤ 64) (fun _ wr => s.size - wr.iterPos w.heap.size)
  case atStart =>
    refine ⟨0, 0, rfl, ?_, (Below.refl _ w).alloc (Nat.le_refl _) _, ⟨by simp, by simp, by omega, by omega⟩, by omega, by omega⟩
    have := World.iter_heap w s 0
    simpa using this
  case round =>
    obtain ⟨pos, k, rfl, hit, hbw, hacc, hpos, hal⟩ := hrel
    by_cases hp : pos < s.size
    · have hnx : ∀ ty, (Instr.next (.pointer (some ⟨w.heap.size, 0, none⟩)) true ty).run Tryz.prog wr = _ := fun ty => Lib.run_next_any_at wr w.heap.size s pos ty hit hp
      have hit2 := Lib.iterAt_heap wr w.heap.size s pos (pos + (Utf8.decode s pos).2) hit
      have hbw2 := Lib.below_iterAt hbw (k := w.heap.size) (Nat.le_refl _) s (pos + (Utf8.decode s pos).2)
      have hwd : (Utf8.decode s pos).2 = wd (s.data.toList.drop pos) := decode_wd s pos
      have Hwd := Lib.hid hwd
      have hwp : 1 ≤ (Utf8.decode s pos).2 := by rw [hwd]; exact wd_pos _
      have hws : pos + (Utf8.decode s pos).2 ≤ s.size := by rw [hwd]; exact wd_size hp
      have hpl : pos < s.data.toList.length := by rw [Array.length_toList]; exact hp
      have hne := drop_ne hp
      clear hwd
      by_cases hz : pos = 0
      · have z1 : ((pos : Int) == 0) = true := by simpa using hz
        cases hlet : lettI (metI (s.data.toList.drop pos)) with
        | false =>
          have hn : nameB s.data.toList = false := name_nolet (by rw [hz] at hlet; simpa using hlet)
          have Hn := Lib.hid hn
          clear hacc hn hz
          go_wp2_with (first
          | (go_at_call 98; (with_reducible refine (met_at _ _ _).mono ?_); rintro e w' ⟨rfl, rfl⟩)
          | (go_at_call 99; (with_reducible refine (letter_any _ _).mono ?_); rintro e w' ⟨rfl, rfl⟩)
          | (go_at_call 100; (with_reducible refine (fits_any _ _).mono ?_); rintro e w' ⟨rfl, rfl⟩))
          go_ret
          exact ⟨ret_bool Hn.out.symm, hbw2⟩
        | true =>
          have hfit : fitI (metI (s.data.toList.drop pos)) = true := by unfold fitI; rw [hlet]; rfl
          obtain ⟨g1, g2, g3, g4⟩ := hacc
          have hstep : GoodRel s (pos + wd (s.data.toList.drop pos)) (k + 1) := by
            refine ⟨?_, mask_go g2 hpl hfit, fun _ => by rw [hz] at hlet; simpa using hlet, fun _ => by omega⟩
            rw [← g1, runes_step _ hne, List.drop_drop]; omega
          have Hstep := Lib.hid hstep
          clear g1 g2 g3 g4 hstep hz
          by_cases hk : 64 < k + 1
          · have hn : nameB s.data.toList = false := name_many (by have := Hstep.out.1; omega)
            have Hn := Lib.hid hn
            clear hn
            go_wp2_with (first
          | (go_at_call 98; (with_reducible refine (met_at _ _ _).mono ?_); rintro e w' ⟨rfl, rfl⟩)
          | (go_at_call 99; (with_reducible refine (letter_any _ _).mono ?_); rintro e w' ⟨rfl, rfl⟩)
          | (go_at_call 100; (with_reducible refine (fits_any _ _).mono ?_); rintro e w' ⟨rfl, rfl⟩))
            go_ret
            exact ⟨ret_bool Hn.out.symm, hbw2⟩
          · go_wp2_with (first
          | (go_at_call 98; (with_reducible refine (met_at _ _ _).mono ?_); rintro e w' ⟨rfl, rfl⟩)
          | (go_at_call 99; (with_reducible refine (letter_any _ _).mono ?_); rintro e w' ⟨rfl, rfl⟩)
          | (go_at_call 100; (with_reducible refine (fits_any _ _).mono ?_); rintro e w' ⟨rfl, rfl⟩))
            go_roundw
            case rel => exact ⟨pos + (Utf8.decode s pos).2, k + 1, by go_num, hit2, hbw2, by rw [Hwd.out]; exact Hstep.out, hws, by omega⟩
            case measure =>
              simp only [World.iterPos, hit2, hit]
              omega
      · have z1 : ((pos : Int) == 0) = false := by simpa using hz
        cases hfit : fitI (metI (s.data.toList.drop pos)) with
        | false =>
          have hn : nameB s.data.toList = false := name_bad hacc.2.1 hpl hfit
          have Hn := Lib.hid hn
          clear hacc hn hz
          go_wp2_with (first
          | (go_at_call 98; (with_reducible refine (met_at _ _ _).mono ?_); rintro e w' ⟨rfl, rfl⟩)
          | (go_at_call 99; (with_reducible refine (letter_any _ _).mono ?_); rintro e w' ⟨rfl, rfl⟩)
          | (go_at_call 100; (with_reducible refine (fits_any _ _).mono ?_); rintro e w' ⟨rfl, rfl⟩))
          go_ret
          exact ⟨ret_bool Hn.out.symm, hbw2⟩
        | true =>
          obtain ⟨g1, g2, g3, g4⟩ := hacc
          have hstep : GoodRel s (pos + wd (s.data.toList.drop pos)) (k + 1) := by
            refine ⟨?_, mask_go g2 hpl hfit, fun _ => g3 (by omega), fun _ => by omega⟩
            rw [← g1, runes_step _ hne, List.drop_drop]; omega
          have Hstep := Lib.hid hstep
          clear g1 g2 g3 g4 hstep hz
          by_cases hk : 64 < k + 1
          · have hn : nameB s.data.toList = false := name_many (by have := Hstep.out.1; omega)
            have Hn := Lib.hid hn
            clear hn
            go_wp2_with (first
          | (go_at_call 98; (with_reducible refine (met_at _ _ _).mono ?_); rintro e w' ⟨rfl, rfl⟩)
          | (go_at_call 99; (with_reducible refine (letter_any _ _).mono ?_); rintro e w' ⟨rfl, rfl⟩)
          | (go_at_call 100; (with_reducible refine (fits_any _ _).mono ?_); rintro e w' ⟨rfl, rfl⟩))
            go_ret
            exact ⟨ret_bool Hn.out.symm, hbw2⟩
          · go_wp2_with (first
          | (go_at_call 98; (with_reducible refine (met_at _ _ _).mono ?_); rintro e w' ⟨rfl, rfl⟩)
          | (go_at_call 99; (with_reducible refine (letter_any _ _).mono ?_); rintro e w' ⟨rfl, rfl⟩)
          | (go_at_call 100; (with_reducible refine (fits_any _ _).mono ?_); rintro e w' ⟨rfl, rfl⟩))
            go_roundw
            case rel => exact ⟨pos + (Utf8.decode s pos).2, k + 1, by go_num, hit2, hbw2, by rw [Hwd.out]; exact Hstep.out, hws, by omega⟩
            case measure =>
              simp only [World.iterPos, hit2, hit]
              omega
    · have hnx : ∀ ty, (Instr.next (.pointer (some ⟨w.heap.size, 0, none⟩)) true ty).run Tryz.prog wr = _ := fun ty => Lib.run_next_end_at wr w.heap.size s pos ty hit hp
      have he : s.data.toList.drop pos = [] := List.drop_eq_nil_of_le (by rw [Array.length_toList]; show s.size ≤ pos; omega)
      obtain ⟨g1, g2, g3, g4⟩ := hacc
      rw [he, runes_nil, Nat.add_zero] at g1
      rw [he, mask_nil, List.append_nil, List.take_of_length_le (by rw [Array.length_toList]; show s.size ≤ pos; omega)] at g2
      have hn : nameB s.data.toList = decide (0 < k) := by
        by_cases h0 : 0 < pos
        · have a1 := g3 h0
          have a2 := g4 h0
          have a3 : s.data.toList.isEmpty = false := by
            rw [List.isEmpty_eq_false_iff]
            intro e
            have e2 : s.data.size = 0 := by
              have := congrArg List.length e
              rwa [Array.length_toList] at this
            have h' : pos ≤ s.data.size := hpos
            omega
          unfold nameB
          rw [a1, a3, g2, ← g1]
          simp [a2]
          omega
        · have e0 : s.data.toList = [] := by
            have : s.data.toList.length = 0 := by rw [Array.length_toList]; show s.size = 0; omega
            exact List.length_eq_zero_iff.1 this
          have k0 : k = 0 := by rw [g1, e0]; rfl
          rw [e0, k0]; rfl
      have Hn := Lib.hid hn
      clear he g1 g2 g3 g4 hn
      go_wp2
      go_ret
      exact ⟨by rw [Hn.out]; exact ret_bool (by simp), hbw⟩
end Go.Proofs.YteejocnogpaifaaGreatDoor
/-
  What the document's own answers of layer 2 (on single runes, and the rune at a place) are.
  Conditions: the place lies in the text; the text is of moderate length.
-/
namespace Go.Proofs.YteejocnogpaifaaGreatDoor
open Go.RowKit

set_option maxHeartbeats 1000000 in
theorem rletter_any (r : Int) (w : World) : Calls Tryz.prog 89 #[.int .i32 r] w fun e w' => e = .returned (.bool (lettI r)) ∧ w = w' := by
  go_enter Tryz.func89, Tryz.ntmps89
  go_wp2
  all_goals
    go_ret
    refine ⟨ret_bool ?_, rfl⟩
    unfold lettI
    rw [Bool.eq_iff_iff]
    simp [*] <;> omega

set_option maxHeartbeats 1000000 in
theorem rmay_any (r : Int) (w : World) : Calls Tryz.prog 88 #[.int .i32 r] w fun e w' => e = .returned (.bool (fitI r)) ∧ w = w' := by
  go_enter Tryz.func88, Tryz.ntmps88
  go_wp2_with (first
    | (go_at_call 89; (with_reducible refine (rletter_any _ _).mono ?_); rintro e w' ⟨rfl, rfl⟩))
  all_goals
    go_ret
    refine ⟨ret_bool ?_, rfl⟩
    unfold fitI
    rw [Bool.eq_iff_iff]
    simp [*] <;> omega

theorem byt_at (s : ByteArray) (i k : Nat) (h : i + k < s.size) : byt (s.data.toList.drop i) k = (s[i + k]'h).toNat := by
  rw [byt_drop, byt_get (by rw [Array.length_toList]; exact h)]
  rfl
/-- the answer of At -/
def AtIs (s : ByteArray) (i : Nat) (w : World) (e : Ending) (w' : World) : Prop :=
  e = .returned (.tuple #[.int .i32 ((dec (s.data.toList.drop i)).1 : Int), .int .i64 ((dec (s.data.toList.drop i)).2 : Int)]) ∧ w = w'
theorem atIs_of {s : ByteArray} {i : Nat} {w : World} {a b : Int} {r k : Nat} (h : dec (s.data.toList.drop i) = (r, k)) (ha : a = r) (hb : b = k) : AtIs s i w (.returned (.tuple #[.int .i32 a, .int .i64 b])) w := by
  subst ha; subst hb
  unfold AtIs
  rw [h]
  exact ⟨rfl, rfl⟩

set_option maxHeartbeats 4000000 in
set_option maxRecDepth 1000000 in
theorem at_low (s : ByteArray) (i : Nat) (w : World) (hi : i < s.size) (ha : (s[i]'hi).toNat < 128) :
    Calls Tryz.prog 87 #[.string s, .int .i64 i] w (AtIs s i w) := by
  have hd : dec (s.data.toList.drop i) = ((s[i]'hi).toNat, 1) := by
    have h0 : byt (s.data.toList.drop i) 0 = (s[i]'hi).toNat := byt_at s i 0 hi
    unfold dec d4
    rw [h0, if_pos ha]
  have Hd := Lib.hid hd
  clear hd
  go_enter Tryz.func87, Tryz.ntmps87
  go_wp2
  go_ret2
  exact atIs_of Hd.out rfl rfl

set_option maxHeartbeats 4000000 in
set_option maxRecDepth 1000000 in
theorem at_none (s : ByteArray) (i : Nat) (w : World) (hi : i < s.size) (ha : 128 ≤ (s[i]'hi).toNat) (hb : (s[i]'hi).toNat < 194 ∨ 244 < (s[i]'hi).toNat) :
    Calls Tryz.prog 87 #[.string s, .int .i64 i] w (AtIs s i w) := by
  have hd : dec (s.data.toList.drop i) = (0, 0) := by
    have h0 := byt_at s i 0 hi
    have h1 := byt_lt (s.data.toList.drop i) 0
    have h0' : byt (s.data.toList.drop i) 0 = (s[i]'hi).toNat := h0
    rw [← h0'] at ha hb
    unfold dec
    rcases d4_cases (byt (s.data.toList.drop i) 0) (byt (s.data.toList.drop i) 1) (byt (s.data.toList.drop i) 2) (byt (s.data.toList.drop i) 3) with ⟨p, e⟩ | ⟨p, q, r, e⟩ | ⟨p, q, r, s, t, e⟩ | ⟨p, q, r, s, t, u, e⟩ | ⟨p, e⟩
    · omega
    · omega
    · omega
    · omega
    · exact e
  have Hd := Lib.hid hd
  clear hd
  rcases hb with hb | hb
  all_goals
    go_enter Tryz.func87, Tryz.ntmps87
    go_wp2
    go_ret2
    exact atIs_of Hd.out rfl rfl

/-- the number that the first j bytes tell -/
def vw (l : List UInt8) (v0 : Int) : Nat → Int
  | 0 => v0
  | 1 => v0
  | j + 2 => 64 * vw l v0 (j + 1) + byt l (j + 1) - 128
def contTo (l : List UInt8) (k : Nat) : Prop := ∀ j, 1 ≤ j → j < k → byt l j / 64 = 2
theorem vw_step (l : List UInt8) (v0 : Int) {j : Nat} (h : 1 ≤ j) : vw l v0 (j + 1) = 64 * vw l v0 j + byt l j - 128 := by
  obtain ⟨k, rfl⟩ : ∃ k, j = k + 1 := ⟨j - 1, by omega⟩
  rfl
theorem vw_bd {l : List UInt8} {v0 : Int} (h0 : 0 ≤ v0) (h1 : v0 ≤ 31) {j : Nat} (hj : 1 ≤ j) (hj4 : j ≤ 4) (hc : contTo l j) : 0 ≤ vw l v0 j ∧ vw l v0 j ≤ 8388607 ∧ (j ≤ 3 → vw l v0 j ≤ 131071) := by
  have e1 : vw l v0 1 = v0 := rfl
  have e2 : vw l v0 2 = 64 * vw l v0 1 + byt l 1 - 128 := rfl
  have e3 : vw l v0 3 = 64 * vw l v0 2 + byt l 2 - 128 := rfl
  have e4 : vw l v0 4 = 64 * vw l v0 3 + byt l 3 - 128 := rfl
  have q1 := hc 1; have q2 := hc 2; have q3 := hc 3
  rcases (by omega : j = 1 ∨ j = 2 ∨ j = 3 ∨ j = 4) with rfl | rfl | rfl | rfl <;> simp at q1 q2 q3 <;> omega
theorem contTo_next {l : List UInt8} {j : Nat} (hc : contTo l j) (h : byt l j / 64 = 2) : contTo l (j + 1) := fun k h1 h2 => by
  by_cases e : k = j
  · rw [e]; exact h
  · exact hc k h1 (by omega)


theorem fail_2 {l : List UInt8} (ha : 194 ≤ byt l 0) (hb : byt l 0 ≤ 223) {j : Nat} (h1 : 1 ≤ j) (h2 : j < 2) (h : byt l j / 64 ≠ 2) : dec l = (0, 0) := by
  unfold dec
  rcases d4_cases (byt l 0) (byt l 1) (byt l 2) (byt l 3) with ⟨p, e⟩ | ⟨p, q, r, e⟩ | ⟨p, q, r, s, t, e⟩ | ⟨p, q, r, s, t, u, e⟩ | ⟨p, e⟩
  · omega
  · rcases (by omega : j = 1) with rfl <;> omega
  · omega
  · omega
  · exact e
theorem end_2 {l : List UInt8} (ha : 194 ≤ byt l 0) (hb : byt l 0 ≤ 223) (hc : contTo l 2) {v : Int} (hv : v = vw l ((byt l 0 : Int) - 192) 2) :
    ((v < 128 ∨ 1114111 < v ∨ (55296 ≤ v ∧ v ≤ 57343)) → dec l = (0, 0)) ∧ (¬ (v < 128 ∨ 1114111 < v ∨ (55296 ≤ v ∧ v ≤ 57343)) → dec l = (v.toNat, 2)) := by
  have q1 := hc 1 (by omega) (by omega)
  have e1 : vw l ((byt l 0 : Int) - 192) 1 = (byt l 0 : Int) - 192 := rfl
  have e2 : vw l ((byt l 0 : Int) - 192) 2 = 64 * vw l ((byt l 0 : Int) - 192) 1 + byt l 1 - 128 := rfl
  unfold dec
  rcases d4_cases (byt l 0) (byt l 1) (byt l 2) (byt l 3) with ⟨p, e⟩ | ⟨p, q, r, e⟩ | ⟨p, q, r, s, t, e⟩ | ⟨p, q, r, s, t, u, e⟩ | ⟨p, e⟩
  · omega
  · refine ⟨fun h => by omega, fun h => ?_⟩
    rw [e]
    refine Prod.ext ?_ rfl
    simp only
    omega
  · omega
  · omega
  · refine ⟨fun _ => e, fun h => ?_⟩
    exfalso
    unfold d4 at e
    rw [if_neg (by omega), if_pos (by omega), if_pos (by omega)] at e
    have := (Prod.mk.inj e).2
    omega

set_option maxHeartbeats 4000000 in
set_option maxRecDepth 1000000 in
theorem at_2 (s : ByteArray) (i : Nat) (w : World) (hi : i < s.size) (hs : s.size ≤ 140737488355328) (ha : 194 ≤ (s[i]'hi).toNat) (hb : (s[i]'hi).toNat ≤ 223) :
    Calls Tryz.prog 87 #[.string s, .int .i64 i] w (AtIs s i w) := by
  have h0 : byt (s.data.toList.drop i) 0 = (s[i]'hi).toNat := byt_at s i 0 hi
  have hF : ∀ j, 1 ≤ j → j < 2 → byt (s.data.toList.drop i) j / 64 ≠ 2 → dec (s.data.toList.drop i) = (0, 0) := fun j h1 h2 h => fail_2 (by rw [h0]; exact ha) (by rw [h0]; exact hb) h1 h2 h
  have HF := Lib.hid hF
  have hE : contTo (s.data.toList.drop i) 2 → ∀ v : Int, v = vw (s.data.toList.drop i) (((s[i]'hi).toNat : Int) - 192) 2 → ((v < 128 ∨ 1114111 < v ∨ (55296 ≤ v ∧ v ≤ 57343)) → dec (s.data.toList.drop i) = (0, 0)) ∧ (¬ (v < 128 ∨ 1114111 < v ∨ (55296 ≤ v ∧ v ≤ 57343)) → dec (s.data.toList.drop i) = (v.toNat, 2)) := fun hc v hv => end_2 (by rw [h0]; exact ha) (by rw [h0]; exact hb) hc (by rw [h0]; exact hv)
  have HE := Lib.hid hE
  clear h0 hF hE
  by_cases hn : i + 2 ≤ s.size
  · have d1 : decide (((s[i]'hi).toNat : Int) < 128) = false := by simp; omega
    have d2 : decide ((s.size : Int) < (i : Int) + 2) = false := by simp; omega
    go_enter Tryz.func87, Tryz.ntmps87
    go_wp2
    go_loop [8, 10] (fun v k => ∃ j : Nat, 1 ≤ j ∧ j ≤ 2 ∧ k = .int .i64 j ∧ v = .int .i32 (vw (s.data.toList.drop i) (((s[i]'hi).toNat : Int) - 192) j) ∧ Hid (contTo (s.data.toList.drop i) j)) (fun _ k => 2 - (intOf k).toNat)
    case atStart => exact ⟨1, by omega, by omega, rfl, rfl, Lib.hid (fun _ _ _ => by omega)⟩
    case round =>
      obtain ⟨j, hj1, hj2, rfl, rfl, hc⟩ := hrel
      obtain ⟨v1, v2, v3⟩ := vw_bd (l := s.data.toList.drop i) (v0 := ((s[i]'hi).toNat : Int) - 192) (by omega) (by omega) hj1 (by omega) hc.out
      by_cases hlt : j < 2
      · have hij : i + j < s.size := by omega
        have v4 := v3 (by omega)
        have hbj : byt (s.data.toList.drop i) j = (s[i + j]'hij).toNat := byt_at s i j hij
        have hst := vw_step (s.data.toList.drop i) (((s[i]'hi).toNat : Int) - 192) hj1
        rw [hbj] at hst
        have Hbj := Lib.hid hbj
        have Hst := Lib.hid hst
        clear hbj hst v3
        generalize hvv : vw (s.data.toList.drop i) (((s[i]'hi).toNat : Int) - 192) j = v at *
        have Hvv := Lib.hid hvv
        clear hvv
        have hby := (s[i + j]'hij).toNat_lt
        by_cases hlo : (s[i + j]'hij).toNat < 128
        · go_wp2
          go_ret2
          exact atIs_of (HF.out j hj1 hlt (by rw [Hbj.out]; omega)) rfl rfl
        by_cases hhi : 191 < (s[i + j]'hij).toNat
        · go_wp2
          go_ret2
          exact atIs_of (HF.out j hj1 hlt (by rw [Hbj.out]; omega)) rfl rfl
        go_wp2
        go_round
        case rel => exact ⟨j + 1, by omega, by omega, by go_num, by rw [Hst.out], Lib.hid (contTo_next hc.out (by rw [Hbj.out]; omega))⟩
        case measure => simp [intOf]; omega
      · obtain rfl : j = 2 := by omega
        have HE2 := Lib.hid (HE.out hc.out _ rfl)
        clear v3
        generalize hvv : vw (s.data.toList.drop i) (((s[i]'hi).toNat : Int) - 192) 2 = v at *
        clear hvv
        go_wp2
        all_goals
          go_ret2
          first
            | exact atIs_of (HE2.out.1 (by omega)) rfl rfl
            | exact atIs_of (HE2.out.2 (by omega)) (by omega) rfl
  · have hz : byt (s.data.toList.drop i) 1 = 0 := by
      have : (s.data.toList.drop i)[1]? = none := List.getElem?_eq_none (by rw [List.length_drop, Array.length_toList]; show s.size - i ≤ 1; omega)
      unfold byt
      rw [List.getD_eq_getElem?_getD, this]
      rfl
    have Hd := Lib.hid (HF.out 1 (by omega) (by omega) (by rw [hz]; omega))
    clear hz
    go_enter Tryz.func87, Tryz.ntmps87
    go_wp2
    go_ret2
    exact atIs_of Hd.out rfl rfl

theorem fail_3 {l : List UInt8} (ha : 224 ≤ byt l 0) (hb : byt l 0 ≤ 239) {j : Nat} (h1 : 1 ≤ j) (h2 : j < 3) (h : byt l j / 64 ≠ 2) : dec l = (0, 0) := by
  unfold dec
  rcases d4_cases (byt l 0) (byt l 1) (byt l 2) (byt l 3) with ⟨p, e⟩ | ⟨p, q, r, e⟩ | ⟨p, q, r, s, t, e⟩ | ⟨p, q, r, s, t, u, e⟩ | ⟨p, e⟩
  · omega
  · omega
  · rcases (by omega : j = 1 ∨ j = 2) with rfl | rfl <;> omega
  · omega
  · exact e
theorem end_3 {l : List UInt8} (ha : 224 ≤ byt l 0) (hb : byt l 0 ≤ 239) (hc : contTo l 3) {v : Int} (hv : v = vw l ((byt l 0 : Int) - 224) 3) :
    ((v < 2048 ∨ 1114111 < v ∨ (55296 ≤ v ∧ v ≤ 57343)) → dec l = (0, 0)) ∧ (¬ (v < 2048 ∨ 1114111 < v ∨ (55296 ≤ v ∧ v ≤ 57343)) → dec l = (v.toNat, 3)) := by
  have q1 := hc 1 (by omega) (by omega)
  have q2 := hc 2 (by omega) (by omega)
  have e1 : vw l ((byt l 0 : Int) - 224) 1 = (byt l 0 : Int) - 224 := rfl
  have e2 : vw l ((byt l 0 : Int) - 224) 2 = 64 * vw l ((byt l 0 : Int) - 224) 1 + byt l 1 - 128 := rfl
  have e3 : vw l ((byt l 0 : Int) - 224) 3 = 64 * vw l ((byt l 0 : Int) - 224) 2 + byt l 2 - 128 := rfl
  unfold dec
  rcases d4_cases (byt l 0) (byt l 1) (byt l 2) (byt l 3) with ⟨p, e⟩ | ⟨p, q, r, e⟩ | ⟨p, q, r, s, t, e⟩ | ⟨p, q, r, s, t, u, e⟩ | ⟨p, e⟩
  · omega
  · omega
  · refine ⟨fun h => by omega, fun h => ?_⟩
    rw [e]
    refine Prod.ext ?_ rfl
    simp only
    omega
  · omega
  · refine ⟨fun _ => e, fun h => ?_⟩
    exfalso
    unfold d4 at e
    rw [if_neg (by omega), if_neg (by omega), if_pos (by omega), if_pos (by omega)] at e
    have := (Prod.mk.inj e).2
    omega

set_option maxHeartbeats 4000000 in
set_option maxRecDepth 1000000 in
theorem at_3 (s : ByteArray) (i : Nat) (w : World) (hi : i < s.size) (hs : s.size ≤ 140737488355328) (ha : 224 ≤ (s[i]'hi).toNat) (hb : (s[i]'hi).toNat ≤ 239) :
    Calls Tryz.prog 87 #[.string s, .int .i64 i] w (AtIs s i w) := by
  have h0 : byt (s.data.toList.drop i) 0 = (s[i]'hi).toNat := byt_at s i 0 hi
  have hF : ∀ j, 1 ≤ j → j < 3 → byt (s.data.toList.drop i) j / 64 ≠ 2 → dec (s.data.toList.drop i) = (0, 0) := fun j h1 h2 h => fail_3 (by rw [h0]; exact ha) (by rw [h0]; exact hb) h1 h2 h
  have HF := Lib.hid hF
  have hE : contTo (s.data.toList.drop i) 3 → ∀ v : Int, v = vw (s.data.toList.drop i) (((s[i]'hi).toNat : Int) - 224) 3 → ((v < 2048 ∨ 1114111 < v ∨ (55296 ≤ v ∧ v ≤ 57343)) → dec (s.data.toList.drop i) = (0, 0)) ∧ (¬ (v < 2048 ∨ 1114111 < v ∨ (55296 ≤ v ∧ v ≤ 57343)) → dec (s.data.toList.drop i) = (v.toNat, 3)) := fun hc v hv => end_3 (by rw [h0]; exact ha) (by rw [h0]; exact hb) hc (by rw [h0]; exact hv)
  have HE := Lib.hid hE
  clear h0 hF hE
  by_cases hn : i + 3 ≤ s.size
  · have d1 : decide (((s[i]'hi).toNat : Int) < 128) = false := by simp; omega
    have d2 : decide ((s.size : Int) < (i : Int) + 3) = false := by simp; omega
    have d3 : decide (((s[i]'hi).toNat : Int) ≤ 223) = false := by simp; omega
    go_enter Tryz.func87, Tryz.ntmps87
    go_wp2
    go_loop [8, 10] (fun v k => ∃ j : Nat, 1 ≤ j ∧ j ≤ 3 ∧ k = .int .i64 j ∧ v = .int .i32 (vw (s.data.toList.drop i) (((s[i]'hi).toNat : Int) - 224) j) ∧ Hid (contTo (s.data.toList.drop i) j)) (fun _ k => 3 - (intOf k).toNat)
    case atStart => exact ⟨1, by omega, by omega, rfl, rfl, Lib.hid (fun _ _ _ => by omega)⟩
    case round =>
      obtain ⟨j, hj1, hj2, rfl, rfl, hc⟩ := hrel
      obtain ⟨v1, v2, v3⟩ := vw_bd (l := s.data.toList.drop i) (v0 := ((s[i]'hi).toNat : Int) - 224) (by omega) (by omega) hj1 (by omega) hc.out
      by_cases hlt : j < 3
      · have hij : i + j < s.size := by omega
        have v4 := v3 (by omega)
        have hbj : byt (s.data.toList.drop i) j = (s[i + j]'hij).toNat := byt_at s i j hij
        have hst := vw_step (s.data.toList.drop i) (((s[i]'hi).toNat : Int) - 224) hj1
        rw [hbj] at hst
        have Hbj := Lib.hid hbj
        have Hst := Lib.hid hst
        clear hbj hst v3
        generalize hvv : vw (s.data.toList.drop i) (((s[i]'hi).toNat : Int) - 224) j = v at *
        have Hvv := Lib.hid hvv
        clear hvv
        have hby := (s[i + j]'hij).toNat_lt
        by_cases hlo : (s[i + j]'hij).toNat < 128
        · go_wp2
          go_ret2
          exact atIs_of (HF.out j hj1 hlt (by rw [Hbj.out]; omega)) rfl rfl
        by_cases hhi : 191 < (s[i + j]'hij).toNat
        · go_wp2
          go_ret2
          exact atIs_of (HF.out j hj1 hlt (by rw [Hbj.out]; omega)) rfl rfl
        go_wp2
        go_round
        case rel => exact ⟨j + 1, by omega, by omega, by go_num, by rw [Hst.out], Lib.hid (contTo_next hc.out (by rw [Hbj.out]; omega))⟩
        case measure => simp [intOf]; omega
      · obtain rfl : j = 3 := by omega
        have HE2 := Lib.hid (HE.out hc.out _ rfl)
        clear v3
        generalize hvv : vw (s.data.toList.drop i) (((s[i]'hi).toNat : Int) - 224) 3 = v at *
        clear hvv
        go_wp2
        all_goals
          go_ret2
          first
            | exact atIs_of (HE2.out.1 (by omega)) rfl rfl
            | exact atIs_of (HE2.out.2 (by omega)) (by omega) rfl
  · have hz : byt (s.data.toList.drop i) 2 = 0 := by
      have : (s.data.toList.drop i)[2]? = none := List.getElem?_eq_none (by rw [List.length_drop, Array.length_toList]; show s.size - i ≤ 2; omega)
      unfold byt
      rw [List.getD_eq_getElem?_getD, this]
      rfl
    have Hd := Lib.hid (HF.out 2 (by omega) (by omega) (by rw [hz]; omega))
    clear hz
    go_enter Tryz.func87, Tryz.ntmps87
    go_wp2
    go_ret2
    exact atIs_of Hd.out rfl rfl

end Go.Proofs.YteejocnogpaifaaGreatDoor
/-
  The document's own answer on the rune at a place, at a first byte from f0 to f4; and at every place.
  Conditions: the place lies in the text; the text is of moderate length.
-/
namespace Go.Proofs.YteejocnogpaifaaGreatDoor
open Go.RowKit

theorem fail_4 {l : List UInt8} (ha : 240 ≤ byt l 0) (hb : byt l 0 ≤ 244) {j : Nat} (h1 : 1 ≤ j) (h2 : j < 4) (h : byt l j / 64 ≠ 2) : dec l = (0, 0) := by
  unfold dec
  rcases d4_cases (byt l 0) (byt l 1) (byt l 2) (byt l 3) with ⟨p, e⟩ | ⟨p, q, r, e⟩ | ⟨p, q, r, s, t, e⟩ | ⟨p, q, r, s, t, u, e⟩ | ⟨p, e⟩
  · omega
  · omega
  · omega
  · rcases (by omega : j = 1 ∨ j = 2 ∨ j = 3) with rfl | rfl | rfl <;> omega
  · exact e
theorem end_4 {l : List UInt8} (ha : 240 ≤ byt l 0) (hb : byt l 0 ≤ 244) (hc : contTo l 4) {v : Int} (hv : v = vw l ((byt l 0 : Int) - 240) 4) :
    ((v < 65536 ∨ 1114111 < v ∨ (55296 ≤ v ∧ v ≤ 57343)) → dec l = (0, 0)) ∧ (¬ (v < 65536 ∨ 1114111 < v ∨ (55296 ≤ v ∧ v ≤ 57343)) → dec l = (v.toNat, 4)) := by
  have q1 := hc 1 (by omega) (by omega)
  have q2 := hc 2 (by omega) (by omega)
  have q3 := hc 3 (by omega) (by omega)
  have e1 : vw l ((byt l 0 : Int) - 240) 1 = (byt l 0 : Int) - 240 := rfl
  have e2 : vw l ((byt l 0 : Int) - 240) 2 = 64 * vw l ((byt l 0 : Int) - 240) 1 + byt l 1 - 128 := rfl
  have e3 : vw l ((byt l 0 : Int) - 240) 3 = 64 * vw l ((byt l 0 : Int) - 240) 2 + byt l 2 - 128 := rfl
  have e4 : vw l ((byt l 0 : Int) - 240) 4 = 64 * vw l ((byt l 0 : Int) - 240) 3 + byt l 3 - 128 := rfl
  unfold dec
  rcases d4_cases (byt l 0) (byt l 1) (byt l 2) (byt l 3) with ⟨p, e⟩ | ⟨p, q, r, e⟩ | ⟨p, q, r, s, t, e⟩ | ⟨p, q, r, s, t, u, e⟩ | ⟨p, e⟩
  · omega
  · omega
  · omega
  · refine ⟨fun h => by omega, fun h => ?_⟩
    rw [e]
    refine Prod.ext ?_ rfl
    simp only
    omega
  · refine ⟨fun _ => e, fun h => ?_⟩
    exfalso
    unfold d4 at e
    rw [if_neg (by omega), if_neg (by omega), if_neg (by omega), if_pos (by omega), if_pos (by omega)] at e
    have := (Prod.mk.inj e).2
    omega

set_option maxHeartbeats 4000000 in
set_option maxRecDepth 1000000 in
theorem at_4 (s : ByteArray) (i : Nat) (w : World) (hi : i < s.size) (hs : s.size ≤ 140737488355328) (ha : 240 ≤ (s[i]'hi).toNat) (hb : (s[i]'hi).toNat ≤ 244) :
    Calls Tryz.prog 87 #[.string s, .int .i64 i] w (AtIs s i w) := by
  have h0 : byt (s.data.toList.drop i) 0 = (s[i]'hi).toNat := byt_at s i 0 hi
  have hF : ∀ j, 1 ≤ j → j < 4 → byt (s.data.toList.drop i) j / 64 ≠ 2 → dec (s.data.toList.drop i) = (0, 0) := fun j h1 h2 h => fail_4 (by rw [h0]; exact ha) (by rw [h0]; exact hb) h1 h2 h
  have HF := Lib.hid hF
  have hE : contTo (s.data.toList.drop i) 4 → ∀ v : Int, v = vw (s.data.toList.drop i) (((s[i]'hi).toNat : Int) - 240) 4 → ((v < 65536 ∨ 1114111 < v ∨ (55296 ≤ v ∧ v ≤ 57343)) → dec (s.data.toList.drop i) = (0, 0)) ∧ (¬ (v < 65536 ∨ 1114111 < v ∨ (55296 ≤ v ∧ v ≤ 57343)) → dec (s.data.toList.drop i) = (v.toNat, 4)) := fun hc v hv => end_4 (by rw [h0]; exact ha) (by rw [h0]; exact hb) hc (by rw [h0]; exact hv)
  have HE := Lib.hid hE
  clear h0 hF hE
  by_cases hn : i + 4 ≤ s.size
  · have d1 : decide (((s[i]'hi).toNat : Int) < 128) = false := by simp; omega
    have d2 : decide ((s.size : Int) < (i : Int) + 4) = false := by simp; omega
    have d3 : decide (((s[i]'hi).toNat : Int) ≤ 223) = false := by simp; omega
    have d4 : decide (((s[i]'hi).toNat : Int) ≤ 239) = false := by simp; omega
    have d5 : decide (((s[i]'hi).toNat : Int) ≤ 244) = true := by simp; omega
    go_enter Tryz.func87, Tryz.ntmps87
    go_wp2
    go_loop [8, 10] (fun v k => ∃ j : Nat, 1 ≤ j ∧ j ≤ 4 ∧ k = .int .i64 j ∧ v = .int .i32 (vw (s.data.toList.drop i) (((s[i]'hi).toNat : Int) - 240) j) ∧ Hid (contTo (s.data.toList.drop i) j)) (fun _ k => 4 - (intOf k).toNat)
    case atStart => exact ⟨1, by omega, by omega, rfl, rfl, Lib.hid (fun _ _ _ => by omega)⟩
    case round =>
      obtain ⟨j, hj1, hj2, rfl, rfl, hc⟩ := hrel
      obtain ⟨v1, v2, v3⟩ := vw_bd (l := s.data.toList.drop i) (v0 := ((s[i]'hi).toNat : Int) - 240) (by omega) (by omega) hj1 (by omega) hc.out
      by_cases hlt : j < 4
      · have hij : i + j < s.size := by omega
        have v4 := v3 (by omega)
        have hbj : byt (s.data.toList.drop i) j = (s[i + j]'hij).toNat := byt_at s i j hij
        have hst := vw_step (s.data.toList.drop i) (((s[i]'hi).toNat : Int) - 240) hj1
        rw [hbj] at hst
        have Hbj := Lib.hid hbj
        have Hst := Lib.hid hst
        clear hbj hst v3
        generalize hvv : vw (s.data.toList.drop i) (((s[i]'hi).toNat : Int) - 240) j = v at *
        have Hvv := Lib.hid hvv
        clear hvv
        have hby := (s[i + j]'hij).toNat_lt
        by_cases hlo : (s[i + j]'hij).toNat < 128
        · go_wp2
          go_ret2
          exact atIs_of (HF.out j hj1 hlt (by rw [Hbj.out]; omega)) rfl rfl
        by_cases hhi : 191 < (s[i + j]'hij).toNat
        · go_wp2
          go_ret2
          exact atIs_of (HF.out j hj1 hlt (by rw [Hbj.out]; omega)) rfl rfl
        go_wp2
        go_round
        case rel => exact ⟨j + 1, by omega, by omega, by go_num, by rw [Hst.out], Lib.hid (contTo_next hc.out (by rw [Hbj.out]; omega))⟩
        case measure => simp [intOf]; omega
      · obtain rfl : j = 4 := by omega
        have HE2 := Lib.hid (HE.out hc.out _ rfl)
        clear v3
        generalize hvv : vw (s.data.toList.drop i) (((s[i]'hi).toNat : Int) - 240) 4 = v at *
        clear hvv
        go_wp2
        all_goals
          go_ret2
          first
            | exact atIs_of (HE2.out.1 (by omega)) rfl rfl
            | exact atIs_of (HE2.out.2 (by omega)) (by omega) rfl
  · have hz : byt (s.data.toList.drop i) 3 = 0 := by
      have : (s.data.toList.drop i)[3]? = none := List.getElem?_eq_none (by rw [List.length_drop, Array.length_toList]; show s.size - i ≤ 3; omega)
      unfold byt
      rw [List.getD_eq_getElem?_getD, this]
      rfl
    have Hd := Lib.hid (HF.out 3 (by omega) (by omega) (by rw [hz]; omega))
    clear hz
    go_enter Tryz.func87, Tryz.ntmps87
    go_wp2
    go_ret2
    exact atIs_of Hd.out rfl rfl

theorem at_any (s : ByteArray) (i : Nat) (w : World) (hi : i < s.size) (hs : s.size ≤ 140737488355328) :
    Calls Tryz.prog 87 #[.string s, .int .i64 i] w (AtIs s i w) := by
  by_cases h1 : (s[i]'hi).toNat < 128
  · exact at_low s i w hi h1
  by_cases h2 : (s[i]'hi).toNat < 194
  · exact at_none s i w hi (by omega) (.inl h2)
  by_cases h3 : (s[i]'hi).toNat ≤ 223
  · exact at_2 s i w hi hs (by omega) h3
  by_cases h4 : (s[i]'hi).toNat ≤ 239
  · exact at_3 s i w hi hs (by omega) h4
  by_cases h5 : (s[i]'hi).toNat ≤ 244
  · exact at_4 s i w hi hs (by omega) h5
  exact at_none s i w hi (by omega) (.inr (by omega))
end Go.Proofs.YteejocnogpaifaaGreatDoor
