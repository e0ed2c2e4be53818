/-
  What acts put, one behind the other.
  Conditions: as each theorem names them.
-/
import Derived.Test.YtenkjopmldmobaaFldArg
import Derived.Test.YtenkjopmldmobaaFldRefNum
namespace Go.Proofs.Ytenkjopmldmobaa
open Go.RowKit

/-- what an act puts -/
def form (a : ActD) : List UInt8 :=
  if a.kind = 0 then num8 (clp a.n) else if a.kind = 1 then num8 a.s.size ++ a.s.data.toList else if a.kind = 2 then [if a.yes then 1 else 0] else []
theorem form_0 {a : ActD} (h : a.kind = 0) : form a = num8 (clp a.n) := by unfold form; rw [if_pos h]
theorem form_1 {a : ActD} (h : a.kind = 1) : form a = num8 a.s.size ++ a.s.data.toList := by unfold form; rw [if_neg (by omega), if_pos h]
theorem form_2 {a : ActD} (h : a.kind = 2) : form a = [if a.yes then 1 else 0] := by unfold form; rw [if_neg (by omega), if_neg (by omega), if_pos h]
theorem form_no {a : ActD} (h0 : a.kind ≠ 0) (h1 : a.kind ≠ 1) (h2 : a.kind ≠ 2) : form a = [] := by unfold form; rw [if_neg h0, if_neg h1, if_neg h2]
theorem form_len {a : ActD} (h : a.s.size ≤ 60) : (form a).length ≤ 68 := by
  unfold form
  have e : a.s.data.toList.length = a.s.size := Array.length_toList
  split
  · rw [num8_len]; omega
  · split
    · rw [List.length_append, num8_len]; omega
    · split <;> simp
/-- what the first acts put -/
def outK (f : Nat → ActD) : Nat → List UInt8
  | 0 => []
  | k + 1 => outK f k ++ form (f k)
theorem outK_len (f : Nat → ActD) : ∀ k, (∀ i, i < k → (f i).s.size ≤ 60) → (outK f k).length ≤ 68 * k := by
  intro k
  induction k with
  | zero => intro _; exact Nat.le_refl _
  | succ k ih =>
    intro h
    have h1 := ih (fun i hi => h i (by omega))
    have h2 := form_len (h k (by omega))
    rw [outK, List.length_append]
    omega
theorem outK_split (f : Nat → ActD) (k : Nat) : ∀ n, k < n → ∃ Y, outK f n = outK f k ++ (form (f k) ++ Y) := by
  intro n
  induction n with
  | zero => intro h; omega
  | succ n ih =>
    intro h
    by_cases e : k = n
    · subst e; exact ⟨[], by rw [outK, List.append_nil]⟩
    · obtain ⟨Y, hY⟩ := ih (by omega)
      exact ⟨Y ++ form (f n), by rw [outK, hY]; simp [List.append_assoc]⟩

/-- a number's form as a text -/
def nf (n : Nat) : ByteArray := ⟨(num8 n).toArray⟩
theorem nf_data (n : Nat) : (nf n).data.toList = num8 n := rfl
theorem nf_size (n : Nat) : (nf n).size = 8 := rfl
theorem ynum_any (n : Int) (w : World) (hn0 : -9223372036854775808 ≤ n) (hn1 : n ≤ 9223372036854775807) :
    Calls Try.prog 20 #[.int .i64 n] w fun e w' => e = .returned (.string (nf (clp n))) ∧ Below w.heap.size w w' := xnum_any n w hn0 hn1
theorem all_next {Q : Nat → Prop} {k : Nat} (h : ∀ i, i < k → Q i) (hk : Q k) : ∀ i, i < k + 1 → Q i := fun i hi => by
  by_cases e : i = k
  · rw [e]; exact hk
  · exact h i (by omega)

theorem Wr.alloc {w : World} {base g : Nat} {L : List UInt8} (h : Wr w base g L) (o : Obj) : Wr (w.alloc o) base g L := by
  obtain ⟨v, hb, ho⟩ := h.box
  exact ⟨h.le, v, hb.alloc o, ho.alloc o⟩
theorem Wr.lt {w : World} {base g : Nat} {L : List UInt8} (h : Wr w base g L) : g < w.heap.size := by
  obtain ⟨v, hb, ho⟩ := h.box
  exact hb.lt
theorem Wr.below {w w' : World} {base g : Nat} {L : List UInt8} (h : Wr w base g L) (hb : Below w.heap.size w w') : Wr w' base g L := by
  obtain ⟨v, hx, ho⟩ := h.box
  exact ⟨h.le, v, hx.below hb hx.lt, own_below ho hb⟩

/-- where the first loop stands -/
structure At1 (w wr : World) (base g : Nat) (L : List UInt8) : Prop where
  bel : Below w.heap.size w wr
  le : w.heap.size ≤ base
  wr : Wr wr base g L
/-- behind a call of the writer -/
theorem At1.next {w u u2 : World} {base g : Nat} {L M : List UInt8} {ac : Array Value} (h : At1 w u base g L) (h2 : WrAt (u.alloc (.cells ac 30)) u2 base g M) :
    At1 w u2 base g M ∧ Box u2 u.heap.size 30 ac := by
  have hg := h.wr.lt
  refine ⟨⟨(h.bel.alloc h.bel.size _).trans (h2.bel.mono h.le), h.le, h2.wr⟩, h2.kept _ _ _ (by omega) (by decide) (Box.new _ _ _)⟩
theorem At1.below {w u u2 : World} {base g : Nat} {L : List UInt8} (h : At1 w u base g L) (hb : Below u.heap.size u u2) : At1 w u2 base g L :=
  ⟨h.bel.trans (hb.mono h.bel.size), h.le, h.wr.below hb⟩
end Go.Proofs.Ytenkjopmldmobaa
