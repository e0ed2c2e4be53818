/-
  A slice of structs of k cells that reads as a list; an argument of such a slice, opened to one.
  Conditions: none.
-/
import Derived.Test.YtllpjfbcjcnpcaaDoorSumMem
import Derived.ProofKit
import Derived.OpenShut
import Derived.SizedLaws
import Derived.Carry
import Derived.Deep.Slices
import Derived.Deep.Fields
import Derived.ChangeSame
namespace Go.Proofs.YtllpjfbcjcnpcaaDoor.El
open Go.ChangeShapes Go.WideShapes Go.ChangeAt Go.RowKit

/-- a function of places out of what each place has -/
theorem pick_fun {α : Type} (d : α) {n : Nat} {Q : Nat → α → Prop} (h : ∀ i, i < n → ∃ a, Q i a) : ∃ f : Nat → α, ∀ i, i < n → Q i (f i) :=
  ⟨fun i => if hi : i < n then Classical.choose (h i hi) else d, fun i hi => by simp only [dif_pos hi]; exact Classical.choose_spec (h i hi)⟩
theorem at_lt {α : Type} {l : List α} {i : Nat} {a : α} (h : l[i]? = some a) : i < l.length := by
  rcases Nat.lt_or_ge i l.length with h1 | h1
  · exact h1
  · rw [List.getElem?_eq_none h1] at h; cases h
/-- a slice that reads as a list of structs of k cells, below block B -/
def Els {α : Type} (ec : α → List Value) (k : Nat) (w : World) (B : Nat) (A : Option Addr) (l : List α) : Prop :=
  ∀ i a, l[i]? = some a → ∃ b o, A = some ⟨b, o, none⟩ ∧ b < B ∧ ∀ j u, (ec a)[j]? = some u → w.cell? ⟨b, o + i * k + j, none⟩ = some u
section
variable {α : Type} {ec : α → List Value} {k : Nat} {w w' : World} {B : Nat} {A : Option Addr} {l : List α}
theorem Els.nil (ec : α → List Value) (k : Nat) (w : World) (B : Nat) (A : Option Addr) : Els ec k w B A [] := fun i a h => by simp at h
theorem Els.below (h : Els ec k w B A l) (hb : Below B w w') : Els ec k w' B A l := fun i p hp => by
  obtain ⟨b, o, e, hlt, hc⟩ := h i p hp
  exact ⟨b, o, e, hlt, fun j u hu => (hb.cell (p := ⟨b, o + i * k + j, none⟩) hlt).trans (hc j u hu)⟩
theorem Els.more {B' : Nat} (h : Els ec k w B A l) (hB : B ≤ B') : Els ec k w B' A l := fun i p hp => by
  obtain ⟨b, o, e, hlt, hc⟩ := h i p hp
  exact ⟨b, o, e, Nat.lt_of_lt_of_le hlt hB, hc⟩
/-- behind a call that turns nothing that is there -/
theorem Els.on (h : Els ec k w w.heap.size A l) (hb : Below w.heap.size w w') : Els ec k w' w'.heap.size A l := (h.below hb).more hb.size
theorem Els.at_ (h : Els ec k w B A l) {i : Nat} {a : α} (ha : l[i]? = some a) : ∃ b o, A = some ⟨b, o, none⟩ ∧ b < B := by
  obtain ⟨b, o, e, hlt, _⟩ := h i a ha
  exact ⟨b, o, e, hlt⟩
theorem Els.live (h : Els ec k w B A l) (hl : 0 < l.length) : ∃ b o, A = some ⟨b, o, none⟩ ∧ b < B := h.at_ (List.getElem?_eq_getElem hl)
theorem Els.get {b o : Nat} (h : Els ec k w B (some ⟨b, o, none⟩) l) {i : Nat} {a : α} (ha : l[i]? = some a) (j : Nat) {u : Value} (hu : (ec a)[j]? = some u) : w.cell? ⟨b, o + i * k + j, none⟩ = some u := by
  obtain ⟨b', o', e, _, hc⟩ := h i a ha
  injection e with e
  injection e with e1 e2
  subst e1 e2
  exact hc j u hu
theorem Els.take (h : Els ec k w B A l) (n : Nat) : Els ec k w B A (l.take n) := fun i a ha => by
  have hi := at_lt ha
  rw [List.length_take] at hi
  rw [List.getElem?_take, if_pos (by omega)] at ha
  exact h i a ha
end
theorem els_of {P : Program} {H : Type} {enc : TypeId × Value → H} {W : World} {cs : List Value} {y : DataW H × List MemPlace} {U e : TypeId} {fuel : Nat} {α : Type} (dflt : α) (ec : α → List Value) (Good : α → Prop) (k : Nat) (k0 : 0 < k) (hT : P.underlying U = some (.slice e)) (he : P.cellsOf e = k)
    (hel : ∀ fuel cs x, DataW.trod enc P W 0 (fun _ => true) true fuel e cs = some x → cs.length = k → ∃ a, Good a ∧ cs = ec a)
    (hf : DataW.trod enc P W 0 (fun _ => true) true fuel U cs = some y) :
    ∃ (a0 : Option Addr) (len cap : Nat) (l : List α), cs = [.slice a0 len cap] ∧ len = l.length ∧ len ≤ cap ∧ len ≤ 9223372036854775807 ∧ (∀ a ∈ l, Good a) ∧ Els ec k W W.heap.size a0 l ∧ (a0 = none → len = 0 ∧ cap = 0) := by
  rcases Deep.open_slice hT hf with ⟨rfl, _⟩ | ⟨a, len', cap', m, n, D, Pl, rfl, _, hl, hm, hmm, _, hi⟩
  · exact ⟨none, 0, 0, [], rfl, rfl, Nat.le_refl _, by omega, by simp, fun i a ha => by simp at ha, fun _ => ⟨rfl, rfl⟩⟩
  · simp only [if_true] at hmm
    subst hmm
    suffices HH : ∀ i, i < len' → ∃ x, Good x ∧ ∃ b o, (some a : Option Addr) = some ⟨b, o, none⟩ ∧ b < W.heap.size ∧ ∀ j u, (ec x)[j]? = some u → W.cell? ⟨b, o + i * k + j, none⟩ = some u by
      obtain ⟨f, hf⟩ := pick_fun dflt HH
      have hget : ∀ i x, ((List.range len').map f)[i]? = some x → i < len' ∧ x = f i := fun i x hx => by
        have hi' : i < len' := by
          rcases Nat.lt_or_ge i len' with h1 | h1
          · exact h1
          · rw [List.getElem?_eq_none (by simpa using h1)] at hx; cases hx
        simp [hi'] at hx
        exact ⟨hi', hx.symm⟩
      refine ⟨some a, len', m, (List.range len').map f, rfl, by simp, hl, by unfold maxLen at hm; omega, fun x hx => ?_, fun i x hx => ?_, fun h => by cases h⟩
      · obtain ⟨i, hi'⟩ := List.mem_iff_getElem?.1 hx
        obtain ⟨h1, rfl⟩ := hget i x hi'
        exact (hf i h1).1
      · obtain ⟨h1, rfl⟩ := hget i x hx
        exact (hf i h1).2
    intro i hi'
    have hsp : a.spot = none ∧ a.block < W.heap.size := by
      obtain ⟨cs0, hc0, _⟩ := hi 0 (by omega)
      rw [he] at hc0
      obtain ⟨_, hlen0, hat0⟩ := World.cells?_some hc0
      have g0 := hat0 0 (by omega)
      rw [List.getElem?_eq_getElem (by omega)] at g0
      exact ⟨World.cell?_spot (by simpa [Addr.add] using g0), by simpa [Addr.add] using World.block_lt_of_cell? _ _ g0⟩
    obtain ⟨b, o, sp⟩ := a
    simp only at hsp
    obtain ⟨rfl, hblt⟩ := hsp
    obtain ⟨cs', hc, ht⟩ := hi i (by omega)
    rw [he] at hc
    obtain ⟨_, hlen, hat⟩ := World.cells?_some hc
    obtain ⟨x, hg, rfl⟩ := hel _ _ _ ht hlen
    refine ⟨x, hg, b, o, rfl, hblt, fun j u hu => ?_⟩
    have hj : j < k := by
      rcases Nat.lt_or_ge j k with h1 | h1
      · exact h1
      · rw [List.getElem?_eq_none (by omega)] at hu; cases hu
    have hx := hat j hj
    rw [Addr.add_lit, Addr.add_lit] at hx
    rw [hx]
    exact hu
end Go.Proofs.YtllpjfbcjcnpcaaDoor.El
