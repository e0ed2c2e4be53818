/-
  Arguments, opened: a []Act to its acts; integers to the bounds of their kinds.
  Conditions: as each theorem names them.
-/
import Derived.Test.YtndpdciehnndoaaBrkAwake
import Derived.Test.YtndpdciehnndoaaRows
import Derived.ProofKit
import Derived.OpenShut
import Derived.SizedLaws
import Derived.Carry
import Derived.Deep.Slices
import Derived.Deep.Fields
import Derived.ChangeSame
namespace Go.Proofs.Ytndpdciehnndoaa.Bk
open Go.ChangeShapes Go.WideShapes Go.ChangeAt Go.RowKit

theorem own : ownKnob Try.prog.godebug = none := by kernel_rfl
theorem laidOut : laidOutB Try.prog = true := by kernel_rfl
theorem fits {k : IntKind} {a lo hi : Int} (h : (Lit.int k a).wf = true) (hl : k.min = lo) (hh : k.max = hi) : lo ≤ a ∧ a ≤ hi := by
  simp only [Lit.wf, Bool.and_eq_true, decide_eq_true_eq] at h
  omega
/-- a function of places out of what each place has -/
theorem pick_fun {α : Type} (d : α) {n : Nat} {Q : Nat → α → Prop} (h : ∀ i, i < n → ∃ a, Q i a) : ∃ f : Nat → α, ∀ i, i < n → Q i (f i) :=
  ⟨fun i => if hi : i < n then Classical.choose (h i hi) else d, fun i hi => by simp only [dif_pos hi]; exact Classical.choose_spec (h i hi)⟩
/-- the ints at a place of a slice, k cells each -/
def IntsAt (w : World) (B : Nat) (A : Option Addr) (k i : Nat) (f : Nat → Int) : Prop :=
  ∃ b o, A = some ⟨b, o, none⟩ ∧ b < B ∧ ∀ j, j < k → (Lit.int .i64 (f j)).wf = true ∧ w.cell? ⟨b, o + i * k + j, none⟩ = some (.int .i64 (f j))
theorem IntsAt.below {w w' : World} {B : Nat} {A : Option Addr} {k i : Nat} {f : Nat → Int} (h : IntsAt w B A k i f) (hb : Below B w w') : IntsAt w' B A k i f := by
  obtain ⟨b, o, e, hlt, hc⟩ := h
  exact ⟨b, o, e, hlt, fun j hj => ⟨(hc j hj).1, (hb.cell (p := ⟨b, o + i * k + j, none⟩) hlt).trans (hc j hj).2⟩⟩
theorem IntsAt.get {w : World} {B b o : Nat} {k i : Nat} {f : Nat → Int} (h : IntsAt w B (some ⟨b, o, none⟩) k i f) (j : Nat) (hj : j < k) : w.cell? ⟨b, o + i * k + j, none⟩ = some (.int .i64 (f j)) := by
  obtain ⟨b', o', e, _, hc⟩ := h
  injection e with e
  injection e with e1 e2
  subst e1 e2
  exact (hc j hj).2
theorem IntsAt.fit {w : World} {B : Nat} {A : Option Addr} {k i : Nat} {f : Nat → Int} (h : IntsAt w B A k i f) (j : Nat) (hj : j < k) : -9223372036854775808 ≤ f j ∧ f j ≤ 9223372036854775807 := by
  obtain ⟨b', o', e, _, hc⟩ := h
  exact fits (hc j hj).1 rfl rfl
/-- a slice whose elements read as k ints each -/
theorem arg_ints {H : Type} {enc : TypeId × Value → H} {W : World} {a0 : Option Addr} {len cap : Nat} {d0 : DataW H} {p : List MemPlace} {U e : TypeId} (k : Nat) (k0 : 0 < k) (hT : Try.prog.underlying U = some (.slice e)) (he : Try.prog.cellsOf e = k)
    (hel : ∀ fuel cs x, DataW.trod enc Try.prog W 0 (fun _ => true) true fuel e cs = some x → cs.length = k → ∃ f : Nat → Int, ∀ j, j < k → (Lit.int .i64 (f j)).wf = true ∧ cs[j]? = some (.int .i64 (f j)))
    (h0 : DataW.Trod enc Try.prog W 0 (fun _ => true) true U (.slice a0 len cap) d0 p) :
    ∃ f : Nat → Nat → Int, len ≤ cap ∧ len ≤ 9223372036854775807 ∧ ∀ i, i < len → IntsAt W W.heap.size a0 k i (f i) := by
  obtain ⟨fuel, hf⟩ := h0
  rcases Deep.open_slice hT hf with ⟨hcs, _⟩ | ⟨a, len', cap', m, n, D, Pl, hcs, _, hl, hm, hmm, _, hi⟩
  · simp [Value.cells] at hcs
    obtain ⟨rfl, rfl, rfl⟩ := hcs
    exact ⟨fun _ _ => 0, Nat.le_refl _, by omega, fun i hi => absurd hi (by omega)⟩
  · simp [Value.cells] at hcs
    obtain ⟨rfl, rfl, rfl⟩ := hcs
    simp only [if_true] at hmm
    subst hmm
    suffices H : ∀ i, i < len → ∃ x, IntsAt W W.heap.size (some a) k i x by
      obtain ⟨f, hf⟩ := pick_fun (fun _ => 0) H
      exact ⟨f, hl, by unfold maxLen at hm; omega, hf⟩
    intro i hi'
    have hsp : a.spot = none ∧ a.block < W.heap.size := by
      obtain ⟨cs0, hc0, _⟩ := hi 0 (by omega)
      rw [he] at hc0
      obtain ⟨_, hlen0, hat0⟩ := World.cells?_some hc0
      have g0 := hat0 0 (by omega)
      rw [List.getElem?_eq_getElem (by omega)] at g0
      exact ⟨World.cell?_spot (by simpa [Addr.add] using g0), by simpa [Addr.add] using World.block_lt_of_cell? _ _ g0⟩
    obtain ⟨b, o, sp⟩ := a
    simp only at hsp
    obtain ⟨rfl, hblt⟩ := hsp
    obtain ⟨cs', hc, ht⟩ := hi i (by omega)
    rw [he] at hc
    obtain ⟨_, hlen, hat⟩ := World.cells?_some hc
    obtain ⟨f, hff⟩ := hel _ _ _ ht hlen
    refine ⟨f, b, o, rfl, hblt, fun j hj => ⟨(hff j hj).1, ?_⟩⟩
    have hx := hat j hj
    rw [Addr.add_lit, Addr.add_lit] at hx
    rw [hx]
    exact (hff j hj).2
theorem cellsI : Try.prog.cellsOf 3 = 1 := by kernel_rfl
theorem arg_acts {H : Type} {enc : TypeId × Value → H} {W : World} {a0 : Option Addr} {len cap : Nat} {d0 : DataW H} {p : List MemPlace}
    (h0 : DataW.Trod enc Try.prog W 0 (fun _ => true) true 22 (.slice a0 len cap) d0 p) :
    ∃ f : Nat → Nat → Int, len ≤ cap ∧ len ≤ 9223372036854775807 ∧ ∀ i, i < len → IntsAt W W.heap.size a0 2 i (f i) := by
  refine arg_ints 2 (by omega) Try.underlying22 (by kernel_rfl) (fun fuel cs x ht hl => ?_) h0
  obtain ⟨ys, n', _, _, _, hyl, hfld⟩ := DataW.trod_struct Try.underlying29 ht
  simp only [List.size_toArray, List.length_cons, List.length_nil, Nat.reduceAdd] at hyl
  have e0 : DataW.trod enc Try.prog W 0 (fun _ => true) true n' 3 ((cs.drop 0).take (Try.prog.cellsOf 3)) = ys[0]? := hfld 0 _ rfl
  have e1 : DataW.trod enc Try.prog W 0 (fun _ => true) true n' 3 ((cs.drop 1).take (Try.prog.cellsOf 3)) = ys[1]? := hfld 1 _ rfl
  match cs, hl, ys, hyl with
  | [c0, c1], _, [y0, y1], _ =>
    simp only [cellsI, List.drop_zero, List.drop_succ_cons, List.take_succ_cons, List.take_zero, List.getElem?_cons_zero, List.getElem?_cons_succ] at e0 e1
    obtain ⟨x0, q0, _, w0⟩ := DataW.trod_int Try.underlying3 e0
    obtain ⟨x1, q1, _, w1⟩ := DataW.trod_int Try.underlying3 e1
    simp only [List.cons.injEq, and_true] at q0 q1
    subst q0 q1
    refine ⟨fun j => if j = 0 then x0 else x1, fun j hj => ?_⟩
    have hj' : j = 0 ∨ j = 1 := by omega
    rcases hj' with rfl | rfl
    · exact ⟨w0, rfl⟩
    · exact ⟨w1, rfl⟩
end Go.Proofs.Ytndpdciehnndoaa.Bk
