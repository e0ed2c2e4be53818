/-
  Arguments, opened: a [][2]uint16 to its pairs, a []Act to its acts.
  Conditions: none.
-/
import Derived.Test.YtkfkjpabollaoaaRdyAwake
import Derived.Test.YtkfkjpabollaoaaRdyTake
import Derived.Test.YtkfkjpabollaoaaRows
import Derived.ProofKit
import Derived.OpenShut
import Derived.SizedLaws
import Derived.Carry
import Derived.Deep.Slices
import Derived.Deep.Fields
import Derived.ChangeSame
namespace Go.Proofs.Ytkfkjpabollaoaa
open Go.ChangeShapes Go.WideShapes Go.ChangeAt Go.RowKit

theorem own : ownKnob Try.prog.godebug = none := by kernel_rfl
theorem laidOut : laidOutB Try.prog = true := by kernel_rfl
theorem fits {k : IntKind} {a lo hi : Int} (h : (Lit.int k a).wf = true) (hl : k.min = lo) (hh : k.max = hi) : lo ≤ a ∧ a ≤ hi := by
  simp only [Lit.wf, Bool.and_eq_true, decide_eq_true_eq] at h
  omega
/-- a function of places out of what each place has -/
theorem pick_fun {α : Type} (d : α) {n : Nat} {Q : Nat → α → Prop} (h : ∀ i, i < n → ∃ a, Q i a) : ∃ f : Nat → α, ∀ i, i < n → Q i (f i) :=
  ⟨fun i => if hi : i < n then Classical.choose (h i hi) else d, fun i hi => by simp only [dif_pos hi]; exact Classical.choose_spec (h i hi)⟩
/-- the ints at a place of a slice, k cells each, all of one kind -/
def IntsAt (w : World) (B : Nat) (A : Option Addr) (q : IntKind) (k i : Nat) (f : Nat → Int) : Prop :=
  ∃ b o, A = some ⟨b, o, none⟩ ∧ b < B ∧ ∀ j, j < k → (Lit.int q (f j)).wf = true ∧ w.cell? ⟨b, o + i * k + j, none⟩ = some (.int q (f j))
theorem IntsAt.below {w w' : World} {B : Nat} {A : Option Addr} {q : IntKind} {k i : Nat} {f : Nat → Int} (h : IntsAt w B A q k i f) (hb : Below B w w') : IntsAt w' B A q k i f := by
  obtain ⟨b, o, e, hlt, hc⟩ := h
  exact ⟨b, o, e, hlt, fun j hj => ⟨(hc j hj).1, (hb.cell (p := ⟨b, o + i * k + j, none⟩) hlt).trans (hc j hj).2⟩⟩
theorem IntsAt.get {w : World} {B b o : Nat} {q : IntKind} {k i : Nat} {f : Nat → Int} (h : IntsAt w B (some ⟨b, o, none⟩) q k i f) (j : Nat) (hj : j < k) : w.cell? ⟨b, o + i * k + j, none⟩ = some (.int q (f j)) := by
  obtain ⟨b', o', e, _, hc⟩ := h
  injection e with e
  injection e with e1 e2
  subst e1 e2
  exact (hc j hj).2
theorem IntsAt.wf {w : World} {B : Nat} {A : Option Addr} {q : IntKind} {k i : Nat} {f : Nat → Int} (h : IntsAt w B A q k i f) (j : Nat) (hj : j < k) : (Lit.int q (f j)).wf = true := by
  obtain ⟨b', o', e, _, hc⟩ := h
  exact (hc j hj).1
/-- a slice whose elements read as k ints each -/
theorem arg_ints {H : Type} {enc : TypeId × Value → H} {W : World} {a0 : Option Addr} {len cap : Nat} {d0 : DataW H} {p : List MemPlace} {T e : TypeId} (q : IntKind) (k : Nat) (k0 : 0 < k) (hT : Try.prog.underlying T = some (.slice e)) (he : Try.prog.cellsOf e = k)
    (hel : ∀ fuel cs x, DataW.trod enc Try.prog W 0 (fun _ => true) true fuel e cs = some x → cs.length = k → ∃ f : Nat → Int, ∀ j, j < k → (Lit.int q (f j)).wf = true ∧ cs[j]? = some (.int q (f j)))
    (h0 : DataW.Trod enc Try.prog W 0 (fun _ => true) true T (.slice a0 len cap) d0 p) :
    ∃ f : Nat → Nat → Int, len ≤ cap ∧ len ≤ 9223372036854775807 ∧ ∀ i, i < len → IntsAt W W.heap.size a0 q k i (f i) := by
  obtain ⟨fuel, hf⟩ := h0
  rcases Deep.open_slice hT hf with ⟨hcs, _⟩ | ⟨a, len', cap', m, n, D, Pl, hcs, _, hl, hm, hmm, _, hi⟩
  · simp [Value.cells] at hcs
    obtain ⟨rfl, rfl, rfl⟩ := hcs
    exact ⟨fun _ _ => 0, Nat.le_refl _, by omega, fun i hi => absurd hi (by omega)⟩
  · simp [Value.cells] at hcs
    obtain ⟨rfl, rfl, rfl⟩ := hcs
    simp only [if_true] at hmm
    subst hmm
    suffices H : ∀ i, i < len → ∃ x, IntsAt W W.heap.size (some a) q k i x by
      obtain ⟨f, hf⟩ := pick_fun (fun _ => 0) H
      exact ⟨f, hl, by unfold maxLen at hm; omega, hf⟩
    intro i hi'
    have hsp : a.spot = none ∧ a.block < W.heap.size := by
      obtain ⟨cs0, hc0, _⟩ := hi 0 (by omega)
      rw [he] at hc0
      obtain ⟨_, hlen0, hat0⟩ := World.cells?_some hc0
      have g0 := hat0 0 (by omega)
      rw [List.getElem?_eq_getElem (by omega)] at g0
      exact ⟨World.cell?_spot (by simpa [Addr.add] using g0), by simpa [Addr.add] using World.block_lt_of_cell? _ _ g0⟩
    obtain ⟨b, o, sp⟩ := a
    simp only at hsp
    obtain ⟨rfl, hblt⟩ := hsp
    obtain ⟨cs', hc, ht⟩ := hi i (by omega)
    rw [he] at hc
    obtain ⟨_, hlen, hat⟩ := World.cells?_some hc
    obtain ⟨f, hff⟩ := hel _ _ _ ht hlen
    refine ⟨f, b, o, rfl, hblt, fun j hj => ⟨(hff j hj).1, ?_⟩⟩
    have hx := hat j hj
    rw [Addr.add_lit, Addr.add_lit] at hx
    rw [hx]
    exact (hff j hj).2
theorem cellsU : Try.prog.cellsOf 47 = 1 := by kernel_rfl
theorem cellsI : Try.prog.cellsOf 3 = 1 := by kernel_rfl
theorem arg_pairs {H : Type} {enc : TypeId × Value → H} {W : World} {a0 : Option Addr} {len cap : Nat} {d0 : DataW H} {p : List MemPlace}
    (h0 : DataW.Trod enc Try.prog W 0 (fun _ => true) true 50 (.slice a0 len cap) d0 p) :
    ∃ f : Nat → Nat → Int, len ≤ cap ∧ len ≤ 9223372036854775807 ∧ ∀ i, i < len → IntsAt W W.heap.size a0 .u16 2 i (f i) := by
  refine arg_ints .u16 2 (by omega) Try.underlying50 (by kernel_rfl) (fun fuel cs x ht hl => ?_) h0
  obtain ⟨xs, m, _, _, _, hxl, hx⟩ := DataW.trod_array Try.underlying51 ht
  have e0 := hx 0 (by omega)
  have e1 := hx 1 (by omega)
  match cs, hl, xs, hxl with
  | [c0, c1], _, [y0, y1], _ =>
    simp only [cellsU, Nat.zero_mul, Nat.one_mul, List.drop_zero, List.drop_succ_cons, List.take_succ_cons, List.take_zero, List.getElem?_cons_zero, List.getElem?_cons_succ] at e0 e1
    obtain ⟨x0, q0, _, w0⟩ := DataW.trod_int Try.underlying47 e0
    obtain ⟨x1, q1, _, w1⟩ := DataW.trod_int Try.underlying47 e1
    simp only [List.cons.injEq, and_true] at q0 q1
    subst q0 q1
    refine ⟨fun j => if j = 0 then x0 else x1, fun j hj => ?_⟩
    have hj' : j = 0 ∨ j = 1 := by omega
    rcases hj' with rfl | rfl
    · exact ⟨w0, rfl⟩
    · exact ⟨w1, rfl⟩
theorem arg_acts {H : Type} {enc : TypeId × Value → H} {W : World} {a0 : Option Addr} {len cap : Nat} {d0 : DataW H} {p : List MemPlace}
    (h0 : DataW.Trod enc Try.prog W 0 (fun _ => true) true 22 (.slice a0 len cap) d0 p) :
    ∃ f : Nat → Nat → Int, len ≤ cap ∧ len ≤ 9223372036854775807 ∧ ∀ i, i < len → IntsAt W W.heap.size a0 .i64 4 i (f i) := by
  refine arg_ints .i64 4 (by omega) Try.underlying22 (by kernel_rfl) (fun fuel cs x ht hl => ?_) h0
  obtain ⟨ys, n', _, _, _, hyl, hfld⟩ := DataW.trod_struct Try.underlying28 ht
  simp only [List.size_toArray, List.length_cons, List.length_nil, Nat.reduceAdd] at hyl
  have e0 : DataW.trod enc Try.prog W 0 (fun _ => true) true n' 3 ((cs.drop 0).take (Try.prog.cellsOf 3)) = ys[0]? := hfld 0 _ rfl
  have e1 : DataW.trod enc Try.prog W 0 (fun _ => true) true n' 3 ((cs.drop 1).take (Try.prog.cellsOf 3)) = ys[1]? := hfld 1 _ rfl
  have e2 : DataW.trod enc Try.prog W 0 (fun _ => true) true n' 3 ((cs.drop 2).take (Try.prog.cellsOf 3)) = ys[2]? := hfld 2 _ rfl
  have e3 : DataW.trod enc Try.prog W 0 (fun _ => true) true n' 3 ((cs.drop 3).take (Try.prog.cellsOf 3)) = ys[3]? := hfld 3 _ rfl
  match cs, hl, ys, hyl with
  | [c0, c1, c2, c3], _, [y0, y1, y2, y3], _ =>
    simp only [cellsI, List.drop_zero, List.drop_succ_cons, List.take_succ_cons, List.take_zero, List.getElem?_cons_zero, List.getElem?_cons_succ] at e0 e1 e2 e3
    obtain ⟨x0, q0, _, w0⟩ := DataW.trod_int Try.underlying3 e0
    obtain ⟨x1, q1, _, w1⟩ := DataW.trod_int Try.underlying3 e1
    obtain ⟨x2, q2, _, w2⟩ := DataW.trod_int Try.underlying3 e2
    obtain ⟨x3, q3, _, w3⟩ := DataW.trod_int Try.underlying3 e3
    simp only [List.cons.injEq, and_true] at q0 q1 q2 q3
    subst q0 q1 q2 q3
    refine ⟨fun j => if j = 0 then x0 else if j = 1 then x1 else if j = 2 then x2 else x3, fun j hj => ?_⟩
    have hj' : j = 0 ∨ j = 1 ∨ j = 2 ∨ j = 3 := by omega
    rcases hj' with rfl | rfl | rfl | rfl
    · exact ⟨w0, rfl⟩
    · exact ⟨w1, rfl⟩
    · exact ⟨w2, rfl⟩
    · exact ⟨w3, rfl⟩
end Go.Proofs.Ytkfkjpabollaoaa
