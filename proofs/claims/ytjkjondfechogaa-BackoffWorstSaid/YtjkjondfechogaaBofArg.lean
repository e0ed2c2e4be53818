/-
  Arguments, opened: a plan by value to its four numbers; integers to the bounds of their kinds.
  Conditions: as each theorem names them.
-/
import Derived.Test.YtjkjondfechogaaBofRef
import Derived.Test.YtjkjondfechogaaRows
import Derived.ProofKit
import Derived.OpenShut
import Derived.SizedLaws
import Derived.Carry
import Derived.Deep.Slices
import Derived.Deep.Fields
import Derived.ChangeSame
import Derived.Lib.SmallJoins
namespace Go.Proofs.Ytjkjondfechogaa.Bo
open Go.ChangeShapes Go.WideShapes Go.ChangeAt Go.RowKit

theorem own : ownKnob Try.prog.godebug = none := by kernel_rfl
theorem laidOut : laidOutB Try.prog = true := by kernel_rfl
theorem fits {k : IntKind} {a lo hi : Int} (h : (Lit.int k a).wf = true) (hl : k.min = lo) (hh : k.max = hi) : lo ≤ a ∧ a ≤ hi := by
  simp only [Lit.wf, Bool.and_eq_true, decide_eq_true_eq] at h
  omega
theorem cellsI : Try.prog.cellsOf 3 = 1 := by kernel_rfl
theorem cellsP : Try.prog.cellsOf 23 = 4 := by kernel_rfl
/-- its numbers fit Go's int -/
def P.Fits (p : P) : Prop := (-9223372036854775808 ≤ p.r ∧ p.r ≤ 9223372036854775807) ∧ (-9223372036854775808 ≤ p.b ∧ p.b ≤ 9223372036854775807) ∧ (-9223372036854775808 ≤ p.f ∧ p.f ≤ 9223372036854775807) ∧ (-9223372036854775808 ≤ p.c ∧ p.c ≤ 9223372036854775807)
theorem arg_plan {H : Type} {enc : TypeId × Value → H} {W : World} {r : Reach} {base : Nat} {v : Value} {d : DataW H} {pl : List MemPlace} (hv : Value.okWide Try.prog W r base 23 v)
    (h : DataW.Trod enc Try.prog W 0 (fun _ => true) true 23 v d pl) : ∃ p : P, v = .agg #[.int .i64 p.r, .int .i64 p.b, .int .i64 p.f, .int .i64 p.c] ∧ p.Fits := by
  obtain ⟨cs, rfl, hsz⟩ := okWide_struct Try.underlying23 hv
  rw [cellsP] at hsz
  obtain ⟨l⟩ := cs
  match l, hsz with
  | [c0, c1, c2, c3], _ =>
  obtain ⟨fuel, hf⟩ := h
  obtain ⟨y0, y1, y2, y3, m, hx, _, hy0, hy1, hy2, hy3⟩ := Joins.trod_struct4 Try.underlying23 hf
  obtain ⟨x0, e0, _, w0⟩ := DataW.trod_int Try.underlying3 hy0
  obtain ⟨x1, e1, _, w1⟩ := DataW.trod_int Try.underlying3 hy1
  obtain ⟨x2, e2, _, w2⟩ := DataW.trod_int Try.underlying3 hy2
  obtain ⟨x3, e3, _, w3⟩ := DataW.trod_int Try.underlying3 hy3
  simp [Value.cells, cellsI] at e0 e1 e2 e3
  subst e0 e1 e2 e3
  exact ⟨⟨x0, x1, x2, x3⟩, rfl, fits w0 rfl rfl, fits w1 rfl rfl, fits w2 rfl rfl, fits w3 rfl rfl⟩
/-- the plan's own block, as a law lays it, behind awake -/
theorem own_box {p : P} {w w' : World} (h : Below (w.alloc (.cells #[.int .i64 p.r, .int .i64 p.b, .int .i64 p.f, .int .i64 p.c] 23)).heap.size (w.alloc (.cells #[.int .i64 p.r, .int .i64 p.b, .int .i64 p.f, .int .i64 p.c] 23)) w') : Box w' w.heap.size 23 p.cells :=
  (Box.new w _ _).below h (Box.new w 23 p.cells).lt
theorem own_cells {p : P} {w w' : World} (h : Below (w.alloc (.cells #[.int .i64 p.r, .int .i64 p.b, .int .i64 p.f, .int .i64 p.c] 23)).heap.size (w.alloc (.cells #[.int .i64 p.r, .int .i64 p.b, .int .i64 p.f, .int .i64 p.c] 23)) w') :
    w'.cell? ⟨w.heap.size, 0, none⟩ = some (.int .i64 p.r) ∧ w'.cell? ⟨w.heap.size, 1, none⟩ = some (.int .i64 p.b) ∧ w'.cell? ⟨w.heap.size, 2, none⟩ = some (.int .i64 p.f) ∧ w'.cell? ⟨w.heap.size, 3, none⟩ = some (.int .i64 p.c) :=
  ⟨Pc0 (own_box h), Pc1 (own_box h), Pc2 (own_box h), Pc3 (own_box h)⟩
theorem below_own {w w' : World} {o : Obj} (h : Below (w.alloc o).heap.size (w.alloc o) w') : Below w.heap.size w w' :=
  (Made.alloc w o).below.trans (h.mono (Made.alloc w o).below.size)
theorem own_then {p : P} {w w1 w2 : World} (h : Below (w.alloc (.cells #[.int .i64 p.r, .int .i64 p.b, .int .i64 p.f, .int .i64 p.c] 23)).heap.size (w.alloc (.cells #[.int .i64 p.r, .int .i64 p.b, .int .i64 p.f, .int .i64 p.c] 23)) w1) (hm : Made w1 w2) :
    Box w2 w.heap.size 23 p.cells ∧ Below w.heap.size w w2 := ⟨Box.made (own_box h) hm, (below_own h).trans (hm.below.mono (below_own h).size)⟩
theorem then_made {p : P} {w w1 w2 : World} {g : Nat} (h : Box w1 g 23 p.cells ∧ Below w.heap.size w w1) (hm : Made w1 w2) : Box w2 g 23 p.cells ∧ Below w.heap.size w w2 :=
  ⟨Box.made h.1 hm, h.2.trans (hm.below.mono h.2.size)⟩
end Go.Proofs.Ytjkjondfechogaa.Bo
