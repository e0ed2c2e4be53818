/-
  The memory of definitions: a step is twelve cells, a definition three, the last of which is a slice of steps; an argument by value, opened; steps that are compared.
  Conditions: as each theorem names them.
-/
import Derived.Test.YteejocnogpaifaaGreatDoorEls
import Derived.Test.YteejocnogpaifaaGreatDoorDefMath
import Derived.Test.YteejocnogpaifaaGreatDoorBofGood
import Derived.Test.YteejocnogpaifaaGreatDoorRows
import Derived.Laws.StructEq
import Derived.Deep.Strs
import Derived.Lib.SmallJoins
namespace Go.Proofs.YteejocnogpaifaaGreatDoor.Df
open Go.ChangeShapes Go.WideShapes Go.ChangeAt Go.RowKit
open Go.Proofs.YteejocnogpaifaaGreatDoor.Bo (P ret_int ret_bool)
open Go.Proofs.YteejocnogpaifaaGreatDoor.El

def Stp.cells (s : Stp) : List Value := [.string s.nm, .string s.pt, .int .i64 s.tm, .int .i64 s.t.r, .int .i64 s.t.b, .int .i64 s.t.f, .int .i64 s.t.c, .int .i64 s.u.r, .int .i64 s.u.b, .int .i64 s.u.f, .int .i64 s.u.c, .int .i64 s.pr]
def Stp.arr (s : Stp) : Array Value := #[.string s.nm, .string s.pt, .int .i64 s.tm, .int .i64 s.t.r, .int .i64 s.t.b, .int .i64 s.t.f, .int .i64 s.t.c, .int .i64 s.u.r, .int .i64 s.u.b, .int .i64 s.u.f, .int .i64 s.u.c, .int .i64 s.pr]
/-- the slice at A has the steps ss -/
abbrev Steps (w : World) (B : Nat) (A : Option Addr) (ss : List Stp) : Prop := Els Stp.cells 12 w B A ss
/-- texts of a size that a text may have -/
def Stp.Fits (s : Stp) : Prop := s.nm.size ≤ 9223372036854775807 ∧ s.pt.size ≤ 9223372036854775807
theorem own : ownKnob Tryz.prog.godebug = none := by kernel_rfl
theorem laidOut : laidOutB Tryz.prog = true := by kernel_rfl
theorem cellsI : Tryz.prog.cellsOf 3 = 1 := by kernel_rfl
theorem cellsStr : Tryz.prog.cellsOf 9 = 1 := by kernel_rfl
theorem cellsP : Tryz.prog.cellsOf 52 = 4 := by kernel_rfl
theorem cellsSl : Tryz.prog.cellsOf 31 = 1 := by kernel_rfl
theorem cellsD : Tryz.prog.cellsOf 33 = 3 := by kernel_rfl
set_option maxRecDepth 100000 in
theorem open_plan {H : Type} {enc : TypeId × Value → H} {W : World} {fuel : Nat} {cs : List Value} {x : DataW H × List MemPlace} (h : DataW.trod enc Tryz.prog W 0 (fun _ => true) true fuel 52 cs = some x) (hl : cs.length = 4) :
    ∃ p : P, cs = [.int .i64 p.r, .int .i64 p.b, .int .i64 p.f, .int .i64 p.c] := by
  obtain ⟨y0, y1, y2, y3, m, hx, _, hy0, hy1, hy2, hy3⟩ := Joins.trod_struct4 Tryz.underlying52 h
  obtain ⟨x0, e0, _, _⟩ := DataW.trod_int Tryz.underlying3 hy0
  obtain ⟨x1, e1, _, _⟩ := DataW.trod_int Tryz.underlying3 hy1
  obtain ⟨x2, e2, _, _⟩ := DataW.trod_int Tryz.underlying3 hy2
  obtain ⟨x3, e3, _, _⟩ := DataW.trod_int Tryz.underlying3 hy3
  match cs, hl with
  | [c0, c1, c2, c3], _ =>
    simp [cellsI] at e0 e1 e2 e3
    subst e0 e1 e2 e3
    exact ⟨⟨x0, x1, x2, x3⟩, rfl⟩
set_option maxRecDepth 100000 in
theorem open_step {H : Type} {enc : TypeId × Value → H} {W : World} (fuel : Nat) (cs : List Value) (x : DataW H × List MemPlace) (h : DataW.trod enc Tryz.prog W 0 (fun _ => true) true fuel 54 cs = some x) (hl : cs.length = 12) :
    ∃ s : Stp, s.Fits ∧ cs = s.cells := by
  obtain ⟨ys, n', _, _, _, hyl, hfld⟩ := DataW.trod_struct Tryz.underlying54 h
  simp only [List.size_toArray, List.length_cons, List.length_nil, Nat.reduceAdd] at hyl
  have e0 : DataW.trod enc Tryz.prog W 0 (fun _ => true) true n' 9 ((cs.drop 0).take (Tryz.prog.cellsOf 9)) = ys[0]? := hfld 0 _ rfl
  have e1 : DataW.trod enc Tryz.prog W 0 (fun _ => true) true n' 9 ((cs.drop 1).take (Tryz.prog.cellsOf 9)) = ys[1]? := hfld 1 _ rfl
  have e2 : DataW.trod enc Tryz.prog W 0 (fun _ => true) true n' 3 ((cs.drop 2).take (Tryz.prog.cellsOf 3)) = ys[2]? := hfld 2 _ rfl
  have e3 : DataW.trod enc Tryz.prog W 0 (fun _ => true) true n' 52 ((cs.drop 3).take (Tryz.prog.cellsOf 52)) = ys[3]? := hfld 3 _ rfl
  have e4 : DataW.trod enc Tryz.prog W 0 (fun _ => true) true n' 52 ((cs.drop 7).take (Tryz.prog.cellsOf 52)) = ys[4]? := hfld 4 _ rfl
  have e5 : DataW.trod enc Tryz.prog W 0 (fun _ => true) true n' 3 ((cs.drop 11).take (Tryz.prog.cellsOf 3)) = ys[5]? := hfld 5 _ rfl
  match cs, hl, ys, hyl with
  | [c0, c1, c2, c3, c4, c5, c6, c7, c8, c9, c10, c11], _, [y0, y1, y2, y3, y4, y5], _ =>
    simp only [cellsI, cellsStr, cellsP, List.drop_zero, List.drop_succ_cons, List.take_succ_cons, List.take_zero, List.getElem?_cons_zero, List.getElem?_cons_succ] at e0 e1 e2 e3 e4 e5
    obtain ⟨x0, q0, _, w0⟩ := DataW.trod_string Tryz.underlying9 e0
    obtain ⟨x1, q1, _, w1⟩ := DataW.trod_string Tryz.underlying9 e1
    obtain ⟨x2, q2, _, _⟩ := DataW.trod_int Tryz.underlying3 e2
    obtain ⟨p3, q3⟩ := open_plan e3 rfl
    obtain ⟨p4, q4⟩ := open_plan e4 rfl
    obtain ⟨x5, q5, _, _⟩ := DataW.trod_int Tryz.underlying3 e5
    simp only [List.cons.injEq, and_true] at q0 q1 q2 q3 q4 q5
    obtain ⟨rfl, rfl, rfl, rfl⟩ := q3
    obtain ⟨rfl, rfl, rfl, rfl⟩ := q4
    subst q0 q1 q2 q5
    exact ⟨⟨x0, x1, x2, p3, p4, x5⟩, ⟨by unfold maxLen at w0; exact by omega, by unfold maxLen at w1; exact by omega⟩, rfl⟩
set_option maxRecDepth 100000 in
/-- an argument: a definition by value -/
theorem arg_def {H : Type} {enc : TypeId × Value → H} {W : World} {r : Reach} {base : Nat} {v : Value} {d : DataW H} {pl : List MemPlace} (hv : Value.okWide Tryz.prog W r base 33 v)
    (h : DataW.Trod enc Tryz.prog W 0 (fun _ => true) true 33 v d pl) :
    ∃ (nm : ByteArray) (dl : Int) (A : Option Addr) (c : Nat) (ss : List Stp), v = .agg #[.string nm, .int .i64 dl, .slice A ss.length c] ∧ nm.size ≤ 9223372036854775807 ∧ ss.length ≤ 9223372036854775807 ∧ ss.length ≤ c ∧ (∀ s ∈ ss, s.Fits) ∧ Steps W W.heap.size A ss ∧ (A = none → ss = [] ∧ c = 0) := by
  obtain ⟨cs, rfl, hsz⟩ := okWide_struct Tryz.underlying33 hv
  rw [cellsD] at hsz
  obtain ⟨l⟩ := cs
  match l, hsz with
  | [c0, c1, c2], _ =>
  obtain ⟨fuel, hf⟩ := h
  obtain ⟨y0, y1, y2, m, hx, _, hy0, hy1, hy2⟩ := Deep.trod_struct3 Tryz.underlying33 hf
  obtain ⟨x0, e0, _, w0⟩ := DataW.trod_string Tryz.underlying9 hy0
  obtain ⟨x1, e1, _, w1⟩ := DataW.trod_int Tryz.underlying3 hy1
  obtain ⟨a0, len, cap, ss, e2, hn, hc, hm, hg, hE, hnil⟩ := els_of (⟨⟨#[]⟩, ⟨#[]⟩, 0, ⟨0, 0, 0, 0⟩, ⟨0, 0, 0, 0⟩, 0⟩ : Stp) Stp.cells Stp.Fits 12 (by omega) Tryz.underlying31 (by kernel_rfl) open_step hy2
  simp [Value.cells, cellsI, cellsStr, cellsSl] at e0 e1 e2
  subst e0 e1 e2 hn
  exact ⟨x0, x1, a0, cap, ss, rfl, by unfold maxLen at w0; exact by omega, hm, hc, hg, hE, fun h => ⟨List.eq_nil_of_length_eq_zero (hnil h).1, (hnil h).2⟩⟩

/-! ### Steps compared -/
theorem fieldsP : Tryz.prog.underlying 52 = some (.struct (Tryz.prog.fieldsOf 52)) := by kernel_rfl
theorem bytes_beq (a b : ByteArray) : (a.toList == b.toList) = decide (a = b) := by
  rw [ByteArray.toList_eq, ByteArray.toList_eq, Bool.eq_iff_iff, beq_iff_eq, decide_eq_true_eq]
  constructor
  · intro h
    exact ByteArray.ext (Array.toList_inj.1 h)
  · rintro rfl
    rfl
end Go.Proofs.YteejocnogpaifaaGreatDoor.Df
