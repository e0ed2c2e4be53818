/-
  An argument: a slice of events, opened.
  Conditions: none.
-/
import Derived.Test.YteejocnogpaifaaGreatDoorCodEvArg
namespace Go.Proofs.YteejocnogpaifaaGreatDoor.Tt
open Go.ChangeShapes Go.WideShapes Go.ChangeAt Go.RowKit
open Go.Proofs.YteejocnogpaifaaGreatDoor.El
open Go.Proofs.YteejocnogpaifaaGreatDoor.Df
open Go.Proofs.YteejocnogpaifaaGreatDoor.Co (Ev)
open Go.Proofs.YteejocnogpaifaaGreatDoor.Sa (Sg Rp)

/-- an event, and where its steps lie -/
structure EX where
  v : Ev
  A : Option Addr
  c : Nat
def EX.cells (e : EX) : List Value := [.int .i64 e.v.k, .int .i64 e.v.now, .int .i64 e.v.sg, .string e.v.nm, .int .i64 e.v.r.sg, .int .i64 e.v.r.sp, .bool e.v.r.un, .int .i64 e.v.r.tr, .bool e.v.r.good, .string e.v.dn, .int .i64 e.v.dl, .slice e.A e.v.ss.length e.c]
theorem ex_len (e : EX) : e.cells.length = 12 := rfl
structure EX.Fits (W : World) (e : EX) : Prop where
  nm : e.v.nm.size ≤ 9223372036854775807
  dn : e.v.dn.size ≤ 9223372036854775807
  len : e.v.ss.length ≤ 9223372036854775807
  cap : e.v.ss.length ≤ e.c
  each : ∀ s ∈ e.v.ss, s.Fits
  mem : Df.Steps W W.heap.size e.A e.v.ss
  nil : e.A = none → e.v.ss.length = 0 ∧ e.c = 0
theorem EX.Fits.on {W U : World} {e : EX} (h : e.Fits W) (hb : Below W.heap.size W U) : e.Fits U := ⟨h.nm, h.dn, h.len, h.cap, h.each, h.mem.on hb, h.nil⟩
section
variable {H : Type} {enc : TypeId × Value → H} {W : World}
set_option maxRecDepth 100000 in
theorem open_def16 (fuel : Nat) (cs : List Value) (x : DataW H × List MemPlace) (h : DataW.trod enc Tryz.prog W 0 (fun _ => true) true fuel 33 cs = some x) (hl : cs.length = 3) :
    ∃ (nm : ByteArray) (dl : Int) (A : Option Addr) (c : Nat) (ss : List Stp), cs = [.string nm, .int .i64 dl, .slice A ss.length c] ∧ nm.size ≤ 9223372036854775807 ∧ ss.length ≤ 9223372036854775807 ∧ ss.length ≤ c ∧ (∀ s ∈ ss, s.Fits) ∧ Df.Steps W W.heap.size A ss ∧ (A = none → ss.length = 0 ∧ c = 0) := by
  match cs, hl with
  | [c0, c1, c2], _ =>
  obtain ⟨d, pl⟩ := x
  obtain ⟨y0, y1, y2, m, hx, _, hy0, hy1, hy2⟩ := Deep.trod_struct3 Tryz.underlying33 h
  obtain ⟨x0, e0, _, w0⟩ := DataW.trod_string Tryz.underlying9 hy0
  obtain ⟨x1, e1, _, w1⟩ := DataW.trod_int Tryz.underlying3 hy1
  obtain ⟨a0, len, cap, ss, e2, hn, hc, hm, hg, hE, hnil⟩ := els_of (⟨⟨#[]⟩, ⟨#[]⟩, 0, ⟨0, 0, 0, 0⟩, ⟨0, 0, 0, 0⟩, 0⟩ : Stp) Stp.cells Stp.Fits 12 (by omega) Tryz.underlying31 (by kernel_rfl) open_step hy2
  simp [cellsI, cellsStr, cellsSl] at e0 e1 e2
  subst e0 e1 e2 hn
  exact ⟨x0, x1, a0, cap, ss, rfl, by unfold maxLen at w0; exact by omega, hm, hc, hg, hE, hnil⟩
set_option maxRecDepth 100000 in
theorem open_ev (fuel : Nat) (cs : List Value) (x : DataW H × List MemPlace) (h : DataW.trod enc Tryz.prog W 0 (fun _ => true) true fuel 35 cs = some x) (hl : cs.length = 12) : ∃ e : EX, e.Fits W ∧ cs = e.cells := by
  obtain ⟨ys, n', _, hx, _, hyl, hfld⟩ := DataW.trod_struct Tryz.underlying35 h
  simp only [List.size_toArray, List.length_cons, List.length_nil, Nat.reduceAdd] at hyl
  have e0 : DataW.trod enc Tryz.prog W 0 (fun _ => true) true n' 3 ((cs.drop 0).take (Tryz.prog.cellsOf 3)) = ys[0]? := hfld 0 _ rfl
  have e1 : DataW.trod enc Tryz.prog W 0 (fun _ => true) true n' 3 ((cs.drop 1).take (Tryz.prog.cellsOf 3)) = ys[1]? := hfld 1 _ rfl
  have e2 : DataW.trod enc Tryz.prog W 0 (fun _ => true) true n' 3 ((cs.drop 2).take (Tryz.prog.cellsOf 3)) = ys[2]? := hfld 2 _ rfl
  have e3 : DataW.trod enc Tryz.prog W 0 (fun _ => true) true n' 9 ((cs.drop 3).take (Tryz.prog.cellsOf 9)) = ys[3]? := hfld 3 _ rfl
  have e4 : DataW.trod enc Tryz.prog W 0 (fun _ => true) true n' 30 ((cs.drop 4).take (Tryz.prog.cellsOf 30)) = ys[4]? := hfld 4 _ rfl
  have e5 : DataW.trod enc Tryz.prog W 0 (fun _ => true) true n' 33 ((cs.drop 9).take (Tryz.prog.cellsOf 33)) = ys[5]? := hfld 5 _ rfl
  match cs, hl, ys, hyl with
  | [c0, c1, c2, c3, c4, c5, c6, c7, c8, c9, c10, c11], _, [y0, y1, y2, y3, y4, y5], _ =>
    simp only [cellsI, cellsStr, Co.cellsRp, cellsD, List.drop_zero, List.drop_succ_cons, List.take_succ_cons, List.take_zero, List.getElem?_cons_zero, List.getElem?_cons_succ] at e0 e1 e2 e3 e4 e5
    obtain ⟨x0, q0, _, _⟩ := DataW.trod_int Tryz.underlying3 e0
    obtain ⟨x1, q1, _, _⟩ := DataW.trod_int Tryz.underlying3 e1
    obtain ⟨x2, q2, _, _⟩ := DataW.trod_int Tryz.underlying3 e2
    obtain ⟨x3, q3, _, w3⟩ := DataW.trod_string Tryz.underlying9 e3
    obtain ⟨x4, q4⟩ := Co.open_reply _ _ _ e4 rfl
    obtain ⟨nm, dl, A, c, ss, q5, hz, hn, hc, hg, hE, hnil⟩ := open_def16 _ _ _ e5 rfl
    simp only [List.cons.injEq, and_true] at q0 q1 q2 q3 q4 q5
    obtain ⟨rfl, rfl, rfl, rfl, rfl⟩ := q4
    obtain ⟨rfl, rfl, rfl⟩ := q5
    subst q0 q1 q2 q3
    exact ⟨⟨⟨x0, x1, x2, x3, x4, nm, dl, ss⟩, A, c⟩, ⟨by unfold maxLen at w3; exact by omega, hz, hn, hc, hg, hE, hnil⟩, rfl⟩
set_option maxRecDepth 100000 in
/-- an argument: a slice of events -/
theorem arg_evs {r : Reach} {base : Nat} {v : Value} {d : DataW H} {pl : List MemPlace} (hv : Value.okWide Tryz.prog W r base 22 v)
    (h : DataW.Trod enc Tryz.prog W 0 (fun _ => true) true 22 v d pl) :
    ∃ (A : Option Addr) (c : Nat) (l : List EX), v = .slice A l.length c ∧ l.length ≤ 9223372036854775807 ∧ (∀ e ∈ l, e.Fits W) ∧ Els EX.cells 12 W W.heap.size A l := by
  obtain ⟨a, len, cap, rfl⟩ := okWide_slice Tryz.underlying22 hv
  obtain ⟨fuel, hf⟩ := h
  obtain ⟨a0, len', cap', l, e2, hn, hc, hm, hg, hE, _⟩ := els_of (⟨⟨0, 0, 0, ⟨#[]⟩, ⟨0, 0, false, 0, false⟩, ⟨#[]⟩, 0, []⟩, none, 0⟩ : EX) EX.cells (EX.Fits W) 12 (by omega) Tryz.underlying22 (by kernel_rfl) open_ev hf
  simp [Value.cells] at e2
  obtain ⟨rfl, rfl, rfl⟩ := e2
  subst hn
  exact ⟨a, cap, l, rfl, hm, hg, hE⟩
end
end Go.Proofs.YteejocnogpaifaaGreatDoor.Tt
