/-
  An argument: an event by value, opened.
  Conditions: none.
-/
import Derived.Test.YteejocnogpaifaaGreatDoorCodGood
namespace Go.Proofs.YteejocnogpaifaaGreatDoor.Co
open Go.ChangeShapes Go.WideShapes Go.ChangeAt Go.RowKit
open Go.Proofs.YteejocnogpaifaaGreatDoor.El
open Go.Proofs.YteejocnogpaifaaGreatDoor.Df
open Go.Proofs.YteejocnogpaifaaGreatDoor.Bo (P Made ret_int ret_bool)
open Go.Proofs.YteejocnogpaifaaGreatDoor.Sa (Sg Rp)

theorem cellsRp : Tryz.prog.cellsOf 30 = 5 := by kernel_rfl
theorem cellsEv : Tryz.prog.cellsOf 35 = 12 := by kernel_rfl
theorem u16_wf {x : Int} (h : (Lit.int .u16 x).wf = true) : 0 ≤ x ∧ x ≤ 65535 := by
  have h1 : IntKind.u16.min = 0 := rfl
  have h2 : IntKind.u16.max = 65535 := rfl
  simp only [Lit.wf, Bool.and_eq_true, decide_eq_true_eq] at h
  omega
section
variable {H : Type} {enc : TypeId × Value → H} {W : World}
set_option maxRecDepth 100000 in
theorem open_reply (fuel : Nat) (cs : List Value) (x : DataW H × List MemPlace) (h : DataW.trod enc Tryz.prog W 0 (fun _ => true) true fuel 30 cs = some x) (hl : cs.length = 5) : ∃ r : Rp, cs = [.int .i64 r.sg, .int .i64 r.sp, .bool r.un, .int .i64 r.tr, .bool r.good] := by
  obtain ⟨ys, n', _, _, _, hyl, hfld⟩ := DataW.trod_struct Tryz.underlying30 h
  simp only [List.size_toArray, List.length_cons, List.length_nil, Nat.reduceAdd] at hyl
  have e0 : DataW.trod enc Tryz.prog W 0 (fun _ => true) true n' 3 ((cs.drop 0).take (Tryz.prog.cellsOf 3)) = ys[0]? := hfld 0 _ rfl
  have e1 : DataW.trod enc Tryz.prog W 0 (fun _ => true) true n' 3 ((cs.drop 1).take (Tryz.prog.cellsOf 3)) = ys[1]? := hfld 1 _ rfl
  have e2 : DataW.trod enc Tryz.prog W 0 (fun _ => true) true n' 4 ((cs.drop 2).take (Tryz.prog.cellsOf 4)) = ys[2]? := hfld 2 _ rfl
  have e3 : DataW.trod enc Tryz.prog W 0 (fun _ => true) true n' 3 ((cs.drop 3).take (Tryz.prog.cellsOf 3)) = ys[3]? := hfld 3 _ rfl
  have e4 : DataW.trod enc Tryz.prog W 0 (fun _ => true) true n' 4 ((cs.drop 4).take (Tryz.prog.cellsOf 4)) = ys[4]? := hfld 4 _ rfl
  match cs, hl, ys, hyl with
  | [c0, c1, c2, c3, c4], _, [y0, y1, y2, y3, y4], _ =>
    simp only [cellsI, cellsBo, List.drop_zero, List.drop_succ_cons, List.take_succ_cons, List.take_zero, List.getElem?_cons_zero, List.getElem?_cons_succ] at e0 e1 e2 e3 e4
    obtain ⟨x0, q0, _, _⟩ := DataW.trod_int Tryz.underlying3 e0
    obtain ⟨x1, q1, _, _⟩ := DataW.trod_int Tryz.underlying3 e1
    obtain ⟨x2, q2, _⟩ := DataW.trod_bool Tryz.underlying4 e2
    obtain ⟨x3, q3, _, _⟩ := DataW.trod_int Tryz.underlying3 e3
    obtain ⟨x4, q4, _⟩ := DataW.trod_bool Tryz.underlying4 e4
    simp only [List.cons.injEq, and_true] at q0 q1 q2 q3 q4
    subst q0 q1 q2 q3 q4
    exact ⟨⟨x0, x1, x2, x3, x4⟩, rfl⟩
set_option maxRecDepth 100000 in
theorem open_def (fuel : Nat) (cs : List Value) (x : DataW H × List MemPlace) (h : DataW.trod enc Tryz.prog W 0 (fun _ => true) true fuel 33 cs = some x) (hl : cs.length = 3) :
    ∃ (nm : ByteArray) (dl : Int) (A : Option Addr) (c : Nat) (ss : List Stp), cs = [.string nm, .int .i64 dl, .slice A ss.length c] ∧ nm.size ≤ 9223372036854775807 ∧ ss.length ≤ 9223372036854775807 ∧ ss.length ≤ c ∧ (∀ s ∈ ss, s.Fits) ∧ Df.Steps W W.heap.size A ss := by
  match cs, hl with
  | [c0, c1, c2], _ =>
  obtain ⟨d, pl⟩ := x
  obtain ⟨y0, y1, y2, m, hx, _, hy0, hy1, hy2⟩ := Deep.trod_struct3 Tryz.underlying33 h
  obtain ⟨x0, e0, _, w0⟩ := DataW.trod_string Tryz.underlying9 hy0
  obtain ⟨x1, e1, _, w1⟩ := DataW.trod_int Tryz.underlying3 hy1
  obtain ⟨a0, len, cap, ss, e2, hn, hc, hm, hg, hE, hnil⟩ := els_of (⟨⟨#[]⟩, ⟨#[]⟩, 0, ⟨0, 0, 0, 0⟩, ⟨0, 0, 0, 0⟩, 0⟩ : Stp) Stp.cells Stp.Fits 12 (by omega) Tryz.underlying31 (by kernel_rfl) open_step hy2
  simp [cellsI, cellsStr, cellsSl] at e0 e1 e2
  subst e0 e1 e2 hn
  exact ⟨x0, x1, a0, cap, ss, rfl, by unfold maxLen at w0; exact by omega, hm, hc, hg, hE⟩
set_option maxRecDepth 100000 in
/-- an argument: an event by value -/
theorem arg_ev {r : Reach} {base : Nat} {v : Value} {d : DataW H} {pl : List MemPlace} (hv : Value.okWide Tryz.prog W r base 35 v)
    (h : DataW.Trod enc Tryz.prog W 0 (fun _ => true) true 35 v d pl) :
    ∃ (x : Ev) (A : Option Addr) (c : Nat), v = .agg #[.int .i64 x.k, .int .i64 x.now, .int .i64 x.sg, .string x.nm, .int .i64 x.r.sg, .int .i64 x.r.sp, .bool x.r.un, .int .i64 x.r.tr, .bool x.r.good, .string x.dn, .int .i64 x.dl, .slice A x.ss.length c] ∧
      (x.nm.size ≤ 9223372036854775807 ∧ x.dn.size ≤ 9223372036854775807) ∧ x.ss.length ≤ 9223372036854775807 ∧ x.ss.length ≤ c ∧ (∀ s ∈ x.ss, s.Fits) ∧ Df.Steps W W.heap.size A x.ss := by
  obtain ⟨cs, rfl, hsz⟩ := okWide_struct Tryz.underlying35 hv
  rw [cellsEv] at hsz
  obtain ⟨cs⟩ := cs
  obtain ⟨fuel, hf⟩ := h
  replace hf : DataW.trod enc Tryz.prog W 0 (fun _ => true) true fuel 35 cs = some (d, pl) := hf
  obtain ⟨ys, n', _, hx, _, hyl, hfld⟩ := DataW.trod_struct Tryz.underlying35 hf
  simp only [List.size_toArray, List.length_cons, List.length_nil, Nat.reduceAdd] at hyl
  have e0 : DataW.trod enc Tryz.prog W 0 (fun _ => true) true n' 3 ((cs.drop 0).take (Tryz.prog.cellsOf 3)) = ys[0]? := hfld 0 _ rfl
  have e1 : DataW.trod enc Tryz.prog W 0 (fun _ => true) true n' 3 ((cs.drop 1).take (Tryz.prog.cellsOf 3)) = ys[1]? := hfld 1 _ rfl
  have e2 : DataW.trod enc Tryz.prog W 0 (fun _ => true) true n' 3 ((cs.drop 2).take (Tryz.prog.cellsOf 3)) = ys[2]? := hfld 2 _ rfl
  have e3 : DataW.trod enc Tryz.prog W 0 (fun _ => true) true n' 9 ((cs.drop 3).take (Tryz.prog.cellsOf 9)) = ys[3]? := hfld 3 _ rfl
  have e4 : DataW.trod enc Tryz.prog W 0 (fun _ => true) true n' 30 ((cs.drop 4).take (Tryz.prog.cellsOf 30)) = ys[4]? := hfld 4 _ rfl
  have e5 : DataW.trod enc Tryz.prog W 0 (fun _ => true) true n' 33 ((cs.drop 9).take (Tryz.prog.cellsOf 33)) = ys[5]? := hfld 5 _ rfl
  match cs, hsz, ys, hyl with
  | [c0, c1, c2, c3, c4, c5, c6, c7, c8, c9, c10, c11], _, [y0, y1, y2, y3, y4, y5], _ =>
    simp only [cellsI, cellsStr, cellsRp, cellsD, List.drop_zero, List.drop_succ_cons, List.take_succ_cons, List.take_zero, List.getElem?_cons_zero, List.getElem?_cons_succ] at e0 e1 e2 e3 e4 e5
    obtain ⟨x0, q0, _, _⟩ := DataW.trod_int Tryz.underlying3 e0
    obtain ⟨x1, q1, _, _⟩ := DataW.trod_int Tryz.underlying3 e1
    obtain ⟨x2, q2, _, _⟩ := DataW.trod_int Tryz.underlying3 e2
    obtain ⟨x3, q3, _, w3⟩ := DataW.trod_string Tryz.underlying9 e3
    obtain ⟨x4, q4⟩ := open_reply _ _ _ e4 rfl
    obtain ⟨nm, dl, A, c, ss, q5, hz, hn, hc, hg, hE⟩ := open_def _ _ _ e5 rfl
    simp only [List.cons.injEq, and_true] at q0 q1 q2 q3 q4 q5
    obtain ⟨rfl, rfl, rfl, rfl, rfl⟩ := q4
    obtain ⟨rfl, rfl, rfl⟩ := q5
    subst q0 q1 q2 q3
    exact ⟨⟨x0, x1, x2, x3, x4, nm, dl, ss⟩, A, c, rfl, ⟨by unfold maxLen at w3; exact by omega, hz⟩, hn, hc, hg, hE⟩
end
end Go.Proofs.YteejocnogpaifaaGreatDoor.Co
