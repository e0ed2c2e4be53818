/-
  Arguments, opened with the form's reach: a saga by value, an act, a slice of acts.
  Conditions: none.
-/
import Derived.Test.YtkmldgcnbjjbcaaGreatDoorSagArg
import Derived.Test.YtkmldgcnbjjbcaaGreatDoorSagActs
namespace Go.Proofs.YtkmldgcnbjjbcaaGreatDoor.Sa
open Go.ChangeShapes Go.WideShapes Go.ChangeAt Go.RowKit
open Go.Proofs.YtkmldgcnbjjbcaaGreatDoor.El
open Go.Proofs.YtkmldgcnbjjbcaaGreatDoor.Df

theorem cellsBo : Tryz.prog.cellsOf 4 = 1 := by kernel_rfl
theorem cellsRp : Tryz.prog.cellsOf 28 = 5 := by kernel_rfl
theorem cellsAc : Tryz.prog.cellsOf 30 = 7 := by kernel_rfl
theorem cellsSg : Tryz.prog.cellsOf 26 = 9 := by kernel_rfl
theorem cellsAs : Tryz.prog.cellsOf 44 = 1 := by kernel_rfl
def Rp.cells (r : Rp) : List Value := [.int .i64 r.sg, .int .i64 r.sp, .bool r.un, .int .i64 r.tr, .bool r.good]
def Ac.cells (a : Ac) : List Value := [.int .i64 a.k, .int .i64 a.now, .int .i64 a.r.sg, .int .i64 a.r.sp, .bool a.r.un, .int .i64 a.r.tr, .bool a.r.good]
def Sg.Fits (s : Sg) : Prop := (s.id ≤ 9223372036854775807 ∧ s.tr ≤ 9223372036854775807) ∧ s.dn.size ≤ 140737488355328
section
variable {H : Type} {enc : TypeId × Value → H} {W : World}
set_option maxRecDepth 100000 in
theorem open_reply (fuel : Nat) (cs : List Value) (x : DataW H × List MemPlace) (h : DataW.trod enc Tryz.prog W 0 (fun _ => true) true fuel 28 cs = some x) (hl : cs.length = 5) : ∃ r : Rp, cs = r.cells := by
  obtain ⟨ys, n', _, _, _, hyl, hfld⟩ := DataW.trod_struct Tryz.underlying28 h
  simp only [List.size_toArray, List.length_cons, List.length_nil, Nat.reduceAdd] at hyl
  have e0 : DataW.trod enc Tryz.prog W 0 (fun _ => true) true n' 3 ((cs.drop 0).take (Tryz.prog.cellsOf 3)) = ys[0]? := hfld 0 _ rfl
  have e1 : DataW.trod enc Tryz.prog W 0 (fun _ => true) true n' 3 ((cs.drop 1).take (Tryz.prog.cellsOf 3)) = ys[1]? := hfld 1 _ rfl
  have e2 : DataW.trod enc Tryz.prog W 0 (fun _ => true) true n' 4 ((cs.drop 2).take (Tryz.prog.cellsOf 4)) = ys[2]? := hfld 2 _ rfl
  have e3 : DataW.trod enc Tryz.prog W 0 (fun _ => true) true n' 3 ((cs.drop 3).take (Tryz.prog.cellsOf 3)) = ys[3]? := hfld 3 _ rfl
  have e4 : DataW.trod enc Tryz.prog W 0 (fun _ => true) true n' 4 ((cs.drop 4).take (Tryz.prog.cellsOf 4)) = ys[4]? := hfld 4 _ rfl
  match cs, hl, ys, hyl with
  | [c0, c1, c2, c3, c4], _, [y0, y1, y2, y3, y4], _ =>
    simp only [cellsI, cellsBo, List.drop_zero, List.drop_succ_cons, List.take_succ_cons, List.take_zero, List.getElem?_cons_zero, List.getElem?_cons_succ] at e0 e1 e2 e3 e4
    obtain ⟨x0, q0, _, _⟩ := DataW.trod_int Tryz.underlying3 e0
    obtain ⟨x1, q1, _, _⟩ := DataW.trod_int Tryz.underlying3 e1
    obtain ⟨x2, q2, _⟩ := DataW.trod_bool Tryz.underlying4 e2
    obtain ⟨x3, q3, _, _⟩ := DataW.trod_int Tryz.underlying3 e3
    obtain ⟨x4, q4, _⟩ := DataW.trod_bool Tryz.underlying4 e4
    simp only [List.cons.injEq, and_true] at q0 q1 q2 q3 q4
    subst q0 q1 q2 q3 q4
    exact ⟨⟨x0, x1, x2, x3, x4⟩, rfl⟩
set_option maxRecDepth 100000 in
theorem open_act (fuel : Nat) (cs : List Value) (x : DataW H × List MemPlace) (h : DataW.trod enc Tryz.prog W 0 (fun _ => true) true fuel 30 cs = some x) (hl : cs.length = 7) : ∃ a : Ac, True ∧ cs = a.cells := by
  obtain ⟨ys, n', _, _, _, hyl, hfld⟩ := DataW.trod_struct Tryz.underlying30 h
  simp only [List.size_toArray, List.length_cons, List.length_nil, Nat.reduceAdd] at hyl
  have e0 : DataW.trod enc Tryz.prog W 0 (fun _ => true) true n' 3 ((cs.drop 0).take (Tryz.prog.cellsOf 3)) = ys[0]? := hfld 0 _ rfl
  have e1 : DataW.trod enc Tryz.prog W 0 (fun _ => true) true n' 3 ((cs.drop 1).take (Tryz.prog.cellsOf 3)) = ys[1]? := hfld 1 _ rfl
  have e2 : DataW.trod enc Tryz.prog W 0 (fun _ => true) true n' 28 ((cs.drop 2).take (Tryz.prog.cellsOf 28)) = ys[2]? := hfld 2 _ rfl
  match cs, hl, ys, hyl with
  | [c0, c1, c2, c3, c4, c5, c6], _, [y0, y1, y2], _ =>
    simp only [cellsI, cellsRp, List.drop_zero, List.drop_succ_cons, List.take_succ_cons, List.take_zero, List.getElem?_cons_zero, List.getElem?_cons_succ] at e0 e1 e2
    obtain ⟨x0, q0, _, _⟩ := DataW.trod_int Tryz.underlying3 e0
    obtain ⟨x1, q1, _, _⟩ := DataW.trod_int Tryz.underlying3 e1
    obtain ⟨r, q2⟩ := open_reply _ _ _ e2 rfl
    simp only [List.cons.injEq, and_true] at q0 q1
    subst q0 q1
    unfold Rp.cells at q2
    simp only [List.cons.injEq, and_true] at q2
    obtain ⟨rfl, rfl, rfl, rfl, rfl⟩ := q2
    exact ⟨⟨x0, x1, r⟩, trivial, rfl⟩
set_option maxRecDepth 100000 in
/-- an argument: an act by value -/
theorem arg_ac {r : Reach} {base : Nat} {v : Value} {d : DataW H} {pl : List MemPlace} (hv : Value.okWide Tryz.prog W r base 30 v)
    (h : DataW.Trod enc Tryz.prog W 0 (fun _ => true) true 30 v d pl) : ∃ a : Ac, v = .agg #[.int .i64 a.k, .int .i64 a.now, .int .i64 a.r.sg, .int .i64 a.r.sp, .bool a.r.un, .int .i64 a.r.tr, .bool a.r.good] := by
  obtain ⟨cs, rfl, hsz⟩ := okWide_struct Tryz.underlying30 hv
  rw [cellsAc] at hsz
  obtain ⟨l⟩ := cs
  obtain ⟨fuel, hf⟩ := h
  obtain ⟨a, _, e⟩ := open_act fuel l _ hf hsz
  exact ⟨a, by rw [e]; rfl⟩
set_option maxRecDepth 100000 in
/-- an argument: a slice of acts -/
theorem arg_acts {r : Reach} {base : Nat} {v : Value} {d : DataW H} {pl : List MemPlace} (hv : Value.okWide Tryz.prog W r base 44 v)
    (h : DataW.Trod enc Tryz.prog W 0 (fun _ => true) true 44 v d pl) :
    ∃ (A : Option Addr) (c : Nat) (l : List Ac), v = .slice A l.length c ∧ l.length ≤ 9223372036854775807 ∧ l.length ≤ c ∧ Els Ac.cells 7 W W.heap.size A l := by
  obtain ⟨a, len, cap, rfl⟩ := okWide_slice Tryz.underlying44 hv
  obtain ⟨fuel, hf⟩ := h
  obtain ⟨a0, len', cap', l, e2, hn, hc, hm, _, hE, _⟩ := els_of (⟨0, 0, ⟨0, 0, false, 0, false⟩⟩ : Ac) Ac.cells (fun _ => True) 7 (by omega) Tryz.underlying44 (by kernel_rfl) open_act hf
  simp [Value.cells] at e2
  obtain ⟨rfl, rfl, rfl⟩ := e2
  subst hn
  exact ⟨a, cap, l, rfl, hm, hc, hE⟩
set_option maxRecDepth 100000 in
/-- an argument: a saga by value -/
theorem arg_sg {r : Reach} {base : Nat} {v : Value} {d : DataW H} {pl : List MemPlace} (hv : Value.okWide Tryz.prog W r base 26 v)
    (h : DataW.Trod enc Tryz.prog W 0 (fun _ => true) true 26 v d pl) (hw : ∀ m ∈ d.weights Tryz.prog 26, m ≤ reachBytes) : ∃ s : Sg, v = .agg #[.int .i64 s.id, .string s.dn, .int .i64 s.st, .int .i64 s.ph, .int .i64 s.sp, .int .i64 s.tr, .bool s.out, .int .i64 s.at_, .int .i64 s.sk] ∧ s.Fits := by
  obtain ⟨cs, rfl, hsz⟩ := okWide_struct Tryz.underlying26 hv
  rw [cellsSg] at hsz
  obtain ⟨cs⟩ := cs
  obtain ⟨fuel, hf⟩ := h
  replace hf : DataW.trod enc Tryz.prog W 0 (fun _ => true) true fuel 26 cs = some (d, pl) := hf
  obtain ⟨ys, n', _, hx, _, hyl, hfld⟩ := DataW.trod_struct Tryz.underlying26 hf
  simp only [List.size_toArray, List.length_cons, List.length_nil, Nat.reduceAdd] at hyl
  have e0 : DataW.trod enc Tryz.prog W 0 (fun _ => true) true n' 3 ((cs.drop 0).take (Tryz.prog.cellsOf 3)) = ys[0]? := hfld 0 _ rfl
  have e1 : DataW.trod enc Tryz.prog W 0 (fun _ => true) true n' 9 ((cs.drop 1).take (Tryz.prog.cellsOf 9)) = ys[1]? := hfld 1 _ rfl
  have e2 : DataW.trod enc Tryz.prog W 0 (fun _ => true) true n' 3 ((cs.drop 2).take (Tryz.prog.cellsOf 3)) = ys[2]? := hfld 2 _ rfl
  have e3 : DataW.trod enc Tryz.prog W 0 (fun _ => true) true n' 3 ((cs.drop 3).take (Tryz.prog.cellsOf 3)) = ys[3]? := hfld 3 _ rfl
  have e4 : DataW.trod enc Tryz.prog W 0 (fun _ => true) true n' 3 ((cs.drop 4).take (Tryz.prog.cellsOf 3)) = ys[4]? := hfld 4 _ rfl
  have e5 : DataW.trod enc Tryz.prog W 0 (fun _ => true) true n' 3 ((cs.drop 5).take (Tryz.prog.cellsOf 3)) = ys[5]? := hfld 5 _ rfl
  have e6 : DataW.trod enc Tryz.prog W 0 (fun _ => true) true n' 4 ((cs.drop 6).take (Tryz.prog.cellsOf 4)) = ys[6]? := hfld 6 _ rfl
  have e7 : DataW.trod enc Tryz.prog W 0 (fun _ => true) true n' 3 ((cs.drop 7).take (Tryz.prog.cellsOf 3)) = ys[7]? := hfld 7 _ rfl
  have e8 : DataW.trod enc Tryz.prog W 0 (fun _ => true) true n' 3 ((cs.drop 8).take (Tryz.prog.cellsOf 3)) = ys[8]? := hfld 8 _ rfl
  match cs, hsz, ys, hyl with
  | [c0, c1, c2, c3, c4, c5, c6, c7, c8], _, [y0, y1, y2, y3, y4, y5, y6, y7, y8], _ =>
    simp only [cellsI, cellsStr, cellsBo, List.drop_zero, List.drop_succ_cons, List.take_succ_cons, List.take_zero, List.getElem?_cons_zero, List.getElem?_cons_succ] at e0 e1 e2 e3 e4 e5 e6 e7 e8
    obtain ⟨x0, q0, _, w0⟩ := DataW.trod_int Tryz.underlying3 e0
    obtain ⟨x1, q1, r1, _⟩ := DataW.trod_string Tryz.underlying9 e1
    obtain ⟨x2, q2, _, _⟩ := DataW.trod_int Tryz.underlying3 e2
    obtain ⟨x3, q3, _, _⟩ := DataW.trod_int Tryz.underlying3 e3
    obtain ⟨x4, q4, _, _⟩ := DataW.trod_int Tryz.underlying3 e4
    obtain ⟨x5, q5, _, w5⟩ := DataW.trod_int Tryz.underlying3 e5
    obtain ⟨x6, q6, _⟩ := DataW.trod_bool Tryz.underlying4 e6
    obtain ⟨x7, q7, _, _⟩ := DataW.trod_int Tryz.underlying3 e7
    obtain ⟨x8, q8, _, _⟩ := DataW.trod_int Tryz.underlying3 e8
    simp only [List.cons.injEq, and_true] at q0 q1 q2 q3 q4 q5 q6 q7 q8
    subst q0 q1 q2 q3 q4 q5 q6 q7 q8
    have hd : d = _ := congrArg Prod.fst hx
    have h1 : x1.size ≤ reachBytes := by
      have := hw x1.data.toList.length (by
        rw [hd]
        simp only [DataW.weights, Tryz.underlying26, List.map_cons, List.map_nil, DataW.weightsEach, List.mem_append]
        exact .inr (.inl (by rw [r1]; simp [DataW.weights])))
      rwa [size_text] at this
    have f0 := fits (lo := -9223372036854775808) (hi := 9223372036854775807) w0 rfl rfl
    have f5 := fits (lo := -9223372036854775808) (hi := 9223372036854775807) w5 rfl rfl
    exact ⟨⟨x0, x1, x2, x3, x4, x5, x6, x7, x8⟩, rfl, ⟨f0.2, f5.2⟩, Nat.le_trans h1 (by decide)⟩
end
end Go.Proofs.YtkmldgcnbjjbcaaGreatDoor.Sa
