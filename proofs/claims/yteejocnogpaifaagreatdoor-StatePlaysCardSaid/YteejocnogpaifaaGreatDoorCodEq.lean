/-
  Sagas and replies as values, compared; arguments, opened: bytes, a saga by value.
  Conditions: none.
-/
import Derived.Test.YteejocnogpaifaaGreatDoorMrg2
import Derived.Test.YteejocnogpaifaaGreatDoorCodEv
import Derived.Test.YteejocnogpaifaaGreatDoorRows
import Derived.ProofKit
import Derived.OpenShut
import Derived.SizedLaws
import Derived.Carry
import Derived.Deep.Slices
import Derived.Deep.Fields
import Derived.ChangeSame
import Derived.Laws.StructEq
namespace Go.Proofs.YteejocnogpaifaaGreatDoor.Co
open Go.ChangeShapes Go.WideShapes Go.ChangeAt Go.RowKit
open Go.Proofs.YteejocnogpaifaaGreatDoor.El
open Go.Proofs.YteejocnogpaifaaGreatDoor.Df
open Go.Proofs.YteejocnogpaifaaGreatDoor.Bo (P Made ret_int ret_bool)
open Go.Proofs.YteejocnogpaifaaGreatDoor.Sa (Sg Rp eqG eqG_iff)

def sgA (s : Sg) : Array Value := #[.int .i64 s.id, .string s.dn, .int .i64 s.st, .int .i64 s.ph, .int .i64 s.sp, .int .i64 s.tr, .bool s.out, .int .i64 s.at_, .int .i64 s.sk]
def rpA (r : Rp) : Array Value := #[.int .i64 r.sg, .int .i64 r.sp, .bool r.un, .int .i64 r.tr, .bool r.good]
set_option maxRecDepth 100000 in
set_option maxHeartbeats 4000000 in
theorem eqI_saga (x y : Sg) (w : World) : (Op.equalIn 10000 49 (.agg (sgA x)) (.agg (sgA y))).run Tryz.prog w = .ok (eqG x y) w := by
  rw [run_equalIn_struct w 9999 49 _ _ (by kernel_rfl) (by kernel_rfl)]
  unfold sgA
  simp [Program.fieldsOf, Tryz.underlying49, Op.eqFields, go_sem]
  have hb : ∀ a b : ByteArray, (a.toList = b.toList) = (a = b) := fun a b => propext (by
    have := bytes_beq a b
    rw [Bool.eq_iff_iff, beq_iff_eq, decide_eq_true_eq] at this
    exact this)
  simp only [hb]
  unfold eqG
  repeat' split
  all_goals simp_all
set_option maxRecDepth 100000 in
set_option maxHeartbeats 4000000 in
theorem eqI_reply (x y : Rp) (w : World) : (Op.equalIn 10000 30 (.agg (rpA x)) (.agg (rpA y))).run Tryz.prog w = .ok (eqRp x y) w := by
  rw [run_equalIn_struct w 9999 30 _ _ (by kernel_rfl) (by kernel_rfl)]
  unfold rpA
  simp [Program.fieldsOf, Tryz.underlying30, Op.eqFields, go_sem]
  unfold eqRp
  repeat' split
  all_goals simp_all
theorem eql_saga (x y : Sg) (w : World) : (binOp .eql 49 (.agg (sgA x)) (.agg (sgA y))).run Tryz.prog w = .ok (.bool (eqG x y)) w := by
  rw [run_eql_struct, eqI_saga]
  rfl
theorem eql_reply (x y : Rp) (w : World) : (binOp .eql 30 (.agg (rpA x)) (.agg (rpA y))).run Tryz.prog w = .ok (.bool (eqRp x y)) w := by
  rw [run_eql_struct, eqI_reply]
  rfl
theorem neq_saga (x y : Sg) (w : World) : (binOp .neq 49 (.agg (sgA x)) (.agg (sgA y))).run Tryz.prog w = .ok (.bool (!eqG x y)) w := by
  rw [run_neq_struct, eqI_saga]
  rfl
theorem neq_reply (x y : Rp) (w : World) : (binOp .neq 30 (.agg (rpA x)) (.agg (rpA y))).run Tryz.prog w = .ok (.bool (!eqRp x y)) w := by
  rw [run_neq_struct, eqI_reply]
  rfl
theorem guard_saga (op : BinOp) (a b : Operand) (xs ys : Array Value) (w : World) : (eqGuard op 49 a b (.agg xs) (.agg ys)).run Tryz.prog w = .ok () w := run_eqGuard_agg w op 49 a b xs ys (by kernel_rfl)
theorem guard_reply (op : BinOp) (a b : Operand) (xs ys : Array Value) (w : World) : (eqGuard op 30 a b (.agg xs) (.agg ys)).run Tryz.prog w = .ok () w := run_eqGuard_agg w op 30 a b xs ys (by kernel_rfl)
theorem cells5 : Tryz.prog.cellsOf 5 = 1 := by kernel_rfl
theorem byte_wf {x : Int} (h : (Lit.int .u8 x).wf = true) : 0 ≤ x ∧ x < 256 := by
  have h1 : IntKind.u8.min = 0 := rfl
  have h2 : IntKind.u8.max = 255 := rfl
  simp only [Lit.wf, Bool.and_eq_true, decide_eq_true_eq] at h
  omega
theorem arg_bytes {H : Type} {enc : TypeId × Value → H} {W : World} {a0 : Option Addr} {len cap : Nat} {d0 : DataW H} {p : List MemPlace}
    (h0 : DataW.Trod enc Tryz.prog W 0 (fun _ => true) true 130 (.slice a0 len cap) d0 p) :
    ∃ l : List UInt8, len = l.length ∧ l.length ≤ cap ∧ l.length ≤ 9223372036854775807 ∧ Byt W W.heap.size a0 l := by
  obtain ⟨fuel, hf⟩ := h0
  rcases open_ints Tryz.underlying130 Tryz.underlying5 cells5 hf with ⟨hcs, _⟩ | ⟨a, len', cap', zs, hcs, _, hl, hm, hz, _, hcell, hwz⟩
  · simp [Value.cells] at hcs
    obtain ⟨rfl, rfl, rfl⟩ := hcs
    exact ⟨[], rfl, Nat.le_refl _, by simp, Byt.none _ _ _⟩
  · simp [Value.cells] at hcs
    obtain ⟨rfl, rfl, rfl⟩ := hcs
    simp only [if_true] at hz
    have hlen : ((zs.take len).map fun n => UInt8.ofNat n.toNat).length = len := by simp; omega
    refine ⟨(zs.take len).map fun n => UInt8.ofNat n.toNat, hlen.symm, by omega, by unfold maxLen at hm; omega, fun hne => ?_⟩
    have hpos : 0 < zs.length := by
      rcases Nat.eq_zero_or_pos zs.length with h | h
      · exact absurd (List.eq_nil_of_length_eq_zero (by simp; omega)) hne
      · exact h
    have h0 := hcell 0 hpos
    have hs : a.spot = none := World.cell?_spot (by simpa [Addr.add] using h0)
    obtain ⟨b, o, sp⟩ := a
    simp only at hs
    subst hs
    refine ⟨b, o, rfl, by simpa [Addr.add] using World.block_lt_of_cell? _ _ h0, fun k hk => ?_⟩
    have hk' : k < zs.length := by simp at hk; omega
    have hc := hcell k hk'
    rw [show (⟨b, o, none⟩ : Addr).add k = ⟨b, o + k, none⟩ by unfold Addr.add; split <;> simp_all] at hc
    rw [hc]
    have hw := byte_wf (hwz zs[k] (List.getElem_mem hk'))
    simp only [List.getElem_map, List.getElem_take, UInt8.toNat_ofNat', List.getD, List.getElem?_eq_getElem hk', Option.getD_some, Option.some.injEq, Value.int.injEq, true_and]
    omega
theorem cellsBo : Tryz.prog.cellsOf 4 = 1 := by kernel_rfl
theorem cellsSg : Tryz.prog.cellsOf 49 = 9 := by kernel_rfl
section
variable {H : Type} {enc : TypeId × Value → H} {W : World}
set_option maxRecDepth 100000 in
/-- an argument: a saga by value -/
theorem arg_sg {r : Reach} {base : Nat} {v : Value} {d : DataW H} {pl : List MemPlace} (hv : Value.okWide Tryz.prog W r base 49 v)
    (h : DataW.Trod enc Tryz.prog W 0 (fun _ => true) true 49 v d pl) : ∃ s : Sg, v = .agg #[.int .i64 s.id, .string s.dn, .int .i64 s.st, .int .i64 s.ph, .int .i64 s.sp, .int .i64 s.tr, .bool s.out, .int .i64 s.at_, .int .i64 s.sk] ∧ s.dn.size ≤ 9223372036854775807 := by
  obtain ⟨cs, rfl, hsz⟩ := okWide_struct Tryz.underlying49 hv
  rw [cellsSg] at hsz
  obtain ⟨cs⟩ := cs
  obtain ⟨fuel, hf⟩ := h
  replace hf : DataW.trod enc Tryz.prog W 0 (fun _ => true) true fuel 49 cs = some (d, pl) := hf
  obtain ⟨ys, n', _, hx, _, hyl, hfld⟩ := DataW.trod_struct Tryz.underlying49 hf
  simp only [List.size_toArray, List.length_cons, List.length_nil, Nat.reduceAdd] at hyl
  have e0 : DataW.trod enc Tryz.prog W 0 (fun _ => true) true n' 3 ((cs.drop 0).take (Tryz.prog.cellsOf 3)) = ys[0]? := hfld 0 _ rfl
  have e1 : DataW.trod enc Tryz.prog W 0 (fun _ => true) true n' 9 ((cs.drop 1).take (Tryz.prog.cellsOf 9)) = ys[1]? := hfld 1 _ rfl
  have e2 : DataW.trod enc Tryz.prog W 0 (fun _ => true) true n' 3 ((cs.drop 2).take (Tryz.prog.cellsOf 3)) = ys[2]? := hfld 2 _ rfl
  have e3 : DataW.trod enc Tryz.prog W 0 (fun _ => true) true n' 3 ((cs.drop 3).take (Tryz.prog.cellsOf 3)) = ys[3]? := hfld 3 _ rfl
  have e4 : DataW.trod enc Tryz.prog W 0 (fun _ => true) true n' 3 ((cs.drop 4).take (Tryz.prog.cellsOf 3)) = ys[4]? := hfld 4 _ rfl
  have e5 : DataW.trod enc Tryz.prog W 0 (fun _ => true) true n' 3 ((cs.drop 5).take (Tryz.prog.cellsOf 3)) = ys[5]? := hfld 5 _ rfl
  have e6 : DataW.trod enc Tryz.prog W 0 (fun _ => true) true n' 4 ((cs.drop 6).take (Tryz.prog.cellsOf 4)) = ys[6]? := hfld 6 _ rfl
  have e7 : DataW.trod enc Tryz.prog W 0 (fun _ => true) true n' 3 ((cs.drop 7).take (Tryz.prog.cellsOf 3)) = ys[7]? := hfld 7 _ rfl
  have e8 : DataW.trod enc Tryz.prog W 0 (fun _ => true) true n' 3 ((cs.drop 8).take (Tryz.prog.cellsOf 3)) = ys[8]? := hfld 8 _ rfl
  match cs, hsz, ys, hyl with
  | [c0, c1, c2, c3, c4, c5, c6, c7, c8], _, [y0, y1, y2, y3, y4, y5, y6, y7, y8], _ =>
    simp only [cellsI, cellsStr, cellsBo, List.drop_zero, List.drop_succ_cons, List.take_succ_cons, List.take_zero, List.getElem?_cons_zero, List.getElem?_cons_succ] at e0 e1 e2 e3 e4 e5 e6 e7 e8
    obtain ⟨x0, q0, _, w0⟩ := DataW.trod_int Tryz.underlying3 e0
    obtain ⟨x1, q1, _, r1w⟩ := DataW.trod_string Tryz.underlying9 e1
    obtain ⟨x2, q2, _, _⟩ := DataW.trod_int Tryz.underlying3 e2
    obtain ⟨x3, q3, _, _⟩ := DataW.trod_int Tryz.underlying3 e3
    obtain ⟨x4, q4, _, _⟩ := DataW.trod_int Tryz.underlying3 e4
    obtain ⟨x5, q5, _, w5⟩ := DataW.trod_int Tryz.underlying3 e5
    obtain ⟨x6, q6, _⟩ := DataW.trod_bool Tryz.underlying4 e6
    obtain ⟨x7, q7, _, _⟩ := DataW.trod_int Tryz.underlying3 e7
    obtain ⟨x8, q8, _, _⟩ := DataW.trod_int Tryz.underlying3 e8
    simp only [List.cons.injEq, and_true] at q0 q1 q2 q3 q4 q5 q6 q7 q8
    subst q0 q1 q2 q3 q4 q5 q6 q7 q8
    exact ⟨⟨x0, x1, x2, x3, x4, x5, x6, x7, x8⟩, rfl, by unfold maxLen at r1w; exact by omega⟩
end
end Go.Proofs.YteejocnogpaifaaGreatDoor.Co
