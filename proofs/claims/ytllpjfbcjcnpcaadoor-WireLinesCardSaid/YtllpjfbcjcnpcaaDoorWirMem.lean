/-
  The memory of commands and replies: their cells, compared; what the listed variables hold.
  Conditions: as each theorem names them.
-/
import Derived.Test.YtllpjfbcjcnpcaaDoorWirKey
import Derived.Test.YtllpjfbcjcnpcaaDoorWirMath
import Derived.Laws.StructEq
import Derived.Deep.Strs
namespace Go.Proofs.YtllpjfbcjcnpcaaDoor.Wi
open Go.RowKit
open Go.Proofs.YtllpjfbcjcnpcaaDoor.El
open Go.Proofs.YtllpjfbcjcnpcaaDoor.Df
open Go.Lib (decDigits)

def Cm.arr (c : Cm) : Array Value := #[.int .i64 c.sg, .int .i64 c.st, .bool c.un, .int .i64 c.tr, .string c.pt, .string c.ky]
def Rp.arr (r : Rp) : Array Value := #[.int .i64 r.sg, .int .i64 r.st, .bool r.un, .int .i64 r.tr, .bool r.gd]
theorem bytes_beq (a b : ByteArray) : (a.toList == b.toList) = decide (a = b) := by
  rw [ByteArray.toList_eq, ByteArray.toList_eq, Bool.eq_iff_iff, beq_iff_eq, decide_eq_true_eq]
  constructor
  · intro h
    exact ByteArray.ext (Array.toList_inj.1 h)
  · rintro rfl
    rfl
def eqC (x y : Cm) : Bool := decide (x.sg = y.sg) && decide (x.st = y.st) && (x.un == y.un) && decide (x.tr = y.tr) && decide (x.pt = y.pt) && decide (x.ky = y.ky)
def eqR (x y : Rp) : Bool := decide (x.sg = y.sg) && decide (x.st = y.st) && (x.un == y.un) && decide (x.tr = y.tr) && (x.gd == y.gd)
theorem eqC_same (x : Cm) : eqC x x = true := by simp [eqC]
theorem eqR_same (x : Rp) : eqR x x = true := by simp [eqR]
set_option maxRecDepth 100000 in
set_option maxHeartbeats 4000000 in
theorem eqI_cmd (x y : Cm) (w : World) : (Op.equalIn 10000 23 (.agg x.arr) (.agg y.arr)).run Tryd.prog w = .ok (eqC x y) w := by
  rw [run_equalIn_struct w 9999 23 _ _ (by kernel_rfl) (by kernel_rfl)]
  unfold Cm.arr
  simp [Program.fieldsOf, Tryd.underlying23, Op.eqFields, go_sem]
  have hb : ∀ a b : ByteArray, (a.toList = b.toList) = (a = b) := fun a b => propext (by
    have := bytes_beq a b
    rw [Bool.eq_iff_iff, beq_iff_eq, decide_eq_true_eq] at this
    exact this)
  simp only [hb]
  unfold eqC
  repeat' split
  all_goals simp_all
set_option maxRecDepth 100000 in
set_option maxHeartbeats 4000000 in
theorem eqI_rep (x y : Rp) (w : World) : (Op.equalIn 10000 25 (.agg x.arr) (.agg y.arr)).run Tryd.prog w = .ok (eqR x y) w := by
  rw [run_equalIn_struct w 9999 25 _ _ (by kernel_rfl) (by kernel_rfl)]
  unfold Rp.arr
  simp [Program.fieldsOf, Tryd.underlying25, Op.eqFields, go_sem]
  unfold eqR
  repeat' split
  all_goals simp_all
theorem eql_cmd (x y : Cm) (w : World) : (binOp .eql 23 (.agg x.arr) (.agg y.arr)).run Tryd.prog w = .ok (.bool (eqC x y)) w := by
  rw [run_eql_struct, eqI_cmd]
  rfl
theorem neq_cmd (x y : Cm) (w : World) : (binOp .neq 23 (.agg x.arr) (.agg y.arr)).run Tryd.prog w = .ok (.bool (!eqC x y)) w := by
  rw [run_neq_struct, eqI_cmd]
  rfl
theorem eql_rep (x y : Rp) (w : World) : (binOp .eql 25 (.agg x.arr) (.agg y.arr)).run Tryd.prog w = .ok (.bool (eqR x y)) w := by
  rw [run_eql_struct, eqI_rep]
  rfl
theorem neq_rep (x y : Rp) (w : World) : (binOp .neq 25 (.agg x.arr) (.agg y.arr)).run Tryd.prog w = .ok (.bool (!eqR x y)) w := by
  rw [run_neq_struct, eqI_rep]
  rfl
theorem guard_cmd (op : BinOp) (a b : Operand) (xs ys : Array Value) (w : World) : (eqGuard op 23 a b (.agg xs) (.agg ys)).run Tryd.prog w = .ok () w := run_eqGuard_agg w op 23 a b xs ys (by kernel_rfl)
theorem guard_rep (op : BinOp) (a b : Operand) (xs ys : Array Value) (w : World) : (eqGuard op 25 a b (.agg xs) (.agg ys)).run Tryd.prog w = .ok () w := run_eqGuard_agg w op 25 a b xs ys (by kernel_rfl)

/-- what the listed variables hold -/
structure Gl (w : World) : Prop where
  m : ∃ m, w.cell? ⟨0, 0, Option.none⟩ = some (.int .i64 m)
  s : ∃ te pe, w.cell? ⟨1, 0, Option.none⟩ = some (.iface te pe)
  r : ∃ te pe, w.cell? ⟨2, 0, Option.none⟩ = some (.iface te pe)
  t : Tab w
theorem Gl.on {w w' : World} (h : Gl w) (hb : Below w.heap.size w w') : Gl w' := by
  obtain ⟨⟨m, hm⟩, ⟨a, b, hs⟩, ⟨c, d, hr⟩, ht⟩ := h
  exact ⟨⟨m, (hb.cell (World.block_lt_of_cell? _ _ hm)).trans hm⟩, ⟨a, b, (hb.cell (World.block_lt_of_cell? _ _ hs)).trans hs⟩, ⟨c, d, (hb.cell (World.block_lt_of_cell? _ _ hr)).trans hr⟩, tab_below ht hb⟩
/-- strconv.Atoi: the number of a text that is one -/
theorem atoi_any (s : ByteArray) (w : World) (hG : Gl w) (hs : s.size ≤ 1000000) :
    Calls Tryd.prog 43 #[.string s] w fun e w' => ∃ n v, e = .returned (.tuple #[.int .i64 n, v]) ∧ NumW s.data.toList n ∧ Below w.heap.size w w' := by
  rcases ha : Lib.atoiAll s.data.toList with v | _ | _
  · refine (Tryd.strconv_Atoi_ok s (by omega) v ha w).mono ?_
    rintro e w' ⟨rfl, hw⟩
    refine ⟨v, _, rfl, num_ok ha, ?_⟩
    rcases hw with rfl | ⟨t, rfl⟩
    · exact Below.refl _ _
    · exact Lib.bytesWorld_below _ _ _
  · obtain ⟨te, pe, hv⟩ := hG.s
    refine Calls.mono (Any.strconv_Atoi_syntax Tryd.laysC172 s (by omega) ha _ w hv (.inr ⟨te, pe, rfl⟩)) ?_
    rintro e w' ⟨N, rfl, _, _, hb⟩
    exact ⟨0, _, rfl, num_else (fun v h => by rw [ha] at h; cases h) _, hb⟩
  · obtain ⟨te, pe, hv⟩ := hG.r
    refine (Tryd.strconv_Atoi_range s (by omega) ha _ w hv (.inr ⟨te, pe, rfl⟩)).mono ?_
    rintro e w' ⟨N, rfl, _, _, hb⟩
    exact ⟨_, _, rfl, num_else (fun v h => by rw [ha] at h; cases h) _, hb⟩
/-- strings.Cut at a blank -/
theorem cutw_any (s : ByteArray) (w : World) (hG : Gl w) (hs : s.size ≤ 1000000) :
    Calls Tryd.prog 42 #[.string s, .string ⟨#[32]⟩] w fun e w' => ∃ b, e = .returned (.tuple #[.string ⟨(fst s.data.toList).toArray⟩, .string ⟨(rst s.data.toList).toArray⟩, .bool b]) ∧ ∃ n, w' = w.drewN n := by
  obtain ⟨m, hm⟩ := hG.m
  refine (Tryd.strings_Cut s ⟨#[32]⟩ m w (by omega) hm).mono ?_
  rintro e w' ⟨rfl, hw⟩
  exact ⟨_, rfl, hw⟩
end Go.Proofs.YtllpjfbcjcnpcaaDoor.Wi
