/-
  Sagas, commands, replies and acts as values: their cells in a block, and how they are compared.
  Conditions: none.
-/
import Derived.Test.YteejocnogpaifaaGreatDoorDefEq
import Derived.Test.YteejocnogpaifaaGreatDoorSagMath
namespace Go.Proofs.YteejocnogpaifaaGreatDoor.Sa
open Go.RowKit
open Go.Proofs.YteejocnogpaifaaGreatDoor.Bo (P Made ret_int ret_bool)
open Go.Proofs.YteejocnogpaifaaGreatDoor.Df

def Sg.arr (s : Sg) : Array Value := #[.int .i64 s.id, .string s.dn, .int .i64 s.st, .int .i64 s.ph, .int .i64 s.sp, .int .i64 s.tr, .bool s.out, .int .i64 s.at_, .int .i64 s.sk]
def Cm.arr (c : Cm) : Array Value := #[.int .i64 c.sg, .int .i64 c.sp, .bool c.un, .int .i64 c.tr, .string c.pt, .string c.key]
def Rp.arr (r : Rp) : Array Value := #[.int .i64 r.sg, .int .i64 r.sp, .bool r.un, .int .i64 r.tr, .bool r.good]
section
variable {w : World} {g : Nat} {s : Sg} (h : Box w g 49 s.arr)
include h
theorem sgcells : w.cell? ⟨g, 0, none⟩ = some (.int .i64 s.id) ∧ w.cell? ⟨g, 1, none⟩ = some (.string s.dn) ∧ w.cell? ⟨g, 2, none⟩ = some (.int .i64 s.st) ∧ w.cell? ⟨g, 3, none⟩ = some (.int .i64 s.ph) ∧ w.cell? ⟨g, 4, none⟩ = some (.int .i64 s.sp) ∧
    w.cell? ⟨g, 5, none⟩ = some (.int .i64 s.tr) ∧ w.cell? ⟨g, 6, none⟩ = some (.bool s.out) ∧ w.cell? ⟨g, 7, none⟩ = some (.int .i64 s.at_) ∧ w.cell? ⟨g, 8, none⟩ = some (.int .i64 s.sk) :=
  ⟨h.cell 0, h.cell 1, h.cell 2, h.cell 3, h.cell 4, h.cell 5, h.cell 6, h.cell 7, h.cell 8⟩
end
section
variable {w : World} {g : Nat} {c : Cm} (h : Box w g 37 c.arr)
include h
theorem cmcells : w.cell? ⟨g, 0, none⟩ = some (.int .i64 c.sg) ∧ w.cell? ⟨g, 1, none⟩ = some (.int .i64 c.sp) ∧ w.cell? ⟨g, 2, none⟩ = some (.bool c.un) ∧ w.cell? ⟨g, 3, none⟩ = some (.int .i64 c.tr) ∧ w.cell? ⟨g, 4, none⟩ = some (.string c.pt) ∧ w.cell? ⟨g, 5, none⟩ = some (.string c.key) :=
  ⟨h.cell 0, h.cell 1, h.cell 2, h.cell 3, h.cell 4, h.cell 5⟩
end
section
variable {w : World} {g : Nat} {nm : ByteArray} {dl : Int} {A : Option Addr} {n c : Nat} (h : Box w g 33 #[.string nm, .int .i64 dl, .slice A n c])
include h
theorem dfcells : w.cell? ⟨g, 0, none⟩ = some (.string nm) ∧ w.cell? ⟨g, 1, none⟩ = some (.int .i64 dl) ∧ w.cell? ⟨g, 2, none⟩ = some (.slice A n c) := ⟨h.cell 0, h.cell 1, h.cell 2⟩
end
theorem box_new2 (w : World) (o : Obj) (t : TypeId) (cs : Array Value) : Box ((w.alloc o).alloc (.cells cs t)) (w.heap.size + 1) t cs := by
  have := Box.new (w.alloc o) t cs
  simpa using this
theorem box_new3 (w : World) (o o' : Obj) (t : TypeId) (cs : Array Value) : Box (((w.alloc o).alloc o').alloc (.cells cs t)) (w.heap.size + 2) t cs := by
  have := Box.new ((w.alloc o).alloc o') t cs
  simpa using this
theorem box_new4 (w : World) (o o' o2 : Obj) (t : TypeId) (cs : Array Value) : Box ((((w.alloc o).alloc o').alloc o2).alloc (.cells cs t)) (w.heap.size + 3) t cs := by
  have := Box.new (((w.alloc o).alloc o').alloc o2) t cs
  simpa using this
/-- a definition and a saga that a call has laid, behind whatever has been made since -/
theorem dsbox {w w' : World} {nm : ByteArray} {dl : Int} {A : Option Addr} {n c : Nat} {s : Sg} (h : Below (w.heap.size + 2) ((w.alloc (.cells #[.string nm, .int .i64 dl, .slice A n c] 33)).alloc (.cells #[.int .i64 s.id, .string s.dn, .int .i64 s.st, .int .i64 s.ph, .int .i64 s.sp, .int .i64 s.tr, .bool s.out, .int .i64 s.at_, .int .i64 s.sk] 49)) w') :
    Box w' w.heap.size 33 #[.string nm, .int .i64 dl, .slice A n c] ∧ Box w' (w.heap.size + 1) 49 s.arr := by
  have h1 : Box ((w.alloc (.cells #[.string nm, .int .i64 dl, .slice A n c] 33)).alloc (.cells #[.int .i64 s.id, .string s.dn, .int .i64 s.st, .int .i64 s.ph, .int .i64 s.sp, .int .i64 s.tr, .bool s.out, .int .i64 s.at_, .int .i64 s.sk] 49)) w.heap.size 33 #[.string nm, .int .i64 dl, .slice A n c] := (Box.new w 33 #[.string nm, .int .i64 dl, .slice A n c]).alloc _
  have h2 : Box ((w.alloc (.cells #[.string nm, .int .i64 dl, .slice A n c] 33)).alloc (.cells #[.int .i64 s.id, .string s.dn, .int .i64 s.st, .int .i64 s.ph, .int .i64 s.sp, .int .i64 s.tr, .bool s.out, .int .i64 s.at_, .int .i64 s.sk] 49)) (w.heap.size + 1) 49 s.arr := box_new2 w _ 49 s.arr
  exact ⟨h1.below h (by omega), h2.below h (by omega)⟩
theorem ds_below (w : World) (o o' : Obj) : Below w.heap.size w ((w.alloc o).alloc o') ∧ ((w.alloc o).alloc o').heap.size = w.heap.size + 2 :=
  ⟨((Below.refl _ w).alloc (Nat.le_refl _) _).alloc (by simp) _, by simp⟩
set_option maxRecDepth 100000 in
set_option maxHeartbeats 4000000 in
theorem eqI_saga (x y : Sg) (w : World) : (Op.equalIn 10000 49 (.agg x.arr) (.agg y.arr)).run Tryz.prog w = .ok (eqG x y) w := by
  rw [run_equalIn_struct w 9999 49 _ _ (by kernel_rfl) (by kernel_rfl)]
  unfold Sg.arr
  simp [Program.fieldsOf, Tryz.underlying49, Op.eqFields, go_sem]
  have hb : ∀ a b : ByteArray, (a.toList = b.toList) = (a = b) := fun a b => propext (by
    have := bytes_beq a b
    rw [Bool.eq_iff_iff, beq_iff_eq, decide_eq_true_eq] at this
    exact this)
  simp only [hb]
  unfold eqG
  repeat' split
  all_goals simp_all
set_option maxRecDepth 100000 in
set_option maxHeartbeats 4000000 in
theorem eqI_cmd (x y : Cm) (w : World) : (Op.equalIn 10000 37 (.agg x.arr) (.agg y.arr)).run Tryz.prog w = .ok (eqC x y) w := by
  rw [run_equalIn_struct w 9999 37 _ _ (by kernel_rfl) (by kernel_rfl)]
  unfold Cm.arr
  simp [Program.fieldsOf, Tryz.underlying37, Op.eqFields, go_sem]
  have hb : ∀ a b : ByteArray, (a.toList = b.toList) = (a = b) := fun a b => propext (by
    have := bytes_beq a b
    rw [Bool.eq_iff_iff, beq_iff_eq, decide_eq_true_eq] at this
    exact this)
  simp only [hb]
  unfold eqC
  repeat' split
  all_goals simp_all
theorem eql_saga (x y : Sg) (w : World) : (binOp .eql 49 (.agg x.arr) (.agg y.arr)).run Tryz.prog w = .ok (.bool (eqG x y)) w := by
  rw [run_eql_struct, eqI_saga]
  rfl
theorem neq_saga (x y : Sg) (w : World) : (binOp .neq 49 (.agg x.arr) (.agg y.arr)).run Tryz.prog w = .ok (.bool (!eqG x y)) w := by
  rw [run_neq_struct, eqI_saga]
  rfl
theorem eql_cmd (x y : Cm) (w : World) : (binOp .eql 37 (.agg x.arr) (.agg y.arr)).run Tryz.prog w = .ok (.bool (eqC x y)) w := by
  rw [run_eql_struct, eqI_cmd]
  rfl
theorem neq_cmd (x y : Cm) (w : World) : (binOp .neq 37 (.agg x.arr) (.agg y.arr)).run Tryz.prog w = .ok (.bool (!eqC x y)) w := by
  rw [run_neq_struct, eqI_cmd]
  rfl
theorem guard_saga (op : BinOp) (a b : Operand) (xs ys : Array Value) (w : World) : (eqGuard op 49 a b (.agg xs) (.agg ys)).run Tryz.prog w = .ok () w := run_eqGuard_agg w op 49 a b xs ys (by kernel_rfl)
theorem guard_cmd (op : BinOp) (a b : Operand) (xs ys : Array Value) (w : World) : (eqGuard op 37 a b (.agg xs) (.agg ys)).run Tryz.prog w = .ok () w := run_eqGuard_agg w op 37 a b xs ys (by kernel_rfl)

/-! ### Results that lie in blocks -/
theorem sizeG (s : Sg) : (Tryz.prog.info? 49).map (·.size) = some s.arr.size := by
  show (Tryz.prog.info? 49).map (·.size) = some 9
  kernel_rfl
theorem sizeC (c : Cm) : (Tryz.prog.info? 37).map (·.size) = some c.arr.size := by
  show (Tryz.prog.info? 37).map (·.size) = some 6
  kernel_rfl
theorem oneG (s : Sg) : s.arr.all (·.oneCell') = true := by simp [Sg.arr, Value.oneCell']
theorem oneC (c : Cm) : c.arr.all (·.oneCell') = true := by simp [Cm.arr, Value.oneCell']
theorem box_row {w : World} {g : Nat} {t : TypeId} {cs : Array Value} (h : Box w g t cs) (cs' : Array Value) : Box (w.setRow g cs') g t cs' := by
  unfold Box at h ⊢
  simp [World.setRow, Array.getElem?_modify, h]
/-- a block, whatever its cells are: a struct of so many is stored there -/
def Slot (w : World) (g : Nat) (t : TypeId) (k : Nat) : Prop := ∃ cs : Array Value, Box w g t cs ∧ cs.size = k
theorem Box.slot {w : World} {g : Nat} {t : TypeId} {cs : Array Value} {k : Nat} (h : Box w g t cs) (hs : cs.size = k) : Slot w g t k := ⟨cs, h, hs⟩
theorem Slot.lt {w : World} {g : Nat} {t : TypeId} {k : Nat} (h : Slot w g t k) : g < w.heap.size := by
  obtain ⟨cs, h, _⟩ := h
  exact h.lt
theorem Slot.below {w w' : World} {g B : Nat} {t : TypeId} {k : Nat} (h : Slot w g t k) (hb : Below B w w') (hg : g < B) : Slot w' g t k := by
  obtain ⟨cs, h, hs⟩ := h
  exact ⟨cs, h.below hb hg, hs⟩
theorem Slot.row {w : World} {g : Nat} {t : TypeId} {k : Nat} (h : Slot w g t k) (cs' : Array Value) : Box (w.setRow g cs') g t cs' := by
  obtain ⟨cs, h, hs⟩ := h
  exact box_row h cs'
theorem res_sg {fn : Func} {p : Tmp} (h : fn.results = #[.cell p 49]) (tmps : Array Value) (w : World) (g : Nat) (s : Sg) (hp : tmps.getD p undef = .pointer (some ⟨g, 0, none⟩)) (hg : Box w g 49 s.arr) :
    (results fn tmps).run Tryz.prog w = .ok (.agg s.arr) w := results_cell_row h tmps w g 49 s.arr (0, 0) _ hp hg Tryz.underlying49 rfl (sizeG s)
theorem res_sg_tmp {fn : Func} {p u : Tmp} (h : fn.results = #[.cell p 49, .tmp u]) (tmps : Array Value) (w : World) (g : Nat) (s : Sg)
    (hp : tmps.getD p undef = .pointer (some ⟨g, 0, none⟩)) (hg : Box w g 49 s.arr) :
    (results fn tmps).run Tryz.prog w = .ok (.tuple #[.agg s.arr, tmps.getD u undef]) w := by
  rw [results_cell_tmp h, hp]
  simp only [asAddr, Sem.run_pure, Result.andThen_ok, run_loadVar_row w g _ 49 _ _ _ hg Tryz.underlying49 rfl (sizeG s)]
theorem results_cct {fn : Func} {p q u : Tmp} {ty ty' : TypeId} (h : fn.results = #[.cell p ty, .cell q ty', .tmp u]) (tmps : Array Value) (P : Program) (w : World) :
    (results fn tmps).run P w =
      ((asAddr (tmps.getD p undef)).run P w).andThen fun a w₁ => ((loadVar ty a).run P w₁).andThen fun v w₂ => ((asAddr (tmps.getD q undef)).run P w₂).andThen fun b w₃ => ((loadVar ty' b).run P w₃).andThen fun x w₄ => .ok (.tuple #[v, x, tmps.getD u undef]) w₄ := by
  simp only [results, h]
  simp [Sem.run_bind, Result.andThen]
  repeat' (split; · rfl)
  all_goals rfl
theorem res_sg_cm_tmp {fn : Func} {p q u : Tmp} (h : fn.results = #[.cell p 49, .cell q 37, .tmp u]) (tmps : Array Value) (w : World) (g g' : Nat) (s : Sg) (c : Cm)
    (hp : tmps.getD p undef = .pointer (some ⟨g, 0, none⟩)) (hq : tmps.getD q undef = .pointer (some ⟨g', 0, none⟩)) (hg : Box w g 49 s.arr) (hg' : Box w g' 37 c.arr) :
    (results fn tmps).run Tryz.prog w = .ok (.tuple #[.agg s.arr, .agg c.arr, tmps.getD u undef]) w := by
  rw [results_cct h, hp, hq]
  simp only [asAddr, Sem.run_pure, Result.andThen_ok, run_loadVar_row w g _ 49 _ _ _ hg Tryz.underlying49 rfl (sizeG s), run_loadVar_row w g' _ 37 _ _ _ hg' Tryz.underlying37 rfl (sizeC c)]
theorem below_row {B : Nat} {w wr : World} (h : Below B w wr) {g : Nat} (hg : B ≤ g) (cs : Array Value) : Below B w (wr.setRow g cs) := below_putRow h hg cs
end Go.Proofs.YteejocnogpaifaaGreatDoor.Sa
