/-
  Steps of the drawn regions in which a line's words are read; two results, the first in a block.
  Conditions: as each theorem names them.
-/
import Derived.Test.YtllpjfbcjcnpcaaDoorWirWords
import Derived.Laws.ResultCell
namespace Go.Proofs.YtllpjfbcjcnpcaaDoor.Wi
open Go.RowKit
open Go.Proofs.YtllpjfbcjcnpcaaDoor.El
open Go.Proofs.YtllpjfbcjcnpcaaDoor.Df
open Go.Lib (decDigits)

theorem oper_store_row {op : Oper} {a : Act} {w : World} {K : Act → World → Prop} {Q : Exit → Act → World → Prop} (ty : TypeId) (x y : Operand) (ho : op.op = .store ty x y)
    (g : Nat) (t : TypeId) (old cs : Array Value) (hx : a.eval x = .pointer (some ⟨g, 0, none⟩)) (hy : a.eval y = .agg cs) (hg : w.heap[g]? = some (.cells old t (0, 0)))
    (hi : (Tryd.prog.info? ty).map (·.size) = some cs.size) (hs : old.size = cs.size) (h1 : cs.all (·.oneCell') = true) (h : K (a.put op.dst undef) (w.setRow g cs)) : Oper.wp Tryd.prog op a w K Q := by
  unfold Oper.wp execOp
  simp only [ho, hx, hy, Instr.storeAt, Instr.sureAddr, Sem.run_bind, Sem.run_pure, Result.andThen_ok, run_storeVar_row w g t ty old cs hg hi hs h1]
  exact h
/-- a store of a whole struct, the one operation that may come up -/
theorem st1 {ops : Array Oper} {Q : Exit → Act → World → Prop} {md : Region.Mode} {S : World → Prop} (i : Nat) {tt : TypeId} {pos : String} {aft : Array Edge} {fuel : Nat} {listed : Array Bool} {a : Act} {w : World} (ty : TypeId) (x y : Operand)
    (hi0 : ops[i]? = some ⟨none, .store ty x y, tt, pos, aft, none⟩) (g : Nat) (t : TypeId) (old cs : Array Value) (hx : a.eval x = .pointer (some ⟨g, 0, none⟩)) (hy : a.eval y = .agg cs) (hg : w.heap[g]? = some (.cells old t (0, 0)))
    (hi : (Tryd.prog.info? ty).map (·.size) = some cs.size) (hs : old.size = cs.size) (h1 : cs.all (·.oneCell') = true) (hS : S (w.setRow g cs)) (h : S (w.setRow g cs) → wpAnyH Tryd.prog md ops Q S fuel (listed.setIfInBounds i true) a (w.setRow g cs))
    (hr : Region.ready md ops listed = [i] := by decide +kernel) : wpAnyH Tryd.prog md ops Q S (fuel + 1) listed a w := by
  refine wpAnyH_ready hr (by simp) (AllReadyH.cons (o := ⟨none, .store ty x y, tt, pos, aft, none⟩) hi0 (fun K hK => ?_) AllReadyH.nil)
  have hw : Region.wanted ⟨none, .store ty x y, tt, pos, aft, none⟩ (yielded ops a.tmps) = true := by simp [Region.wanted]
  rw [if_pos hw]
  exact oper_store_row ty x y rfl g t old cs hx hy hg hi hs h1 (hK.out _ _ hS h)
theorem box_set {w : World} {g : Nat} {t : TypeId} {cs : Array Value} (h : Box w g t cs) (cs' : Array Value) : Box (w.setRow g cs') g t cs' := by
  unfold Box at h ⊢
  simp [World.setRow, Array.getElem?_modify, h]
theorem word_eq {c : List UInt8} {l : List UInt8} {v : Bool} (h : v = decide (c = l)) : ((tx c).toList == l) = v := by
  rw [ByteArray.toList_eq, tx_list, h, Bool.eq_iff_iff, beq_iff_eq, decide_eq_true_eq]
theorem Wd.drew {w0 w : World} {g b : Nat} {l : List UInt8} (h : Wd w0 g b w l) : Wd w0 g b w.drew l := ⟨Below.trans h.below (Below.drew (Below.refl _ _)), h.fn, h.tx, h.hg, h.hb, h.gl, h.len⟩
theorem Wd.row {w0 w : World} {g b k : Nat} {l : List UInt8} (h : Wd w0 g b w l) (hk : g ≠ k) (hb : b ≠ k) (hge : w0.heap.size ≤ k) (cs : Array Value) : Wd w0 g b (w.setRow k cs) l :=
  ⟨below_putRow h.below hge _, (setRow_other w k g cs hk).trans h.fn, (setRow_other w k b cs hb).trans h.tx, h.hg, h.hb, h.gl, h.len⟩
/-- a block of so many cells that lies behind all that there was -/
def Slot (w0 : World) (g4 b : Nat) (w : World) (g5 : Nat) (t : TypeId) (k : Nat) : Prop := ∃ cs : Array Value, Box w g5 t cs ∧ cs.size = k ∧ w0.heap.size ≤ g5 ∧ g4 ≠ g5 ∧ b ≠ g5
section
variable {w0 W W' : World} {g4 b g5 k : Nat} {l : List UInt8} {t : TypeId}
theorem slot_new (cs : Array Value) (t : TypeId) (h : Wd w0 g4 b W l) : Slot w0 g4 b (W.alloc (.cells cs t)) W.heap.size t cs.size :=
  ⟨cs, Box.new W t cs, rfl, h.below.size, by have := h.fn.lt; omega, by have := h.tx.lt; omega⟩
theorem slot_grown (h : Slot w0 g4 b W g5 t k) (hg : W.grownBy W' (some b)) : Slot w0 g4 b W' g5 t k := by
  obtain ⟨cs, h1, h2, h3, h4, h5⟩ := h
  exact ⟨cs, h1.grown hg (by intro e; injection e with e; exact h5 e.symm), h2, h3, h4, h5⟩
end
theorem wd_of {U0 w1 : World} {l : List UInt8} (hG : Gl U0) (hl : l.length ≤ 1000000) (hx : Box w1 U0.heap.size 9 #[.string (tx l)]) (hb : Below U0.heap.size U0 w1) :
    Wd U0 w1.heap.size U0.heap.size (w1.alloc (.cells #[.func (.func 41) #[] #[.pointer (some ⟨U0.heap.size, 0, Option.none⟩)]] 49)) l :=
  ⟨hb.alloc hb.size _, Box.new _ _ _, hx.alloc _, hb.size, Nat.le_refl _, hG, hl⟩
theorem yield_build {ev : Operand → Value} {dst : Option Tmp} {ty : TypeId} {pos : String} {aft : Array Edge} {gd : Option (Nat × Bool)} {t : TypeId} {parts : Array (Nat × Operand)} {parts' : Array (Nat × Value)} {cells : Array Value} {u : World}
    (hp : parts.map (fun x => (x.1, ev x.2)) = parts') (hr : (Instr.build t parts').run Tryd.prog u = .ok (.agg cells) u) : (execOp ev ⟨dst, .build t parts, ty, pos, aft, gd⟩).run Tryd.prog u = .ok (.value (.agg cells)) u := by
  have hp' : parts.map (fun (i, x) => (i, ev x)) = parts' := hp
  simp only [execOp]
  rw [hp']
  simp only [Sem.run_bind, hr, Result.andThen_ok, Sem.run_pure]
theorem build_cmd (a b d : Int) (u : Bool) (x y : ByteArray) (w : World) : (Instr.build 23 #[(0, .int .i64 a), (1, .int .i64 b), (2, .bool u), (3, .int .i64 d), (4, .string x), (5, .string y)]).run Tryd.prog w = .ok (.agg #[.int .i64 a, .int .i64 b, .bool u, .int .i64 d, .string x, .string y]) w :=
  run_build w _ _ _ (by kernel_rfl)
theorem build_rep (a b d : Int) (u v : Bool) (w : World) : (Instr.build 25 #[(0, .int .i64 a), (1, .int .i64 b), (2, .bool u), (3, .int .i64 d), (4, .bool v)]).run Tryd.prog w = .ok (.agg #[.int .i64 a, .int .i64 b, .bool u, .int .i64 d, .bool v]) w :=
  run_build w _ _ _ (by kernel_rfl)
theorem res2 {fn : Func} {p u : Tmp} {ty : TypeId} (h : fn.results = #[.cell p ty, .tmp u]) (tmps : Array Value) (w : World) (g : Nat) (cs : Array Value)
    (hp : tmps.getD p undef = .pointer (some ⟨g, 0, none⟩)) (hl : (loadVar ty ⟨g, 0, none⟩).run Tryd.prog w = .ok (.agg cs) w) :
    (results fn tmps).run Tryd.prog w = .ok (.tuple #[.agg cs, tmps.getD u undef]) w := by
  rw [results_cell_tmp h]
  rw [hp]
  simp only [asAddr, Sem.run_pure, Result.andThen_ok, hl]
theorem bx6 {w : World} {g : Nat} {t : TypeId} {a b c d e f : Value} (h : Box w g t #[a, b, c, d, e, f]) (a' b' c' d' e' f' : Value) :
    Box ((((((w.setCell ⟨g, 0, none⟩ a').setCell ⟨g, 1, none⟩ b').setCell ⟨g, 2, none⟩ c').setCell ⟨g, 3, none⟩ d').setCell ⟨g, 4, none⟩ e').setCell ⟨g, 5, none⟩ f') g t #[a', b', c', d', e', f'] := (((((h.put 0 _).put 1 _).put 2 _).put 3 _).put 4 _).put 5 _
theorem bx5 {w : World} {g : Nat} {t : TypeId} {a b c d e : Value} (h : Box w g t #[a, b, c, d, e]) (a' b' c' d' e' : Value) :
    Box (((((w.setCell ⟨g, 0, none⟩ a').setCell ⟨g, 1, none⟩ b').setCell ⟨g, 2, none⟩ c').setCell ⟨g, 3, none⟩ d').setCell ⟨g, 4, none⟩ e') g t #[a', b', c', d', e'] := ((((h.put 0 _).put 1 _).put 2 _).put 3 _).put 4 _
theorem below6 {B g : Nat} {w W : World} (h : Below B w W) (hg : B ≤ g) (a b c d e f : Value) :
    Below B w ((((((W.setCell ⟨g, 0, none⟩ a).setCell ⟨g, 1, none⟩ b).setCell ⟨g, 2, none⟩ c).setCell ⟨g, 3, none⟩ d).setCell ⟨g, 4, none⟩ e).setCell ⟨g, 5, none⟩ f) :=
  below_put (below_put (below_put (below_put (below_put (below_put h hg _ _) hg _ _) hg _ _) hg _ _) hg _ _) hg _ _
theorem below5 {B g : Nat} {w W : World} (h : Below B w W) (hg : B ≤ g) (a b c d e : Value) :
    Below B w (((((W.setCell ⟨g, 0, none⟩ a).setCell ⟨g, 1, none⟩ b).setCell ⟨g, 2, none⟩ c).setCell ⟨g, 3, none⟩ d).setCell ⟨g, 4, none⟩ e) :=
  below_put (below_put (below_put (below_put (below_put h hg _ _) hg _ _) hg _ _) hg _ _) hg _ _
end Go.Proofs.YtllpjfbcjcnpcaaDoor.Wi
