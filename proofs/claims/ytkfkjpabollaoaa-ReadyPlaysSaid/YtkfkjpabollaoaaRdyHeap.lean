/-
  How the heap's methods are reached through the interface, and what each does: Len, Less, Swap, Push, Pop.
  Conditions: the queue is one; places are below its length.
-/
import Derived.Test.YtkfkjpabollaoaaRdyMem
namespace Go.Proofs.Ytkfkjpabollaoaa
open Go.RowKit Go.Sort

def hpv (g : Nat) : Value := .iface 62 (.pointer (some ⟨g, 3, none⟩))
theorem metL : (Try.prog.info? 62).map (fun i => (i.methods.find? (·.name == "Len")).map fun m => (m.path, m.func)) = some (some (#[], some (65, false))) := by kernel_rfl
theorem wrapnil (T : TypeId) (a : Addr) (x y : String) : Builtin.ssaWrapNilChk_ #[T] T #[.pointer (some a), strVal x, strVal y] = pure (.pointer (some a)) := rfl
theorem met_val (name : String) (f : Nat) (hm : (Try.prog.info? 62).map (fun i => (i.methods.find? (·.name == name)).map fun m => (m.path, m.func)) = some (some (#[], some (f, false)))) (g : Nat) (A : Option Addr) (n c : Nat) (w : World) (h : w.cell? ⟨g, 3, none⟩ = some (.slice A n c)) (N : Nat) :
    (method (N + 1) 62 (.pointer (some ⟨g, 3, none⟩)) name).run Try.prog w = .ok (f, .slice A n c) w := by
  cases hi : Try.prog.info? 62 with
  | none => rw [hi] at hm; cases hm
  | some i =>
    rw [hi] at hm
    cases hf : i.methods.find? (·.name == name) with
    | none => simp [hf] at hm
    | some m =>
      simp only [hf, Option.map_some, Option.some.injEq, Prod.mk.injEq] at hm
      obtain ⟨h1, h2⟩ := hm
      unfold method
      simp [typeInfo, hi, hf, h1, h2, follow, receiverAt, run_underlying Try.underlying62, Place.get, wrapnil, asAddr, loadVar, Try.isAgg55, h]
theorem met_ptr (name : String) (f : Nat) (hm : (Try.prog.info? 62).map (fun i => (i.methods.find? (·.name == name)).map fun m => (m.path, m.func)) = some (some (#[], some (f, true)))) (g : Nat) (w : World) (N : Nat) :
    (method (N + 1) 62 (.pointer (some ⟨g, 3, none⟩)) name).run Try.prog w = .ok (f, .pointer (some ⟨g, 3, none⟩)) w := by
  cases hi : Try.prog.info? 62 with
  | none => rw [hi] at hm; cases hm
  | some i =>
    rw [hi] at hm
    cases hf : i.methods.find? (·.name == name) with
    | none => simp [hf] at hm
    | some m =>
      simp only [hf, Option.map_some, Option.some.injEq, Prod.mk.injEq] at hm
      obtain ⟨h1, h2⟩ := hm
      unfold method
      simp [typeInfo, hi, hf, h1, h2, follow, receiverAt, run_underlying Try.underlying62, Place.get]
theorem m_len (g : Nat) (A : Option Addr) (n c : Nat) (w : World) (h : w.cell? ⟨g, 3, none⟩ = some (.slice A n c)) (N : Nat) :
    (method (N + 1) 62 (.pointer (some ⟨g, 3, none⟩)) "Len").run Try.prog w = .ok (65, .slice A n c) w := met_val "Len" _ (by kernel_rfl) g A n c w h N
theorem m_less (g : Nat) (A : Option Addr) (n c : Nat) (w : World) (h : w.cell? ⟨g, 3, none⟩ = some (.slice A n c)) (N : Nat) :
    (method (N + 1) 62 (.pointer (some ⟨g, 3, none⟩)) "Less").run Try.prog w = .ok (66, .slice A n c) w := met_val "Less" _ (by kernel_rfl) g A n c w h N
theorem m_swap (g : Nat) (A : Option Addr) (n c : Nat) (w : World) (h : w.cell? ⟨g, 3, none⟩ = some (.slice A n c)) (N : Nat) :
    (method (N + 1) 62 (.pointer (some ⟨g, 3, none⟩)) "Swap").run Try.prog w = .ok (67, .slice A n c) w := met_val "Swap" _ (by kernel_rfl) g A n c w h N
theorem m_push (g : Nat) (w : World) (N : Nat) :
    (method (N + 1) 62 (.pointer (some ⟨g, 3, none⟩)) "Push").run Try.prog w = .ok (69, .pointer (some ⟨g, 3, none⟩)) w := met_ptr "Push" _ (by kernel_rfl) g w N
theorem m_pop (g : Nat) (w : World) (N : Nat) :
    (method (N + 1) 62 (.pointer (some ⟨g, 3, none⟩)) "Pop").run Try.prog w = .ok (68, .pointer (some ⟨g, 3, none⟩)) w := met_ptr "Pop" _ (by kernel_rfl) g w N

theorem hlen_any (A : Option Addr) (n c : Nat) (w : World) :
    Calls Try.prog 65 #[.slice A n c] w fun e w' => e = .returned (.int .i64 (n : Int)) ∧ w = w' := by
  go_enter Try.func65, Try.ntmps65
  go_wp2
  go_ret
  exact ⟨rfl, rfl⟩

section
variable {w : World} {g bm : Nat} {X : Nat → Prop} {v : Value} {d : List En} {ms : List (Nat × Nat)} {cap age last : Nat}
theorem Raw.ecell (h : Raw w g X bm v d ms cap age last) {k : Nat} (hk : k < d.length) (i : Nat) : w.cell? ⟨(nth d k).b, i, none⟩ = ((nth d k).cells k)[i]? := (h.ens k hk).cell i

set_option maxHeartbeats 1000000 in
set_option maxRecDepth 100000 in
theorem less_cells (r n c i j : Nat) (x y : En) (hi : i < n) (hj : j < n) (_hn : n ≤ 1099511627776) (hr : r < w.heap.size) (hx : x.b < w.heap.size) (hy : y.b < w.heap.size)
    (ci : w.cell? ⟨r, i, none⟩ = some (ptr x.b)) (cj : w.cell? ⟨r, j, none⟩ = some (ptr y.b)) (x1 : w.cell? ⟨x.b, 1, none⟩ = some (.int .i64 (x.h : Int))) (x2 : w.cell? ⟨x.b, 2, none⟩ = some (.int .i64 x.wt)) (y1 : w.cell? ⟨y.b, 1, none⟩ = some (.int .i64 (y.h : Int))) (y2 : w.cell? ⟨y.b, 2, none⟩ = some (.int .i64 y.wt)) :
    Calls Try.prog 66 #[.slice (some ⟨r, 0, none⟩) n c, .int .i64 (i : Int), .int .i64 (j : Int)] w fun e w' => e = .returned (.bool (befB x y)) ∧ Made w w' := by
  have l1 := fun n os => cell_grown hr ci n os
  have l2 := fun n os => cell_grown hr cj n os
  have HT : ∀ n os, Calls Try.prog 24 #[.pointer (some ⟨x.b, 0, none⟩), .pointer (some ⟨y.b, 0, none⟩)] (grow (w.drewN n) os) fun e w' => e = .returned (.int .i64 (cfE x y)) ∧ ∃ q os', w' = grow ((grow (w.drewN n) os).drewN q) os' :=
    fun n os => turn_any x y _ (cell_grown hx x1 n os) (cell_grown hx x2 n os) (cell_grown hy y1 n os) (cell_grown hy y2 n os)
  unfold ptr at l1 l2
  have mixed : Try.prog.follows .mixedOrders = true := by kernel_rfl
  clear ci cj x1 x2 y1 y2
  go_enter Try.func66, Try.ntmps66
  go_wp2
  go_quiet_grown (first | (go_at_call 24; refine Calls.grown_of (HT _ _)))
  go_wp2
  go_ret
  exact ⟨ret_bool (cfE_neg_B x y), nq, osq, rfl⟩
set_option maxHeartbeats 2000000 in
set_option maxRecDepth 100000 in
theorem swap_cells (r n c i j bi bj : Nat) (pi pj : Value) (hi : i < n) (hj : j < n) (_hn : n ≤ 1099511627776) (hij : i ≠ j) (hb : bi ≠ bj) (hri : bi ≠ r) (hrj : bj ≠ r)
    (ci : w.cell? ⟨r, i, none⟩ = some (.pointer (some ⟨bi, 0, none⟩))) (cj : w.cell? ⟨r, j, none⟩ = some (.pointer (some ⟨bj, 0, none⟩))) (fi : w.frozen? ⟨r, i, none⟩ = false) (fj : w.frozen? ⟨r, j, none⟩ = false)
    (ei : w.cell? ⟨bi, 3, none⟩ = some pi) (ej : w.cell? ⟨bj, 3, none⟩ = some pj) (gi : w.frozen? ⟨bi, 3, none⟩ = false) (gj : w.frozen? ⟨bj, 3, none⟩ = false) :
    Calls Try.prog 67 #[.slice (some ⟨r, 0, none⟩) n c, .int .i64 (i : Int), .int .i64 (j : Int)] w fun e w' => e = .returned (.tuple #[]) ∧
      ∃ q, w' = ((((w.setCell ⟨r, i, none⟩ (.pointer (some ⟨bj, 0, none⟩))).setCell ⟨r, j, none⟩ (.pointer (some ⟨bi, 0, none⟩))).setCell ⟨bj, 3, none⟩ (.int .i64 (i : Int))).setCell ⟨bi, 3, none⟩ (.int .i64 (j : Int))).drewN q := by
  go_enter Try.func67, Try.ntmps67
  go_wp2
  go_region
  go_wp2
  obtain ⟨W, hW⟩ : ∃ W, W = ((w.setCell ⟨r, i, none⟩ (.pointer (some ⟨bj, 0, none⟩))).setCell ⟨r, j, none⟩ (.pointer (some ⟨bi, 0, none⟩))).drew := ⟨_, rfl⟩
  have ki : W.cell? ⟨r, i, none⟩ = some (.pointer (some ⟨bj, 0, none⟩)) := by
    rw [hW]
    show (World.setCell _ _ _).cell? _ = _
    rw [World.cell?_setCell_other _ _ _ _ (by intro e; simp only [Addr.mk.injEq] at e; omega)]
    exact World.cell?_setCell_same _ _ _ ci
  have kj : W.cell? ⟨r, j, none⟩ = some (.pointer (some ⟨bi, 0, none⟩)) := by
    rw [hW]
    show (World.setCell _ _ _).cell? _ = _
    exact World.cell?_setCell_same _ _ _ ((World.cell?_setCell_other _ _ _ _ (by intro e; simp only [Addr.mk.injEq] at e; omega)).trans cj)
  have hi3 : W.cell? ⟨bi, 3, none⟩ = some pi := by
    rw [hW]
    show (World.setCell _ _ _).cell? _ = _
    rw [World.cell?_setCell_other _ _ _ _ (by intro e; simp only [Addr.mk.injEq] at e; omega), World.cell?_setCell_other _ _ _ _ (by intro e; simp only [Addr.mk.injEq] at e; omega)]
    exact ei
  have hj3 : W.cell? ⟨bj, 3, none⟩ = some pj := by
    rw [hW]
    show (World.setCell _ _ _).cell? _ = _
    rw [World.cell?_setCell_other _ _ _ _ (by intro e; simp only [Addr.mk.injEq] at e; omega), World.cell?_setCell_other _ _ _ _ (by intro e; simp only [Addr.mk.injEq] at e; omega)]
    exact ej
  have qi : W.frozen? ⟨bi, 3, none⟩ = false := by
    rw [hW]
    show (World.setCell _ _ _).frozen? _ = _
    rw [World.frozen?_setCell, World.frozen?_setCell]
    exact gi
  have qj : W.frozen? ⟨bj, 3, none⟩ = false := by
    rw [hW]
    show (World.setCell _ _ _).frozen? _ = _
    rw [World.frozen?_setCell, World.frozen?_setCell]
    exact gj
  have HW := Lib.hid hW
  rw [← hW]
  clear hW ci cj fi fj ei ej gi gj
  go_region
  go_end0
  exact ⟨rfl, 2, by rw [HW.out]; rfl⟩
end
end Go.Proofs.Ytkfkjpabollaoaa
