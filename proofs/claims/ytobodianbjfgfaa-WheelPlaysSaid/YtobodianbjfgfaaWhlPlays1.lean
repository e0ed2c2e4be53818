/-
  Where the loop of WheelPlays stands, and what its calls leave of it.
  Conditions: as each theorem names them.
-/
import Derived.Test.YtobodianbjfgfaaWhlPlays0
namespace Go.Proofs.Ytobodianbjfgfaa.Wh
open Go.RowKit

/-- where the loop stands: the wheel, the document's row, the arguments' memory -/
structure PlAt (w wr : World) (g : Nat) (s : Ws) (A : Option Addr) (c : Nat) : Prop where
  whl : ∃ X : Nat → Prop, Whl wr g X s ∧ (∀ i, i < w.heap.size → X i) ∧ (∀ i, (Value.slice A s.xs.length c).ownBlock = some i → X i)
  row : wr.ownsRow w.heap.size 34 3 (.slice A s.xs.length c) s.xs.length (cellsT s.xs)
  bel : Below w.heap.size w wr
theorem PlAt.below {w wr w' : World} {g : Nat} {s : Ws} {A : Option Addr} {c : Nat} (h : PlAt w wr g s A c) (hb : Below wr.heap.size wr w') : PlAt w w' g s A c := by
  obtain ⟨X, h1, h2, h3⟩ := h.whl
  exact ⟨⟨X, h1.below hb, h2, h3⟩, own_keep h.row (Keep.of_below (X := X) hb) h3, h.bel.trans (hb.mono h.bel.size)⟩
/-- .. behind the act's box -/
structure PIn (w W : World) (g : Nat) (s : Ws) (A : Option Addr) (c aB : Nat) (X : Nat → Prop) : Prop where
  whl : Whl W g X s
  xw : ∀ i, i < w.heap.size → X i
  xo : ∀ i, (Value.slice A s.xs.length c).ownBlock = some i → X i
  xa : X aB
  row : W.ownsRow w.heap.size 34 3 (.slice A s.xs.length c) s.xs.length (cellsT s.xs)
  bel : Below w.heap.size w W
theorem PlAt.box {w wr : World} {g : Nat} {s : Ws} {A : Option Addr} {c : Nat} (h : PlAt w wr g s A c) (o : Obj) : ∃ X, PIn w (wr.alloc o) g s A c wr.heap.size X := by
  obtain ⟨X, h1, h2, h3⟩ := h.whl
  have hb : Below wr.heap.size wr (wr.alloc o) := (Below.refl _ _).alloc (Nat.le_refl _) o
  exact ⟨_, h1.wide hb, fun i hi => .inl (h2 i hi), fun i hi => .inl (h3 i hi), .inr ⟨Nat.le_refl _, by simp⟩, h.row.alloc o, h.bel.trans (hb.mono h.bel.size)⟩
section
variable {w W w2 : World} {g aB : Nat} {s s' : Ws} {A : Option Addr} {c : Nat} {X : Nat → Prop}
theorem PIn.keptRow (h : PIn w W g s A c aB X) (hk : Keep X W w2) : w2.ownsRow w.heap.size 34 3 (.slice A s.xs.length c) s.xs.length (cellsT s.xs) := own_keep h.row hk h.xo
theorem PIn.keptBel (h : PIn w W g s A c aB X) (hk : Keep X W w2) : Below w.heap.size w w2 := h.bel.trans (hk.below h.bel.size h.xw)
theorem PIn.keptCell (h : PIn w W g s A c aB X) (hk : Keep X W w2) (ha : aB < W.heap.size) (i : Nat) : w2.cell? ⟨aB, i, none⟩ = W.cell? ⟨aB, i, none⟩ := World.cell?_of_block (hk.block aB ha h.xa)
/-- the state has not turned -/
theorem PIn.same (h : PIn w W g s A c aB X) (hb : Below W.heap.size W w2) : PlAt w w2 g s A c := ⟨⟨X, h.whl.below hb, h.xw, h.xo⟩, own_keep h.row (Keep.of_below (X := X) hb) h.xo, h.bel.trans (hb.mono h.bel.size)⟩
/-- a timer is set, and appended to the document's row -/
theorem PIn.put (h : PIn w W g s A c aB X) (hq : Whl w2 g X s') (hk : Keep X W w2) {w3 : World} {o : Obj} {v3 : Value} (hg : (w2.alloc o).grownBy w3 (Value.slice A s.xs.length c).ownBlock)
    (ho : w3.ownsRow w.heap.size 34 3 v3 s'.xs.length (cellsT s'.xs)) (hat : v3.ownBlock = (Value.slice A s.xs.length c).ownBlock ∨ v3.ownBlock = some (w2.alloc o).heap.size) : ∃ A3 c3, v3 = .slice A3 s'.xs.length c3 ∧ PlAt w w3 g s' A3 c3 := by
  obtain ⟨A3, c3, rfl, _⟩ := own_form3 ho
  have hbel := h.keptBel hk
  have hs2 := hbel.size
  have hg2 : w2.grownBy w3 (Value.slice A s.xs.length c).ownBlock := by
    refine ⟨hg.os, hg.tape, hg.output, by have := hg.size; simp at this; omega, fun i hi hne => (hg.block i (by simp; omega) hne).trans (Below.heap_alloc w2 o i hi)⟩
  refine ⟨A3, c3, rfl, ⟨_, hq.across_grown hg2 h.xo, fun i hi => .inl (h.xw i hi), fun i hi => ?_⟩, ho, ?_⟩
  · rcases hat with h1 | h1
    · exact .inl (h.xo i (h1 ▸ hi))
    · have hlt := own_lt ho hi
      rw [h1] at hi
      injection hi with hi
      exact .inr ⟨by rw [← hi]; simp, hlt⟩
  · exact hbel.grown hg2 hs2 fun j hj => (own_blk h.row hj).1
/-- the document's row is made anew -/
theorem PIn.anew (h : PIn w W g s A c aB X) (hq : Whl w2 g X s') (hk : Keep X W w2) {w3 : World} {v3 : Value} {ys : List T} (hb : Below w2.heap.size w2 w3) (ho : w3.ownsRow w2.heap.size 34 3 v3 ys.length (cellsT ys)) (hys : s'.xs = ys) :
    ∃ A3 c3, v3 = .slice A3 s'.xs.length c3 ∧ PlAt w w3 g s' A3 c3 := by
  subst hys
  obtain ⟨A3, c3, rfl, _⟩ := own_form3 ho
  have hbel := h.keptBel hk
  have hs2 := hbel.size
  refine ⟨A3, c3, rfl, ⟨_, hq.wide hb, fun i hi => .inl (h.xw i hi), fun i hi => ?_⟩, ?_, hbel.trans (hb.mono hs2)⟩
  · exact .inr ⟨(own_blk ho hi).1, own_lt ho hi⟩
  · refine ⟨ho.1, ho.2.imp id ?_⟩
    rintro ⟨g', cap, cur, hv, hg', r⟩
    exact ⟨g', cap, cur, hv, by omega, r⟩
/-- timers have gone: the document's row is what stays -/
theorem PIn.went (h : PIn w W g s A c aB X) {gv : Value} (hq : Whl w2 g (fun b => X b ∨ gv.ownBlock = some b) s') (hk : Keep X W w2) {w3 : World} (hb : Below w2.heap.size w2 w3) {A3 : Option Addr} {c3 : Nat} (ho : w3.ownsRow 0 34 3 (.slice A3 s'.xs.length c3) s'.xs.length (cellsT s'.xs))
    (hpl : A3 = A ∨ ∀ b o t, A3 = some ⟨b, o, t⟩ → w2.heap.size ≤ b) : PlAt w w3 g s' A3 c3 := by
  have hbel := h.keptBel hk
  have hs2 := hbel.size
  have hold : ∀ i, (Value.slice A3 s'.xs.length c3).ownBlock = some i → (w.heap.size ≤ i ∧ X i) ∨ w2.heap.size ≤ i := fun i hi => by
    cases A3 with
    | none => simp [Value.ownBlock] at hi
    | some a =>
      obtain ⟨ab, ao, at_⟩ := a
      simp only [Value.ownBlock, Option.some.injEq] at hi
      rcases hpl with rfl | h1
      · have e : (Value.slice (some ⟨ab, ao, at_⟩) s.xs.length c).ownBlock = some i := by simp [Value.ownBlock, hi]
        exact .inl ⟨(own_blk h.row e).1, h.xo i e⟩
      · exact .inr (hi ▸ h1 ab ao at_ rfl)
  refine ⟨⟨_, hq.wide hb, fun i hi => .inl (.inl (h.xw i hi)), fun i hi => ?_⟩, ⟨ho.1, ?_⟩, hbel.trans (hb.mono hs2)⟩
  · rcases hold i hi with h1 | h1
    · exact .inl (.inl h1.2)
    · exact .inr ⟨h1, own_lt ho hi⟩
  · rcases ho.2 with h1 | ⟨g', cap, cur, hv, _, r⟩
    · exact .inl h1
    · refine .inr ⟨g', cap, cur, hv, ?_, r⟩
      have := hold g' (by rw [hv]; rfl)
      omega
end
theorem cells_new {w : World} {g : Nat} (hg : g = w.heap.size) (cs : Array Value) (t : TypeId) : ∀ j u, cs.toList[j]? = some u → (w.alloc (.cells cs t)).cell? ((⟨g, 0, none⟩ : Addr).add j) = some u := by
  intro j u hj
  subst hg
  rw [Addr.add_lit, Nat.zero_add, cell_of_row _ _ _ _ _ _ (heap_alloc_new w (.cells cs t))]
  simpa using hj
theorem set_cells (s : Ws) (id : Int) (a : Nat) : cellsT (s.set id a).xs = cellsT s.xs ++ [.int .i64 ((s.last : Int) + 1), .int .i64 id, .int .i64 (dueAt s.now a : Int)] := by
  unfold Ws.set
  rw [cellsT_app]
  simp [cellsT, T.cells]
theorem set_len (s : Ws) (id : Int) (a : Nat) : (s.set id a).xs.length = s.xs.length + 1 := by simp [Ws.set]
theorem drop_tth {xs : List T} (hr : xs.Pairwise fun x y => x.h < y.h) {k : Nat} (hk : k < xs.length) : xs.filter (fun y => decide (y.h ≠ (tth xs k).h)) = xs.take k ++ xs.drop (k + 1) := by
  have e := parts hk
  have hp := hr
  rw [e, List.pairwise_append, List.pairwise_cons] at hp
  conv => lhs; rw [e]
  rw [List.filter_append, List.filter_cons_of_neg (by rw [← e]; simp)]
  rw [← e]
  congr 1
  · exact List.filter_eq_self.2 fun y hy => decide_eq_true (by have := hp.2.2 y hy (tth xs k) (by simp); omega)
  · exact List.filter_eq_self.2 fun y hy => decide_eq_true (by have := hp.2.1.1 y hy; omega)
end Go.Proofs.Ytobodianbjfgfaa.Wh
