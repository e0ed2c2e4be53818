/-
  Where the loop of ReadyPlays stands, and what its calls leave of it.
  Conditions: as each theorem names them.
-/
import Derived.Test.YtkfkjpabollaoaaRdyPlays0
namespace Go.Proofs.Ytkfkjpabollaoaa.readyPlays
open Go.RowKit

/-- where the loop stands: the queue, the document's row, the arguments' memory -/
structure RdAt (w wr : World) (g : Nat) (s : Qs) (A : Option Addr) (c : Nat) : Prop where
  que : ∃ X : Nat → Prop, Que wr g X s ∧ (∀ i, i < w.heap.size → X i) ∧ (∀ i, (Value.slice A s.xs.length c).ownBlock = some i → X i)
  row : wr.ownsRow w.heap.size 33 3 (.slice A s.xs.length c) s.xs.length (cellsE s.xs)
  bel : Below w.heap.size w wr
theorem RdAt.below {w wr w' : World} {g : Nat} {s : Qs} {A : Option Addr} {c : Nat} (h : RdAt w wr g s A c) (hb : Below wr.heap.size wr w') : RdAt w w' g s A c := by
  obtain ⟨X, h1, h2, h3⟩ := h.que
  exact ⟨⟨X, h1.below hb, h2, h3⟩, own_keep h.row hb, h.bel.trans (hb.mono h.bel.size)⟩
/-- .. behind the act's box -/
structure In (w W : World) (g : Nat) (s : Qs) (A : Option Addr) (c aB : Nat) (X : Nat → Prop) : Prop where
  que : Que W g X s
  xw : ∀ i, i < w.heap.size → X i
  xo : ∀ i, (Value.slice A s.xs.length c).ownBlock = some i → X i
  xa : X aB
  row : W.ownsRow w.heap.size 33 3 (.slice A s.xs.length c) s.xs.length (cellsE s.xs)
  bel : Below w.heap.size w W
theorem RdAt.box {w wr : World} {g : Nat} {s : Qs} {A : Option Addr} {c : Nat} (h : RdAt w wr g s A c) (o : Obj) : ∃ X, In w (wr.alloc o) g s A c wr.heap.size X := by
  obtain ⟨X, h1, h2, h3⟩ := h.que
  have hb : Below wr.heap.size wr (wr.alloc o) := (Below.refl _ _).alloc (Nat.le_refl _) o
  exact ⟨_, h1.wide hb, fun i hi => .inl (h2 i hi), fun i hi => .inl (h3 i hi), .inr ⟨Nat.le_refl _, by simp⟩, h.row.alloc o, h.bel.trans (hb.mono h.bel.size)⟩
section
variable {w W w2 : World} {g aB : Nat} {s s' : Qs} {A : Option Addr} {c : Nat} {X : Nat → Prop}
theorem own_keepX {base : Nat} {e : TypeId} {size : Nat} {v : Value} {n : Nat} {xs : List Value} (h : W.ownsRow base e size v n xs) (hk : Keep X W w2) (hx : ∀ i, v.ownBlock = some i → X i) : w2.ownsRow base e size v n xs := by
  refine ⟨h.1, ?_⟩
  rcases h.2 with h1 | ⟨g, cap, cur, hv, hg, hh, r⟩
  · exact .inl h1
  · exact .inr ⟨g, cap, cur, hv, hg, (hk.block g (Array.getElem?_eq_some_iff.1 hh).1 (hx g (by rw [hv]; rfl))).trans hh, r⟩
theorem In.keptRow (h : In w W g s A c aB X) (hk : Keep X W w2) : w2.ownsRow w.heap.size 33 3 (.slice A s.xs.length c) s.xs.length (cellsE s.xs) := own_keepX h.row hk h.xo
theorem In.keptBel (h : In w W g s A c aB X) (hk : Keep X W w2) : Below w.heap.size w w2 := h.bel.trans (hk.below h.bel.size h.xw)
theorem In.keptCell (h : In w W g s A c aB X) (hk : Keep X W w2) (ha : aB < W.heap.size) (i : Nat) : w2.cell? ⟨aB, i, none⟩ = W.cell? ⟨aB, i, none⟩ := World.cell?_of_block (hk.block aB ha h.xa)
/-- the state has not turned -/
theorem In.same (h : In w W g s A c aB X) (hb : Below W.heap.size W w2) : RdAt w w2 g s A c := ⟨⟨X, h.que.below hb, h.xw, h.xo⟩, own_keep h.row hb, h.bel.trans (hb.mono h.bel.size)⟩
theorem Que.other (h : Que w g X s) {row : Option Nat} (hg : w.grownBy w2 row) (hr : ∀ i, row = some i → X i) : Que w2 g (fun i => X i ∨ w.heap.size ≤ i ∧ i < w2.heap.size) s := by
  obtain ⟨bm, v, d, ms, hH⟩ := h
  have hR := hH.raw
  have h' := hR.stay (w' := w2) hg.size (fun i hi hown => hg.block i hi (fun e => by
    have hx := hr i e.symm
    rcases hown with rfl | rfl | h1 | ⟨x, h1, rfl⟩
    · exact hR.xg hx
    · exact hR.xm hx
    · exact hR.xr i h1 hx
    · exact hR.xe x h1 hx))
  refine ⟨bm, v, d, ms, ⟨h'.box, h'.row, h'.ens, h'.nd, h'.map, ?_, ?_, fun i hi => ?_, fun x he => ?_, ?_⟩, hH.ms, hH.hp, hH.pm, hH.ok⟩
  · rintro (h1 | h1)
    · exact hR.xg h1
    · have := hR.box.lt; omega
  · rintro (h1 | h1)
    · exact hR.xm h1
    · have := hR.mlt; omega
  · rintro (h1 | h1)
    · exact hR.xr i hi h1
    · have := (hR.row.lt i hi).2; omega
  · rintro (h1 | h1)
    · exact hR.xe x he h1
    · obtain ⟨k, hk, hn, hbx⟩ := hR.ek he
      have := hbx.lt; omega
  · rintro i (h1 | h1)
    · exact h'.xlt i h1
    · exact h1.2
/-- an entry is put, and appended to the document's row -/
theorem In.put (h : In w W g s A c aB X) (hq : Que w2 g X s') (hk : Keep X W w2) {w3 : World} {o : Obj} {v3 : Value} (hg : (w2.alloc o).grownBy w3 (Value.slice A s.xs.length c).ownBlock)
    (ho : w3.ownsRow w.heap.size 33 3 v3 s'.xs.length (cellsE s'.xs)) (hat : v3.ownBlock = (Value.slice A s.xs.length c).ownBlock ∨ v3.ownBlock = some (w2.alloc o).heap.size) : ∃ A3 c3, v3 = .slice A3 s'.xs.length c3 ∧ RdAt w w3 g s' A3 c3 := by
  obtain ⟨A3, c3, rfl, _⟩ := own_form3 ho
  have hbel := h.keptBel hk
  have hs2 := hbel.size
  have hg2 : w2.grownBy w3 (Value.slice A s.xs.length c).ownBlock := by
    refine ⟨hg.os, hg.tape, hg.output, by have := hg.size; simp at this; omega, fun i hi hne => (hg.block i (by simp; omega) hne).trans (Below.heap_alloc w2 o i hi)⟩
  refine ⟨A3, c3, rfl, ⟨_, Que.other hq hg2 h.xo, fun i hi => .inl (h.xw i hi), fun i hi => ?_⟩, ho, ?_⟩
  · rcases hat with h1 | h1
    · exact .inl (h.xo i (h1 ▸ hi))
    · rw [h1] at hi
      injection hi with hi
      have hlt := (ho.lt i (by rw [h1, hi])).2
      exact .inr ⟨by rw [← hi]; simp, hlt⟩
  · refine hbel.grown hg2 hs2 (fun j hj => ?_)
    exact (h.row.lt j hj).1
/-- the document's row is made anew -/
theorem In.anew (h : In w W g s A c aB X) (hq : Que w2 g X s') (hk : Keep X W w2) {w3 : World} {v3 : Value} {ys : List E} (hb : Below w2.heap.size w2 w3) (ho : w3.ownsRow w2.heap.size 33 3 v3 ys.length (cellsE ys)) (hys : s'.xs = ys) :
    ∃ A3 c3, v3 = .slice A3 s'.xs.length c3 ∧ RdAt w w3 g s' A3 c3 := by
  subst hys
  obtain ⟨A3, c3, rfl, _⟩ := own_form3 ho
  have hbel := h.keptBel hk
  have hs2 := hbel.size
  refine ⟨A3, c3, rfl, ⟨_, hq.wide hb, fun i hi => .inl (h.xw i hi), fun i hi => ?_⟩, ?_, hbel.trans (hb.mono hs2)⟩
  · have := ho.lt i hi
    exact .inr ⟨this.1, this.2⟩
  · refine ⟨ho.1, ho.2.imp id ?_⟩
    rintro ⟨g', cap, cur, hv, hg', r⟩
    exact ⟨g', cap, cur, hv, by omega, r⟩
end
theorem cells_new {w : World} {g : Nat} (hg : g = w.heap.size) (cs : Array Value) (t : TypeId) : ∀ j u, cs.toList[j]? = some u → (w.alloc (.cells cs t)).cell? ((⟨g, 0, none⟩ : Addr).add j) = some u := by
  intro j u hj
  subst hg
  rw [Addr.add_lit, Nat.zero_add, cell_of_row _ _ _ _ _ _ (heap_alloc_new w (.cells cs t))]
  simpa using hj
theorem put_cells (s : Qs) (id prio now : Int) : cellsE (s.put id prio now).xs = cellsE s.xs ++ [.int .i64 ((s.last : Int) + 1), .int .i64 id, .int .i64 (prio * (s.age : Int) - now)] := by
  unfold Qs.put
  rw [cellsE_app]
  simp [cellsE, entC, wtOf]
theorem put_len (s : Qs) (id prio now : Int) : (s.put id prio now).xs.length = s.xs.length + 1 := by simp [Qs.put]
theorem drop_at {xs : List E} (hr : xs.Pairwise fun x y => x.h < y.h) {k : Nat} (hk : k < xs.length) : xs.filter (fun y => decide (y.h ≠ (eth xs k).h)) = xs.take k ++ xs.drop (k + 1) := by
  have e : xs = xs.take k ++ eth xs k :: xs.drop (k + 1) := by
    rw [eth_get hk, ← List.drop_eq_getElem_cons hk, List.take_append_drop]
  have hp := hr
  rw [e, List.pairwise_append, List.pairwise_cons] at hp
  conv => lhs; rw [e]
  rw [List.filter_append, List.filter_cons_of_neg (by rw [← e]; simp)]
  rw [← e]
  congr 1
  · exact List.filter_eq_self.2 fun y hy => decide_eq_true (by have := hp.2.2 y hy (eth xs k) (by simp); omega)
  · exact List.filter_eq_self.2 fun y hy => decide_eq_true (by have := hp.2.1.1 y hy; omega)
/-- there is one order -/
theorem order_one {xs : List E} (hr : (xs.map E.h).Nodup) : ∀ {ys zs : List E}, ys.Perm xs → zs.Perm xs → ys.Pairwise (fun x y => ¬ befE y x) → zs.Pairwise (fun x y => ¬ befE y x) → ys = zs := by
  intro ys zs h1 h2 h3 h4
  have hnd : ∀ {l : List E}, l.Perm xs → (l.map E.h).Nodup := fun h => (h.map E.h).nodup_iff.2 hr
  have strict : ∀ {l : List E}, l.Perm xs → l.Pairwise (fun x y => ¬ befE y x) → l.Pairwise befE := fun {l} h ho => by
    have hn := hnd h
    rw [List.Nodup, List.pairwise_map] at hn
    exact (ho.and hn).imp fun ⟨a, b⟩ => by unfold befE at *; omega
  exact List.Perm.eq_of_pairwise (le := befE) (fun a b _ _ hab hba => by unfold befE at hab hba; omega) (strict h1 h3) (strict h2 h4) (h1.trans h2.symm)
theorem ok_nd {s : Qs} (h : s.Ok) : (s.xs.map E.h).Nodup := by
  rw [List.Nodup, List.pairwise_map]
  exact h.rise.imp fun h => by omega
theorem order_first {xs ys : List E} (h : OrderOf xs ys) (hy : 0 < ys.length) : FirstOf xs (eth ys 0) := by
  obtain ⟨hp, ho⟩ := h
  match ys, hy with
  | y :: r, _ =>
    have e : eth (y :: r) 0 = y := rfl
    rw [e]
    refine ⟨hp.mem_iff.1 (by simp), fun z hz => ?_⟩
    rcases List.mem_cons.1 (hp.mem_iff.2 hz) with rfl | h1
    · unfold befE; omega
    · exact (List.pairwise_cons.1 ho).1 z h1
theorem first_uni {s : Qs} (h : s.Ok) {x y : E} (hx : FirstOf s.xs x) (hy : FirstOf s.xs y) : y = x := by
  have h1 := hx.2 y hy.1
  have h2 := hy.2 x hx.1
  have hh : x.h = y.h := by unfold befE at h1 h2; omega
  obtain ⟨i, hi, e1⟩ := List.mem_iff_getElem.1 hx.1
  obtain ⟨j, hj, e2⟩ := List.mem_iff_getElem.1 hy.1
  have hij : i = j := (List.getElem_inj (h₀ := by simpa using hi) (h₁ := by simpa using hj) (ok_nd h)).1 (by simp [e1, e2, hh])
  subst hij
  rw [← e1, ← e2]
theorem take_is {w : World} {g : Nat} {X : Nat → Prop} {s : Qs} (h : Que w g X s) (x : E) (hx : FirstOf s.xs x) (hl : s.last < 4611686018427387905) :
    Calls Try.prog 10 #[ptr g] w fun e w' => e = .returned (.tuple #[.int .i64 x.id, .int .i64 (x.h : Int), .bool true]) ∧ Que w' g X (s.drop x.h) ∧ Keep X w w' :=
  (take_some h (fun e => by have := hx.1; rw [e] at this; cases this) hl).mono fun e w' ⟨y, hy, he, hq, hk⟩ => by
    rw [first_uni h.ok hx hy] at he hq
    exact ⟨he, hq, hk⟩
end Go.Proofs.Ytkfkjpabollaoaa.readyPlays
