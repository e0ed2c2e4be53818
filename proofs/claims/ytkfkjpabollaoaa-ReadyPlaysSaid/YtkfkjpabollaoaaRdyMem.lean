/-
  The memory of a queue: its struct's block, its row of entries, a block for each entry, its map's block; what leaves a queue as it is.
  Conditions: as each theorem names them.
-/
import Derived.Test.YtkfkjpabollaoaaRdyCalls
import Derived.Maps.OwnSet
namespace Go.Proofs.Ytkfkjpabollaoaa
open Go.RowKit Go.Maps

/-- how a map's value is read: as itself -/
def rawElem (v : Value) : Option (DataW Value × List MemPlace) := some (.held v, [])
theorem rawElem_inv {v : Value} {d : DataW Value} {ps : List MemPlace} (h : rawElem v = some (d, ps)) : d = .held v := by
  simp only [rawElem, Option.some.injEq, Prod.mk.injEq] at h
  exact h.1.symm

/-- the blocks of X stay -/
structure Keep (X : Nat → Prop) (w w' : World) : Prop where
  os : w'.os = w.os
  tape : w'.tape = w.tape
  output : w'.output = w.output
  size : w.heap.size ≤ w'.heap.size
  block : ∀ i, i < w.heap.size → X i → w'.heap[i]? = w.heap[i]?
theorem Keep.refl (X : Nat → Prop) (w : World) : Keep X w w := ⟨rfl, rfl, rfl, Nat.le_refl _, fun _ _ _ => rfl⟩
theorem Keep.trans {X : Nat → Prop} {a b c : World} (h : Keep X a b) (k : Keep X b c) : Keep X a c :=
  ⟨k.os.trans h.os, k.tape.trans h.tape, k.output.trans h.output, Nat.le_trans h.size k.size, fun i hi hx => (k.block i (Nat.lt_of_lt_of_le hi h.size) hx).trans (h.block i hi hx)⟩
theorem Keep.mono {X Y : Nat → Prop} {a b : World} (h : Keep X a b) (hY : ∀ i, Y i → X i) : Keep Y a b := ⟨h.os, h.tape, h.output, h.size, fun i hi hx => h.block i hi (hY i hx)⟩
theorem Keep.of_below {X : Nat → Prop} {a b : World} (h : Below a.heap.size a b) : Keep X a b := ⟨h.os, h.tape, h.output, h.size, fun i hi _ => h.block i hi⟩
theorem Keep.of_grown {X : Nat → Prop} {a b : World} {row : Option Nat} (h : a.grownBy b row) (hr : ∀ i, row = some i → ¬ X i) : Keep X a b :=
  ⟨h.os, h.tape, h.output, h.size, fun i hi hx => h.block i hi fun e => hr i e.symm hx⟩
theorem Keep.below {X : Nat → Prop} {a b : World} {B : Nat} (h : Keep X a b) (hB : B ≤ a.heap.size) (hX : ∀ i, i < B → X i) : Below B a b :=
  ⟨h.os, h.tape, h.output, h.size, fun i hi => h.block i (by omega) (hX i hi)⟩
theorem Keep.setCell {X : Nat → Prop} {a b : World} (h : Keep X a b) {g : Nat} (hg : ¬ X g) (i : Nat) (u : Value) : Keep X a (b.setCell ⟨g, i, none⟩ u) :=
  ⟨h.os, h.tape, h.output, by simpa [World.setCell] using h.size, fun j hj hx => (Below.heap_setCell b ⟨g, i, none⟩ u j (fun e => hg (by have e' : j = g := e; exact e' ▸ hx))).trans (h.block j hj hx)⟩
theorem Keep.drewN {X : Nat → Prop} {a b : World} (h : Keep X a b) (n : Nat) : Keep X a (b.drewN n) := ⟨h.os, h.tape, h.output, h.size, h.block⟩

def ptr (b : Nat) : Value := .pointer (some ⟨b, 0, none⟩)
def En.val (e : En) : Value := ptr e.b
def En.cells (e : En) (k : Nat) : Array Value := #[.int .i64 e.id, .int .i64 (e.h : Int), .int .i64 e.wt, .int .i64 (k : Int)]
/-- an entry of the map: a handle, and its entry's block -/
def ent (p : Nat × Nat) : Lit × DataW Value := (.int .i64 (p.1 : Int), .held (ptr p.2))

/-- a queue's struct, its row, its entries, its map; X: blocks that are not its own -/
structure Raw (w : World) (g : Nat) (X : Nat → Prop) (bm : Nat) (v : Value) (d : List En) (ms : List (Nat × Nat)) (cap age last : Nat) : Prop where
  box : Box w g 57 #[.int .i64 (cap : Int), .int .i64 (age : Int), .int .i64 (last : Int), v, .map (some bm)]
  row : w.ownsRow 0 58 1 v d.length (d.map En.val)
  ens : ∀ k, k < d.length → Box w (nth d k).b 60 ((nth d k).cells k)
  nd : (d.map En.b).Nodup
  map : ∃ es, w.ownsMap Try.prog 3 rawElem bm ms.length (.map es) ∧ es.Perm (ms.map ent)
  xg : ¬ X g
  xm : ¬ X bm
  xr : ∀ i, v.ownBlock = some i → ¬ X i
  xe : ∀ e ∈ d, ¬ X e.b
  xlt : ∀ i, X i → i < w.heap.size

theorem own_block {w : World} {e : TypeId} {v : Value} {n i : Nat} {xs : List Value} (h : w.ownsRow 0 e 1 v n xs) (hi : v.ownBlock = some i) : ∃ cur, w.heap[i]? = some (.cells cur e (0, 0)) := by
  rcases h.2 with ⟨rfl, _⟩ | ⟨g, c, cur, rfl, _, hg, _⟩
  · simp [Value.ownBlock] at hi
  · simp only [Value.ownBlock, Option.some.injEq] at hi
    subst hi
    exact ⟨cur, hg⟩
theorem cells_ne {w : World} {i j : Nat} {c c' : Array Value} {t t' : TypeId} (h : w.heap[i]? = some (.cells c t (0, 0))) (h' : w.heap[j]? = some (.cells c' t' (0, 0))) (hne : t ≠ t') : i ≠ j := by
  rintro rfl
  rw [h] at h'
  have e := Option.some.inj h'
  injection e with _ e
  exact hne e

section
variable {w w' : World} {g bm : Nat} {X : Nat → Prop} {v : Value} {d : List En} {ms : List (Nat × Nat)} {cap age last : Nat}
theorem Raw.mlt (h : Raw w g X bm v d ms cap age last) : bm < w.heap.size := by obtain ⟨es, h1, _⟩ := h.map; exact h1.lt
theorem Raw.mblk (h : Raw w g X bm v d ms cap age last) : ∃ es c, w.heap[bm]? = some (.map es c) := by obtain ⟨es, ⟨e1, c1, h1, _⟩, _⟩ := h.map; exact ⟨e1, c1, h1⟩
theorem Raw.gm (h : Raw w g X bm v d ms cap age last) : g ≠ bm := by
  obtain ⟨es, c, h1⟩ := h.mblk
  rintro rfl
  have := h.box
  unfold Box at this
  rw [h1] at this
  cases this
theorem Raw.rg (h : Raw w g X bm v d ms cap age last) : v.ownBlock ≠ some g := fun e => by
  obtain ⟨cur, hc⟩ := own_block h.row e
  exact cells_ne hc h.box (by decide) rfl
theorem Raw.rm (h : Raw w g X bm v d ms cap age last) : v.ownBlock ≠ some bm := fun e => by
  obtain ⟨cur, hc⟩ := own_block h.row e
  obtain ⟨es, c, h1⟩ := h.mblk
  rw [hc] at h1
  cases h1
theorem Raw.ek (h : Raw w g X bm v d ms cap age last) {e : En} (he : e ∈ d) : ∃ k, k < d.length ∧ nth d k = e ∧ Box w e.b 60 (e.cells k) := by
  obtain ⟨k, hk, rfl⟩ := mem_nth he
  exact ⟨k, hk, rfl, h.ens k hk⟩
theorem Raw.eg (h : Raw w g X bm v d ms cap age last) {e : En} (he : e ∈ d) : e.b ≠ g := by
  obtain ⟨k, hk, hn, hb⟩ := h.ek he
  exact cells_ne hb h.box (by decide)
theorem Raw.em (h : Raw w g X bm v d ms cap age last) {e : En} (he : e ∈ d) : e.b ≠ bm := by
  obtain ⟨k, hk, hn, hb⟩ := h.ek he
  obtain ⟨es, c, h1⟩ := h.mblk
  intro e1
  unfold Box at hb
  rw [e1, h1] at hb
  cases hb
theorem Raw.er (h : Raw w g X bm v d ms cap age last) {e : En} (he : e ∈ d) : v.ownBlock ≠ some e.b := fun e1 => by
  obtain ⟨k, hk, hn, hb⟩ := h.ek he
  obtain ⟨cur, hc⟩ := own_block h.row e1
  exact cells_ne hb hc (by decide) rfl
theorem nth_ne {d : List En} (nd : (d.map En.b).Nodup) {i j : Nat} (hi : i < d.length) (hj : j < d.length) (hij : i ≠ j) : (nth d i).b ≠ (nth d j).b := by
  intro e
  rw [nth_get hi, nth_get hj] at e
  have := List.pairwise_iff_getElem.1 nd
  rcases Nat.lt_or_gt_of_ne hij with h1 | h1
  · exact this i j (by simpa using hi) (by simpa using hj) h1 (by simpa using e)
  · exact this j i (by simpa using hj) (by simpa using hi) h1 (by simpa using e.symm)
/-- what leaves the queue's own blocks leaves the queue -/
theorem Raw.stay (h : Raw w g X bm v d ms cap age last) (hs : w.heap.size ≤ w'.heap.size) (hb : ∀ i, i < w.heap.size → (i = g ∨ i = bm ∨ v.ownBlock = some i ∨ ∃ e ∈ d, e.b = i) → w'.heap[i]? = w.heap[i]?) : Raw w' g X bm v d ms cap age last := by
  refine ⟨(hb g h.box.lt (.inl rfl)).trans h.box, ?_, fun k hk => ?_, h.nd, ?_, h.xg, h.xm, h.xr, h.xe, fun i hi => Nat.lt_of_lt_of_le (h.xlt i hi) hs⟩
  · obtain ⟨h1, h2⟩ := h.row
    refine ⟨h1, h2.imp id ?_⟩
    rintro ⟨q, c, cur, e, hq, hh, rest⟩
    exact ⟨q, c, cur, e, hq, (hb q (h.row.lt q (by rw [e]; rfl)).2 (.inr (.inr (.inl (by rw [e]; rfl))))).trans hh, rest⟩
  · exact (hb _ (h.ens k hk).lt (.inr (.inr (.inr ⟨_, nth_mem hk, rfl⟩)))).trans (h.ens k hk)
  · obtain ⟨es, ⟨e1, c1, h1, h2⟩, hp⟩ := h.map
    exact ⟨es, ⟨e1, c1, (hb bm h.mlt (.inr (.inl rfl))).trans h1, h2⟩, hp⟩
theorem Raw.below (h : Raw w g X bm v d ms cap age last) (hb : Below w.heap.size w w') : Raw w' g X bm v d ms cap age last := h.stay hb.size fun i hi _ => hb.block i hi
theorem Raw.drew (h : Raw w g X bm v d ms cap age last) : Raw w.drew g X bm v d ms cap age last := h.stay (Nat.le_refl _) (fun _ _ _ => rfl)
theorem Raw.wide (h : Raw w g X bm v d ms cap age last) (hb : Below w.heap.size w w') : Raw w' g (fun i => X i ∨ w.heap.size ≤ i ∧ i < w'.heap.size) bm v d ms cap age last := by
  have h' := h.below hb
  refine ⟨h'.box, h'.row, h'.ens, h'.nd, h'.map, ?_, ?_, fun i hi => ?_, fun e he => ?_, ?_⟩
  · rintro (h1 | h1)
    · exact h.xg h1
    · have := h.box.lt; omega
  · rintro (h1 | h1)
    · exact h.xm h1
    · have := h.mlt; omega
  · rintro (h1 | h1)
    · exact h.xr i hi h1
    · have := (h.row.lt i hi).2; omega
  · rintro (h1 | h1)
    · exact h.xe e he h1
    · obtain ⟨k, hk, hn, hbx⟩ := h.ek he
      have := hbx.lt; omega
  · rintro i (h1 | h1)
    · exact h'.xlt i h1
    · exact h1.2
theorem Raw.less {Y : Nat → Prop} (h : Raw w g X bm v d ms cap age last) (hY : ∀ i, Y i → X i) : Raw w g Y bm v d ms cap age last :=
  ⟨h.box, h.row, h.ens, h.nd, h.map, fun h1 => h.xg (hY _ h1), fun h1 => h.xm (hY _ h1), fun i hi hy => h.xr i hi (hY i hy), fun e he hy => h.xe e he (hY _ hy), fun i hi => h.xlt i (hY i hi)⟩
/-- the slice that it has, and the row's cells -/
theorem Raw.form (h : Raw w g X bm v d ms cap age last) : ∃ A c, v = .slice A d.length c ∧ d.length ≤ c := own_form h.row
theorem Raw.cellv (h : Raw w g X bm v d ms cap age last) {r c : Nat} (hv : v = .slice (some ⟨r, 0, none⟩) d.length c) {k : Nat} (hk : k < d.length) : w.cell? ⟨r, k, none⟩ = some (ptr (nth d k).b) := by
  have := h.row.cells (g := r) (by rw [hv]; rfl) k (ptr (nth d k).b) (by simp [nth_some hk, En.val])
  rw [Addr.add_lit, Nat.zero_add] at this
  exact this
theorem Raw.live (h : Raw w g X bm v d ms cap age last) (hn : 0 < d.length) : ∃ r c, v = .slice (some ⟨r, 0, none⟩) d.length c ∧ d.length ≤ c ∧ ∃ cur, Box w r 58 cur ∧ cur.size = c ∧ cur.toList.take d.length = d.map En.val ∧ c ≤ maxLen := by
  rcases h.row.2 with ⟨_, h2⟩ | ⟨r, c, cur, hv, _, hg, hc, hm, hs, ht⟩
  · omega
  · exact ⟨r, c, hv, hc, cur, hg, by simpa using hs, by simpa using ht, hm⟩
end
end Go.Proofs.Ytkfkjpabollaoaa
