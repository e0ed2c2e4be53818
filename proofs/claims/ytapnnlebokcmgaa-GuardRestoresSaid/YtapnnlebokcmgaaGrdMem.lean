/-
  The memory of a guard: its struct's block, its row of gates, a block for each breaker; what leaves a guard as it is, and what turns one gate alone.
  Conditions: as each theorem names them.
-/
import Derived.Test.YtapnnlebokcmgaaGrdMath
import Derived.Test.YtapnnlebokcmgaaBrkDo
namespace Go.Proofs.Ytapnnlebokcmgaa.Gd
open Go.RowKit
open Go.Proofs.Ytapnnlebokcmgaa.Bk (S Brk Aft)

/-- the blocks of X stay -/
structure Keep (X : Nat → Prop) (w w' : World) : Prop where
  os : w'.os = w.os
  tape : w'.tape = w.tape
  output : w'.output = w.output
  size : w.heap.size ≤ w'.heap.size
  block : ∀ i, i < w.heap.size → X i → w'.heap[i]? = w.heap[i]?
theorem Keep.refl (X : Nat → Prop) (w : World) : Keep X w w := ⟨rfl, rfl, rfl, Nat.le_refl _, fun _ _ _ => rfl⟩
theorem Keep.trans {X : Nat → Prop} {a b c : World} (h : Keep X a b) (k : Keep X b c) : Keep X a c :=
  ⟨k.os.trans h.os, k.tape.trans h.tape, k.output.trans h.output, Nat.le_trans h.size k.size, fun i hi hx => (k.block i (Nat.lt_of_lt_of_le hi h.size) hx).trans (h.block i hi hx)⟩
theorem Keep.mono {X Y : Nat → Prop} {a b : World} (h : Keep X a b) (hY : ∀ i, Y i → X i) : Keep Y a b := ⟨h.os, h.tape, h.output, h.size, fun i hi hx => h.block i hi (hY i hx)⟩
theorem Keep.of_below {X : Nat → Prop} {a b : World} (h : Below a.heap.size a b) : Keep X a b := ⟨h.os, h.tape, h.output, h.size, fun i hi _ => h.block i hi⟩
theorem Keep.of_grown {X : Nat → Prop} {a b : World} {row : Option Nat} (h : a.grownBy b row) (hr : ∀ i, row = some i → ¬ X i) : Keep X a b :=
  ⟨h.os, h.tape, h.output, h.size, fun i hi hx => h.block i hi fun e => hr i e.symm hx⟩
theorem Keep.below {X : Nat → Prop} {a b : World} {B : Nat} (h : Keep X a b) (hB : B ≤ a.heap.size) (hX : ∀ i, i < B → X i) : Below B a b :=
  ⟨h.os, h.tape, h.output, h.size, fun i hi => h.block i (by omega) (hX i hi)⟩
theorem Keep.setCell {X : Nat → Prop} {a b : World} (h : Keep X a b) {g : Nat} (hg : ¬ X g) (i : Nat) (u : Value) : Keep X a (b.setCell ⟨g, i, none⟩ u) :=
  ⟨h.os, h.tape, h.output, by simpa [World.setCell] using h.size, fun j hj hx => (Below.heap_setCell b ⟨g, i, none⟩ u j (fun e => hg (by have e' : j = g := e; exact e' ▸ hx))).trans (h.block j hj hx)⟩
theorem Keep.drewN {X : Nat → Prop} {a b : World} (h : Keep X a b) (n : Nat) : Keep X a (b.drewN n) := ⟨h.os, h.tape, h.output, h.size, h.block⟩

theorem setCell_only (w : World) (b i : Nat) (u : Value) : w.grownBy (w.setCell ⟨b, i, none⟩ u) (some b) := only_put ⟨rfl, rfl, rfl, Nat.le_refl _, fun _ _ _ => rfl⟩ i u
def ptr (b : Nat) : Value := .pointer (some ⟨b, 0, none⟩)
def Pty.cells (p : Pty) : List Value := [.string p.nm, .int .i64 p.seats, .int .i64 p.trip, .int .i64 p.cool, .int .i64 p.probes]
/-- a gate and the block of its breaker -/
structure Rt where
  b : Nat
  t : Gt
def Rt.cells (x : Rt) : List Value := [.pointer (some ⟨x.b, 0, none⟩), .string x.t.p.nm, .int .i64 x.t.p.seats, .int .i64 x.t.p.trip, .int .i64 x.t.p.cool, .int .i64 x.t.p.probes, .int .i64 x.t.fl]
def cellsG (rs : List Rt) : List Value := rs.flatMap Rt.cells
theorem cellsG_len (rs : List Rt) : (cellsG rs).length = rs.length * 7 := by
  induction rs with
  | nil => rfl
  | cons x r ih =>
    show (x.cells ++ cellsG r).length = _
    rw [List.length_append, ih, List.length_cons]
    show 7 + _ = _
    omega
theorem cellsG_app (a b : List Rt) : cellsG (a ++ b) = cellsG a ++ cellsG b := List.flatMap_append
theorem cellsG_get (rs : List Rt) (i j : Nat) (hj : j < 7) : (cellsG rs)[i * 7 + j]? = match rs[i]? with | none => none | some x => x.cells[j]? := by
  induction rs generalizing i with
  | nil => simp [cellsG]
  | cons x r ih =>
    show (x.cells ++ cellsG r)[i * 7 + j]? = _
    have hl : x.cells.length = 7 := rfl
    cases i with
    | zero =>
      rw [List.getElem?_append_left (by omega)]
      simp
    | succ i =>
      rw [List.getElem?_append_right (by omega), hl, show (i + 1) * 7 + j - 7 = i * 7 + j by omega, ih i]
      simp
theorem cellsG_set (rs : List Rt) (i j : Nat) (u : Value) (hj : j < 7) {x x' : Rt} (hx : rs[i]? = some x) (he : x'.cells = x.cells.set j u) : (cellsG rs).set (i * 7 + j) u = cellsG (rs.set i x') := by
  induction rs generalizing i with
  | nil => simp at hx
  | cons y r ih =>
    have hl : y.cells.length = 7 := rfl
    show (y.cells ++ cellsG r).set (i * 7 + j) u = _
    cases i with
    | zero =>
      simp only [List.getElem?_cons_zero, Option.some.injEq] at hx
      subst hx
      rw [List.set_append_left _ _ (by omega)]
      show _ = x'.cells ++ cellsG r
      rw [he]
      simp
    | succ i =>
      rw [List.set_append_right _ _ (by omega), hl, show (i + 1) * 7 + j - 7 = i * 7 + j by omega, ih i (by simpa using hx)]
      rfl
theorem cells_one (x : Rt) : ∀ u ∈ x.cells, u.oneCell' = true := by
  intro u hu
  simp only [Rt.cells, List.mem_cons, List.not_mem_nil, or_false] at hu
  rcases hu with rfl | rfl | rfl | rfl | rfl | rfl | rfl <;> rfl
/-- a cell of an own row is written -/
theorem row_set {w : World} {e : TypeId} {size r n c : Nat} {xs : List Value} (h : w.ownsRow 0 e size (.slice (some ⟨r, 0, none⟩) n c) n xs) (j : Nat) (u : Value) : (w.setCell ⟨r, j, none⟩ u).ownsRow 0 e size (.slice (some ⟨r, 0, none⟩) n c) n (xs.set j u) := by
  obtain ⟨h1, h2⟩ := h
  refine ⟨by simpa using h1, .inr ?_⟩
  rcases h2 with ⟨h3, _⟩ | ⟨g, cap, cur, hv, hg, hh, hc, hm, hs, ht⟩
  · cases h3
  · injection hv with hv1 hv2 hv3
    injection hv1 with hv1
    injection hv1 with hv1
    subst hv1 hv3
    refine ⟨r, c, cur.setIfInBounds j u, rfl, hg, ?_, hc, hm, by simpa using hs, ?_⟩
    · show (w.heap.modify r _)[r]? = _
      rw [Array.getElem?_modify, if_pos rfl, hh]
      rfl
    · rw [← ht, Array.toList_setIfInBounds, List.take_set]

/-- a guard's struct, its row, its breakers; X: blocks that are not its own -/
structure Raw (w : World) (g : Nat) (X : Nat → Prop) (v : Value) (rs : List Rt) : Prop where
  box : Box w g 42 #[v]
  row : w.ownsRow 0 48 7 v rs.length (cellsG rs)
  brk : ∀ x ∈ rs, Brk w x.b x.t.s
  nd : (rs.map Rt.b).Nodup
  ok : ∀ x ∈ rs, x.t.Ok
  few : rs.length ≤ 64
  xg : ¬ X g
  xr : ∀ i, v.ownBlock = some i → ¬ X i
  xb : ∀ x ∈ rs, ¬ X x.b
  xlt : ∀ i, X i → i < w.heap.size
def Grd (w : World) (g : Nat) (X : Nat → Prop) (L : List Gt) : Prop := ∃ v rs, Raw w g X v rs ∧ rs.map Rt.t = L
/-- the blocks that a guard has -/
def Own (g : Nat) (v : Value) (rs : List Rt) (i : Nat) : Prop := i = g ∨ v.ownBlock = some i ∨ ∃ x ∈ rs, x.b = i

theorem own_block {w : World} {e : TypeId} {k : Nat} {v : Value} {n i : Nat} {xs : List Value} (h : w.ownsRow 0 e k v n xs) (hi : v.ownBlock = some i) : ∃ cur, w.heap[i]? = some (.cells cur e (0, 0)) := by
  rcases h.2 with ⟨rfl, _⟩ | ⟨g, c, cur, rfl, _, hg, _⟩
  · simp [Value.ownBlock] at hi
  · simp only [Value.ownBlock, Option.some.injEq] at hi
    subst hi
    exact ⟨cur, hg⟩
theorem cells_ne {w : World} {i j : Nat} {c c' : Array Value} {t t' : TypeId} (h : w.heap[i]? = some (.cells c t (0, 0))) (h' : w.heap[j]? = some (.cells c' t' (0, 0))) (hne : t ≠ t') : i ≠ j := by
  rintro rfl
  rw [h] at h'
  have e := Option.some.inj h'
  injection e with _ e
  exact hne e
theorem row_stay {w w' : World} {e : TypeId} {k : Nat} {v : Value} {n : Nat} {xs : List Value} (h : w.ownsRow 0 e k v n xs) (hb : ∀ i, v.ownBlock = some i → w'.heap[i]? = w.heap[i]?) : w'.ownsRow 0 e k v n xs := by
  obtain ⟨h1, h2⟩ := h
  refine ⟨h1, h2.imp id ?_⟩
  rintro ⟨q, c, cur, rfl, hq, hh, rest⟩
  exact ⟨q, c, cur, rfl, hq, (hb q rfl).trans hh, rest⟩
theorem brk_stay {w w' : World} {b : Nat} {s : S} (h : Brk w b s) (hb : w'.heap[b]? = w.heap[b]?) : Brk w' b s := ⟨hb.trans h.box, h.ok⟩
section
variable {w w' : World} {g : Nat} {X : Nat → Prop} {v : Value} {rs : List Rt}
theorem Raw.rbox (h : Raw w g X v rs) {i : Nat} (hi : v.ownBlock = some i) : ∃ cur, Box w i 48 cur := own_block h.row hi
theorem Raw.gr (h : Raw w g X v rs) : v.ownBlock ≠ some g := fun e => by
  obtain ⟨cs, hc⟩ := h.rbox e
  exact cells_ne hc h.box (by decide) rfl
theorem Raw.gb (h : Raw w g X v rs) {x : Rt} (hx : x ∈ rs) : x.b ≠ g := cells_ne (h.brk x hx).box h.box (by decide)
theorem Raw.br (h : Raw w g X v rs) {x : Rt} (hx : x ∈ rs) : v.ownBlock ≠ some x.b := fun e => by
  obtain ⟨cs, hc⟩ := h.rbox e
  exact cells_ne hc (h.brk x hx).box (by decide) rfl
theorem Raw.xown (h : Raw w g X v rs) {i : Nat} (ho : Own g v rs i) : ¬ X i := by
  rcases ho with rfl | e | ⟨x, hx, rfl⟩
  · exact h.xg
  · exact h.xr i e
  · exact h.xb x hx
theorem Raw.olt (h : Raw w g X v rs) {i : Nat} (ho : Own g v rs i) : i < w.heap.size := by
  rcases ho with rfl | e | ⟨x, hx, rfl⟩
  · exact h.box.lt
  · obtain ⟨cs, hc⟩ := h.rbox e; exact hc.lt
  · exact (h.brk x hx).box.lt
/-- what leaves the guard's own blocks leaves the guard -/
theorem Raw.stay (h : Raw w g X v rs) (hs : w.heap.size ≤ w'.heap.size) (hb : ∀ i, Own g v rs i → w'.heap[i]? = w.heap[i]?) : Raw w' g X v rs where
  box := (hb g (.inl rfl)).trans h.box
  row := row_stay h.row fun i hi => hb i (.inr (.inl hi))
  brk x hx := brk_stay (h.brk x hx) (hb _ (.inr (.inr ⟨x, hx, rfl⟩)))
  nd := h.nd
  ok := h.ok
  few := h.few
  xg := h.xg
  xr := h.xr
  xb := h.xb
  xlt i hi := Nat.lt_of_lt_of_le (h.xlt i hi) hs
theorem Raw.below (h : Raw w g X v rs) (hb : Below w.heap.size w w') : Raw w' g X v rs := h.stay hb.size fun _ hi => hb.block _ (h.olt hi)
theorem Raw.drewN (h : Raw w g X v rs) (n : Nat) : Raw (w.drewN n) g X v rs := h.stay (Nat.le_refl _) fun _ _ => rfl
theorem Raw.other {Y : Nat → Prop} (h : Raw w g X v rs) (hY : ∀ i, Y i → i < w.heap.size ∧ ¬ Own g v rs i) : Raw w g Y v rs where
  box := h.box
  row := h.row
  brk := h.brk
  nd := h.nd
  ok := h.ok
  few := h.few
  xg hx := (hY _ hx).2 (.inl rfl)
  xr _ hi hx := (hY _ hx).2 (.inr (.inl hi))
  xb x hx hX := (hY _ hX).2 (.inr (.inr ⟨x, hx, rfl⟩))
  xlt i hi := (hY i hi).1
theorem Raw.less {Y : Nat → Prop} (h : Raw w g X v rs) (hY : ∀ i, Y i → X i) : Raw w g Y v rs := h.other fun i hi => ⟨h.xlt i (hY i hi), fun ho => h.xown ho (hY i hi)⟩
theorem Raw.wide (h : Raw w g X v rs) (hb : Below w.heap.size w w') : Raw w' g (fun i => X i ∨ w.heap.size ≤ i ∧ i < w'.heap.size) v rs := by
  have h' := h.below hb
  refine h'.other fun i hi => ?_
  rcases hi with hi | hi
  · exact ⟨h'.xlt i hi, fun ho => h.xown ho hi⟩
  · exact ⟨hi.2, fun ho => by have := h.olt ho; omega⟩
theorem mem_set {i : Nat} {x y : Rt} (hy : y ∈ rs.set i x) : y = x ∨ ∃ j, j ≠ i ∧ rs[j]? = some y := by
  obtain ⟨j, hj⟩ := List.mem_iff_getElem?.1 hy
  rw [List.getElem?_set] at hj
  by_cases h : i = j
  · rw [if_pos h] at hj
    split at hj
    · injection hj with hj; exact .inl hj.symm
    · cases hj
  · rw [if_neg h] at hj
    exact .inr ⟨j, fun e => h e.symm, hj⟩
theorem Raw.bne (h : Raw w g X v rs) {i j : Nat} {x y : Rt} (hx : rs[i]? = some x) (hy : rs[j]? = some y) (hne : j ≠ i) : y.b ≠ x.b := fun e => by
  have lt : ∀ {k : Nat} {z : Rt}, rs[k]? = some z → k < rs.length := fun {k z} hz => by
    rcases Nat.lt_or_ge k rs.length with h3 | h3
    · exact h3
    · rw [List.getElem?_eq_none h3] at hz; cases hz
  have hi := lt hx
  have hj := lt hy
  rw [List.getElem?_eq_getElem hi] at hx
  rw [List.getElem?_eq_getElem hj] at hy
  injection hx with hx
  injection hy with hy
  rcases Nat.lt_or_gt_of_ne hne with h1 | h1
  · have := List.pairwise_iff_getElem.1 h.nd j i (by simpa using hj) (by simpa using hi) h1
    exact this (by simp [hx, hy, e])
  · have := List.pairwise_iff_getElem.1 h.nd i j (by simpa using hi) (by simpa using hj) h1
    exact this (by simp [hx, hy, e])
/-- one gate has turned: its breaker's block is the old one's, or one that was not the guard's -/
theorem Raw.turn (h : Raw w g X v rs) {i : Nat} {x x' : Rt} (hx : rs[i]? = some x) (hs : w.heap.size ≤ w'.heap.size) (hb : ∀ k, k < w.heap.size → v.ownBlock ≠ some k → k ≠ x.b → k ≠ x'.b → w'.heap[k]? = w.heap[k]?)
    (hr : w'.ownsRow 0 48 7 v rs.length (cellsG (rs.set i x'))) (hB : Brk w' x'.b x'.t.s) (hok : x'.t.Ok) (hn : x'.b = x.b ∨ (¬ Own g v rs x'.b ∧ ¬ X x'.b)) : Raw w' g X v (rs.set i x') := by
  have hm : x ∈ rs := List.mem_of_getElem? hx
  have hg' : g ≠ x'.b := fun e => by
    rcases hn with h1 | h1
    · exact h.gb hm (h1.symm.trans e.symm)
    · exact h1.1 (.inl e.symm)
  have hy' : ∀ j y, j ≠ i → rs[j]? = some y → y.b ≠ x'.b := fun j y hj hy e => by
    rcases hn with h1 | h1
    · exact h.bne hx hy hj (e.trans h1)
    · exact h1.1 (.inr (.inr ⟨y, List.mem_of_getElem? hy, e⟩))
  have hxx' : ¬ X x'.b := by
    rcases hn with h1 | h1
    · rw [h1]; exact h.xb x hm
    · exact h1.2
  refine ⟨(hb g h.box.lt h.gr (h.gb hm).symm hg').trans h.box, by rw [List.length_set]; exact hr, fun y hy => ?_, ?_, fun y hy => ?_, by rw [List.length_set]; exact h.few, h.xg, h.xr, fun y hy => ?_, fun k hk => Nat.lt_of_lt_of_le (h.xlt k hk) hs⟩
  · rcases mem_set hy with rfl | ⟨j, hj, hy⟩
    · exact hB
    · have hym := List.mem_of_getElem? hy
      exact brk_stay (h.brk y hym) (hb _ (h.brk y hym).box.lt (h.br hym) (h.bne hx hy hj) (hy' j y hj hy))
  · rw [List.map_set]
    refine List.pairwise_iff_getElem.2 ?_
    intro a b ha hb' hab e
    rw [List.length_set, List.length_map] at ha hb'
    have hnd := List.pairwise_iff_getElem.1 h.nd a b (by simpa using ha) (by simpa using hb') hab
    rw [List.getElem_set, List.getElem_set] at e
    have ga : rs[a]? = some rs[a] := List.getElem?_eq_getElem ha
    have gb : rs[b]? = some rs[b] := List.getElem?_eq_getElem hb'
    by_cases h1 : i = a
    · rw [if_pos h1, if_neg (by omega)] at e
      exact hy' b _ (by omega) gb (by simpa using e.symm)
    · rw [if_neg h1] at e
      by_cases h2 : i = b
      · rw [if_pos h2] at e
        exact hy' a _ (by omega) ga (by simpa using e)
      · rw [if_neg h2] at e
        exact hnd e
  · rcases mem_set hy with rfl | ⟨j, hj, hy⟩
    · exact hok
    · exact h.ok y (List.mem_of_getElem? hy)
  · rcases mem_set hy with rfl | ⟨j, hj, hy⟩
    · exact hxx'
    · exact h.xb y (List.mem_of_getElem? hy)
/-- the row, where there is a gate -/
theorem Raw.live (h : Raw w g X v rs) (hl : 0 < rs.length) : ∃ r c, v = .slice (some ⟨r, 0, none⟩) rs.length c ∧ rs.length ≤ c := by
  rcases h.row.2 with ⟨_, h0⟩ | ⟨r, c, cur, hv, _, _, hc, _⟩
  · omega
  · exact ⟨r, c, hv, hc⟩
theorem Raw.cellr {r c : Nat} (h : Raw w g X (.slice (some ⟨r, 0, none⟩) rs.length c) rs) {i : Nat} {x : Rt} (hx : rs[i]? = some x) (j : Nat) (hj : j < 7) : w.cell? ⟨r, i * 7 + j, none⟩ = x.cells[j]? := by
  have hi : i < rs.length := by
    rcases Nat.lt_or_ge i rs.length with h1 | h1
    · exact h1
    · rw [List.getElem?_eq_none h1] at hx; cases hx
  rw [h.row.cellAt (i * 7 + j) (by omega), cellsG_get rs i j hj, hx]
theorem Raw.frozenr {r c : Nat} (h : Raw w g X (.slice (some ⟨r, 0, none⟩) rs.length c) rs) (k : Nat) : w.frozen? ⟨r, k, none⟩ = false := by
  obtain ⟨cs, hc⟩ := h.rbox (i := r) rfl
  exact hc.frozen k
/-- a cell of a gate is written -/
theorem Raw.put {r c : Nat} (h : Raw w g X (.slice (some ⟨r, 0, none⟩) rs.length c) rs) {i : Nat} {x x' : Rt} (hx : rs[i]? = some x) (j : Nat) (hj : j < 7) (u : Value) (he : x'.cells = x.cells.set j u) (hb : x'.b = x.b) (hs : x'.t.s = x.t.s) (hok : x'.t.Ok) :
    Raw (w.setCell ⟨r, i * 7 + j, none⟩ u) g X (.slice (some ⟨r, 0, none⟩) rs.length c) (rs.set i x') ∧ Keep X w (w.setCell ⟨r, i * 7 + j, none⟩ u) := by
  have hm : x ∈ rs := List.mem_of_getElem? hx
  have hne : x.b ≠ r := fun e => h.br hm (by rw [e]; rfl)
  have hrow := row_set h.row (i * 7 + j) u
  rw [cellsG_set rs i j u hj hx he] at hrow
  refine ⟨h.turn hx (by simp [World.setCell]) (fun k _ h1 _ _ => Below.heap_setCell w ⟨r, i * 7 + j, none⟩ u k (fun e => h1 (by rw [show k = r from e]; rfl))) hrow ?_ hok (.inl hb), (Keep.refl X w).setCell (h.xr r rfl) _ _⟩
  rw [hb, hs]
  exact brk_stay (h.brk x hm) (Below.heap_setCell w ⟨r, i * 7 + j, none⟩ u x.b hne)
/-- the breaker of a gate has turned -/
theorem Raw.aft (h : Raw w g X v rs) {i : Nat} {x : Rt} (hx : rs[i]? = some x) {s : S} (ha : Aft w x.b s w') (hok : Gt.Ok ⟨x.t.p, s, x.t.fl⟩) : Raw w' g X v (rs.set i ⟨x.b, ⟨x.t.p, s, x.t.fl⟩⟩) ∧ Keep X w w' := by
  have hm : x ∈ rs := List.mem_of_getElem? hx
  refine ⟨h.turn hx ha.2.size (fun k hk _ h2 _ => ha.2.block k hk (by simpa using h2)) ?_ ha.1 hok (.inl rfl), Keep.of_grown ha.2 (fun k e => by injection e with e; exact e ▸ h.xb x hm)⟩
  have he : cellsG (rs.set i ⟨x.b, ⟨x.t.p, s, x.t.fl⟩⟩) = cellsG rs := by
    have := cellsG_set rs i 6 (.int .i64 x.t.fl) (by omega) hx (x' := ⟨x.b, ⟨x.t.p, s, x.t.fl⟩⟩) rfl
    rw [← this]
    have hg := cellsG_get rs i 6 (by omega)
    rw [hx] at hg
    have hg' : (cellsG rs)[i * 7 + 6]? = some (.int .i64 x.t.fl) := hg
    have hlt : i * 7 + 6 < (cellsG rs).length := by
      rcases Nat.lt_or_ge (i * 7 + 6) (cellsG rs).length with h1 | h1
      · exact h1
      · rw [List.getElem?_eq_none h1] at hg'; cases hg'
    rw [List.getElem?_eq_getElem hlt] at hg'
    injection hg' with hg'
    rw [← hg']
    exact List.set_getElem_self hlt
  rw [he]
  exact h.row.kept ha.2 (.inr (fun e => h.br hm e))
theorem Grd.below {L : List Gt} (h : Grd w g X L) (hb : Below w.heap.size w w') : Grd w' g X L := by obtain ⟨v, rs, h1, h2⟩ := h; exact ⟨v, rs, h1.below hb, h2⟩
theorem Grd.drewN {L : List Gt} (h : Grd w g X L) (n : Nat) : Grd (w.drewN n) g X L := by obtain ⟨v, rs, h1, h2⟩ := h; exact ⟨v, rs, h1.drewN n, h2⟩
theorem Grd.less {L : List Gt} {Y : Nat → Prop} (h : Grd w g X L) (hY : ∀ i, Y i → X i) : Grd w g Y L := by obtain ⟨v, rs, h1, h2⟩ := h; exact ⟨v, rs, h1.less hY, h2⟩
theorem Grd.wide {L : List Gt} (h : Grd w g X L) (hb : Below w.heap.size w w') : Grd w' g (fun i => X i ∨ w.heap.size ≤ i ∧ i < w'.heap.size) L := by obtain ⟨v, rs, h1, h2⟩ := h; exact ⟨v, rs, h1.wide hb, h2⟩
theorem Grd.ok {L : List Gt} (h : Grd w g X L) : ∀ x ∈ L, x.Ok := by
  obtain ⟨v, rs, h1, rfl⟩ := h
  intro x hx
  obtain ⟨y, hy, rfl⟩ := List.mem_map.1 hx
  exact h1.ok y hy
theorem Grd.few {L : List Gt} (h : Grd w g X L) : L.length ≤ 64 := by
  obtain ⟨v, rs, h1, rfl⟩ := h
  simpa using h1.few
end
end Go.Proofs.Ytapnnlebokcmgaa.Gd
