/-
  The memory of a wheel: its struct's block, its levels' blocks, a row of timers for each slot, a block for each timer, its map's block; what leaves a wheel as it is, and what turns one slot alone.
  Conditions: as each theorem names them.
-/
import Derived.Test.YtobodianbjfgfaaWhlCalls
import Derived.Maps.OwnSet
namespace Go.Proofs.Ytobodianbjfgfaa.Wh
open Go.RowKit Go.Maps

/-- how a map's value is read: as itself -/
def rawElem (v : Value) : Option (DataW Value × List MemPlace) := some (.held v, [])
theorem rawElem_inv {v : Value} {d : DataW Value} {ps : List MemPlace} (h : rawElem v = some (d, ps)) : d = .held v := by
  simp only [rawElem, Option.some.injEq, Prod.mk.injEq] at h
  exact h.1.symm

/-- the blocks of X stay -/
structure Keep (X : Nat → Prop) (w w' : World) : Prop where
  os : w'.os = w.os
  tape : w'.tape = w.tape
  output : w'.output = w.output
  size : w.heap.size ≤ w'.heap.size
  block : ∀ i, i < w.heap.size → X i → w'.heap[i]? = w.heap[i]?
theorem Keep.refl (X : Nat → Prop) (w : World) : Keep X w w := ⟨rfl, rfl, rfl, Nat.le_refl _, fun _ _ _ => rfl⟩
theorem Keep.trans {X : Nat → Prop} {a b c : World} (h : Keep X a b) (k : Keep X b c) : Keep X a c :=
  ⟨k.os.trans h.os, k.tape.trans h.tape, k.output.trans h.output, Nat.le_trans h.size k.size, fun i hi hx => (k.block i (Nat.lt_of_lt_of_le hi h.size) hx).trans (h.block i hi hx)⟩
theorem Keep.mono {X Y : Nat → Prop} {a b : World} (h : Keep X a b) (hY : ∀ i, Y i → X i) : Keep Y a b := ⟨h.os, h.tape, h.output, h.size, fun i hi hx => h.block i hi (hY i hx)⟩
theorem Keep.of_below {X : Nat → Prop} {a b : World} (h : Below a.heap.size a b) : Keep X a b := ⟨h.os, h.tape, h.output, h.size, fun i hi _ => h.block i hi⟩
theorem Keep.of_grown {X : Nat → Prop} {a b : World} {row : Option Nat} (h : a.grownBy b row) (hr : ∀ i, row = some i → ¬ X i) : Keep X a b :=
  ⟨h.os, h.tape, h.output, h.size, fun i hi hx => h.block i hi fun e => hr i e.symm hx⟩
theorem Keep.below {X : Nat → Prop} {a b : World} {B : Nat} (h : Keep X a b) (hB : B ≤ a.heap.size) (hX : ∀ i, i < B → X i) : Below B a b :=
  ⟨h.os, h.tape, h.output, h.size, fun i hi => h.block i (by omega) (hX i hi)⟩
theorem Keep.setCell {X : Nat → Prop} {a b : World} (h : Keep X a b) {g : Nat} (hg : ¬ X g) (i : Nat) (u : Value) : Keep X a (b.setCell ⟨g, i, none⟩ u) :=
  ⟨h.os, h.tape, h.output, by simpa [World.setCell] using h.size, fun j hj hx => (Below.heap_setCell b ⟨g, i, none⟩ u j (fun e => hg (by have e' : j = g := e; exact e' ▸ hx))).trans (h.block j hj hx)⟩
theorem Keep.drewN {X : Nat → Prop} {a b : World} (h : Keep X a b) (n : Nat) : Keep X a (b.drewN n) := ⟨h.os, h.tape, h.output, h.size, h.block⟩
theorem Keep.box {X : Nat → Prop} {a b : World} (h : Keep X a b) {g : Nat} {t : TypeId} {cs : Array Value} (hb : Box a g t cs) (hx : X g) : Box b g t cs := (h.block g hb.lt hx).trans hb

theorem setCell_only (w : World) (b i : Nat) (u : Value) : w.grownBy (w.setCell ⟨b, i, none⟩ u) (some b) := only_put ⟨rfl, rfl, rfl, Nat.le_refl _, fun _ _ _ => rfl⟩ i u
def ptr (b : Nat) : Value := .pointer (some ⟨b, 0, none⟩)
/-- a level's pointer, nil let in -/
def lp (o : Option Nat) : Value := .pointer (o.map fun b => ⟨b, 0, none⟩)
def En.val (e : En) : Value := ptr e.b
/-- an entry of the map: a handle, and its timer's block -/
def ent (p : Nat × Nat) : Lit × DataW Value := (.int .i64 (p.1 : Int), .held (ptr p.2))
def wcells (cap now last : Nat) (lev : Nat → Option Nat) (bm : Nat) : Array Value := #[.int .i64 (cap : Int), .int .i64 (now : Int), .int .i64 (last : Int), lp (lev 0), lp (lev 1), lp (lev 2), lp (lev 3), .map (some bm)]
def In (k j : Nat) : Prop := k < 4 ∧ j < 1024
def nil_ : Value := .slice none 0 0

/-- a wheel's struct, its levels, its rows, its timers, its map; X: blocks that are not its own -/
structure Raw (w : World) (g : Nat) (X : Nat → Prop) (bm : Nat) (lev : Nat → Option Nat) (rv : Nat → Nat → Value) (ct : Nat → Nat → List En) (ms : List (Nat × Nat)) (cap now last : Nat) : Prop where
  box : Box w g 57 (wcells cap now last lev bm)
  lvl : ∀ k b, k < 4 → lev k = some b → ∃ cs, Box w b 75 cs ∧ cs.size = 1024 ∧ ∀ j, j < 1024 → cs[j]? = some (rv k j)
  nol : ∀ k j, In k j → lev k = none → rv k j = nil_ ∧ ct k j = []
  row : ∀ k j, In k j → w.ownsRow 0 59 1 (rv k j) (ct k j).length ((ct k j).map En.val)
  ens : ∀ k j i, In k j → i < (ct k j).length → Box w (nth (ct k j) i).b 61 ((nth (ct k j) i).cells i)
  nd : ∀ k j, In k j → ((ct k j).map En.b).Nodup
  ap : ∀ k j k' j' x y, In k j → In k' j' → x ∈ ct k j → y ∈ ct k' j' → x.b = y.b → k = k' ∧ j = j'
  lvi : ∀ k k' b, k < 4 → k' < 4 → lev k = some b → lev k' = some b → k = k'
  rap : ∀ k j k' j' i, In k j → In k' j' → (rv k j).ownBlock = some i → (rv k' j').ownBlock = some i → k = k' ∧ j = j'
  map : ∃ es, w.ownsMap Try.prog 3 rawElem bm ms.length (.map es) ∧ es.Perm (ms.map ent)
  xg : ¬ X g
  xm : ¬ X bm
  xl : ∀ k b, k < 4 → lev k = some b → ¬ X b
  xr : ∀ k j i, In k j → (rv k j).ownBlock = some i → ¬ X i
  xe : ∀ k j x, In k j → x ∈ ct k j → ¬ X x.b
  xlt : ∀ i, X i → i < w.heap.size

theorem own_block {w : World} {e : TypeId} {v : Value} {n i : Nat} {xs : List Value} (h : w.ownsRow 0 e 1 v n xs) (hi : v.ownBlock = some i) : ∃ cur, w.heap[i]? = some (.cells cur e (0, 0)) := by
  rcases h.2 with ⟨rfl, _⟩ | ⟨g, c, cur, rfl, _, hg, _⟩
  · simp [Value.ownBlock] at hi
  · simp only [Value.ownBlock, Option.some.injEq] at hi
    subst hi
    exact ⟨cur, hg⟩
theorem cells_ne {w : World} {i j : Nat} {c c' : Array Value} {t t' : TypeId} (h : w.heap[i]? = some (.cells c t (0, 0))) (h' : w.heap[j]? = some (.cells c' t' (0, 0))) (hne : t ≠ t') : i ≠ j := by
  rintro rfl
  rw [h] at h'
  have e := Option.some.inj h'
  injection e with _ e
  exact hne e
theorem map_ne {w : World} {i j : Nat} {c : Array Value} {t : TypeId} {es : Array MapEntry} {n : Nat} (h : w.heap[i]? = some (.cells c t (0, 0))) (h' : w.heap[j]? = some (.map es n)) : i ≠ j := by
  rintro rfl
  rw [h] at h'
  cases h'

section
variable {w w' : World} {g bm : Nat} {X : Nat → Prop} {lev : Nat → Option Nat} {rv : Nat → Nat → Value} {ct : Nat → Nat → List En} {ms : List (Nat × Nat)} {cap now last : Nat}
theorem Raw.mlt (h : Raw w g X bm lev rv ct ms cap now last) : bm < w.heap.size := by obtain ⟨es, h1, _⟩ := h.map; exact h1.lt
theorem Raw.mblk (h : Raw w g X bm lev rv ct ms cap now last) : ∃ es c, w.heap[bm]? = some (.map es c) := by obtain ⟨es, ⟨e1, c1, h1, _⟩, _⟩ := h.map; exact ⟨e1, c1, h1⟩
theorem Raw.gm (h : Raw w g X bm lev rv ct ms cap now last) : g ≠ bm := by obtain ⟨es, c, h1⟩ := h.mblk; exact map_ne h.box h1
theorem Raw.lbox (h : Raw w g X bm lev rv ct ms cap now last) {k b : Nat} (hk : k < 4) (hb : lev k = some b) : ∃ cs, Box w b 75 cs := by obtain ⟨cs, h1, _⟩ := h.lvl k b hk hb; exact ⟨cs, h1⟩
theorem Raw.rbox (h : Raw w g X bm lev rv ct ms cap now last) {k j i : Nat} (hk : In k j) (hb : (rv k j).ownBlock = some i) : ∃ cs, Box w i 59 cs := own_block (h.row k j hk) hb
theorem Raw.ek (h : Raw w g X bm lev rv ct ms cap now last) {k j : Nat} (hk : In k j) {x : En} (hx : x ∈ ct k j) : ∃ i, i < (ct k j).length ∧ nth (ct k j) i = x ∧ Box w x.b 61 (x.cells i) := by
  obtain ⟨i, hi, rfl⟩ := mem_nth hx
  exact ⟨i, hi, rfl, h.ens k j i hk hi⟩
theorem Raw.ebox (h : Raw w g X bm lev rv ct ms cap now last) {k j : Nat} (hk : In k j) {x : En} (hx : x ∈ ct k j) : ∃ cs, Box w x.b 61 cs := by obtain ⟨i, _, _, hb⟩ := h.ek hk hx; exact ⟨_, hb⟩
/-- the blocks that a wheel has -/
def Own (g bm : Nat) (lev : Nat → Option Nat) (rv : Nat → Nat → Value) (ct : Nat → Nat → List En) (i : Nat) : Prop :=
  i = g ∨ i = bm ∨ (∃ k, k < 4 ∧ lev k = some i) ∨ (∃ k j, In k j ∧ (rv k j).ownBlock = some i) ∨ ∃ k j x, In k j ∧ x ∈ ct k j ∧ x.b = i
theorem Raw.xown (h : Raw w g X bm lev rv ct ms cap now last) {i : Nat} (ho : Own g bm lev rv ct i) : ¬ X i := by
  rcases ho with rfl | rfl | ⟨k, hk, hb⟩ | ⟨k, j, hk, hb⟩ | ⟨k, j, x, hk, hx, rfl⟩
  · exact h.xg
  · exact h.xm
  · exact h.xl k i hk hb
  · exact h.xr k j i hk hb
  · exact h.xe k j x hk hx
theorem Raw.olt (h : Raw w g X bm lev rv ct ms cap now last) {i : Nat} (ho : Own g bm lev rv ct i) : i < w.heap.size := by
  rcases ho with rfl | rfl | ⟨k, hk, hb⟩ | ⟨k, j, hk, hb⟩ | ⟨k, j, x, hk, hx, rfl⟩
  · exact h.box.lt
  · exact h.mlt
  · obtain ⟨cs, hc⟩ := h.lbox hk hb; exact hc.lt
  · obtain ⟨cs, hc⟩ := h.rbox hk hb; exact hc.lt
  · obtain ⟨cs, hc⟩ := h.ebox hk hx; exact hc.lt
theorem row_stay {e : TypeId} {v : Value} {n : Nat} {xs : List Value} (h : w.ownsRow 0 e 1 v n xs) (hb : ∀ i, v.ownBlock = some i → w'.heap[i]? = w.heap[i]?) : w'.ownsRow 0 e 1 v n xs := by
  obtain ⟨h1, h2⟩ := h
  refine ⟨h1, h2.imp id ?_⟩
  rintro ⟨q, c, cur, rfl, hq, hh, rest⟩
  exact ⟨q, c, cur, rfl, hq, (hb q rfl).trans hh, rest⟩
theorem map_stay {n : Nat} {d : DataW Value} (h : w.ownsMap Try.prog 3 rawElem bm n d) (hb : w'.heap[bm]? = w.heap[bm]?) : w'.ownsMap Try.prog 3 rawElem bm n d := by
  obtain ⟨e1, c1, h1, h2⟩ := h
  exact ⟨e1, c1, hb.trans h1, h2⟩
/-- what leaves the wheel's own blocks leaves the wheel -/
theorem Raw.stay (h : Raw w g X bm lev rv ct ms cap now last) (hs : w.heap.size ≤ w'.heap.size) (hb : ∀ i, Own g bm lev rv ct i → w'.heap[i]? = w.heap[i]?) : Raw w' g X bm lev rv ct ms cap now last where
  box := (hb g (.inl rfl)).trans h.box
  lvl k b hk hl := by obtain ⟨cs, h1, h2⟩ := h.lvl k b hk hl; exact ⟨cs, (hb b (.inr (.inr (.inl ⟨k, hk, hl⟩)))).trans h1, h2⟩
  nol := h.nol
  row k j hk := row_stay (h.row k j hk) fun i hi => hb i (.inr (.inr (.inr (.inl ⟨k, j, hk, hi⟩))))
  ens k j i hk hi := (hb _ (.inr (.inr (.inr (.inr ⟨k, j, _, hk, nth_mem hi, rfl⟩))))).trans (h.ens k j i hk hi)
  nd := h.nd
  ap := h.ap
  lvi := h.lvi
  rap := h.rap
  map := by obtain ⟨es, h1, h2⟩ := h.map; exact ⟨es, map_stay h1 (hb bm (.inr (.inl rfl))), h2⟩
  xg := h.xg
  xm := h.xm
  xl := h.xl
  xr := h.xr
  xe := h.xe
  xlt i hi := Nat.lt_of_lt_of_le (h.xlt i hi) hs
theorem Raw.below (h : Raw w g X bm lev rv ct ms cap now last) (hb : Below w.heap.size w w') : Raw w' g X bm lev rv ct ms cap now last := h.stay hb.size fun _ hi => hb.block _ (h.olt hi)
theorem Raw.drewN (h : Raw w g X bm lev rv ct ms cap now last) (n : Nat) : Raw (w.drewN n) g X bm lev rv ct ms cap now last := h.stay (Nat.le_refl _) (fun _ _ => rfl)
theorem Raw.drew (h : Raw w g X bm lev rv ct ms cap now last) : Raw w.drew g X bm lev rv ct ms cap now last := h.drewN 1
theorem Raw.other {Y : Nat → Prop} (h : Raw w g X bm lev rv ct ms cap now last) (hY : ∀ i, Y i → i < w.heap.size ∧ ¬ Own g bm lev rv ct i) : Raw w g Y bm lev rv ct ms cap now last where
  box := h.box
  lvl := h.lvl
  nol := h.nol
  row := h.row
  ens := h.ens
  nd := h.nd
  ap := h.ap
  lvi := h.lvi
  rap := h.rap
  map := h.map
  xg hx := (hY _ hx).2 (.inl rfl)
  xm hx := (hY _ hx).2 (.inr (.inl rfl))
  xl k _ hk hb hx := (hY _ hx).2 (.inr (.inr (.inl ⟨k, hk, hb⟩)))
  xr k j _ hk hi hx := (hY _ hx).2 (.inr (.inr (.inr (.inl ⟨k, j, hk, hi⟩))))
  xe k j x hk hm hx := (hY _ hx).2 (.inr (.inr (.inr (.inr ⟨k, j, x, hk, hm, rfl⟩))))
  xlt i hi := (hY i hi).1
theorem Raw.less {Y : Nat → Prop} (h : Raw w g X bm lev rv ct ms cap now last) (hY : ∀ i, Y i → X i) : Raw w g Y bm lev rv ct ms cap now last := h.other fun i hi => ⟨h.xlt i (hY i hi), fun ho => h.xown ho (hY i hi)⟩
theorem Raw.wide (h : Raw w g X bm lev rv ct ms cap now last) (hb : Below w.heap.size w w') : Raw w' g (fun i => X i ∨ w.heap.size ≤ i ∧ i < w'.heap.size) bm lev rv ct ms cap now last := by
  have h' := h.below hb
  refine h'.other fun i hi => ?_
  rcases hi with hi | hi
  · exact ⟨h'.xlt i hi, fun ho => h.xown ho hi⟩
  · exact ⟨hi.2, fun ho => by have := h.olt ho; omega⟩
/-- a function of places, one of which has turned -/
def upd {α : Type} (f : Nat → Nat → α) (k j : Nat) (a : α) : Nat → Nat → α := fun k' j' => if k' = k ∧ j' = j then a else f k' j'
theorem upd_same {α : Type} (f : Nat → Nat → α) (k j : Nat) (a : α) : upd f k j a k j = a := by simp [upd]
theorem upd_ne {α : Type} (f : Nat → Nat → α) {k j k' j' : Nat} (a : α) (h : ¬ (k' = k ∧ j' = j)) : upd f k j a k' j' = f k' j' := by simp only [upd, if_neg h]
/-- one slot has turned -/
theorem Raw.turn (h : Raw w g X bm lev rv ct ms cap now last) {k j lb : Nat} (hk : In k j) (hlb : lev k = some lb) {v' : Value} {c' : List En} (hs : w.heap.size ≤ w'.heap.size)
    (hb : ∀ i, i < w.heap.size → i ≠ lb → (rv k j).ownBlock ≠ some i → (∀ x ∈ ct k j, x.b ≠ i) → (∀ x ∈ c', x.b ≠ i) → w'.heap[i]? = w.heap[i]?)
    (hl : ∃ cs, Box w' lb 75 cs ∧ cs.size = 1024 ∧ ∀ j', j' < 1024 → cs[j']? = some (upd rv k j v' k j'))
    (hr : w'.ownsRow 0 59 1 v' c'.length (c'.map En.val))
    (he : ∀ i, i < c'.length → Box w' (nth c' i).b 61 ((nth c' i).cells i))
    (hnd : (c'.map En.b).Nodup)
    (hc : ∀ x ∈ c', (∃ cs, Box w x.b 61 cs) ∧ ¬ X x.b ∧ ∀ k' j', In k' j' → ¬ (k' = k ∧ j' = j) → ∀ y ∈ ct k' j', y.b ≠ x.b)
    (hv : ∀ i, v'.ownBlock = some i → ¬ X i ∧ ((rv k j).ownBlock = some i ∨ w.heap.size ≤ i)) :
    Raw w' g X bm lev (upd rv k j v') (upd ct k j c') ms cap now last := by
  obtain ⟨lc, hlbox⟩ := h.lbox hk.1 hlb
  have hb' : ∀ i, i < w.heap.size → i ≠ lb → (∀ cs, Box w i 59 cs → (rv k j).ownBlock ≠ some i) → (∀ cs, Box w i 61 cs → (∀ x ∈ ct k j, x.b ≠ i) ∧ ∀ x ∈ c', x.b ≠ i) → w'.heap[i]? = w.heap[i]? := by
    intro i hi h1 h2 h3
    refine hb i hi h1 (fun e => ?_) (fun x hx e => ?_) (fun x hx e => ?_)
    · obtain ⟨cs, hc⟩ := h.rbox hk e
      exact h2 cs hc e
    · obtain ⟨cs, hc⟩ := h.ebox hk hx
      exact (h3 cs (e ▸ hc)).1 x hx e
    · obtain ⟨⟨cs, hc⟩, _⟩ := hc x hx
      exact (h3 cs (e ▸ hc)).2 x hx e
  have nobox : ∀ {i : Nat} {t t' : TypeId} {cs cs' : Array Value}, Box w i t cs → Box w i t' cs' → t ≠ t' → False := fun h1 h2 hne => cells_ne h1 h2 hne rfl
  have hother : ∀ k' j' i, In k' j' → ¬ (k' = k ∧ j' = j) → (rv k' j').ownBlock = some i → w'.heap[i]? = w.heap[i]? := fun k' j' i hk' hne hi => by
    obtain ⟨cs, hc⟩ := h.rbox hk' hi
    refine hb' i hc.lt (fun e => nobox hc (e ▸ hlbox) (by decide)) (fun _ _ e => ?_) (fun _ h1 => (nobox hc h1 (by decide)).elim)
    have := h.rap k' j' k j i hk' hk hi e
    exact hne this
  refine ⟨?_, ?_, ?_, ?_, ?_, ?_, ?_, h.lvi, ?_, ?_, h.xg, h.xm, h.xl, ?_, ?_, fun i hi => Nat.lt_of_lt_of_le (h.xlt i hi) hs⟩
  · exact (hb' g h.box.lt (fun e => nobox h.box (e ▸ hlbox) (by decide)) (fun _ h1 => (nobox h.box h1 (by decide)).elim) (fun _ h1 => (nobox h.box h1 (by decide)).elim)).trans h.box
  · intro k' b hk' hb1
    by_cases hkk : k' = k
    · subst hkk
      rw [hlb] at hb1
      injection hb1 with hb1
      subst hb1
      exact hl
    · obtain ⟨cs, h1, h2, h3⟩ := h.lvl k' b hk' hb1
      refine ⟨cs, (hb' b h1.lt (fun e => hkk (h.lvi k' k b hk' hk.1 hb1 (e ▸ hlb))) (fun _ h4 => (nobox h1 h4 (by decide)).elim) (fun _ h4 => (nobox h1 h4 (by decide)).elim)).trans h1, h2, fun j' hj' => ?_⟩
      rw [upd_ne _ _ (fun e => hkk e.1)]
      exact h3 j' hj'
  · intro k' j' hk' hn
    have hkk : ¬ (k' = k ∧ j' = j) := fun e => by rw [e.1, hlb] at hn; cases hn
    rw [upd_ne _ _ hkk, upd_ne _ _ hkk]
    exact h.nol k' j' hk' hn
  · intro k' j' hk'
    by_cases hkk : k' = k ∧ j' = j
    · rw [hkk.1, hkk.2, upd_same, upd_same]
      exact hr
    · rw [upd_ne _ _ hkk, upd_ne _ _ hkk]
      exact row_stay (h.row k' j' hk') fun i hi => hother k' j' i hk' hkk hi
  · intro k' j' i hk' hi
    by_cases hkk : k' = k ∧ j' = j
    · rw [hkk.1, hkk.2, upd_same] at hi ⊢
      exact he i hi
    · rw [upd_ne _ _ hkk] at hi ⊢
      have hB := h.ens k' j' i hk' hi
      refine (hb' _ hB.lt (fun e => nobox hB (e ▸ hlbox) (by decide)) (fun _ h1 => (nobox hB h1 (by decide)).elim) (fun _ _ => ⟨fun x hx e => ?_, fun x hx e => ?_⟩)).trans hB
      · exact hkk (h.ap k' j' k j _ x hk' hk (nth_mem hi) hx e.symm)
      · exact (hc x hx).2.2 k' j' hk' hkk _ (nth_mem hi) e.symm
  · intro k' j' hk'
    by_cases hkk : k' = k ∧ j' = j
    · rw [hkk.1, hkk.2, upd_same]
      exact hnd
    · rw [upd_ne _ _ hkk]
      exact h.nd k' j' hk'
  · intro k1 j1 k2 j2 x y hk1 hk2 hx hy e
    by_cases h1 : k1 = k ∧ j1 = j
    · by_cases h2 : k2 = k ∧ j2 = j
      · exact ⟨h1.1.trans h2.1.symm, h1.2.trans h2.2.symm⟩
      · rw [h1.1, h1.2, upd_same] at hx
        rw [upd_ne _ _ h2] at hy
        exact absurd e.symm ((hc x hx).2.2 k2 j2 hk2 h2 y hy)
    · rw [upd_ne _ _ h1] at hx
      by_cases h2 : k2 = k ∧ j2 = j
      · rw [h2.1, h2.2, upd_same] at hy
        exact absurd e ((hc y hy).2.2 k1 j1 hk1 h1 x hx)
      · rw [upd_ne _ _ h2] at hy
        exact h.ap k1 j1 k2 j2 x y hk1 hk2 hx hy e
  · intro k1 j1 k2 j2 i hk1 hk2 hx hy
    have hlt : ∀ k' j', In k' j' → (rv k' j').ownBlock = some i → i < w.heap.size := fun k' j' hk' e => by obtain ⟨cs, hc⟩ := h.rbox hk' e; exact hc.lt
    by_cases h1 : k1 = k ∧ j1 = j
    · by_cases h2 : k2 = k ∧ j2 = j
      · exact ⟨h1.1.trans h2.1.symm, h1.2.trans h2.2.symm⟩
      · rw [h1.1, h1.2, upd_same] at hx
        rw [upd_ne _ _ h2] at hy
        rcases (hv i hx).2 with h3 | h3
        · have := h.rap k j k2 j2 i hk hk2 h3 hy
          exact absurd ⟨this.1.symm, this.2.symm⟩ h2
        · have := hlt _ _ hk2 hy
          omega
    · rw [upd_ne _ _ h1] at hx
      by_cases h2 : k2 = k ∧ j2 = j
      · rw [h2.1, h2.2, upd_same] at hy
        rcases (hv i hy).2 with h3 | h3
        · have := h.rap k1 j1 k j i hk1 hk hx h3
          exact absurd this h1
        · have := hlt _ _ hk1 hx
          omega
      · rw [upd_ne _ _ h2] at hy
        exact h.rap k1 j1 k2 j2 i hk1 hk2 hx hy
  · obtain ⟨es, h1, h2⟩ := h.map
    obtain ⟨e1, c1, hm⟩ := h.mblk
    exact ⟨es, map_stay h1 (hb' bm h.mlt (fun e => map_ne hlbox (e ▸ hm) rfl) (fun _ h3 => (map_ne h3 hm rfl).elim) (fun _ h3 => (map_ne h3 hm rfl).elim)), h2⟩
  · intro k' j' i hk' hi
    by_cases hkk : k' = k ∧ j' = j
    · rw [hkk.1, hkk.2, upd_same] at hi
      exact (hv i hi).1
    · rw [upd_ne _ _ hkk] at hi
      exact h.xr k' j' i hk' hi
  · intro k' j' x hk' hx
    by_cases hkk : k' = k ∧ j' = j
    · rw [hkk.1, hkk.2, upd_same] at hx
      exact (hc x hx).2.1
    · rw [upd_ne _ _ hkk] at hx
      exact h.xe k' j' x hk' hx
end
end Go.Proofs.Ytobodianbjfgfaa.Wh
