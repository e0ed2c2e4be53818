/-
  The memory of a store: its struct's block, its map's block, and a block of its own for each file's bytes; what leaves a store as it is, and what puts, takes away and turns.
  Conditions: as each theorem names them.
-/
import Derived.Test.YtohnhboeipckjaaGreatDoorProg
import Derived.Test.YtohnhboeipckjaaGreatDoorFldMem
import Derived.Test.YtohnhboeipckjaaGreatDoorStoMath
import Derived.Maps.OwnSet
import Derived.Maps.RangeWalk
import Derived.Sort.KeysCollected
namespace Go.Proofs.YtohnhboeipckjaaGreatDoor
open Go.RowKit Go.Maps

/-- how a map's value is read: as itself -/
def rawElem (v : Value) : Option (DataW Value × List MemPlace) := some (.held v, [])
theorem rawElem_inv {v : Value} {d : DataW Value} {ps : List MemPlace} (h : rawElem v = some (d, ps)) : d = .held v := by
  simp only [rawElem, Option.some.injEq, Prod.mk.injEq] at h
  exact h.1.symm

/-- a file as the map has it: its bytes are the slice v's -/
structure RF where
  fl : Fl
  v : Value
def RF.nm (r : RF) : List UInt8 := r.fl.name
def fileV (v : Value) (safe : Nat) (stays : Bool) : Value := .agg #[v, .int .i64 (safe : Int), .bool stays]
def ent (r : RF) : Lit × DataW Value := (.string r.fl.name, .held (fileV r.v r.fl.safe r.fl.stays))

section
variable {es : List (Lit × DataW Value)} {rs : List RF}
theorem has_ent (hp : es.Perm (rs.map ent)) (x : List UInt8) : Maps.has (.map es) (.string x) = (lookBy RF.nm x rs).isSome := by
  rw [Maps.has_eq, hp.any_eq, List.any_map]
  cases h : lookBy RF.nm x rs with
  | none =>
    simp only [Option.isSome_none, List.any_eq_false]
    intro r hr
    have := lookBy_none h r hr
    simpa [ent, Lit.sameKey, RF.nm] using this
  | some r =>
    obtain ⟨hr, hn⟩ := lookBy_some h
    simp only [Option.isSome_some, List.any_eq_true]
    exact ⟨r, hr, by simpa [ent, Lit.sameKey, RF.nm] using hn⟩
theorem at_ent (hp : es.Perm (rs.map ent)) (hr : Rise RF.nm rs) (x : List UInt8) (zd : DataW Value) :
    (DataW.map es).atKey (.string x) zd = match lookBy RF.nm x rs with | some r => .held (fileV r.v r.fl.safe r.fl.stays) | none => zd := by
  unfold DataW.atKey
  simp only
  cases h : lookBy RF.nm x rs with
  | none =>
    have : es.find? (fun p => p.1.sameKey (.string x)) = none := by
      rw [List.find?_eq_none]
      intro p hm
      obtain ⟨r, hr', rfl⟩ := List.mem_map.1 (hp.mem_iff.1 hm)
      have := lookBy_none h r hr'
      simpa [ent, Lit.sameKey, RF.nm] using this
    rw [this]
  | some r =>
    obtain ⟨hm, hn⟩ := lookBy_some h
    cases e : es.find? (fun p => p.1.sameKey (.string x)) with
    | none =>
      have := List.find?_eq_none.1 e (ent r) (hp.mem_iff.2 (List.mem_map.2 ⟨r, hm, rfl⟩))
      simp [ent, Lit.sameKey, ← hn, RF.nm] at this
    | some p =>
      have h1 := List.mem_of_find?_eq_some e
      have h2 := List.find?_some e
      obtain ⟨r', hr', rfl⟩ := List.mem_map.1 (hp.mem_iff.1 h1)
      have : r' = r := rise_eq hr hr' hm (by rw [hn]; simpa [ent, Lit.sameKey, RF.nm] using h2)
      subst this
      rfl
theorem filter_ent (hp : es.Perm (rs.map ent)) (x : List UInt8) : (es.filter (ChangeMaps.notKey (.string x))).Perm ((delBy RF.nm x rs).map ent) := by
  refine (hp.filter _).trans ?_
  rw [List.filter_map]
  refine List.Perm.of_eq ?_
  congr 1
  apply List.filter_congr
  intro r _
  by_cases h : r.fl.name = x <;> simp [ChangeMaps.notKey, ent, Lit.sameKey, RF.nm, h]
theorem put_ent (hp : es.Perm (rs.map ent)) (hr : Rise RF.nm rs) (r : RF) : (ChangeMaps.putKey (.string r.fl.name) (.held (fileV r.v r.fl.safe r.fl.stays)) es).Perm ((putBy RF.nm r rs).map ent) := by
  unfold ChangeMaps.putKey
  refine (WideShapes.insert_perm _ _).trans ?_
  exact ((filter_ent hp r.fl.name).cons (ent r)).trans ((putBy_perm (f := r) hr).map ent).symm
theorem del_ent (hp : es.Perm (rs.map ent)) (x : List UInt8) : (ChangeMaps.delKey (.string x) es).Perm ((delBy RF.nm x rs).map ent) := filter_ent hp x
theorem keys_ent (hp : es.Perm (rs.map ent)) : (strKeys (.map es)).Perm (rs.map RF.nm) := by
  show (es.map fun p => strOf p.1).Perm _
  refine (hp.map _).trans (List.Perm.of_eq ?_)
  rw [List.map_map]
  rfl
theorem sorted_names (hr : Rise RF.nm rs) {ss : List (List UInt8)} (hp : ss.Perm (rs.map RF.nm)) : ss.mergeSort (fun x y => decide (x ≤ y)) = rs.map RF.nm := by
  have e : ss.mergeSort (fun x y => decide (x ≤ y)) = (rs.map RF.nm).mergeSort (fun x y => decide (x ≤ y)) := mergeSort_of_perm hp
  rw [e]
  apply List.mergeSort_of_pairwise
  rw [List.pairwise_map]
  exact hr.imp fun h => by simpa using List.le_of_lt h
end

theorem own_base {w : World} {base base' : Nat} {e : TypeId} {v : Value} {n : Nat} {xs : List Value} (h : w.ownsRow base e 1 v n xs) (hb : base' ≤ base) : w.ownsRow base' e 1 v n xs := by
  refine ⟨h.1, ?_⟩
  rcases h.2 with h1 | ⟨g, cap, cur, hv, hg, r⟩
  · exact .inl h1
  · exact .inr ⟨g, cap, cur, hv, by omega, r⟩
/-- the blocks of X stay -/
structure Keep (X : Nat → Prop) (w w' : World) : Prop where
  os : w'.os = w.os
  tape : w'.tape = w.tape
  output : w'.output = w.output
  size : w.heap.size ≤ w'.heap.size
  block : ∀ i, i < w.heap.size → X i → w'.heap[i]? = w.heap[i]?
theorem Keep.refl (X : Nat → Prop) (w : World) : Keep X w w := ⟨rfl, rfl, rfl, Nat.le_refl _, fun _ _ _ => rfl⟩
theorem Keep.trans {X : Nat → Prop} {a b c : World} (h : Keep X a b) (k : Keep X b c) : Keep X a c :=
  ⟨k.os.trans h.os, k.tape.trans h.tape, k.output.trans h.output, Nat.le_trans h.size k.size, fun i hi hx => (k.block i (Nat.lt_of_lt_of_le hi h.size) hx).trans (h.block i hi hx)⟩
theorem Keep.mono {X Y : Nat → Prop} {a b : World} (h : Keep X a b) (hY : ∀ i, Y i → X i) : Keep Y a b := ⟨h.os, h.tape, h.output, h.size, fun i hi hx => h.block i hi (hY i hx)⟩
theorem Keep.of_below {X : Nat → Prop} {a b : World} (h : Below a.heap.size a b) : Keep X a b := ⟨h.os, h.tape, h.output, h.size, fun i hi _ => h.block i hi⟩
theorem Keep.of_grown {X : Nat → Prop} {a b : World} {row : Option Nat} (h : a.grownBy b row) (hr : ∀ i, row = some i → ¬ X i) : Keep X a b :=
  ⟨h.os, h.tape, h.output, h.size, fun i hi hx => h.block i hi fun e => hr i e.symm hx⟩
theorem Keep.below {X : Nat → Prop} {a b : World} {B : Nat} (h : Keep X a b) (hB : B ≤ a.heap.size) (hX : ∀ i, i < B → X i) : Below B a b :=
  ⟨h.os, h.tape, h.output, h.size, fun i hi => h.block i (by omega) (hX i hi)⟩
theorem Keep.setCell {X : Nat → Prop} {a b : World} (h : Keep X a b) {g : Nat} (hg : ¬ X g) (i : Nat) (u : Value) : Keep X a (b.setCell ⟨g, i, none⟩ u) :=
  ⟨h.os, h.tape, h.output, by simpa [World.setCell] using h.size, fun j hj hx => (Below.heap_setCell b ⟨g, i, none⟩ u j (fun e => hg (by have e' : j = g := e; exact e' ▸ hx))).trans (h.block j hj hx)⟩
theorem Below.keep {X : Nat → Prop} {a b c : World} (h : Keep X a b) (k : Below b.heap.size b c) : Keep X a c := h.trans (Keep.of_below k)

/-- a store's struct, its map, its files' bytes; X: blocks that are not its own -/
structure Raw (w : World) (g : Nat) (X : Nat → Prop) (bm : Nat) (rs : List RF) (cap fuse : Nat) (down : Bool) : Prop where
  box : Box w g 59 #[.map (some bm), .int .i64 (cap : Int), .int .i64 (fuse : Int), .bool down]
  xg : ¬ X g
  xm : ¬ X bm
  xlt : ∀ i, X i → i < w.heap.size
  map : ∃ es, w.ownsMap Tryz.prog 9 rawElem bm rs.length (.map es) ∧ es.Perm (rs.map ent)
  own : ∀ r ∈ rs, w.ownsRow 0 5 1 r.v r.fl.bs.length (cellsB r.fl.bs) ∧ ∀ i, r.v.ownBlock = some i → ¬ X i
  apart : ∀ r ∈ rs, ∀ r' ∈ rs, r.nm ≠ r'.nm → ∀ i, r.v.ownBlock = some i → r'.v.ownBlock ≠ some i
  ok : St.Ok ⟨rs.map RF.fl, cap, fuse, down⟩
def Sto (w : World) (g : Nat) (X : Nat → Prop) (s : St) : Prop := ∃ bm rs, Raw w g X bm rs s.cap s.fuse s.down ∧ rs.map RF.fl = s.fs

section
variable {w w' : World} {g bm : Nat} {X : Nat → Prop} {rs : List RF} {cap fuse : Nat} {down : Bool}
theorem Raw.rise (h : Raw w g X bm rs cap fuse down) : Rise RF.nm rs := (map_rise (nm := RF.nm) (nm' := Fl.name) (g := RF.fl) fun _ => rfl).1 h.ok.rise
theorem Raw.len (h : Raw w g X bm rs cap fuse down) : rs.length ≤ 256 := by simpa using h.ok.many
theorem Raw.mlt (h : Raw w g X bm rs cap fuse down) : bm < w.heap.size := by obtain ⟨es, h1, _⟩ := h.map; exact h1.lt
theorem Raw.gm (h : Raw w g X bm rs cap fuse down) : g ≠ bm := by
  obtain ⟨es, ⟨e1, c1, h1, _⟩, _⟩ := h.map
  rintro rfl
  have := h.box
  unfold Box at this
  rw [h1] at this
  cases this
theorem own_block {w : World} {e : TypeId} {v : Value} {n i : Nat} {xs : List Value} (h : w.ownsRow 0 e 1 v n xs) (hi : v.ownBlock = some i) : ∃ cur, w.heap[i]? = some (.cells cur e (0, 0)) := by
  rcases h.2 with ⟨rfl, _⟩ | ⟨g, c, cur, rfl, _, hg, _⟩
  · simp [Value.ownBlock] at hi
  · simp only [Value.ownBlock, Option.some.injEq] at hi
    subst hi
    exact ⟨cur, hg⟩
theorem Raw.og (h : Raw w g X bm rs cap fuse down) {r : RF} (hr : r ∈ rs) : r.v.ownBlock ≠ some g := fun e => by
  obtain ⟨cur, hc⟩ := own_block (h.own r hr).1 e
  have := h.box
  unfold Box at this
  rw [hc] at this
  have e1 := Option.some.inj this
  injection e1 with _ e1
  revert e1
  decide
theorem Raw.om (h : Raw w g X bm rs cap fuse down) {r : RF} (hr : r ∈ rs) : r.v.ownBlock ≠ some bm := fun e => by
  obtain ⟨cur, hc⟩ := own_block (h.own r hr).1 e
  obtain ⟨es, ⟨e1, c1, h1, _⟩, _⟩ := h.map
  rw [hc] at h1
  cases h1
/-- what leaves the store's own blocks leaves the store -/
theorem Raw.stay (h : Raw w g X bm rs cap fuse down) (hs : w.heap.size ≤ w'.heap.size) (hb : ∀ i, i < w.heap.size → (i = g ∨ i = bm ∨ ∃ r ∈ rs, r.v.ownBlock = some i) → w'.heap[i]? = w.heap[i]?) : Raw w' g X bm rs cap fuse down := by
  refine ⟨(hb g h.box.lt (.inl rfl)).trans h.box, h.xg, h.xm, fun i hi => Nat.lt_of_lt_of_le (h.xlt i hi) hs, ?_, fun r hr => ⟨?_, (h.own r hr).2⟩, h.apart, h.ok⟩
  · obtain ⟨es, ⟨e1, c1, h1, h2⟩, hp⟩ := h.map
    exact ⟨es, ⟨e1, c1, (hb bm h.mlt (.inr (.inl rfl))).trans h1, h2⟩, hp⟩
  · obtain ⟨h1, h2⟩ := (h.own r hr).1
    refine ⟨h1, h2.imp id ?_⟩
    rintro ⟨q, c, cur, e, hq, hh, rest⟩
    exact ⟨q, c, cur, e, hq, (hb q ((h.own r hr).1.lt q (by rw [e]; rfl)).2 (.inr (.inr ⟨r, hr, by rw [e]; rfl⟩))).trans hh, rest⟩
theorem Raw.below (h : Raw w g X bm rs cap fuse down) (hb : Below w.heap.size w w') : Raw w' g X bm rs cap fuse down := h.stay hb.size fun i hi _ => hb.block i hi
/-- what is new since is not its own -/
theorem Raw.wide (h : Raw w g X bm rs cap fuse down) (hb : Below w.heap.size w w') : Raw w' g (fun i => X i ∨ w.heap.size ≤ i ∧ i < w'.heap.size) bm rs cap fuse down := by
  have h' := h.below hb
  refine ⟨h'.box, ?_, ?_, ?_, h'.map, fun r hr => ⟨(h'.own r hr).1, fun i hi => ?_⟩, h'.apart, h'.ok⟩
  · rintro (h1 | h1)
    · exact h.xg h1
    · have := h.box.lt; omega
  · rintro (h1 | h1)
    · exact h.xm h1
    · have := h.mlt; omega
  · rintro i (h1 | h1)
    · exact h'.xlt i h1
    · exact h1.2
  · rintro (h1 | h1)
    · exact (h.own r hr).2 i hi h1
    · have := ((h.own r hr).1.lt i hi).2; omega
theorem Raw.less {Y : Nat → Prop} (h : Raw w g X bm rs cap fuse down) (hY : ∀ i, Y i → X i) : Raw w g Y bm rs cap fuse down :=
  ⟨h.box, fun h1 => h.xg (hY _ h1), fun h1 => h.xm (hY _ h1), fun i hi => h.xlt i (hY i hi), h.map, fun r hr => ⟨(h.own r hr).1, fun i hi hy => (h.own r hr).2 i hi (hY i hy)⟩, h.apart, h.ok⟩
theorem Sto.below {s : St} (h : Sto w g X s) (hb : Below w.heap.size w w') : Sto w' g X s := by obtain ⟨bm, rs, h1, h2⟩ := h; exact ⟨bm, rs, h1.below hb, h2⟩
theorem Sto.wide {s : St} (h : Sto w g X s) (hb : Below w.heap.size w w') : Sto w' g (fun i => X i ∨ w.heap.size ≤ i ∧ i < w'.heap.size) s := by obtain ⟨bm, rs, h1, h2⟩ := h; exact ⟨bm, rs, h1.wide hb, h2⟩
theorem Sto.less {Y : Nat → Prop} {s : St} (h : Sto w g X s) (hY : ∀ i, Y i → X i) : Sto w g Y s := by obtain ⟨bm, rs, h1, h2⟩ := h; exact ⟨bm, rs, h1.less hY, h2⟩
theorem Sto.ok {s : St} (h : Sto w g X s) : s.Ok := by obtain ⟨bm, rs, h1, h2⟩ := h; have := h1.ok; rw [h2] at this; exact this
theorem Sto.xlt {s : St} (h : Sto w g X s) : ∀ i, X i → i < w.heap.size := by obtain ⟨bm, rs, h1, h2⟩ := h; exact h1.xlt
theorem Sto.xg {s : St} (h : Sto w g X s) : ¬ X g := by obtain ⟨bm, rs, h1, h2⟩ := h; exact h1.xg
theorem Sto.glt {s : St} (h : Sto w g X s) : g < w.heap.size := by obtain ⟨bm, rs, h1, h2⟩ := h; exact h1.box.lt
/-- the struct's block is turned -/
theorem Raw.turn (h : Raw w g X bm rs cap fuse down) {f' : Nat} {d' : Bool} (hf : f' ≤ 9223372036854775807) (hw : w.grownBy w' (some g)) (hb : Box w' g 59 #[.map (some bm), .int .i64 (cap : Int), .int .i64 (f' : Int), .bool d']) : Raw w' g X bm rs cap f' d' := by
  refine ⟨hb, h.xg, h.xm, fun i hi => Nat.lt_of_lt_of_le (h.xlt i hi) hw.size, ?_, fun r hr => ⟨(h.own r hr).1.kept hw (.inr (h.og hr)), (h.own r hr).2⟩, h.apart, ?_⟩
  · obtain ⟨es, h1, hp⟩ := h.map
    exact ⟨es, h1.kept hw (fun e => h.gm (by injection e with e; exact e.symm)), hp⟩
  · exact ⟨h.ok.rise, h.ok.safe, h.ok.used, h.ok.cap, h.ok.many, hf, h.ok.good⟩
theorem tight {es : List (Lit × DataW Value)} {n b : Nat} (h : w.ownsMap Tryz.prog 9 rawElem b n (.map es)) {m : Nat} (hm : es.length = m) : w.ownsMap Tryz.prog 9 rawElem b m (.map es) := by
  obtain ⟨e1, c1, h1, h2, h3, h4⟩ := h
  refine ⟨e1, c1, h1, h2, ?_, h4⟩
  injection h4 with h4
  rw [h4, length_sorted] at hm
  simp at hm
  omega
theorem Raw.fresh (h : Raw w g X bm rs cap fuse down) {i : Nat} (hi : w.heap.size ≤ i) : ¬ X i ∧ ∀ q ∈ rs, q.v.ownBlock ≠ some i :=
  ⟨fun hx => by have := h.xlt i hx; omega, fun q hq e => by have := ((h.own q hq).1.lt i e).2; omega⟩
/-- a file is put: only its own row has turned since, or a new one has been made -/
theorem Raw.put (h : Raw w g X bm rs cap fuse down) {w1 : World} {row : Option Nat} {r : RF} (hw : w.grownBy w1 row) (hrow : ∀ i, row = some i → ∃ r0 ∈ rs, r0.nm = r.nm ∧ r0.v.ownBlock = some i)
    (hown : w1.ownsRow 0 5 1 r.v r.fl.bs.length (cellsB r.fl.bs)) (hblk : ∀ i, r.v.ownBlock = some i → (∃ r0 ∈ rs, r0.nm = r.nm ∧ r0.v.ownBlock = some i) ∨ (¬ X i ∧ ∀ q ∈ rs, q.v.ownBlock ≠ some i))
    {es : List (Lit × DataW Value)} {n : Nat} (hp : es.Perm (rs.map ent)) (hm : w'.ownsMap Tryz.prog 9 rawElem bm n ((DataW.map es).put (.string r.fl.name) (.held (fileV r.v r.fl.safe r.fl.stays)))) (ht : w1.mapTurned w' bm)
    (hok : St.Ok ⟨putBy Fl.name r.fl (rs.map RF.fl), cap, fuse, down⟩) : Raw w' g X bm (putBy RF.nm r rs) cap fuse down ∧ Keep X w w' := by
  have hg1 : w1.grownBy w' (some bm) := ht.grown
  have hrg : row ≠ some g := fun e => by obtain ⟨r0, hr0, _, e0⟩ := hrow g e; exact h.og hr0 e0
  have hrm : row ≠ some bm := fun e => by obtain ⟨r0, hr0, _, e0⟩ := hrow bm e; exact h.om hr0 e0
  have hxr : ∀ i, row = some i → ¬ X i := fun i e => by obtain ⟨r0, hr0, _, e0⟩ := hrow i e; exact (h.own r0 hr0).2 i e0
  have hrm' : r.v.ownBlock ≠ some bm := fun e => by
    obtain ⟨cur, hc⟩ := own_block hown e
    obtain ⟨es1, ⟨e1, c1, h1, _⟩, _⟩ := h.map
    rw [hw.block bm h.mlt (fun e => hrm e.symm), h1] at hc
    cases hc
  have hxb : ∀ i, r.v.ownBlock = some i → ¬ X i := fun i e hx => by
    rcases hblk i e with ⟨r0, hr0, _, e0⟩ | hge
    · exact (h.own r0 hr0).2 i e0 hx
    · exact hge.1 hx
  refine ⟨⟨?_, h.xg, h.xm, fun i hi => ?_, ?_, fun q hq => ?_, fun q hq q' hq' hne i hi hi' => ?_, ?_⟩, (Keep.of_grown hw hxr).trans (Keep.of_grown hg1 (fun i e => by injection e with e; exact e ▸ h.xm))⟩
  · exact (h.box.grown hw (fun e => hrg e.symm)).grown hg1 (fun e => h.gm (by injection e))
  · exact Nat.lt_of_lt_of_le (h.xlt i hi) (Nat.le_trans hw.size hg1.size)
  · have hpp := put_ent hp h.rise r
    exact ⟨_, tight hm (hpp.length_eq.trans (List.length_map _)), hpp⟩
  · rcases (mem_putBy h.rise).1 hq with rfl | ⟨hq, hqn⟩
    · exact ⟨hown.kept hg1 (.inr hrm'), hxb⟩
    · refine ⟨((h.own q hq).1.kept hw ?_).kept hg1 (.inr (h.om hq)), (h.own q hq).2⟩
      cases hb : q.v.ownBlock with
      | none => exact .inl rfl
      | some i =>
        refine .inr fun e => ?_
        obtain ⟨r0, hr0, hn0, e0⟩ := hrow i e.symm
        exact h.apart q hq r0 hr0 (by rw [hn0]; exact hqn) i hb e0
  · rcases (mem_putBy h.rise).1 hq with rfl | ⟨hq1, hqn⟩
    · rcases (mem_putBy h.rise).1 hq' with rfl | ⟨hq1', hqn'⟩
      · exact hne rfl
      · rcases hblk i hi with ⟨r0, hr0, hn0, e0⟩ | hge
        · exact h.apart r0 hr0 q' hq1' (by rw [hn0]; exact fun e => hqn' e.symm) i e0 hi'
        · exact hge.2 q' hq1' hi'
    · rcases (mem_putBy h.rise).1 hq' with rfl | ⟨hq1', hqn'⟩
      · rcases hblk i hi' with ⟨r0, hr0, hn0, e0⟩ | hge
        · exact h.apart r0 hr0 q hq1 (by rw [hn0]; exact fun e => hqn e.symm) i e0 hi
        · exact hge.2 q hq1 hi
      · exact h.apart q hq1 q' hq1' hne i hi hi'
  · rw [map_putBy (nm := RF.nm) (nm' := Fl.name) (g := RF.fl) (fun _ => rfl)]
    exact hok
/-- a file is let go -/
theorem Raw.del (h : Raw w g X bm rs cap fuse down) {x : List UInt8} {es : List (Lit × DataW Value)} {n : Nat} (hp : es.Perm (rs.map ent)) (hm : w'.ownsMap Tryz.prog 9 rawElem bm n ((DataW.map es).del (.string x))) (ht : w.mapTurned w' bm)
    (hok : St.Ok ⟨delBy Fl.name x (rs.map RF.fl), cap, fuse, down⟩) : Raw w' g X bm (delBy RF.nm x rs) cap fuse down ∧ Keep X w w' := by
  have hg1 : w.grownBy w' (some bm) := ht.grown
  refine ⟨⟨h.box.grown hg1 (fun e => h.gm (by injection e)), h.xg, h.xm, fun i hi => Nat.lt_of_lt_of_le (h.xlt i hi) hg1.size, ?_, fun q hq => ?_, fun q hq q' hq' hne => ?_, ?_⟩, Keep.of_grown hg1 (fun i e => by injection e with e; exact e ▸ h.xm)⟩
  · have hpp := del_ent hp x
    exact ⟨_, tight hm (hpp.length_eq.trans (List.length_map _)), hpp⟩
  · obtain ⟨hq1, _⟩ := mem_delBy.1 hq
    exact ⟨(h.own q hq1).1.kept hg1 (.inr (h.om hq1)), (h.own q hq1).2⟩
  · exact h.apart q (mem_delBy.1 hq).1 q' (mem_delBy.1 hq').1 hne
  · rw [map_delBy (nm := RF.nm) (nm' := Fl.name) (g := RF.fl) (fun _ => rfl)]
    exact hok
end
end Go.Proofs.YtohnhboeipckjaaGreatDoor
