/-
  A map from texts that is used as a set: every key that is there has one and the same value; what is found, and what comes of a new key.
  Conditions: keys are at most 2^40 bytes.
-/
import Derived.Test.YtkmldgcnbjjbcaaDoorDefMem
import Derived.Maps.OwnSet
namespace Go.Proofs.YtkmldgcnbjjbcaaDoor.Df
open Go.RowKit Go.Maps

/-- how a map's value is read: as itself -/
def rawElem (v : Value) : Option (DataW Value × List MemPlace) := some (.held v, [])
theorem rawElem_inv {v : Value} {d : DataW Value} {ps : List MemPlace} (h : rawElem v = some (d, ps)) : d = .held v := by
  simp only [rawElem, Option.some.injEq, Prod.mk.injEq] at h
  exact h.1.symm
theorem lawK : Keyed Tryd.prog 9 := string_keyed Tryd.underlying9
def ent (v : Value) (k : ByteArray) : Lit × DataW Value := (.string k.data.toList, .held v)
theorem ent_key (v : Value) (a b : ByteArray) : ((ent v a).1.sameKey (.string b.data.toList)) = decide (a = b) := by
  rw [Bool.eq_iff_iff, decide_eq_true_eq]
  simp only [ent, Lit.sameKey, beq_iff_eq]
  constructor
  · intro h
    exact bytes_inj (by simpa using h)
  · rintro rfl
    simp
section
variable {es : List (Lit × DataW Value)} {ks : List ByteArray} {v : Value}
theorem at_ent (hp : es.Perm (ks.map (ent v))) (x : ByteArray) (zd : DataW Value) : (DataW.map es).atKey (.string x.data.toList) zd = if ks.any (fun y => decide (y = x)) = true then .held v else zd := by
  unfold DataW.atKey
  simp only
  cases e : es.find? (fun p => p.1.sameKey (.string x.data.toList)) with
  | none =>
    rw [if_neg]
    intro h
    have hm := any_mem.1 h
    have := List.find?_eq_none.1 e (ent v x) (hp.mem_iff.2 (List.mem_map.2 ⟨x, hm, rfl⟩))
    rw [ent_key] at this
    simp at this
  | some p =>
    have h1 := List.mem_of_find?_eq_some e
    have h2 := List.find?_some e
    obtain ⟨y, hy, rfl⟩ := List.mem_map.1 (hp.mem_iff.1 h1)
    rw [ent_key] at h2
    have hyx := of_decide_eq_true h2
    subst hyx
    rw [if_pos (any_mem.2 hy)]
    rfl
theorem put_ent (hp : es.Perm (ks.map (ent v))) {x : ByteArray} (h : ks.any (fun y => decide (y = x)) = false) : (ChangeMaps.putKey (.string x.data.toList) (.held v) es).Perm ((ks ++ [x]).map (ent v)) := by
  unfold ChangeMaps.putKey
  refine (WideShapes.insert_perm _ _).trans ?_
  have hf : es.filter (ChangeMaps.notKey (.string x.data.toList)) = es := by
    rw [List.filter_eq_self]
    intro p hm
    obtain ⟨y, hy, rfl⟩ := List.mem_map.1 (hp.mem_iff.1 hm)
    unfold ChangeMaps.notKey
    rw [ent_key]
    have := List.any_eq_false.1 h y hy
    simpa using this
  rw [hf, List.map_append, List.map_cons, List.map_nil]
  exact ((hp.cons (ent v x)).trans (List.perm_append_singleton _ _).symm)
end
theorem tight {w : World} {es : List (Lit × DataW Value)} {n b : Nat} (h : w.ownsMap Tryd.prog 9 rawElem b n (.map es)) {m : Nat} (hm : es.length = m) : w.ownsMap Tryd.prog 9 rawElem b m (.map es) := by
  obtain ⟨e1, c1, h1, h2, h3, h4⟩ := h
  refine ⟨e1, c1, h1, h2, ?_, h4⟩
  injection h4 with h4
  rw [h4, length_sorted] at hm
  simp at hm
  omega
/-- block bm has a map with the keys ks, each with the value v -/
def SetAt (w : World) (bm : Nat) (v : Value) (ks : List ByteArray) : Prop := ∃ es, w.ownsMap Tryd.prog 9 rawElem bm ks.length (.map es) ∧ es.Perm (ks.map (ent v))
section
variable {w w' : World} {bm : Nat} {v : Value} {ks : List ByteArray}
theorem SetAt.made (w : World) (v : Value) : SetAt (w.alloc (.map #[] 0)) w.heap.size v [] := ⟨[], World.ownsMap_made w _ _ _, .refl _⟩
theorem SetAt.alloc (h : SetAt w bm v ks) (o : Obj) : SetAt (w.alloc o) bm v ks := by obtain ⟨es, h1, h2⟩ := h; exact ⟨es, h1.alloc o, h2⟩
theorem SetAt.grown {row : Option Nat} (h : SetAt w bm v ks) (hg : w.grownBy w' row) (hne : some bm ≠ row) : SetAt w' bm v ks := by obtain ⟨es, h1, h2⟩ := h; exact ⟨es, h1.kept hg hne, h2⟩
theorem SetAt.obj (h : SetAt w bm v ks) : ∃ es c, w.heap[bm]? = some (.map es c) := by obtain ⟨_, ⟨es, c, hb, _⟩, _⟩ := h; exact ⟨es, c, hb⟩
theorem SetAt.lt (h : SetAt w bm v ks) : bm < w.heap.size := by obtain ⟨es, c, hb⟩ := h.obj; exact (Array.getElem?_eq_some_iff.1 hb).1
/-- m[x] -/
theorem SetAt.look {T e : TypeId} {z : Value} (h : SetAt w bm v ks) (ht : Tryd.prog.underlying T = some (.map 9 e)) (hz : (zeroValue e).run Tryd.prog w = .ok z w) (x : ByteArray) (hs : x.size ≤ 1000000) :
    (Instr.lookup T (.map (some bm)) (.string x) false).run Tryd.prog w = .ok (if ks.any (fun y => decide (y = x)) = true then v else z) w := by
  obtain ⟨es, h1, h2⟩ := h
  obtain ⟨u, ps, hrun, hu⟩ := h1.lookup lawK ht hz (zd := .held z) rfl (WideMaps.keyOf_string_mk (s := x) Tryd.underlying9 (by unfold maxLen; omega))
  have e := rawElem_inv hu
  rw [at_ent h2] at e
  rw [hrun]
  split
  · rw [if_pos ‹_›] at e; rw [DataW.held.inj e]
  · rw [if_neg ‹_›] at e; rw [DataW.held.inj e]
theorem has_ent {es : List (Lit × DataW Value)} {ks : List ByteArray} {v : Value} (hp : es.Perm (ks.map (ent v))) (x : ByteArray) : Maps.has (DataW.map es) (.string x.data.toList) = ks.any (fun y => decide (y = x)) := by
  rw [Maps.has_eq, hp.any_eq, List.any_map]
  congr 1
  funext y
  exact ent_key v y x
/-- v, ok := m[x] -/
theorem SetAt.look_ok {T e : TypeId} {z : Value} (h : SetAt w bm v ks) (ht : Tryd.prog.underlying T = some (.map 9 e)) (hz : (zeroValue e).run Tryd.prog w = .ok z w) (x : ByteArray) (hs : x.size ≤ 1000000) :
    (Instr.lookup T (.map (some bm)) (.string x) true).run Tryd.prog w = .ok (.tuple #[if ks.any (fun y => decide (y = x)) = true then v else z, .bool (ks.any (fun y => decide (y = x)))]) w := by
  obtain ⟨es, h1, h2⟩ := h
  obtain ⟨u, ps, hrun, hu⟩ := h1.look_ok lawK ht hz (zd := .held z) rfl (WideMaps.keyOf_string_mk (s := x) Tryd.underlying9 (by unfold maxLen; omega))
  have e := rawElem_inv hu
  rw [at_ent h2] at e
  rw [hrun, has_ent h2]
  split
  · rw [if_pos ‹_›] at e; rw [DataW.held.inj e]
  · rw [if_neg ‹_›] at e; rw [DataW.held.inj e]
/-- m[x] = v, of a new key -/
theorem SetAt.put {T e : TypeId} (h : SetAt w bm v ks) (ht : Tryd.prog.underlying T = some (.map 9 e)) (x : ByteArray) (hs : x.size ≤ 1000000) (hn : ks.any (fun y => decide (y = x)) = false) (hl : ks.length ≤ 1000000) :
    ∃ w', (Instr.mapUpdate T (.map (some bm)) (.string x) v).run Tryd.prog w = .ok () w' ∧ SetAt w' bm v (ks ++ [x]) ∧ w.grownBy w' (some bm) := by
  obtain ⟨es, h1, h2⟩ := h
  obtain ⟨w', hrun, hm, ht'⟩ := h1.store lawK ht (by unfold maxLen; omega) (WideMaps.keyOf_string_mk (s := x) Tryd.underlying9 (by unfold maxLen; omega)) (val := v) (d := .held v) (ps := []) rfl
  have hpp := put_ent h2 hn
  exact ⟨w', hrun, ⟨_, tight hm (hpp.length_eq.trans (List.length_map _)), hpp⟩, ht'.grown⟩
end
end Go.Proofs.YtkmldgcnbjjbcaaDoor.Df
