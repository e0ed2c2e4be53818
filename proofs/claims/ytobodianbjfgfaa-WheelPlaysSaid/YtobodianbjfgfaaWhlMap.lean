/-
  The map of a wheel, from handles to timers: what is found, and what comes of a put and of a delete.
  Conditions: the wheel is one; no handle is in it twice.
-/
import Derived.Test.YtobodianbjfgfaaWhlMem
namespace Go.Proofs.Ytobodianbjfgfaa.Wh
open Go.RowKit Go.Maps

theorem lawK : Keyed Try.prog 3 := int_keyed Try.underlying3
theorem zeroPm (w : World) : (zeroValue 59).run Try.prog w = .ok (.pointer none) w := by kernel_rfl
theorem key_int {x : Int} (h0 : -9223372036854775808 ≤ x) (h1 : x ≤ 9223372036854775807) : keyOf Try.prog 3 (.int .i64 x) = some (.int .i64 x) := keyOf_int_mk Try.underlying3 (by
  have e1 : IntKind.i64.min = -9223372036854775808 := rfl
  have e2 : IntKind.i64.max = 9223372036854775807 := rfl
  simp [Lit.wf, e1]
  omega)
/-- the block of a handle -/
def lookM (ms : List (Nat × Nat)) (x : Int) : Option Nat := (ms.find? fun p => decide ((p.1 : Int) = x)).map (·.2)
theorem lookM_some {ms : List (Nat × Nat)} {x : Int} {b : Nat} (h : lookM ms x = some b) : ∃ k : Nat, (k, b) ∈ ms ∧ (k : Int) = x := by
  unfold lookM at h
  cases hf : ms.find? fun p => decide ((p.1 : Int) = x) with
  | none => rw [hf] at h; cases h
  | some p =>
    rw [hf] at h
    simp only [Option.map_some, Option.some.injEq] at h
    exact ⟨p.1, h ▸ List.mem_of_find?_eq_some hf, by simpa using List.find?_some hf⟩
theorem lookM_none {ms : List (Nat × Nat)} {x : Int} (h : lookM ms x = none) : ∀ p ∈ ms, (p.1 : Int) ≠ x := by
  intro p hp
  unfold lookM at h
  rw [Option.map_eq_none_iff, List.find?_eq_none] at h
  simpa using h p hp
theorem key_uni {ms : List (Nat × Nat)} (nd : (ms.map Prod.fst).Nodup) {k a b : Nat} (ha : (k, a) ∈ ms) (hb : (k, b) ∈ ms) : a = b := by
  induction ms with
  | nil => cases ha
  | cons p r ih =>
    rw [List.map_cons, List.nodup_cons] at nd
    rcases List.mem_cons.1 ha with h1 | h1
    · rcases List.mem_cons.1 hb with h2 | h2
      · rw [← h1] at h2; exact (Prod.mk.inj h2).2.symm
      · exact absurd (List.mem_map.2 ⟨_, h2, by rw [← h1]⟩) nd.1
    · rcases List.mem_cons.1 hb with h2 | h2
      · exact absurd (List.mem_map.2 ⟨_, h1, by rw [← h2]⟩) nd.1
      · exact ih nd.2 h1 h2
theorem lookM_of {ms : List (Nat × Nat)} (nd : (ms.map Prod.fst).Nodup) {k b : Nat} (h : (k, b) ∈ ms) : lookM ms (k : Int) = some b := by
  cases hl : lookM ms (k : Int) with
  | none => exact absurd rfl (lookM_none hl _ h)
  | some c =>
    obtain ⟨k', hk, e⟩ := lookM_some hl
    have : k' = k := by omega
    subst this
    rw [key_uni nd hk h]
theorem not_handle {ms : List (Nat × Nat)} {x : Int} (h : ∀ p ∈ ms, (p.1 : Int) ≠ x) : lookM ms x = none := by
  unfold lookM
  rw [Option.map_eq_none_iff, List.find?_eq_none]
  intro p hp
  simpa using h p hp

section
variable {es : List (Lit × DataW Value)} {ms : List (Nat × Nat)}
theorem same_key (a x : Int) : (Lit.int .i64 a).sameKey (.int .i64 x) = decide (a = x) := by simp [Lit.sameKey]
theorem has_ent (hp : es.Perm (ms.map ent)) (x : Int) : Maps.has (.map es) (.int .i64 x) = (lookM ms x).isSome := by
  rw [Maps.has_eq, hp.any_eq, List.any_map]
  cases h : lookM ms x with
  | none =>
    simp only [Option.isSome_none, List.any_eq_false]
    intro p hr
    have := lookM_none h p hr
    simpa [ent, same_key] using this
  | some b =>
    obtain ⟨k, hk, e⟩ := lookM_some h
    simp only [Option.isSome_some, List.any_eq_true]
    exact ⟨_, hk, by simpa [ent, same_key] using e⟩
theorem at_ent (hp : es.Perm (ms.map ent)) (nd : (ms.map Prod.fst).Nodup) (x : Int) (zd : DataW Value) :
    (DataW.map es).atKey (.int .i64 x) zd = match lookM ms x with | some b => .held (ptr b) | none => zd := by
  unfold DataW.atKey
  simp only
  cases h : lookM ms x with
  | none =>
    have : es.find? (fun p => p.1.sameKey (.int .i64 x)) = none := by
      rw [List.find?_eq_none]
      intro p hm
      obtain ⟨r, hr', rfl⟩ := List.mem_map.1 (hp.mem_iff.1 hm)
      have := lookM_none h r hr'
      simpa [ent, same_key] using this
    rw [this]
  | some b =>
    obtain ⟨k, hk, ek⟩ := lookM_some h
    cases e : es.find? (fun p => p.1.sameKey (.int .i64 x)) with
    | none =>
      have := List.find?_eq_none.1 e (ent (k, b)) (hp.mem_iff.2 (List.mem_map.2 ⟨_, hk, rfl⟩))
      simp [ent, same_key, ek] at this
    | some p =>
      have h1 := List.mem_of_find?_eq_some e
      have h2 := List.find?_some e
      obtain ⟨⟨k', b'⟩, hr', rfl⟩ := List.mem_map.1 (hp.mem_iff.1 h1)
      have e3 : (k' : Int) = x := by simpa [ent, same_key] using h2
      have : k' = k := by omega
      subst this
      rw [key_uni nd hr' hk]
      rfl
def delM (ms : List (Nat × Nat)) (x : Int) : List (Nat × Nat) := ms.filter fun p => decide ((p.1 : Int) ≠ x)
theorem filter_ent (hp : es.Perm (ms.map ent)) (x : Int) : (es.filter (ChangeMaps.notKey (.int .i64 x))).Perm ((delM ms x).map ent) := by
  refine (hp.filter _).trans ?_
  rw [List.filter_map]
  refine List.Perm.of_eq ?_
  unfold delM
  congr 1
  apply List.filter_congr
  intro r _
  simp [ChangeMaps.notKey, ent, same_key]
theorem delM_not {x : Int} (h : ∀ p ∈ ms, (p.1 : Int) ≠ x) : delM ms x = ms := by
  unfold delM
  rw [List.filter_eq_self]
  intro p hp
  simpa using h p hp
theorem put_ent (hp : es.Perm (ms.map ent)) {k b : Nat} (h : ∀ p ∈ ms, (p.1 : Int) ≠ (k : Int)) : (ChangeMaps.putKey (.int .i64 (k : Int)) (.held (ptr b)) es).Perm ((ms ++ [(k, b)]).map ent) := by
  unfold ChangeMaps.putKey
  refine (WideShapes.insert_perm _ _).trans ?_
  have h1 := (filter_ent hp (k : Int)).cons (ent (k, b))
  rw [delM_not h] at h1
  refine h1.trans ?_
  rw [List.map_append, List.map_cons, List.map_nil]
  exact (List.perm_append_singleton _ _).symm
theorem del_ent (hp : es.Perm (ms.map ent)) (x : Int) : (ChangeMaps.delKey (.int .i64 x) es).Perm ((delM ms x).map ent) := filter_ent hp x
end
theorem tight {w : World} {es : List (Lit × DataW Value)} {n b : Nat} (h : w.ownsMap Try.prog 3 rawElem b n (.map es)) {m : Nat} (hm : es.length = m) : w.ownsMap Try.prog 3 rawElem b m (.map es) := by
  obtain ⟨e1, c1, h1, h2, h3, h4⟩ := h
  refine ⟨e1, c1, h1, h2, ?_, h4⟩
  injection h4 with h4
  rw [h4, length_sorted] at hm
  simp at hm
  omega
section
variable {w : World} {g bm : Nat} {X : Nat → Prop} {lev : Nat → Option Nat} {rv : Nat → Nat → Value} {ct : Nat → Nat → List En} {ms : List (Nat × Nat)} {cap now last : Nat}
/-- v, ok := m[x] -/
theorem Raw.look (h : Raw w g X bm lev rv ct ms cap now last) (nd : (ms.map Prod.fst).Nodup) {x : Int} (h0 : -9223372036854775808 ≤ x) (h1 : x ≤ 9223372036854775807) :
    (Instr.lookup 53 (.map (some bm)) (.int .i64 x) true).run Try.prog w = .ok (.tuple #[match lookM ms x with | some b => ptr b | none => .pointer none, .bool (lookM ms x).isSome]) w := by
  obtain ⟨es, hown, hp⟩ := h.map
  obtain ⟨u, ps, hrun, hv⟩ := hown.look_ok lawK Try.underlying53 (zeroPm w) (zd := .held (.pointer none)) rfl (key_int h0 h1)
  rw [hrun, has_ent hp x]
  have e := rawElem_inv hv
  rw [at_ent hp nd] at e
  cases hl : lookM ms x with
  | none => rw [hl] at e; rw [(DataW.held.inj e).symm]
  | some b => rw [hl] at e; rw [(DataW.held.inj e).symm]
/-- what has come of a call on the wheel: the map alone has turned -/
def MapAt (w : World) (g : Nat) (X : Nat → Prop) (bm : Nat) (lev : Nat → Option Nat) (rv : Nat → Nat → Value) (ct : Nat → Nat → List En) (ms' : List (Nat × Nat)) (cap now last : Nat) (w' : World) : Prop := Raw w' g X bm lev rv ct ms' cap now last ∧ Keep X w w'
/-- the map alone has turned -/
theorem Raw.maps (h : Raw w g X bm lev rv ct ms cap now last) {w' : World} {ms' : List (Nat × Nat)} (ht : w.mapTurned w' bm) (hm : ∃ es, w'.ownsMap Try.prog 3 rawElem bm ms'.length (.map es) ∧ es.Perm (ms'.map ent)) : MapAt w g X bm lev rv ct ms' cap now last w' := by
  have hg := ht.grown
  obtain ⟨e0, c0, hm0⟩ := h.mblk
  have hb : ∀ i, i < w.heap.size → i ≠ bm → w'.heap[i]? = w.heap[i]? := fun i hi hne => hg.block i hi (fun e => hne (by injection e))
  refine ⟨⟨(hb g h.box.lt h.gm).trans h.box, ?_, h.nol, ?_, ?_, h.nd, h.ap, h.lvi, h.rap, hm, h.xg, h.xm, h.xl, h.xr, h.xe, fun i hi => Nat.lt_of_lt_of_le (h.xlt i hi) hg.size⟩, Keep.of_grown hg (fun i e => by injection e with e; exact e ▸ h.xm)⟩
  · intro k b hk e
    obtain ⟨cs, h1, h2⟩ := h.lvl k b hk e
    exact ⟨cs, (hb b h1.lt (fun e1 => map_ne h1 hm0 e1)).trans h1, h2⟩
  · intro k j hk
    exact row_stay (h.row k j hk) fun i hi => by
      obtain ⟨cs, hc⟩ := h.rbox hk hi
      exact hb i hc.lt (fun e1 => map_ne hc hm0 e1)
  · intro k j i hk hi
    have hB := h.ens k j i hk hi
    exact (hb _ hB.lt (fun e1 => map_ne hB hm0 e1)).trans hB
/-- m[k] = b, of a new handle -/
theorem Raw.mput (h : Raw w g X bm lev rv ct ms cap now last) {k b : Nat} (hk : (k : Int) ≤ 9223372036854775807) (hn : ∀ p ∈ ms, (p.1 : Int) ≠ (k : Int)) (hl : ms.length ≤ 1099511627776) :
    ∃ w', (Instr.mapUpdate 53 (.map (some bm)) (.int .i64 (k : Int)) (ptr b)).run Try.prog w = .ok () w' ∧ MapAt w g X bm lev rv ct (ms ++ [(k, b)]) cap now last w' ∧ w.mapTurned w' bm := by
  obtain ⟨es, hown, hp⟩ := h.map
  obtain ⟨w', hrun, hm, ht⟩ := hown.store lawK Try.underlying53 (by unfold maxLen; omega) (key_int (by omega) hk) (val := ptr b) (d := .held (ptr b)) (ps := []) rfl
  have hpp := put_ent (b := b) hp hn
  exact ⟨w', hrun, h.maps ht ⟨_, tight hm (hpp.length_eq.trans (List.length_map _)), hpp⟩, ht⟩
/-- delete(m, x) -/
theorem Raw.mdel (h : Raw w g X bm lev rv ct ms cap now last) {x : Int} (h0 : -9223372036854775808 ≤ x) (h1 : x ≤ 9223372036854775807) (ty : TypeId) :
    ∃ w' u, (Builtin.delete_ #[53, 3] ty #[.map (some bm), .int .i64 x]).run Try.prog w = .ok u w' ∧ MapAt w g X bm lev rv ct (delM ms x) cap now last w' ∧ w.mapTurned w' bm := by
  obtain ⟨es, hown, hp⟩ := h.map
  obtain ⟨w', hrun, hm, ht⟩ := hown.drop lawK Try.underlying53 (key_int h0 h1) ty
  have hpp := del_ent hp x
  exact ⟨w', _, hrun, h.maps ht ⟨_, tight hm (hpp.length_eq.trans (List.length_map _)), hpp⟩, ht⟩
end
end Go.Proofs.Ytobodianbjfgfaa.Wh
