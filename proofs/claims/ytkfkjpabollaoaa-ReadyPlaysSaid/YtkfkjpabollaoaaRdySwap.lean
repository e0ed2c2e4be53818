/-
  Less and Swap of a queue's heap: what is answered, and the queue then.
  Conditions: the queue is one; the places are two of its row's.
-/
import Derived.Test.YtkfkjpabollaoaaRdyHeap
namespace Go.Proofs.Ytkfkjpabollaoaa
open Go.RowKit Go.Sort

theorem setCell_only (w : World) (b i : Nat) (u : Value) : w.grownBy (w.setCell ⟨b, i, none⟩ u) (some b) := only_put ⟨rfl, rfl, rfl, Nat.le_refl _, fun _ _ _ => rfl⟩ i u
theorem ownsRow_drewN {w : World} {base : Nat} {e : TypeId} {v : Value} {n : Nat} {xs : List Value} (h : w.ownsRow base e 1 v n xs) (q : Nat) : (w.drewN q).ownsRow base e 1 v n xs := h
section
variable {w : World} {g bm : Nat} {X : Nat → Prop} {v : Value} {d : List En} {ms : List (Nat × Nat)} {cap age last : Nat}
theorem Raw.swapped (h : Raw w g X bm v d ms cap age last) {r c i j : Nat} (hv : v = .slice (some ⟨r, 0, none⟩) d.length c) (hi : i < d.length) (hj : j < d.length) (hij : i ≠ j) (q : Nat) :
    Raw (((((w.setCell ⟨r, i, none⟩ (ptr (nth d j).b)).setCell ⟨r, j, none⟩ (ptr (nth d i).b)).setCell ⟨(nth d j).b, 3, none⟩ (.int .i64 (i : Int))).setCell ⟨(nth d i).b, 3, none⟩ (.int .i64 (j : Int))).drewN q) g X bm v (swp d i j) ms cap age last ∧
    Keep X w (((((w.setCell ⟨r, i, none⟩ (ptr (nth d j).b)).setCell ⟨r, j, none⟩ (ptr (nth d i).b)).setCell ⟨(nth d j).b, 3, none⟩ (.int .i64 (i : Int))).setCell ⟨(nth d i).b, 3, none⟩ (.int .i64 (j : Int))).drewN q) := by
  have hvb : v.ownBlock = some r := by rw [hv]; rfl
  have hgr : g ≠ r := fun e => h.rg (by rw [hvb, e])
  have hmr : bm ≠ r := fun e => h.rm (by rw [hvb, e])
  have her : ∀ k, k < d.length → (nth d k).b ≠ r := fun k hk e => h.er (nth_mem hk) (by rw [hvb, e])
  have heg : ∀ k, k < d.length → g ≠ (nth d k).b := fun k hk => (h.eg (nth_mem hk)).symm
  have hem : ∀ k, k < d.length → bm ≠ (nth d k).b := fun k hk => (h.em (nth_mem hk)).symm
  have hne : ∀ a b, a < d.length → b < d.length → a ≠ b → (nth d a).b ≠ (nth d b).b := fun a b ha hb hab => nth_ne h.nd ha hb hab
  have hp := swp_perm hi hj
  have hxr := h.xr r hvb
  refine ⟨⟨?_, ?_, ?_, ?_, ?_, h.xg, h.xm, h.xr, ?_, ?_⟩, ?_⟩
  · exact ((((h.box.far (p := ⟨r, i, none⟩) hgr _).far (p := ⟨r, j, none⟩) hgr _).far (p := ⟨_, 3, none⟩) (heg j hj) _).far (p := ⟨_, 3, none⟩) (heg i hi) _).drewN q
  · rw [swp_len]
    have h0 := h.row
    rw [hv] at h0 ⊢
    have h1 := ((h0.stored i (ptr (nth d j).b)).1.stored j (ptr (nth d i).b)).1
    have e : ((d.map En.val).set i (ptr (nth d j).b)).set j (ptr (nth d i).b) = (swp d i j).map En.val := by simp [swp, List.map_set, En.val]
    rw [e] at h1
    exact ownsRow_drewN ((h1.kept (setCell_only _ _ _ _) (.inr (by simp only [Value.ownBlock, ne_eq, Option.some.injEq]; exact (her j hj).symm))).kept (setCell_only _ _ _ _) (.inr (by simp only [Value.ownBlock, ne_eq, Option.some.injEq]; exact (her i hi).symm))) q
  · intro k hk
    rw [swp_len] at hk
    rw [swp_nth hi hj]
    by_cases e1 : k = j
    · subst e1
      rw [if_pos rfl]
      have b1 := ((((h.ens i hi).far (p := ⟨r, i, none⟩) (her i hi) (ptr (nth d k).b)).far (p := ⟨r, k, none⟩) (her i hi) (ptr (nth d i).b)).far (p := ⟨(nth d k).b, 3, none⟩) (hne i k hi hk hij) (.int .i64 (i : Int))).put 3 (.int .i64 (k : Int))
      exact b1.drewN q
    · rw [if_neg e1]
      by_cases e2 : k = i
      · subst e2
        rw [if_pos rfl]
        have b1 := ((((h.ens j hj).far (p := ⟨r, k, none⟩) (her j hj) (ptr (nth d j).b)).far (p := ⟨r, j, none⟩) (her j hj) (ptr (nth d k).b)).put 3 (.int .i64 (k : Int))).far (p := ⟨(nth d k).b, 3, none⟩) (hne j k hj hk (Ne.symm hij)) (.int .i64 (j : Int))
        exact b1.drewN q
      · rw [if_neg e2]
        exact (((((h.ens k hk).far (p := ⟨r, i, none⟩) (her k hk) _).far (p := ⟨r, j, none⟩) (her k hk) _).far (p := ⟨(nth d j).b, 3, none⟩) (hne k j hk hj e1) _).far (p := ⟨(nth d i).b, 3, none⟩) (hne k i hk hi e2) _).drewN q
  · exact ((hp.map En.b).nodup_iff).2 h.nd
  · obtain ⟨es, h1, h2⟩ := h.map
    exact ⟨es, (((h1.kept (setCell_only _ _ _ _) (by simpa using hmr)).kept (setCell_only _ _ _ _) (by simpa using hmr)).kept (setCell_only _ _ _ _) (by simpa using hem j hj)).kept (only_drewN (setCell_only _ _ _ _) q) (by simpa using hem i hi), h2⟩
  · intro e he
    exact h.xe e (hp.mem_iff.1 he)
  · intro i' hx
    have := h.xlt i' hx
    simpa [World.setCell] using this
  · exact (((((Keep.refl X w).setCell hxr _ _).setCell hxr _ _).setCell (h.xe _ (nth_mem hj)) _ _).setCell (h.xe _ (nth_mem hi)) _ _).drewN q
theorem Raw.frozenr (h : Raw w g X bm v d ms cap age last) {r c : Nat} (hv : v = .slice (some ⟨r, 0, none⟩) d.length c) (k : Nat) : w.frozen? ⟨r, k, none⟩ = false := by
  have h0 := h.row
  rw [hv] at h0
  exact h0.frozenAt k
/-- what has come of a call on the queue: the queue then -/
def Turned (w : World) (g : Nat) (X : Nat → Prop) (bm : Nat) (v : Value) (d : List En) (ms : List (Nat × Nat)) (cap age last : Nat) (w' : World) : Prop := Raw w' g X bm v d ms cap age last ∧ Keep X w w'
theorem less_any {r c i j : Nat} (h : Raw w g X bm (.slice (some ⟨r, 0, none⟩) d.length c) d ms cap age last) (hi : i < d.length) (hj : j < d.length) (hn : d.length ≤ 1099511627776) :
    Calls Try.prog 66 #[.slice (some ⟨r, 0, none⟩) d.length c, .int .i64 (i : Int), .int .i64 (j : Int)] w fun e w' => e = .returned (.bool (befB (nth d i) (nth d j))) ∧ Made w w' :=
  less_cells r d.length c i j _ _ hi hj hn (h.row.lt r rfl).2 (h.ens i hi).lt (h.ens j hj).lt (h.cellv rfl hi) (h.cellv rfl hj) (h.ecell hi 1) (h.ecell hi 2) (h.ecell hj 1) (h.ecell hj 2)
theorem swap_any {r c i j : Nat} (h : Raw w g X bm (.slice (some ⟨r, 0, none⟩) d.length c) d ms cap age last) (hi : i < d.length) (hj : j < d.length) (hij : i ≠ j) (hn : d.length ≤ 1099511627776) :
    Calls Try.prog 67 #[.slice (some ⟨r, 0, none⟩) d.length c, .int .i64 (i : Int), .int .i64 (j : Int)] w fun e w' => e = .returned (.tuple #[]) ∧ Turned w g X bm (.slice (some ⟨r, 0, none⟩) d.length c) (swp d i j) ms cap age last w' := by
  refine (swap_cells r d.length c i j (nth d i).b (nth d j).b (.int .i64 (i : Int)) (.int .i64 (j : Int)) hi hj hn hij (nth_ne h.nd hi hj hij) (fun e => h.er (nth_mem hi) (by rw [e]; rfl)) (fun e => h.er (nth_mem hj) (by rw [e]; rfl))
    (h.cellv rfl hi) (h.cellv rfl hj) (h.frozenr rfl i) (h.frozenr rfl j) (h.ecell hi 3) (h.ecell hj 3) ((h.ens i hi).frozen 3) ((h.ens j hj).frozen 3)).mono ?_
  rintro e w' ⟨he, q, rfl⟩
  exact ⟨he, h.swapped rfl hi hj hij q⟩
end
end Go.Proofs.Ytkfkjpabollaoaa
