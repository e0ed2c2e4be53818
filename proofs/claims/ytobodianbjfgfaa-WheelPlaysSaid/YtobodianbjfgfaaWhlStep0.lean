/-
  Where the loop of stepTo stands: what has been put back, what has gone, what is still to come; and how it goes on.
  Conditions: as each theorem names them.
-/
import Derived.Test.YtobodianbjfgfaaWhlNext
import Derived.Test.YtobodianbjfgfaaWhlSort
import Derived.Test.YtobodianbjfgfaaWhlMap
namespace Go.Proofs.Ytobodianbjfgfaa.Wh
open Go.RowKit Go.Maps

def hb (x : En) : Nat × Nat := (x.h, x.b)
theorem Std.perm {now : Nat} {ct : Nat → Nat → List En} {d d' : List En} (h : Std now ct d) (hp : d.Perm d') : Std now ct d' := fun k j hk => (h k j hk).trans (hp.filter _)
theorem Std.push {now : Nat} {ct : Nat → Nat → List En} {d : List En} (h : Std now ct d) (x : En) :
    Std now (upd ct (lvl now x.due) (dig (lvl now x.due) x.due) (ct (lvl now x.due) (dig (lvl now x.due) x.due) ++ [x])) (d ++ [x]) := fun k j hk => by
  rw [List.filter_append]
  by_cases e : k = lvl now x.due ∧ j = dig (lvl now x.due) x.due
  · obtain ⟨rfl, rfl⟩ := e
    rw [upd_same]
    refine (h _ _ hk).append ?_
    rw [List.filter_cons_of_pos (by simp)]
    exact .refl _
  · rw [upd_ne _ _ e, List.filter_cons_of_neg (by
      simp only [decide_eq_true_eq]
      rintro ⟨rfl, rfl⟩
      exact e ⟨rfl, rfl⟩)]
    simpa using h k j hk
/-- a slot emptied, and the time gone on to its tick: the others stand where they stood -/
theorem std_step {now a : Nat} {ct : Nat → Nat → List En} {d : List En} (h : Std now ct d) (h1 : now ≤ a) (hd : ∀ x ∈ d, a ≤ x.due ∧ now < x.due) :
    Std a (upd ct (lvl now a) (dig (lvl now a) a) []) (d.filter fun x => decide (¬ (lvl now x.due = lvl now a ∧ dig (lvl now a) x.due = dig (lvl now a) a))) := fun k j hk => by
  rw [List.filter_filter]
  by_cases e : k = lvl now a ∧ j = dig (lvl now a) a
  · obtain ⟨rfl, rfl⟩ := e
    rw [upd_same, List.filter_eq_nil_iff.2]
    intro x hx hpq
    rw [Bool.and_eq_true, decide_eq_true_eq, decide_eq_true_eq] at hpq
    obtain ⟨h2, h3⟩ := hpq
    have hs := pos_stay h1 (hd x hx).1 (hd x hx).2 (fun e => h3 ⟨e.1, by have e2 := e.2; rw [e.1] at e2; exact e2⟩)
    exact h3 ⟨hs.symm.trans h2.1, h2.2⟩
  · rw [upd_ne _ _ e]
    refine (h k j hk).trans (List.Perm.of_eq (List.filter_congr fun x hx => ?_))
    by_cases hp : lvl now x.due = lvl now a ∧ dig (lvl now a) x.due = dig (lvl now a) a
    · have h2 : ¬ (lvl now x.due = k ∧ dig k x.due = j) := fun h4 => e ⟨h4.1.symm.trans hp.1, by rw [← h4.2, ← hp.2, ← h4.1, hp.1]⟩
      simp [hp]
      intro h4 h5
      exact h2 ⟨h4 ▸ hp.1, h5⟩
    · have hs := pos_stay h1 (hd x hx).1 (hd x hx).2 (fun e => hp ⟨e.1, by have e2 := e.2; rw [e.1] at e2; exact e2⟩)
      simp [hp, hs]
theorem own_stay {w w' : World} {B s : Nat} {e : TypeId} {v : Value} {n : Nat} {xs : List Value} (h : w.ownsRow B e s v n xs) (hb : ∀ i, v.ownBlock = some i → w'.heap[i]? = w.heap[i]?) : w'.ownsRow B e s v n xs := by
  obtain ⟨h1, h2⟩ := h
  refine ⟨h1, h2.imp id ?_⟩
  rintro ⟨q, c, cur, rfl, hq, hh, rest⟩
  exact ⟨q, c, cur, rfl, hq, (hb q rfl).trans hh, rest⟩
theorem own_blk {w : World} {B s : Nat} {e : TypeId} {v : Value} {n i : Nat} {xs : List Value} (h : w.ownsRow B e s v n xs) (hi : v.ownBlock = some i) : B ≤ i ∧ ∃ cs, Box w i e cs := by
  rcases h.2 with ⟨rfl, _⟩ | ⟨q, c, cur, rfl, hq, hh, _⟩
  · simp [Value.ownBlock] at hi
  · simp only [Value.ownBlock, Option.some.injEq] at hi
    subst hi
    exact ⟨hq, cur, hh⟩
theorem own_keep {w w' : World} {X : Nat → Prop} {B s : Nat} {e : TypeId} {v : Value} {n : Nat} {xs : List Value} (h : w.ownsRow B e s v n xs) (hk : Keep X w w') (hx : ∀ i, v.ownBlock = some i → X i) : w'.ownsRow B e s v n xs :=
  own_stay h fun i hi => by
    obtain ⟨_, cs, hc⟩ := own_blk h hi
    exact hk.block i hc.lt (hx i hi)
/-- blocks that are not the wheel's while it goes on: those of before, the slot's row, the timers that are still to come, the row of those that go -/
def XS (X : Nat → Prop) (v0 : Value) (c0 : List En) (i : Nat) (gv : Value) (b : Nat) : Prop := X b ∨ v0.ownBlock = some b ∨ (∃ x ∈ c0.drop i, x.b = b) ∨ gv.ownBlock = some b
def due_ (a : Nat) (x : En) : Bool := decide (x.due ≤ a)
def late (a : Nat) (x : En) : Bool := decide (a < x.due)
/-- the timers that have gone by the place i -/
def goneL (c0 : List En) (i a : Nat) : List T := ((c0.take i).filter (due_ a)).map En.t
section
variable {w : World} {g bm : Nat} {X : Nat → Prop} {lev : Nat → Option Nat} {rv : Nat → Nat → Value} {ct : Nat → Nat → List En} {ms : List (Nat × Nat)} {cap now last : Nat}
theorem Raw.grownx {w' : World} {row : Option Nat} (h : Raw w g X bm lev rv ct ms cap now last) (hg : w.grownBy w' row) (hr : ∀ i, row = some i → X i) : Raw w' g X bm lev rv ct ms cap now last :=
  h.stay hg.size fun i hi => hg.block i (h.olt hi) fun e => h.xown hi (hr i e.symm)
/-- where the loop stands -/
structure StepAt (w wr : World) (g : Nat) (X : Nat → Prop) (bm : Nat) (cap a last : Nat) (st0 : List En) (v0 : Value) (c0 : List En) (i : Nat) (gv : Value) (lev : Nat → Option Nat) (rv : Nat → Nat → Value) (ct : Nat → Nat → List En) (ms : List (Nat × Nat)) (st : List En) : Prop where
  raw : Raw wr g (XS X v0 c0 i gv) bm lev rv ct ms cap a last
  std : Std a ct st
  stp : st.Perm (st0 ++ (c0.take i).filter (late a))
  ms : ms.Perm ((st ++ c0.drop i).map hb)
  lone : ∀ x ∈ c0.drop i, Lone wr x
  row0 : wr.ownsRow 0 59 1 v0 c0.length (c0.map En.val)
  gone : wr.ownsRow w.heap.size 34 3 gv (goneL c0 i a).length (cellsT (goneL c0 i a))
  keep : Keep X w wr
/-- .. with the wheel's memory whatever it is -/
def StepIn (w wr : World) (g : Nat) (X : Nat → Prop) (bm : Nat) (cap a last : Nat) (st0 : List En) (v0 : Value) (c0 : List En) (i : Nat) (gv : Value) : Prop :=
  ∃ lev rv ct ms st, StepAt w wr g X bm cap a last st0 v0 c0 i gv lev rv ct ms st
/-- what is fixed: the timers of the slot are apart, and no block of before -/
structure StepC (w : World) (X : Nat → Prop) (st0 c0 : List En) (a : Nat) : Prop where
  xlt : ∀ b, X b → b < w.heap.size
  nd : (c0.map En.b).Nodup
  xc : ∀ x ∈ c0, ¬ X x.b
  hd : ((st0 ++ c0).map En.h).Nodup
  hl : ∀ x ∈ st0 ++ c0, x.h ≤ 4611686018427387904
  due : ∀ x ∈ c0, a ≤ x.due ∧ x.due ≤ 1099511627776
  len : (st0 ++ c0).length ≤ 1099511627776
variable {wr : World} {a i : Nat} {st0 c0 st : List En} {v0 gv : Value}
theorem drop_at (hi : i < c0.length) : c0.drop i = nth c0 i :: c0.drop (i + 1) := by
  rw [List.drop_eq_getElem_cons hi, nth_get hi]
theorem take_at (hi : i < c0.length) : c0.take (i + 1) = c0.take i ++ [nth c0 i] := by
  rw [List.take_succ_eq_append_getElem hi, nth_get hi]
theorem StepAt.xs (h : StepAt w wr g X bm cap a last st0 v0 c0 i gv lev rv ct ms st) (hc : StepC w X st0 c0 a) (hi : i < c0.length) : ¬ XS X v0 c0 (i + 1) gv (nth c0 i).b := by
  obtain ⟨p, hB⟩ := h.lone (nth c0 i) (by rw [drop_at hi]; exact List.mem_cons_self)
  rintro (e | e | ⟨x, hx, e⟩ | e)
  · exact hc.xc _ (nth_mem hi) e
  · obtain ⟨cs, hc⟩ := own_block h.row0 e
    exact cells_ne hB hc (by decide) rfl
  · have h1 := hc.nd
    have h2 : c0 = c0.take i ++ nth c0 i :: c0.drop (i + 1) := by rw [← drop_at hi, List.take_append_drop]
    rw [h2, List.map_append, List.map_cons, List.nodup_append] at h1
    exact (List.nodup_cons.1 h1.2.1).1 (List.mem_map.2 ⟨x, hx, e⟩)
  · obtain ⟨_, cs, hc⟩ := own_blk h.gone e
    exact cells_ne hB hc (by decide) rfl
theorem StepAt.out (h : StepAt w wr g X bm cap a last st0 v0 c0 i gv lev rv ct ms st) (hi : i < c0.length) : ∀ k j, In k j → ∀ y ∈ ct k j, y.b ≠ (nth c0 i).b := fun k j hk y hy e =>
  h.raw.xe k j y hk hy (.inr (.inr (.inl ⟨nth c0 i, by rw [drop_at hi]; exact List.mem_cons_self, e.symm⟩)))
theorem XS.next {b : Nat} (hi : i < c0.length) (h : XS X v0 c0 (i + 1) gv b) : XS X v0 c0 i gv b := by
  rcases h with e | e | ⟨x, hx, e⟩ | e
  · exact .inl e
  · exact .inr (.inl e)
  · exact .inr (.inr (.inl ⟨x, by rw [drop_at hi]; exact List.mem_cons_of_mem _ hx, e⟩))
  · exact .inr (.inr (.inr e))
theorem StepAt.small (h : StepAt w wr g X bm cap a last st0 v0 c0 i gv lev rv ct ms st) (hc : StepC w X st0 c0 a) (k j : Nat) (hk : In k j) : (ct k j).length ≤ 1099511627776 := by
  have h1 := h.std.len hk
  have h2 := h.stp.length_eq
  have h3 := hc.len
  have h4 : ((c0.take i).filter (late a)).length ≤ c0.length := Nat.le_trans (List.length_filter_le _ _) (by rw [List.length_take]; omega)
  rw [List.length_append] at h2 h3
  omega
/-- a timer put back -/
theorem StepAt.back (h : StepAt w wr g X bm cap a last st0 v0 c0 i gv lev rv ct ms st) (hi : i < c0.length) (hl : a < (nth c0 i).due) {w' : World}
    (hp : PutAt wr g (XS X v0 c0 (i + 1) gv) bm rv ct ms cap a last (nth c0 i) (lvl a (nth c0 i).due) (dig (lvl a (nth c0 i).due) (nth c0 i).due) w') : StepIn w w' g X bm cap a last st0 v0 c0 (i + 1) gv := by
  obtain ⟨lev', v', hR, hK⟩ := hp
  have eg : goneL c0 (i + 1) a = goneL c0 i a := by
    unfold goneL
    rw [take_at hi, List.filter_append, List.filter_cons_of_neg (by simp [due_]; omega)]
    simp
  refine ⟨lev', _, _, ms, st ++ [nth c0 i], hR, h.std.push _, ?_, ?_, ?_, ?_, ?_, ?_⟩
  · rw [take_at hi, List.filter_append, List.filter_cons_of_pos (by simp [late]; omega), List.filter_nil, ← List.append_assoc]
    exact h.stp.append (.refl _)
  · refine h.ms.trans (List.Perm.of_eq ?_)
    rw [drop_at hi, List.append_assoc]
    rfl
  · intro x hx
    exact (h.lone x (by rw [drop_at hi]; exact List.mem_cons_of_mem _ hx)).keep hK (.inr (.inr (.inl ⟨x, hx, rfl⟩)))
  · exact own_keep h.row0 hK fun b hb => .inr (.inl hb)
  · rw [eg]
    exact own_keep h.gone hK fun b hb => .inr (.inr (.inr hb))
  · exact h.keep.trans (hK.mono fun b hb => .inl hb)
theorem StepAt.nodup (h : StepAt w wr g X bm cap a last st0 v0 c0 i gv lev rv ct ms st) (hc : StepC w X st0 c0 a) : ((st ++ c0.drop i).map En.h).Nodup := by
  have h1 : (st ++ c0.drop i).Perm (st0 ++ ((c0.take i).filter (late a) ++ c0.drop i)) := by
    rw [← List.append_assoc]
    exact h.stp.append (.refl _)
  have h2 : (st0 ++ ((c0.take i).filter (late a) ++ c0.drop i)).Sublist (st0 ++ c0) := by
    refine List.Sublist.append_left ?_ _
    conv => rhs; rw [← List.take_append_drop i c0]
    exact List.Sublist.append_right List.filter_sublist _
  exact ((h1.map En.h).nodup_iff).2 ((h2.map En.h).nodup hc.hd)
/-- a timer gone: out of the map, and behind those that went -/
theorem StepAt.gone_on (h : StepAt w wr g X bm cap a last st0 v0 c0 i gv lev rv ct ms st) (hc : StepC w X st0 c0 a) (hi : i < c0.length) (hl : (nth c0 i).due ≤ a) {w2 w3 : World} {o : Obj} {gv' : Value}
    (hm : MapAt wr g (XS X v0 c0 i gv) bm lev rv ct (delM ms ((nth c0 i).h : Int)) cap a last w2) (hg : (w2.alloc o).grownBy w3 gv.ownBlock)
    (ho : w3.ownsRow w.heap.size 34 3 gv' ((goneL c0 i a).length + 1) (cellsT (goneL c0 i a) ++ T.cells (nth c0 i).t)) (hat : gv'.ownBlock = gv.ownBlock ∨ gv'.ownBlock = some (w2.alloc o).heap.size) : StepIn w w3 g X bm cap a last st0 v0 c0 (i + 1) gv' := by
  obtain ⟨hR, hK⟩ := hm
  have hR2 : Raw (w2.alloc o) g (XS X v0 c0 i gv) bm lev rv ct (delM ms ((nth c0 i).h : Int)) cap a last := hR.below ((Below.refl _ _).alloc (Nat.le_refl _) _)
  have hR3 := hR2.grownx hg (fun b hb => .inr (.inr (.inr hb)))
  have hgs := hg.size
  have eg : goneL c0 (i + 1) a = goneL c0 i a ++ [(nth c0 i).t] := by
    unfold goneL
    rw [take_at hi, List.filter_append, List.filter_cons_of_pos (by simp [due_]; omega), List.filter_nil, List.map_append]
    rfl
  have hkx : Keep (fun b => X b ∨ v0.ownBlock = some b ∨ ∃ x ∈ c0.drop i, x.b = b) wr w3 := by
    refine ((hK.mono fun b hb => ?_).trans (Keep.of_below ((Below.refl _ _).alloc (Nat.le_refl _) o))).trans (Keep.of_grown hg fun b hb hx => ?_)
    · rcases hb with e | e | e
      · exact .inl e
      · exact .inr (.inl e)
      · exact .inr (.inr (.inl e))
    · obtain ⟨hlo, cs, hcb⟩ := own_blk h.gone hb
      rcases hx with e | e | ⟨x, hx, e⟩
      · have := hc.xlt b e
        omega
      · obtain ⟨cs', hc'⟩ := own_block h.row0 e
        exact cells_ne hcb hc' (by decide) rfl
      · obtain ⟨p, hB⟩ := h.lone x hx
        exact cells_ne hcb hB (by decide) e.symm
  have hx0 : XS X v0 c0 i gv (nth c0 i).b := .inr (.inr (.inl ⟨_, by rw [drop_at hi]; exact List.mem_cons_self, rfl⟩))
  refine ⟨lev, rv, ct, _, st, hR3.other fun b hb => ?_, h.std, ?_, ?_, ?_, ?_, ?_, h.keep.trans (hkx.mono fun b hb => .inl hb)⟩
  · have hold : XS X v0 c0 i gv b → b < w3.heap.size ∧ ¬ Own g bm lev rv ct b := fun hx => ⟨hR3.xlt b hx, fun ho => hR3.xown ho hx⟩
    rcases hb with e | e | ⟨x, hx, e⟩ | e
    · exact hold (.inl e)
    · exact hold (.inr (.inl e))
    · exact hold (.inr (.inr (.inl ⟨x, by rw [drop_at hi]; exact List.mem_cons_of_mem _ hx, e⟩)))
    · rcases hat with h1 | h1
      · exact hold (.inr (.inr (.inr (h1 ▸ e))))
      · obtain ⟨_, cs, hcb⟩ := own_blk ho e
        rw [h1] at e
        injection e with e
        exact ⟨hcb.lt, fun ho => by have := hR2.olt ho; omega⟩
  · rw [take_at hi, List.filter_append, List.filter_cons_of_neg (by simp [late]; omega), List.filter_nil, List.append_nil]
    exact h.stp
  · have hnd := h.nodup hc
    have hp := h.ms.filter fun p => decide ((p.1 : Int) ≠ ((nth c0 i).h : Int))
    refine hp.trans (List.Perm.of_eq ?_)
    rw [drop_at hi] at hnd ⊢
    rw [List.map_append, List.map_cons] at hnd ⊢
    rw [List.filter_append, List.filter_cons_of_neg (by simp [hb]), List.map_append]
    rw [List.nodup_append] at hnd
    obtain ⟨_, n2, n3⟩ := hnd
    rw [List.nodup_cons] at n2
    congr 1
    · refine List.filter_eq_self.2 fun p hp => ?_
      obtain ⟨y, hy, rfl⟩ := List.mem_map.1 hp
      have := n3 y.h (List.mem_map.2 ⟨y, hy, rfl⟩) (nth c0 i).h List.mem_cons_self
      exact decide_eq_true (by show (y.h : Int) ≠ _; omega)
    · refine List.filter_eq_self.2 fun p hp => ?_
      obtain ⟨y, hy, rfl⟩ := List.mem_map.1 hp
      have : y.h ≠ (nth c0 i).h := fun e => n2.1 (List.mem_map.2 ⟨y, hy, e⟩)
      exact decide_eq_true (by show (y.h : Int) ≠ _; omega)
  · intro x hx
    have hx' : x ∈ c0.drop i := by rw [drop_at hi]; exact List.mem_cons_of_mem _ hx
    exact (h.lone x hx').keep hkx (.inr (.inr ⟨x, hx', rfl⟩))
  · exact own_keep h.row0 hkx fun b hb => .inr (.inl hb)
  · rw [eg, cellsT_app, List.length_append]
    have e2 : cellsT [(nth c0 i).t] = T.cells (nth c0 i).t := by simp [cellsT]
    rw [e2]
    exact ho
end
end Go.Proofs.Ytobodianbjfgfaa.Wh
