/-
  What stepTo answers: the timers that are due at a tick, in the order in which they were set; and the wheel then.
  Conditions: the wheel is one; none of its timers is due ahead of the tick.
-/
import Derived.Test.YtobodianbjfgfaaWhlStep0
import Derived.Test.YtobodianbjfgfaaWhlOut
namespace Go.Proofs.Ytobodianbjfgfaa.Wh
open Go.RowKit Go.Maps

theorem cell_three_to {w : World} {g : Nat} (hg : g = w.heap.size) (p q r : Value) (t : TypeId) : ∀ j u, [p, q, r][j]? = some u → (w.alloc (.cells #[p, q, r] t)).cell? ((⟨g, 0, none⟩ : Addr).add j) = some u := by
  intro j u hj
  subst hg
  have h := (Box.new w t #[p, q, r]).cell j
  rw [Addr.add_lit, Nat.zero_add, h, ← hj]
  simp
theorem infoA : (Try.prog.info? 34).map (fun i => (i.zero, i.size, i.bytes)) = some (some (.agg #[.int .i64 0, .int .i64 0, .int .i64 0]), 3, 24) := by kernel_rfl
section
variable {w w0 : World} {g bm : Nat} {X : Nat → Prop} {lev : Nat → Option Nat} {rv : Nat → Nat → Value} {ct : Nat → Nat → List En} {ms : List (Nat × Nat)} {cap now last : Nat}
theorem wcells_now (cap now last a : Nat) (lev : Nat → Option Nat) (bm : Nat) : (wcells cap now last lev bm).setIfInBounds 1 (.int .i64 (a : Int)) = wcells cap a last lev bm := by simp [wcells]
theorem wcells_last (cap now last a : Nat) (lev : Nat → Option Nat) (bm : Nat) : (wcells cap now last lev bm).setIfInBounds 2 (.int .i64 (a : Int)) = wcells cap now a lev bm := by simp [wcells]
/-- the wheel's own numbers written -/
theorem Raw.self (h : Raw w g X bm lev rv ct ms cap now last) (i : Nat) (u : Value) {cap' now' last' : Nat} (hc : (wcells cap now last lev bm).setIfInBounds i u = wcells cap' now' last' lev bm) :
    Raw (w.setCell ⟨g, i, none⟩ u) g X bm lev rv ct ms cap' now' last' ∧ Keep X w (w.setCell ⟨g, i, none⟩ u) := by
  have hb : ∀ b, b ≠ g → (w.setCell ⟨g, i, none⟩ u).heap[b]? = w.heap[b]? := fun b hne => Below.heap_setCell w ⟨g, i, none⟩ u b hne
  have hs : (w.setCell ⟨g, i, none⟩ u).heap.size = w.heap.size := by simp [World.setCell]
  refine ⟨⟨?_, ?_, h.nol, ?_, ?_, h.nd, h.ap, h.lvi, h.rap, ?_, h.xg, h.xm, h.xl, h.xr, h.xe, fun b hx => by rw [hs]; exact h.xlt b hx⟩, (Keep.refl X w).setCell h.xg i u⟩
  · rw [← hc]
    exact h.box.put i u
  · intro k b hk e
    obtain ⟨cs, h1, h2⟩ := h.lvl k b hk e
    exact ⟨cs, (hb b (cells_ne h1 h.box (by decide))).trans h1, h2⟩
  · intro k j hk
    exact row_stay (h.row k j hk) fun b hi => by
      obtain ⟨cs, hc⟩ := h.rbox hk hi
      exact hb b (cells_ne hc h.box (by decide))
  · intro k j q hk hq
    have hB := h.ens k j q hk hq
    exact (hb _ (cells_ne hB h.box (by decide))).trans hB
  · obtain ⟨es, h1, h2⟩ := h.map
    exact ⟨es, map_stay h1 (hb bm (Ne.symm h.gm)), h2⟩
/-- timers that stand elsewhere than at a tick's slot -/
def others (now a : Nat) (d : List En) : List En := d.filter fun x => decide (¬ (lvl now x.due = lvl now a ∧ dig (lvl now a) x.due = dig (lvl now a) a))
theorem others_perm {now a : Nat} {d : List En} (hS : Std now ct d) : (others now a d ++ ct (lvl now a) (dig (lvl now a) a)).Perm d := by
  have h1 := hS (lvl now a) (dig (lvl now a) a) ⟨lvl_lt _ _, dig_lt _ _⟩
  have h2 : (d.filter fun x => decide (lvl now x.due = lvl now a ∧ dig (lvl now a) x.due = dig (lvl now a) a)).Perm (ct (lvl now a) (dig (lvl now a) a)) := h1.symm
  have h3 := List.filter_append_perm (fun x => decide (lvl now x.due = lvl now a ∧ dig (lvl now a) x.due = dig (lvl now a) a)) d
  refine (List.perm_append_comm).trans (List.Perm.trans ?_ h3)
  refine h2.symm.append (List.Perm.of_eq (List.filter_congr fun x _ => ?_))
  by_cases e : lvl now x.due = lvl now a ∧ dig (lvl now a) x.due = dig (lvl now a) a <;> simp [e]
/-- the loop begins -/
theorem step_start (h : Raw w g X bm lev rv ct ms cap now last) (hk0 : Keep X w0 w) {d : List En} {a lb : Nat} (hlb : lev (lvl now a) = some lb) (hS : Std now ct d) (hms : ms.Perm (d.map hb)) (h1 : now ≤ a) (hd : ∀ x ∈ d, a ≤ x.due ∧ now < x.due) :
    StepIn w0 ((w.setCell ⟨lb, dig (lvl now a) a, none⟩ nil_).setCell ⟨g, 1, none⟩ (.int .i64 (a : Int))) g X bm cap a last (others now a d) (rv (lvl now a) (dig (lvl now a) a)) (ct (lvl now a) (dig (lvl now a) a)) 0 nil_ := by
  have hin : In (lvl now a) (dig (lvl now a) a) := ⟨lvl_lt _ _, dig_lt _ _⟩
  have hstd : Std a (upd ct (lvl now a) (dig (lvl now a) a) []) (others now a d) := std_step hS h1 hd
  have hop := others_perm (a := a) hS
  generalize others now a d = st0 at *
  generalize lvl now a = k at *
  generalize dig k a = j at *
  obtain ⟨hR1, hK1⟩ := h.cleared hin hlb
  obtain ⟨hR2, hK2⟩ := hR1.self 1 (.int .i64 (a : Int)) (wcells_now cap now last a lev bm)
  obtain ⟨lc, hlbox⟩ := h.lbox hin.1 hlb
  have hb : ∀ b, b ≠ lb → b ≠ g → ((w.setCell ⟨lb, j, none⟩ nil_).setCell ⟨g, 1, none⟩ (.int .i64 (a : Int))).heap[b]? = w.heap[b]? := fun b h2 h3 =>
    (Below.heap_setCell _ ⟨g, 1, none⟩ _ b h3).trans (Below.heap_setCell w ⟨lb, j, none⟩ _ b h2)
  have hsz : ((w.setCell ⟨lb, j, none⟩ nil_).setCell ⟨g, 1, none⟩ (.int .i64 (a : Int))).heap.size = w.heap.size := by simp [World.setCell]
  refine ⟨lev, _, _, ms, st0, hR2.other fun b hx => ?_, hstd, by simp, ?_, ?_, ?_, ?_, hk0.trans (hK1.trans hK2)⟩
  · rcases hx with e | e | ⟨x, hx, e⟩ | e
    · exact ⟨hR2.xlt b e, fun ho => hR2.xown ho e⟩
    · obtain ⟨cs, hcb⟩ := h.rbox hin e
      refine ⟨by rw [hsz]; exact hcb.lt, ?_⟩
      rintro (e1 | e1 | ⟨k', hk', e1⟩ | ⟨k', j', hk', e1⟩ | ⟨k', j', y, hk', hy, e1⟩)
      · exact cells_ne hcb h.box (by decide) e1
      · obtain ⟨e0, c0, hm⟩ := h.mblk
        exact map_ne hcb hm e1
      · obtain ⟨cs', hc'⟩ := h.lbox hk' e1
        exact cells_ne hcb hc' (by decide) rfl
      · by_cases hkk : k' = k ∧ j' = j
        · rw [hkk.1, hkk.2, upd_same] at e1
          simp [nil_, Value.ownBlock] at e1
        · rw [upd_ne _ _ hkk] at e1
          exact hkk (h.rap k' j' k j b hk' hin e1 e)
      · by_cases hkk : k' = k ∧ j' = j
        · rw [hkk.1, hkk.2, upd_same] at hy
          cases hy
        · rw [upd_ne _ _ hkk] at hy
          obtain ⟨cs', hc'⟩ := h.ebox hk' hy
          exact cells_ne hc' hcb (by decide) e1
    · rw [List.drop_zero] at hx
      obtain ⟨cs, hcb⟩ := h.ebox hin hx
      subst e
      refine ⟨by rw [hsz]; exact hcb.lt, ?_⟩
      rintro (e1 | e1 | ⟨k', hk', e1⟩ | ⟨k', j', hk', e1⟩ | ⟨k', j', y, hk', hy, e1⟩)
      · exact cells_ne hcb h.box (by decide) e1
      · obtain ⟨e0, c0, hm⟩ := h.mblk
        exact map_ne hcb hm e1
      · obtain ⟨cs', hc'⟩ := h.lbox hk' e1
        exact cells_ne hcb hc' (by decide) rfl
      · by_cases hkk : k' = k ∧ j' = j
        · rw [hkk.1, hkk.2, upd_same] at e1
          simp [nil_, Value.ownBlock] at e1
        · rw [upd_ne _ _ hkk] at e1
          obtain ⟨cs', hc'⟩ := h.rbox hk' e1
          exact cells_ne hcb hc' (by decide) rfl
      · by_cases hkk : k' = k ∧ j' = j
        · rw [hkk.1, hkk.2, upd_same] at hy
          cases hy
        · rw [upd_ne _ _ hkk] at hy
          exact hkk (h.ap k' j' k j y x hk' hin hy hx e1)
    · simp [nil_, Value.ownBlock] at e
  · rw [List.drop_zero]
    exact hms.trans (hop.map _).symm
  · intro x hx
    rw [List.drop_zero] at hx
    obtain ⟨i, _, _, hB⟩ := h.ek hin hx
    exact ⟨.int .i64 (i : Int), (hb _ (cells_ne hB hlbox (by decide)) (cells_ne hB h.box (by decide))).trans hB⟩
  · exact row_stay (h.row k j hin) fun b e => by
      obtain ⟨cs, hcb⟩ := h.rbox hin e
      exact hb b (cells_ne hcb hlbox (by decide)) (cells_ne hcb h.box (by decide))
  · exact World.ownsRow_nil _ _ _ _
/-- what stepTo answers -/
def StepEnd (w : World) (g : Nat) (X : Nat → Prop) (bm : Nat) (cap a last : Nat) (d : List En) (e : Ending) (w' : World) : Prop :=
  ∃ gv ts lev rv ct ms, e = .returned gv ∧ ts.Perm ((d.filter (due_ a)).map En.t) ∧ ts.Pairwise (fun x y => x.h ≤ y.h) ∧ w'.ownsRow w.heap.size 34 3 gv ts.length (cellsT ts) ∧
    Raw w' g (fun b => X b ∨ gv.ownBlock = some b) bm lev rv ct ms cap a last ∧ Std a ct (d.filter (late a)) ∧ ms.Perm ((d.filter (late a)).map hb) ∧ Keep X w w'
theorem own_lt {w : World} {B s : Nat} {e : TypeId} {v : Value} {n i : Nat} {xs : List Value} (h : w.ownsRow B e s v n xs) (hi : v.ownBlock = some i) : i < w.heap.size := by
  obtain ⟨_, cs, hc⟩ := own_blk h hi
  exact hc.lt
/-- the loop is over, and the slice is sorted -/
theorem step_end {wr w' : World} {a : Nat} {d : List En} {v0 gv : Value} {c0 : List En} (h : StepIn w wr g X bm cap a last (others now a d) v0 c0 c0.length gv) (hC : StepC w X (others now a d) c0 a) (hp : (others now a d ++ c0).Perm d) (hd : ∀ x ∈ d, a ≤ x.due)
    {ts' : List T} (hs1 : ts'.Perm (goneL c0 c0.length a)) (hs2 : ts'.Pairwise (fun x y => x.h ≤ y.h)) (hs3 : w'.ownsRow w.heap.size 34 3 gv ts'.length (cellsT ts')) (hs4 : wr.grownBy w' gv.ownBlock) :
    StepEnd w g X bm cap a last d (.returned gv) w' := by
  obtain ⟨lev, rv, ct, ms, st, hA⟩ := h
  have hst := hA.stp
  have hms := hA.ms
  have hgn := hA.gone
  unfold goneL at hs1
  rw [List.take_length] at hst hs1
  rw [List.drop_length, List.append_nil] at hms
  have hR := hA.raw.grownx hs4 (fun b hb => .inr (.inr (.inr hb)))
  have hoth : ∀ x ∈ others now a d, a < x.due := fun x hx => by
    obtain ⟨h2, h3⟩ := List.mem_filter.1 hx
    have h3 := of_decide_eq_true h3
    have := hd x h2
    rcases Nat.eq_or_lt_of_le this with e | e
    · exact absurd ⟨by rw [← e], by rw [← e]⟩ h3
    · exact e
  have e1 : (others now a d).filter (late a) = others now a d := List.filter_eq_self.2 fun x hx => by simp [late, hoth x hx]
  have e2 : (others now a d).filter (due_ a) = [] := List.filter_eq_nil_iff.2 fun x hx => by have := hoth x hx; simp [due_]; omega
  have p1 := hp.filter (late a)
  have p2 := hp.filter (due_ a)
  rw [List.filter_append, e1] at p1
  rw [List.filter_append, e2, List.nil_append] at p2
  have hst' := hst.trans p1
  refine ⟨gv, ts', lev, rv, ct, ms, rfl, hs1.trans (p2.map _), hs2, hs3, hR.less fun b hb => ?_, hA.std.perm hst', hms.trans (hst'.map _), hA.keep.trans (Keep.of_grown hs4 fun b hb hx => ?_)⟩
  · rcases hb with e | e
    · exact .inl e
    · exact .inr (.inr (.inr e))
  · have h2 := hC.xlt b hx
    have h3 := (own_blk hgn hb).1
    omega
end
end Go.Proofs.Ytobodianbjfgfaa.Wh
