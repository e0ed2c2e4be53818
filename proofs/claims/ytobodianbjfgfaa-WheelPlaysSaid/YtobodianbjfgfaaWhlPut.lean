/-
  What put does to a wheel: a timer more, behind the others of its slot.
  Conditions: the wheel is one; the timer lies in a block of its own that the wheel does not have.
-/
import Derived.Test.YtobodianbjfgfaaWhlRow
namespace Go.Proofs.Ytobodianbjfgfaa.Wh
open Go.RowKit Go.Maps

theorem info_parts {o : Option TypeInfo} {z : Option Value} {a b : Nat} (h : o.map (fun i => (i.zero, i.size, i.bytes)) = some (z, a, b)) : ∃ i, o = some i ∧ i.zero = z ∧ i.size = a ∧ i.bytes = b := by
  cases o with
  | none => cases h
  | some i =>
    simp only [Option.map_some, Option.some.injEq, Prod.mk.injEq] at h
    exact ⟨i, rfl, h.1, h.2.1, h.2.2⟩
theorem cell_one_to {w : World} {g : Nat} (hg : g = w.heap.size) (p : Value) (t : TypeId) : ∀ j u, [p][j]? = some u → (w.alloc (.cells #[p] t)).cell? ((⟨g, 0, none⟩ : Addr).add j) = some u := by
  intro j u hj
  subst hg
  match j, hj with
  | 0, hj =>
    simp only [List.getElem?_cons_zero, Option.some.injEq] at hj
    subst hj
    rw [Addr.add_lit]
    simp
theorem infoT : (Try.prog.info? 59).map (fun i => (i.zero, i.size, i.bytes)) = some (some (.pointer none), 1, 8) := by kernel_rfl
/-- a timer that lies in a block of its own, its place whatever it is -/
def Lone (w : World) (x : En) : Prop := ∃ p, Box w x.b 61 #[.int .i64 (x.h : Int), .int .i64 x.id, .int .i64 (x.due : Int), p]
theorem Lone.lt {w : World} {x : En} (h : Lone w x) : x.b < w.heap.size := by obtain ⟨p, hb⟩ := h; exact hb.lt
theorem Lone.keep {w w' : World} {X : Nat → Prop} {x : En} (h : Lone w x) (hk : Keep X w w') (hx : X x.b) : Lone w' x := by obtain ⟨p, hb⟩ := h; exact ⟨p, hk.box hb hx⟩
theorem setIf_get {cs : Array Value} {j j' : Nat} {v : Value} (hj : j < cs.size) : (cs.setIfInBounds j v)[j']? = if j' = j then some v else cs[j']? := by
  rw [Array.getElem?_setIfInBounds]
  by_cases h : j = j'
  · subst h
    simp [hj]
  · rw [if_neg h, if_neg (Ne.symm h)]
section
variable {w w' : World} {g bm : Nat} {X : Nat → Prop} {lev : Nat → Option Nat} {rv : Nat → Nat → Value} {ct : Nat → Nat → List En} {ms : List (Nat × Nat)} {cap now last : Nat}
/-- the block of a lone timer is not the wheel's -/
theorem Raw.lone (h : Raw w g X bm lev rv ct ms cap now last) {x : En} (hx : Lone w x) (hne : ∀ k j, In k j → ∀ y ∈ ct k j, y.b ≠ x.b) : ¬ Own g bm lev rv ct x.b := by
  obtain ⟨p, hb⟩ := hx
  rintro (e | e | ⟨k, hk, e⟩ | ⟨k, j, hk, e⟩ | ⟨k, j, y, hk, hy, e⟩)
  · exact cells_ne hb h.box (by decide) e
  · obtain ⟨es, c, hm⟩ := h.mblk
    exact map_ne hb hm e
  · obtain ⟨cs, hc⟩ := h.lbox hk e
    exact cells_ne hb hc (by decide) rfl
  · obtain ⟨cs, hc⟩ := h.rbox hk e
    exact cells_ne hb hc (by decide) rfl
  · exact hne k j hk y hy e
theorem Raw.levcell (h : Raw w g X bm lev rv ct ms cap now last) {k j lb : Nat} (hk : In k j) (hlb : lev k = some lb) : w.cell? ⟨lb, j, none⟩ = some (rv k j) ∧ w.frozen? ⟨lb, j, none⟩ = false := by
  obtain ⟨cs, h1, _, h3⟩ := h.lvl k lb hk.1 hlb
  exact ⟨(h1.cell j).trans (h3 j hk.2), h1.frozen j⟩
/-- the level's row of slots, one of which is written -/
theorem Raw.levput (h : Raw w g X bm lev rv ct ms cap now last) {k j lb : Nat} (hk : In k j) (hlb : lev k = some lb) (v' : Value) {w3 : World} (hb : w3.heap[lb]? = w.heap[lb]?) :
    ∃ cs, Box (w3.setCell ⟨lb, j, none⟩ v') lb 75 cs ∧ cs.size = 1024 ∧ ∀ j', j' < 1024 → cs[j']? = some (upd rv k j v' k j') := by
  obtain ⟨cs, h1, h2, h3⟩ := h.lvl k lb hk.1 hlb
  have hB : Box w3 lb 75 cs := hb.trans h1
  refine ⟨_, hB.put j v', by simp [h2], fun j' hj' => ?_⟩
  rw [setIf_get (by rw [h2]; exact hk.2)]
  by_cases e : j' = j
  · subst e
    rw [if_pos rfl, upd_same]
  · rw [if_neg e, upd_ne _ _ (fun e1 => e e1.2)]
    exact h3 j' hj'
/-- what a put leaves -/
theorem Raw.pushed (h : Raw w g X bm lev rv ct ms cap now last) {k j lb : Nat} (hk : In k j) (hlb : lev k = some lb) {x : En} (hx : Lone w x) (hne : ∀ k j, In k j → ∀ y ∈ ct k j, y.b ≠ x.b) (hxx : ¬ X x.b) {w3 : World} {o : Obj} {v' : Value}
    (hg3 : ((w.setCell ⟨x.b, 3, none⟩ (.int .i64 ((ct k j).length : Int))).alloc o).grownBy w3 (rv k j).ownBlock) (ho3 : w3.ownsRow 0 59 1 v' ((ct k j).length + 1) ((ct k j).map En.val ++ [ptr x.b])) (hat : v'.ownBlock = (rv k j).ownBlock ∨ v'.ownBlock = some (w.heap.size + 1)) :
    Raw (w3.setCell ⟨lb, j, none⟩ v') g X bm lev (upd rv k j v') (upd ct k j (ct k j ++ [x])) ms cap now last ∧ Keep X w (w3.setCell ⟨lb, j, none⟩ v') := by
  have hown := h.lone hx hne
  obtain ⟨p, hxb⟩ := hx
  obtain ⟨lc, hlbox⟩ := h.lbox hk.1 hlb
  have hsz : (w.setCell ⟨x.b, 3, none⟩ (.int .i64 ((ct k j).length : Int))).heap.size = w.heap.size := by simp [World.setCell]
  have hlx : x.b ≠ lb := cells_ne hxb hlbox (by decide)
  have hrl : (rv k j).ownBlock ≠ some lb := fun e => by
    obtain ⟨cs, hc⟩ := h.rbox hk e
    exact cells_ne hc hlbox (by decide) rfl
  have hrx : (rv k j).ownBlock ≠ some x.b := fun e => hown (.inr (.inr (.inr (.inl ⟨k, j, hk, e⟩))))
  have hgs := hg3.size
  rw [World.size_alloc, hsz] at hgs
  have hb3 : ∀ i, i < w.heap.size → i ≠ x.b → (rv k j).ownBlock ≠ some i → w3.heap[i]? = w.heap[i]? := fun i hi h1 h2 =>
    (hg3.block i (by rw [World.size_alloc, hsz]; omega) (fun e => h2 e.symm)).trans ((Below.heap_alloc _ o i (by rw [hsz]; exact hi)).trans (Below.heap_setCell w ⟨x.b, 3, none⟩ _ i h1))
  have hbf : ∀ i, i < w.heap.size → i ≠ lb → i ≠ x.b → (rv k j).ownBlock ≠ some i → (w3.setCell ⟨lb, j, none⟩ v').heap[i]? = w.heap[i]? := fun i hi h0 h1 h2 =>
    (Below.heap_setCell w3 ⟨lb, j, none⟩ v' i h0).trans (hb3 i hi h1 h2)
  have hsf : (w3.setCell ⟨lb, j, none⟩ v').heap.size = w3.heap.size := by simp [World.setCell]
  have hvl : v'.ownBlock ≠ some lb := fun e => by
    rcases hat with h1 | h1
    · exact hrl (h1 ▸ e)
    · rw [h1] at e
      injection e with e
      have := hlbox.lt
      omega
  have hxn : Box (w3.setCell ⟨lb, j, none⟩ v') x.b 61 (x.cells (ct k j).length) :=
    (((hxb.put 3 (.int .i64 ((ct k j).length : Int))).alloc o).grown hg3 (fun e => hrx e.symm)).far (p := ⟨lb, j, none⟩) hlx _
  refine ⟨h.turn hk hlb (by omega) ?_ (h.levput hk hlb v' (hb3 lb hlbox.lt (Ne.symm hlx) hrl)) ?_ ?_ ?_ ?_ ?_, ?_⟩
  · intro i hi h1 h2 h3 h4
    exact hbf i hi h1 (fun e => h4 x (by simp) e.symm) h2
  · have := ho3.kept (setCell_only w3 lb j v') (.inr hvl)
    simpa [En.val] using this
  · intro i hi
    by_cases hi' : i < (ct k j).length
    · rw [nth_app hi']
      have hB := h.ens k j i hk hi'
      have hm := nth_mem hi'
      refine (hbf _ hB.lt (cells_ne hB hlbox (by decide)) (hne k j hk _ hm) (fun e => ?_)).trans hB
      obtain ⟨cs, hc⟩ := h.rbox hk e
      exact cells_ne hB hc (by decide) rfl
    · obtain rfl : i = (ct k j).length := by simp at hi; omega
      rw [nth_last]
      exact hxn
  · rw [List.map_append, List.nodup_append]
    refine ⟨h.nd k j hk, by simp, ?_⟩
    intro a ha b hb
    simp only [List.map_cons, List.map_nil, List.mem_singleton] at hb
    obtain ⟨y, hy, rfl⟩ := List.mem_map.1 ha
    rw [hb]
    exact hne k j hk y hy
  · intro y hy
    rcases List.mem_append.1 hy with h1 | h1
    · obtain ⟨cs, hc⟩ := h.ebox hk h1
      exact ⟨⟨cs, hc⟩, h.xe k j y hk h1, fun k' j' hk' hkk z hz e => hkk (h.ap k' j' k j z y hk' hk hz h1 e)⟩
    · rw [List.mem_singleton.1 h1]
      exact ⟨⟨_, hxb⟩, hxx, fun k' j' hk' _ z hz => hne k' j' hk' z hz⟩
  · intro i hi
    rcases hat with h1 | h1
    · rw [h1] at hi
      exact ⟨h.xr k j i hk hi, .inl hi⟩
    · rw [h1] at hi
      injection hi with hi
      exact ⟨fun hX => by have := h.xlt i hX; omega, .inr (by omega)⟩
  · refine ⟨hg3.os, hg3.tape, hg3.output, by omega, fun i hi hX => hbf i hi (fun e => h.xl k lb hk.1 hlb (e ▸ hX)) (fun e => hxx (e ▸ hX)) (fun e => h.xr k j i hk e hX)⟩
/-- what put leaves: the timer behind the others of its slot -/
def PutAt (w : World) (g : Nat) (X : Nat → Prop) (bm : Nat) (rv : Nat → Nat → Value) (ct : Nat → Nat → List En) (ms : List (Nat × Nat)) (cap now last : Nat) (x : En) (k j : Nat) (w' : World) : Prop :=
  ∃ lev' v', Raw w' g X bm lev' (upd rv k j v') (upd ct k j (ct k j ++ [x])) ms cap now last ∧ Keep X w w'
set_option maxHeartbeats 2000000 in
set_option maxRecDepth 100000 in
theorem put_walk {x : En} {k j : Nat} (hin : In k j) (hx : Lone w x) (hne : ∀ k j, In k j → ∀ y ∈ ct k j, y.b ≠ x.b) (hxx : ¬ X x.b) (hsm : (ct k j).length ≤ 1099511627776)
    (hrow : Calls Try.prog 29 #[ptr g, .int .i64 (x.due : Int)] w fun e w' => ∃ lb lev', e = .returned (.pointer (some ⟨lb, j, none⟩)) ∧ lev' k = some lb ∧ Raw w' g (fun i => X i ∨ i = x.b) bm lev' rv ct ms cap now last ∧ Keep (fun i => X i ∨ i = x.b) w w') :
    Calls Try.prog 24 #[ptr g, ptr x.b] w fun E w' => E = .returned (.tuple #[]) ∧ PutAt w g X bm rv ct ms cap now last x k j w' := by
  obtain ⟨i0, hi0, hz0, hz1, hz2⟩ := info_parts infoT
  have HR := Lib.hid hrow
  have m2 : w.cell? ⟨x.b, 2, none⟩ = some (.int .i64 (x.due : Int)) := by obtain ⟨p, hb⟩ := hx; exact hb.cell 2
  have HX := Lib.hid hx
  have HN := Lib.hid hne
  unfold ptr at HR ⊢
  clear hrow hx hne
  obtain ⟨n, hn⟩ : ∃ n, n = (ct k j).length := ⟨_, rfl⟩
  have hn1 : n ≤ 1099511627776 := by omega
  have HL := Lib.hid hn
  clear hn hsm
  go_enter Try.func24, Try.ntmps24
  go_wp2_with (first
    | (go_at_call 29; refine HR.out.mono ?_; rintro e w1 ⟨lb, lev1, rfl, hlb, hR1, hK1⟩
       have hR2 := hR1.less (Y := X) (fun i hi => Or.inl hi)
       have hx1 := HX.out.keep hK1 (Or.inr rfl)
       obtain ⟨m3, f3⟩ := hR2.levcell hin hlb
       obtain ⟨A, c, hv, hc⟩ := own_form (hR2.row k j hin)
       have hown1 := hR2.row k j hin
       have hpush := fun (w3 : World) (o : Obj) (v' : Value) => hR2.pushed hin hlb hx1 HN.out hxx (w3 := w3) (o := o) (v' := v')
       obtain ⟨p, hxb⟩ := hx1
       have q3 := hxb.cell 3
       have g3 := hxb.frozen 3
       simp only [List.getElem?_toArray, List.getElem?_cons_succ, List.getElem?_cons_zero] at q3
       have hxl := hxb.lt
       obtain ⟨lc, hlbox⟩ := hR2.lbox hin.1 hlb
       have hne1 : lb ≠ x.b := Ne.symm (cells_ne hxb hlbox (by decide))
       have hll := hlbox.lt
       have hkl : ∀ o w3, ((w1.setCell ⟨x.b, 3, none⟩ (.int .i64 (n : Int))).alloc o).grownBy w3 (Value.slice A n c).ownBlock → w3.cell? ⟨lb, j, none⟩ = some (.slice A n c) ∧ w3.frozen? ⟨lb, j, none⟩ = false := fun o w3 hg3 => by
         have hrl : (rv k j).ownBlock ≠ some lb := fun e => by
           obtain ⟨cs, hc⟩ := hR2.rbox hin e
           exact cells_ne hc hlbox (by decide) rfl
         rw [hv, ← HL.out] at hrl m3
         have hB := ((hlbox.far (p := ⟨x.b, 3, none⟩) hne1 (.int .i64 (n : Int))).alloc o).grown hg3 (fun e => hrl e.symm)
         exact ⟨(hB.cell j).trans ((hlbox.cell j).symm.trans m3), hB.frozen j⟩
       rw [hv, ← HL.out] at m3 hown1 hpush
       have hown2 := hown1.kept (setCell_only w1 x.b 3 (.int .i64 (n : Int))) (.inr (fun e => by
         have e1 : (rv k j).ownBlock = some x.b := by rw [hv, ← HL.out]; exact e
         obtain ⟨cs, hc⟩ := hR2.rbox hin e1
         exact cells_ne hxb hc (by decide) rfl))
       have HP := Lib.hid hpush
       have HO := Lib.hid hown2
       have HK := Lib.hid hkl
       have HV := Lib.hid hv
       have HK1 := Lib.hid (hK1.mono (Y := X) (fun i hi => Or.inl hi))
       clear hlb hR1 hK1 hR2 hv hown1 hpush hxb hlbox hkl hown2)
    | (at_builtin; refine wpList_append_own_at _ rfl (.tmp 22) (.tmp 24) 66 rfl 0 59 i0 (.pointer none) 1 8 Try.underlying66 hi0 hz0 hz1 hz2 rfl (by decide) (.slice A n c) n ((ct k j).map En.val) rfl (HO.out.alloc _) ⟨w1.heap.size, 0, none⟩ 1 1 [.pointer (some ⟨x.b, 0, none⟩)] rfl rfl (cell_one_to (by simp [World.setCell]) _ _) (by simp [Value.oneCell']) (by unfold maxLen; omega) (by omega) (Nat.zero_le _) ?_
       intro v1 w3 hown3 hg3 _ hat3
       obtain ⟨k1, k2⟩ := HK.out _ _ hg3
       have HF := Lib.hid (HP.out _ _ _ hg3 hown3 (by simpa [World.setCell] using hat3))
       obtain ⟨A3, c3, rfl, hc3⟩ := own_form hown3
       clear hown3 hg3 hat3))
  go_end0
  exact ⟨rfl, _, _, HF.out.1, HK1.out.trans HF.out.2⟩
theorem put_any (h : Raw w g X bm lev rv ct ms cap now last) (hn : now ≤ 1099511627776) {x : En} (hx : Lone w x) (hd : x.due ≤ 1099511627776) (hne : ∀ k j, In k j → ∀ y ∈ ct k j, y.b ≠ x.b) (hxx : ¬ X x.b) (hsm : ∀ k j, In k j → (ct k j).length ≤ 1099511627776) :
    Calls Try.prog 24 #[ptr g, ptr x.b] w fun E w' => E = .returned (.tuple #[]) ∧ PutAt w g X bm rv ct ms cap now last x (lvl now x.due) (dig (lvl now x.due) x.due) w' := by
  have hX' : Raw w g (fun i => X i ∨ i = x.b) bm lev rv ct ms cap now last := h.other fun i hi => by
    rcases hi with hi | rfl
    · exact ⟨h.xlt i hi, fun ho => h.xown ho hi⟩
    · exact ⟨hx.lt, h.lone hx hne⟩
  have hin : In (lvl now x.due) (dig (lvl now x.due) x.due) := ⟨lvl_lt _ _, dig_lt _ _⟩
  exact put_walk hin hx hne hxx (hsm _ _ hin) (row_any hX' hn hd)
end
end Go.Proofs.Ytobodianbjfgfaa.Wh
