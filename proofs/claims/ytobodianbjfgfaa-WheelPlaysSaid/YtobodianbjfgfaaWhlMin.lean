/-
  What slices.MinFunc answers of a slot's row: a timer of it that none of it is due ahead of.
  Conditions: the row is a wheel's, and not empty.
-/
import Derived.Test.YtobodianbjfgfaaWhlMem
import Derived.Test.YtobodianbjfgfaaWhlF
namespace Go.Proofs.Ytobodianbjfgfaa.Wh
open Go.RowKit Go.Maps
open Go.Sort (SWO Holds putRow PermIn SortedIn grow size_grow cell?_grow cell?_putRow_other putRow_self holds_ahead)

theorem pick_least {α : Type} [Inhabited α] (f : α → Int) (d : Array α) : ∀ n, n < d.size → (∃ i, i ≤ n ∧ Lib.pickBy (fun x m => decide (cmpI (f x) (f m) < 0)) d n = d[i]!) ∧ ∀ i, i ≤ n → f (Lib.pickBy (fun x m => decide (cmpI (f x) (f m) < 0)) d n) ≤ f d[i]! := by
  have hc : ∀ x y : Int, cmpI x y < 0 ↔ x < y := by
    intro x y
    unfold cmpI
    repeat' split
    all_goals omega
  intro n
  induction n with
  | zero => intro _; exact ⟨⟨0, Nat.le_refl _, rfl⟩, fun i hi => by obtain rfl : i = 0 := by omega
                                                                    exact Int.le_refl _⟩
  | succ n ih =>
    intro hn
    obtain ⟨⟨i, hi, e⟩, hm⟩ := ih (by omega)
    simp only [Lib.pickBy]
    by_cases hb : cmpI (f d[n + 1]!) (f (Lib.pickBy (fun x m => decide (cmpI (f x) (f m) < 0)) d n)) < 0
    · rw [if_pos (by simpa using hb)]
      rw [hc] at hb
      refine ⟨⟨n + 1, Nat.le_refl _, rfl⟩, fun q hq => ?_⟩
      rcases Nat.eq_or_lt_of_le hq with rfl | h1
      · exact Int.le_refl _
      · have := hm q (by omega)
        omega
    · rw [if_neg (by simpa using hb)]
      rw [hc] at hb
      refine ⟨⟨i, by omega, e⟩, fun q hq => ?_⟩
      rcases Nat.eq_or_lt_of_le hq with rfl | h1
      · omega
      · exact hm q (by omega)
theorem sw_below {α : Type} [Inhabited α] {enc : α → Value} {w w' : World} {blk : Nat} {d : Array α} (hH : Holds enc w blk 0 d) (h : SW enc w blk 0 d w') : Below w.heap.size w w' := by
  obtain ⟨n, os, rfl⟩ := h
  have e : sortWorld enc w blk 0 n d os = grow (Go.Sort.ahead w n) os := by
    unfold sortWorld
    rw [putRow_self enc (Go.Sort.ahead w n) blk 0 d (holds_ahead enc w n blk 0 d hH)]
  rw [e]
  exact ⟨rfl, rfl, rfl, by rw [size_grow]; exact Nat.le_add_right _ _, fun i hi => by
    show (w.heap ++ os)[i]? = w.heap[i]?
    exact Array.getElem?_append_left hi⟩
section
variable {w : World} {g bm : Nat} {X : Nat → Prop} {lev : Nat → Option Nat} {rv : Nat → Nat → Value} {ct : Nat → Nat → List En} {ms : List (Nat × Nat)} {cap now last : Nat}
set_option maxHeartbeats 1000000 in
theorem min_any (h : Raw w g X bm lev rv ct ms cap now last) {k j : Nat} (hk : In k j) (hn : 0 < (ct k j).length) (hs : (ct k j).length ≤ 1099511627776) :
    Calls Try.prog 31 #[rv k j, .func (.func 32) #[] #[]] w fun e w' => ∃ y, y ∈ ct k j ∧ (∀ x ∈ ct k j, y.due ≤ x.due) ∧ e = .returned (ptr y.b) ∧ Below w.heap.size w w' := by
  have hrow := h.row k j hk
  rcases hrow.2 with ⟨_, h2⟩ | ⟨r, c, cur, hv, _, hg, hc, hm, hsz, ht⟩
  · omega
  · have hens := fun x hx => h.ek hk (x := x) hx
    have hrb := h.rbox hk (i := r) (by rw [hv]; rfl)
    rw [hv] at hrow ⊢
    generalize ct k j = d at *
    clear h
    haveI : Inhabited {x : En // x ∈ d} := ⟨⟨nth d 0, nth_mem hn⟩⟩
    obtain ⟨da, hda⟩ : ∃ da : Array {x : En // x ∈ d}, da = d.attach.toArray := ⟨_, rfl⟩
    have hdz : da.size = d.length := by rw [hda]; simp
    have hget : ∀ q, q < d.length → da[q]!.1 = nth d q := fun q hq => by
      rw [getElem!_pos da q (by omega)]
      subst hda
      simp [nth_get hq]
    have eg : ∀ args w, (callFunc 32 args).run Try.prog w = .ok (.enter 32 args) w := enters_of Try.func32 (by kernel_rfl) rfl
    have hcell : ∀ (x : {x : En // x ∈ d}) (m : Nat) (os : Array Obj) (dk : Array {x : En // x ∈ d}), (sortWorld (fun x : {x : En // x ∈ d} => ptr x.1.b) w r 0 m dk os).cell? ⟨x.1.b, 2, none⟩ = some (.int .i64 (x.1.due : Int)) := fun x m os dk => by
      obtain ⟨i, hi, hix, hb⟩ := hens x.1 x.2
      obtain ⟨cs, hrb⟩ := hrb
      have hne : x.1.b ≠ r := cells_ne hb hrb (by decide)
      have hlt : x.1.b < (putRow (fun x : {x : En // x ∈ d} => ptr x.1.b) (Go.Sort.ahead w m) r 0 dk).heap.size := by simpa [putRow, Go.Sort.mapBlock, Go.Sort.ahead] using hb.lt
      have e : (sortWorld (fun x : {x : En // x ∈ d} => ptr x.1.b) w r 0 m dk os).heap[x.1.b]? = w.heap[x.1.b]? := by
        show ((putRow (fun x : {x : En // x ∈ d} => ptr x.1.b) (Go.Sort.ahead w m) r 0 dk).heap ++ os)[x.1.b]? = _
        rw [Array.getElem?_append_left hlt]
        show (w.heap.modify r _)[x.1.b]? = _
        rw [Array.getElem?_modify, if_neg (fun e => hne e.symm)]
      have hB : Box (sortWorld (fun x : {x : En // x ∈ d} => ptr x.1.b) w r 0 m dk os) x.1.b _ _ := e.trans hb
      exact hB.cell 2
    have hcmp : CmpLays1 Try.prog 32 #[] (fun x : {x : En // x ∈ d} => ptr x.1.b) (fun x y => cmpI (x.1.due : Int) (y.1.due : Int)) r 0 da.size w := fun m os dk _ x y =>
      sooner_any x.1 y.1 _ (hcell x m os dk) (hcell y m os dk)
    have hH : Holds (fun x : {x : En // x ∈ d} => ptr x.1.b) w r 0 da := fun q hq => by
      rw [Nat.zero_add]
      refine ⟨?_, hrow.frozenAt q⟩
      rw [hrow.cellAt q (by omega)]
      show _ = some (ptr (da[q]!).1.b)
      rw [hget q (by omega)]
      simp [nth_some (show q < d.length by omega), En.val]
    have hblk : r < w.heap.size := (hrow.lt r rfl).2
    have hp := Any.slices_MinFunc_p Try.minF (fun x : {x : En // x ∈ d} => ptr x.1.b) (fun _ => rfl) (fun x y => cmpI (x.1.due : Int) (y.1.due : Int)) 32 #[] r 0 c da w eg hcmp hH hblk (by omega) (by omega)
    rw [hdz] at hp
    refine hp.mono fun e w' ⟨he, hw⟩ => ?_
    obtain ⟨_, hmin⟩ := pick_least (fun x : {x : En // x ∈ d} => (x.1.due : Int)) da (d.length - 1) (by omega)
    generalize Lib.pickBy (fun x m => decide (cmpI ((x : {x : En // x ∈ d}).1.due : Int) ((m : {x : En // x ∈ d}).1.due : Int) < 0)) da (d.length - 1) = y at he hmin
    refine ⟨y.1, y.2, fun x hx => ?_, he, sw_below hH hw⟩
    obtain ⟨q, hq, rfl⟩ := mem_nth hx
    have := hmin q (by omega)
    rw [hget q hq] at this
    omega
end
end Go.Proofs.Ytobodianbjfgfaa.Wh
