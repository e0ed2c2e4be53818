/-
  The document's own answer of Open.
  Conditions: the bytes lie in memory that was there; they are at most 1000.
-/
import Derived.Test.YtdceabbpniideaaSumOpen
import Derived.Test.YtdceabbpniideaaSumRef
import Derived.Deep.RegionHeld3
namespace Go.Proofs.Ytdceabbpniideaa
open Go.RowKit

theorem step_append_byt {P : Program} (w : World) {ops : Array Oper} {o : Oper} {a : Act} {K : Act → World → Prop} {Q : Exit → Act → World → Prop} {E : Prop} (hgd : o.guard = none) (s x : Operand) (t : TypeId)
    (ho : o.op = .call { callee := .builtin .append, args := #[s, x], argTypes := #[t, t] })
    (base : Nat) (e : TypeId) (i : TypeInfo) (z : Value) (ht : P.underlying t = some (.slice e)) (hi : P.info? e = some i) (hz : i.zero = some z) (hsize : i.size = 1) (hby : i.bytes = 1) (hzs : z.cells.size = 1)
    (v : Value) (n : Nat) (xs : List Value) (hs : a.eval s = v) (hown : w.ownsRow base e 1 v n xs) (B : Nat) (A : Option Addr) (m c : Nat) (l : List UInt8) (hx : a.eval x = .slice A m c) (hm : m = l.length) (hr : Byt w B A l)
    (hb : n + l.length ≤ 140737488355328) (hbase : base ≤ w.heap.size)
    (h : ∀ v' w', w'.ownsRow base e 1 v' (n + l.length) (xs ++ cellsB l) → w.grownBy w' v.ownBlock → (v'.ownBlock = v.ownBlock ∨ v'.ownBlock = some w.heap.size) → K (a.put o.dst v') w') :
    if Region.wanted o (yielded ops a.tmps) = true then Oper.wp P o a w K Q else E := by
  have hw : Region.wanted o (yielded ops a.tmps) = true := by simp [Region.wanted, hgd]
  rw [if_pos hw]
  exact wp_append_byt w s x t ho base e i z ht hi hz hsize hby hzs v n xs hs hown B A m c l hx hm hr hb hbase h

set_option maxHeartbeats 1000000 in
set_option maxRecDepth 100000 in
theorem refOpen_short (A : Option Addr) (n c : Nat) (w : World) (hn : n < 4) :
    Calls Try.prog 8 #[.slice A n c] w fun e w' => e = .returned (.tuple #[.slice none 0 0, .bool false]) ∧ Below w.heap.size w w' := by
  go_enter Try.func8, Try.ntmps8
  go_wp2
  go_ret2
  exact ⟨rfl, Below.refl _ _⟩

set_option maxHeartbeats 2000000 in
set_option maxRecDepth 100000 in
theorem refOpen_long (A : Option Addr) (c : Nat) (l p : List UInt8) (w : World) (hc : p.length + 4 ≤ c) (hn : p.length ≤ 1000) (h1 : Byt w w.heap.size A p) (h2 : Byt w w.heap.size A l) (hl : l.length = p.length + 4) :
    Calls Try.prog 8 #[.slice A (p.length + 4) c] w fun e w' => ∃ v, e = .returned (.tuple #[v, .bool (sealL p == l)]) ∧ w'.ownsRow w.heap.size 5 1 v p.length (cellsB p) ∧ Below w.heap.size w w' := by
  obtain ⟨i0, hi0, hz0, hz1, hz2⟩ := info_parts info5
  have c1 := fun w => run_cut_to (P := Try.prog) w 22 5 Try.underlying22 sizeOf5 A (p.length + 4) c (p.length : Int) (by omega) (by omega)
  simp only [Int.toNat_natCast] at c1
  have T2 : Hid (∀ w', Below w.heap.size w w' → (convert 22 9 (.slice A (p.length + 4) c)).run Try.prog w' = .ok (.string ⟨l.toArray⟩) w') := fun w' h => by
    rw [← hl]; exact (h2.below h).text _ _ _ Try.underlying22 Try.underlying5 Try.underlying9 _
  clear hl h2
  go_enter Try.func8, Try.ntmps8
  go_wp2_with fail
  refine (refSeal_any A p c w h1 (by omega)).mono ?_
  rintro e W1 ⟨v, rfl, hown, b1⟩
  obtain ⟨A1, c11, rfl, hc11⟩ := own_form hown
  have hb1 := Byt.own hown
  clear hown
  have t1 : ∀ w', Below W1.heap.size W1 w' → (convert 22 9 (.slice A1 (p.length + 4) c11)).run Try.prog w' = .ok (.string ⟨(sealL p).toArray⟩) w' := fun w' h => by
    rw [← sealL_len]; exact (hb1.below h).text _ _ _ Try.underlying22 Try.underlying5 Try.underlying9 _
  have t2 : ∀ w', Below W1.heap.size W1 w' → (convert 22 9 (.slice A (p.length + 4) c)).run Try.prog w' = .ok (.string ⟨l.toArray⟩) w' := fun w' h => T2.out w' (b1.trans (h.mono b1.size))
  clear T2
  have hp := (h1.below b1).more b1.size
  go_wp2_with fail
  go_region_held3 (fun w' => Below W1.heap.size W1 w') (first | exact Below.refl _ _ | exact Below.drew (Below.refl _ _) | assumption | exact (Below.alloc (by assumption) (Below.size (by assumption)) _))
    (first
      | (refine step_append_byt _ rfl (.tmp 16) (.tmp 17) 22 rfl W1.heap.size 5 i0 _ Try.underlying22 hi0 hz0 hz1 hz2 rfl _ 0 [] rfl (World.ownsRow_lit W1.drew #[] 0 (Nat.le_refl _) (by decide) rfl) W1.heap.size _ _ _ p rfl rfl (by exact hp.below (Below.alloc (Below.drew (Below.refl _ _)) (Nat.le_refl _) _)) (by omega) (by simp) ?_; intro v2 w2 hown2 hg2 hat2; have hS2 : Below W1.heap.size W1 w2 := (Below.alloc (Below.drew (Below.refl _ _)) (Nat.le_refl _) _).grown hg2 (by simp) (fun k hk => ((World.ownsRow_lit (base := W1.heap.size) (e := 5) (size := 1) W1.drew #[] 0 (Nat.le_refl _) (by decide) rfl).lt k hk).1)))
  all_goals
    have HO := Lib.hid hown2
    clear hg2 hat2 hown2
    go_wp2
    go_ret2
    refine ⟨_, rfl, ?_, b1.trans (hS2.mono b1.size)⟩
    have h := own_base HO.out b1.size
    simpa using h

theorem refOpen_any (A : Option Addr) (l : List UInt8) (c : Nat) (w : World) (hb : Byt w w.heap.size A l) (hc : l.length ≤ c) (hl : l.length ≤ 1000) :
    Calls Try.prog 8 #[.slice A l.length c] w fun e w' => ∃ v, e = .returned (.tuple #[v, .bool (sealB l)]) ∧ (sealB l = true → w'.ownsRow w.heap.size 5 1 v (openL l).length (cellsB (openL l))) ∧ Below w.heap.size w w' := by
  by_cases h4 : l.length < 4
  · have hs : sealB l = false := by simp [sealB]; omega
    exact (refOpen_short A l.length c w h4).mono fun e w' ⟨he, h⟩ => ⟨_, by rw [hs]; exact he, fun h => (by rw [hs] at h; cases h), h⟩
  · have hp : (l.take (l.length - 4)).length = l.length - 4 := by rw [List.length_take]; omega
    have h := refOpen_long A c l (l.take (l.length - 4)) w (by omega) (by omega) (hb.take _) hb (by omega)
    rw [sealB_ref (by omega), hp, show l.length - 4 + 4 = l.length by omega] at h
    refine h.mono fun e w' ⟨v, he, ho, hB⟩ => ⟨v, he, fun hs => ?_, hB⟩
    rw [openL_yes hs, hp]
    exact ho
end Go.Proofs.Ytdceabbpniideaa
