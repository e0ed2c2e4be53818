/-
  What the program's Open answers: the bytes that are sealed, or that there are none.
  Conditions: the bytes lie in memory that was there; they are at most 2^40.
-/
import Derived.Test.YtdceabbpniideaaSumSealed
import Derived.StillTailTactics
import Derived.Deep.Draws
import Derived.Deep.QuietTactic
import Derived.BigQuiet
namespace Go.Proofs.Ytdceabbpniideaa
open Go.RowKit

theorem sizeOf5 : ∀ w, (Go.sizeOf 5).run Try.prog w = .ok 1 w := fun w => by
  obtain ⟨i0, hi0, _, hz1, _⟩ := info_parts info5
  simp [Go.sizeOf, typeInfo, hi0, hz1]

set_option maxHeartbeats 1000000 in
set_option maxRecDepth 100000 in
theorem open_short (A : Option Addr) (n c : Nat) (w : World) (hn : n < 4) :
    Calls Try.prog 9 #[.slice A n c] w fun e w' => e = .returned (.tuple #[.slice none 0 0, .bool false]) ∧ Below w.heap.size w w' := by
  have hd : decide ((n : Int) - 4 < 0) = true := by simp; omega
  go_enter Try.func9, Try.ntmps9
  go_wp2
  go_quiet (fail)
  go_wp2
  go_ret2
  exact ⟨rfl, ⟨rfl, rfl, rfl, Nat.le_refl _, fun _ _ => rfl⟩⟩

theorem own_base {w : World} {base base' : Nat} {e : TypeId} {v : Value} {n : Nat} {xs : List Value} (h : w.ownsRow base e 1 v n xs) (hb : base' ≤ base) : w.ownsRow base' e 1 v n xs := by
  refine ⟨h.1, ?_⟩
  rcases h.2 with h1 | ⟨g, cap, cur, hv, hg, r⟩
  · exact .inl h1
  · exact .inr ⟨g, cap, cur, hv, by omega, r⟩
theorem Byt.drew {w : World} {B : Nat} {A : Option Addr} {l : List UInt8} (h : Byt w B A l) : Byt w.drew B A l := h

set_option maxHeartbeats 1000000 in
set_option maxRecDepth 100000 in
theorem open_long (A : Option Addr) (c : Nat) (p q : List UInt8) (w : World) (hc : p.length + 4 ≤ c) (hn : p.length ≤ 1000000000000) (h1 : Byt w w.heap.size A p) (h2 : Byt w w.heap.size (if c = p.length then A else A.map (·.add p.length)) q) (hq : q.length = 4) :
    Calls Try.prog 9 #[.slice A (p.length + 4) c] w fun e w' => ∃ v, e = .returned (.tuple #[v, .bool (fitB p (val4 q))]) ∧ w'.ownsRow w.heap.size 5 1 v (if fitB p (val4 q) then p.length else 0) (if fitB p (val4 q) then cellsB p else []) ∧ Below w.heap.size w w' := by
  have hd : decide ((p.length : Int) < 0) = false := by simp
  have c1 := fun w => run_cut_to (P := Try.prog) w 22 5 Try.underlying22 sizeOf5 A (p.length + 4) c (p.length : Int) (by omega) (by omega)
  have c2 := fun w => run_cut_from (P := Try.prog) w 22 5 Try.underlying22 sizeOf5 A (p.length + 4) c (p.length : Int) (by omega) (by omega)
  simp only [Int.toNat_natCast, Nat.add_sub_cancel_left] at c1 c2
  generalize (if c = p.length then A else A.map (·.add p.length)) = A2 at h2 c2
  have hs := sumAt_any A2 q (c - p.length) w.drew h2.drew (by omega)
  rw [hq] at hs
  have HS := Lib.hid (hs.mono fun e w' ⟨h3, h4⟩ => (⟨h3, h4.symm⟩ : e = Ending.returned (.int .u32 ((val4 q : Nat) : Int)) ∧ w' = w.drew))
  clear hs hq
  have HF := Lib.hid (fits_any A p c (val4 q) w.drew h1.drew (by omega))
  cases hf : fitB p (val4 q) with
  | false =>
    rw [hf] at HF
    clear hf
    go_enter Try.func9, Try.ntmps9
    go_wp2
    refine wp_region_still_tail 10 (by kernel_rfl) (by kernel_rfl) ?_
    simp only [List.take_succ_cons, List.take_zero, List.drop_succ_cons, List.drop_zero]
    change wpStill _ _ w.drew _ _ _
    iterate 9 still_step
    still_call HS.out
    refine wpStill_nil ?_
    go_wp2_with (go_at_call 14; refine HF.out.mono ?_; rintro e W2 ⟨rfl, b2⟩)
    go_ret2
    exact ⟨_, rfl, World.ownsRow_nil _ _ _ _, ⟨b2.os, b2.tape, b2.output, b2.size, b2.block⟩⟩
  | true =>
    rw [hf] at HF
    clear hf
    go_enter Try.func9, Try.ntmps9
    go_wp2
    refine wp_region_still_tail 10 (by kernel_rfl) (by kernel_rfl) ?_
    simp only [List.take_succ_cons, List.take_zero, List.drop_succ_cons, List.drop_zero]
    change wpStill _ _ w.drew _ _ _
    iterate 9 still_step
    still_call HS.out
    refine wpStill_nil ?_
    go_wp2_with (first
      | (go_at_call 14; refine HF.out.mono ?_; rintro e W2 ⟨rfl, b2⟩; have b3 : Below w.heap.size w W2 := ⟨b2.os, b2.tape, b2.output, b2.size, b2.block⟩)
      | (go_at_call 17; refine (clone_any A p c W2 ((h1.below b3).more b3.size) (by omega)).mono ?_; rintro e W4 ⟨v, rfl, hown, b4⟩))
    go_ret2
    refine ⟨_, rfl, ?_, b3.trans (b4.mono b3.size)⟩
    exact own_base hown b3.size

/-- what is opened of bytes -/
def openL (l : List UInt8) : List UInt8 := if sealB l then l.take (l.length - 4) else []
theorem openL_no {l : List UInt8} (h : sealB l = false) : openL l = [] := by simp [openL, h]
theorem openL_yes {l : List UInt8} (h : sealB l = true) : openL l = l.take (l.length - 4) := by simp [openL, h]

theorem open_any (A : Option Addr) (l : List UInt8) (c : Nat) (w : World) (hb : Byt w w.heap.size A l) (hc : l.length ≤ c) (hl : l.length ≤ 1000000000000) :
    Calls Try.prog 9 #[.slice A l.length c] w fun e w' => ∃ v, e = .returned (.tuple #[v, .bool (sealB l)]) ∧ w'.ownsRow w.heap.size 5 1 v (openL l).length (cellsB (openL l)) ∧ Below w.heap.size w w' := by
  by_cases h4 : l.length < 4
  · have hs : sealB l = false := by simp [sealB]; omega
    refine (open_short A l.length c w h4).mono fun e w' ⟨he, h⟩ => ⟨_, by rw [hs]; exact he, ?_, h⟩
    rw [openL_no hs]
    exact World.ownsRow_nil _ _ _ _
  · have hp : (l.take (l.length - 4)).length = l.length - 4 := by rw [List.length_take]; omega
    have hq : (l.drop (l.length - 4)).length = 4 := by rw [List.length_drop]; omega
    have hf : fitB (l.take (l.length - 4)) (val4 (l.drop (l.length - 4))) = sealB l := by
      unfold fitB sealB
      rw [show decide (4 ≤ l.length) = true by simp; omega, Bool.true_and]
    have h := open_long A c (l.take (l.length - 4)) (l.drop (l.length - 4)) w (by omega) (by omega) (hb.take _) (by rw [hp]; exact hb.drop hc) hq
    rw [hf, hp, show l.length - 4 + 4 = l.length by omega] at h
    refine h.mono fun e w' ⟨v, he, ho, hB⟩ => ⟨v, he, ?_, hB⟩
    cases hs : sealB l with
    | true =>
      rw [hs] at ho
      rw [openL_yes hs, hp]
      exact ho
    | false =>
      rw [hs] at ho
      rw [openL_no hs]
      exact ho
end Go.Proofs.Ytdceabbpniideaa
