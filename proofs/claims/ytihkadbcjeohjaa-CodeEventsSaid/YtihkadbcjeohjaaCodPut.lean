/-
  What the writer of parts does: numbers, a plan, a step, a definition, a reply, one behind the other.
  Conditions: the writer is one whose bytes lie in memory of its own; they are at most 2^39.
-/
import Derived.Test.YtihkadbcjeohjaaCodWr
import Derived.Test.YtihkadbcjeohjaaCodMath
import Derived.Test.YtihkadbcjeohjaaDefEnd
import Derived.StillTailTactics
namespace Go.Proofs.Ytihkadbcjeohjaa
open Go.RowKit
section
variable {w u v : World} {base g : Nat} {L M N : List UInt8}
theorem Wr.lt (h : Wr w base g L) : g < w.heap.size := by
  obtain ⟨v, t, _, hb, _⟩ := h.box
  exact hb.lt
theorem Wr.alloc (h : Wr w base g L) (o : Obj) : Wr (w.alloc o) base g L := by
  obtain ⟨v, t, ht, hb, ho⟩ := h.box
  exact ⟨h.le, v, t, ht, hb.alloc o, ho.alloc o⟩
theorem Wr.drew (h : Wr w base g L) : Wr w.drew base g L := by
  obtain ⟨v, t, ht, hb, ho⟩ := h.box
  exact ⟨h.le, v, t, ht, hb, ho⟩
theorem WrAt.refl (h : Wr w base g L) : WrAt w w base g L := ⟨h, Below.refl _ _, Kept.refl _ _⟩
theorem WrAt.trans (h : WrAt w u base g M) (k : WrAt u v base g N) : WrAt w v base g N := ⟨k.wr, h.bel.trans k.bel, h.kept.trans k.kept⟩
theorem WrAt.alloc (h : WrAt w u base g M) (o : Obj) : WrAt w (u.alloc o) base g M := ⟨Wr.alloc h.wr o, h.bel.alloc (by have := Wr.lt h.wr; have := h.wr.le; omega) o, h.kept.trans (Kept.alloc g u o)⟩
theorem WrAt.drew (h : WrAt w u base g M) : WrAt w u.drew base g M := ⟨Wr.drew h.wr, Below.drew h.bel, fun i t cs h1 h2 h3 => h.kept i t cs h1 h2 h3⟩
theorem WrAt.size (h : WrAt w u base g M) : w.heap.size ≤ u.heap.size := h.bel.size
theorem WrAt.as (h : WrAt w u base g M) (e : M = N) : WrAt w u base g N := e ▸ h
end
end Go.Proofs.Ytihkadbcjeohjaa
namespace Go.Proofs.Ytihkadbcjeohjaa.Co
open Go.RowKit
open Go.Proofs.Ytihkadbcjeohjaa.El
open Go.Proofs.Ytihkadbcjeohjaa.Df
open Go.Proofs.Ytihkadbcjeohjaa.Bo (P Made ret_int ret_bool)
open Go.Proofs.Ytihkadbcjeohjaa.Sa (Sg Rp)

theorem numsF_len (ns : List Int) : (numsF ns).length = 8 * ns.length := by
  induction ns with
  | nil => rfl
  | cons n ns ih =>
    show (nF n ++ numsF ns).length = _
    rw [List.length_append, ih, nF_len, List.length_cons]
    omega
theorem numsF_snoc (ns : List Int) {k : Nat} {n : Int} (h : ns[k]? = some n) : numsF (ns.take (k + 1)) = numsF (ns.take k) ++ nF n := by
  rw [List.take_add_one, h]
  simp [numsF]
theorem numsF_1 (a : Int) : numsF [a] = nF a := by simp [numsF]
theorem numsF_2 (a b : Int) : numsF [a, b] = nF a ++ nF b := by simp [numsF]
theorem numsF_4 (a b c d : Int) : numsF [a, b, c, d] = nF a ++ (nF b ++ (nF c ++ nF d)) := by simp [numsF]
theorem stepsF_take (ss : List Stp) {k : Nat} {x : Stp} (h : ss[k]? = some x) : stepsF (ss.take (k + 1)) = stepsF (ss.take k) ++ stepF x := by
  rw [List.take_add_one, h]
  simp [stepsF]
theorem box_at2 (w : World) (o : Obj) (t : TypeId) (cs : Array Value) : Box ((w.alloc o).alloc (.cells cs t)) (w.heap.size + 1) t cs := by
  have := Box.new (w.alloc o) t cs
  simpa using this

set_option maxHeartbeats 1000000 in
set_option maxRecDepth 100000 in
theorem nums_any (g base b n : Nat) (ns : List Int) (cs : Array Value) (L : List UInt8) (w : World) (hn : n = ns.length) (hc : cs = (ns.map fun x => Value.int .i64 x).toArray) (hW : Wr w base g L) (hL : L.length + 8 * n ≤ 1099511627776)
    (hb : Box w b 3 cs) (hbg : b ≠ g) :
    Calls Try.prog 39 #[.pointer (some ⟨g, 0, none⟩), .slice (some ⟨b, 0, none⟩) n n] w fun e w' => e = .returned (.tuple #[]) ∧ WrAt w w' base g (L ++ numsF ns) := by
  have HN := Lib.hid hn
  have HC := Lib.hid hc
  have HB := Lib.hid hb
  have hn4 : n ≤ 1099511627776 := by omega
  have HR0 : Hid (WrAt w w base g (L ++ numsF (ns.take 0))) := Lib.hid (by rw [List.take_zero, show numsF [] = [] from rfl, List.append_nil]; exact WrAt.refl hW)
  clear hn hc hb hW
  go_enter Try.func39, Try.ntmps39
  go_wp2
  go_loopw [8] (fun vi wr => ∃ k : Nat, vi = .int .i64 (k : Int) ∧ k ≤ n ∧ Hid (WrAt w wr base g (L ++ numsF (ns.take k)))) (fun vi _ => n - (intOf vi).toNat)
  case atStart => exact ⟨0, rfl, Nat.zero_le _, HR0⟩
  case round =>
    obtain ⟨k, rfl, hk, HR⟩ := hrel
    by_cases hkn : k < n
    · obtain ⟨x, hx⟩ : ∃ x, ns[k]? = some x := ⟨_, List.getElem?_eq_getElem (by have := HN.out; omega)⟩
      have c0 : wr.cell? ⟨b, k, none⟩ = some (.int .i64 x) := by
        have h1 := (HR.out.kept b 3 cs hbg (by decide) HB.out).cell k
        rw [HC.out] at h1
        rw [h1]
        simp [hx]
      have HS := Lib.hid (numsF_snoc ns hx)
      have hlen : (L ++ numsF (ns.take k)).length ≤ 1099511627776 := by rw [List.length_append, numsF_len, List.length_take]; omega
      clear hx
      go_wp2_with (go_at_call 72; refine (wnum_any g base x _ wr HR.out.wr hlen).mono ?_; rintro e w2 ⟨rfl, hR2⟩; have HR2 := Lib.hid (HR.out.trans hR2); clear hR2)
      go_roundw
      case rel => exact ⟨k + 1, by go_num, by omega, Lib.hid (HR2.out.as (by rw [HS.out, List.append_assoc]; rfl))⟩
      case measure => simp only [intOf]; omega
    · have hk2 : k = n := by omega
      go_wp2
      go_end0
      exact ⟨rfl, HR.out.as (by rw [hk2, HN.out, List.take_length])⟩

set_option maxHeartbeats 1000000 in
set_option maxRecDepth 100000 in
theorem wplan_any (g base : Nat) (p : P) (L : List UInt8) (w : World) (hW : Wr w base g L) (hL : L.length ≤ 1000000000000) :
    Calls Try.prog 82 #[.pointer (some ⟨g, 0, none⟩), .agg #[.int .i64 p.r, .int .i64 p.b, .int .i64 p.f, .int .i64 p.c]] w fun e w' => e = .returned (.tuple #[]) ∧ WrAt w w' base g (L ++ planF p) := by
  have hlt := Wr.lt hW
  have HR := Lib.hid (WrAt.refl hW)
  clear hW
  go_enter Try.func82, Try.ntmps82
  go_wp2_with (go_at_call 39; refine (nums_any g base (w.heap.size + 1) 4 [p.r, p.b, p.f, p.c] _ L _ rfl rfl ((HR.out.alloc _).alloc _).wr (by omega) (box_at2 _ _ _ _) (by omega)).mono ?_; rintro e w1 ⟨rfl, hR1⟩)
  go_end0
  exact ⟨rfl, (((HR.out.alloc _).alloc _).trans hR1).as (by rw [numsF_4]; rfl)⟩
end Go.Proofs.Ytihkadbcjeohjaa.Co
