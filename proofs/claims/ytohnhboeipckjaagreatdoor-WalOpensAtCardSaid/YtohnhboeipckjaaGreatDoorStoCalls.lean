/-
  What the store's Crash, Fuse, Down and deed answer, what New makes, and what the copies of bytes are.
  Conditions: the store is one; bytes are at most 2^40.
-/
import Derived.Test.YtohnhboeipckjaaGreatDoorStoMem
import Derived.Deep.QuietTactic
import Derived.BigQuiet
import Derived.WalkSpells
import Derived.Carry
import Derived.Lib.SliceRun
namespace Go.Proofs.YtohnhboeipckjaaGreatDoor
open Go.RowKit Go.Maps

theorem ret_int {k : IntKind} {a b : Int} (h : a = b) : Ending.returned (.int k a) = .returned (.int k b) := by rw [h]

def stoV (bm cap fuse : Nat) (down : Bool) : Array Value := #[.map (some bm), .int .i64 (cap : Int), .int .i64 (fuse : Int), .bool down]

theorem down_any (g : Nat) (X : Nat → Prop) (s : St) (w : World) (h : Sto w g X s) :
    Calls Tryz.prog 32 #[.pointer (some ⟨g, 0, none⟩)] w fun e w' => e = .returned (.bool s.down) ∧ w = w' := by
  obtain ⟨bm, rs, hr, _⟩ := h
  have h3 : w.cell? ⟨g, 3, none⟩ = some (.bool s.down) := hr.box.cell 3
  go_enter Tryz.func32, Tryz.ntmps32
  go_wp2
  go_ret
  exact ⟨rfl, rfl⟩

theorem crash_raw (g bm : Nat) (X : Nat → Prop) (rs : List RF) (cap fuse : Nat) (down : Bool) (w : World) (h : Raw w g X bm rs cap fuse down) :
    Calls Tryz.prog 26 #[.pointer (some ⟨g, 0, none⟩)] w fun e w' => e = .returned (.tuple #[]) ∧ Raw w' g X bm rs cap 0 true ∧ w.grownBy w' (some g) := by
  have h2 : w.cell? ⟨g, 2, none⟩ = some (.int .i64 (fuse : Int)) := h.box.cell 2
  have h3 : w.cell? ⟨g, 3, none⟩ = some (.bool down) := h.box.cell 3
  have f2 := h.box.frozen 2
  have f3 := h.box.frozen 3
  go_enter Tryz.func26, Tryz.ntmps26
  go_wp2
  go_end0
  have hg := only_put (only_put (World.grownBy.refl w (some g)) 3 (.bool true)) 2 (.int .i64 0)
  have hb := (h.box.put 3 (.bool true)).put 2 (.int .i64 0)
  exact ⟨rfl, h.turn (f' := 0) (d' := true) (by omega) hg hb, hg⟩


theorem deed_gone (g bm : Nat) (X : Nat → Prop) (rs : List RF) (cap : Nat) (down : Bool) (w : World) (h : Raw w g X bm rs cap 1 down) :
    Calls Tryz.prog 38 #[.pointer (some ⟨g, 0, none⟩)] w fun e w' => e = .returned (.int .i64 12) ∧ Raw w' g X bm rs cap 0 true ∧ w.grownBy w' (some g) := by
  have h2 : w.cell? ⟨g, 2, none⟩ = some (.int .i64 1) := h.box.cell 2
  go_enter Tryz.func38, Tryz.ntmps38
  go_wp2_with (go_at_call 26; (with_reducible refine (crash_raw g bm X rs cap 1 down _ h).mono ?_); rintro e w' ⟨rfl, hR, hg⟩)
  go_ret
  exact ⟨rfl, hR, hg⟩

theorem deed_on (g bm : Nat) (X : Nat → Prop) (rs : List RF) (cap fuse : Nat) (down : Bool) (w : World) (h : Raw w g X bm rs cap fuse down) (hf : fuse ≠ 1) :
    Calls Tryz.prog 38 #[.pointer (some ⟨g, 0, none⟩)] w fun e w' => e = .returned (.int .i64 0) ∧ Raw w' g X bm rs cap (fuse - 1) down ∧ w.grownBy w' (some g) := by
  have h2 : w.cell? ⟨g, 2, none⟩ = some (.int .i64 (fuse : Int)) := h.box.cell 2
  have f2 := h.box.frozen 2
  have hm := h.ok.fuse
  simp only at hm
  have hz : ((fuse : Int) == 1) = false := by simp; omega
  have hg := only_put (World.grownBy.refl w (some g)) 2 (.int .i64 ((fuse - 1 : Nat) : Int))
  have hb := h.box.put 2 (.int .i64 ((fuse - 1 : Nat) : Int))
  have hR := h.turn (f' := fuse - 1) (d' := down) (by omega) hg hb
  by_cases h0 : fuse = 0
  · subst h0
    simp only [Nat.zero_sub] at hg hR ⊢
    clear hb
    go_enter Tryz.func38, Tryz.ntmps38
    go_wp2
    go_ret
    exact ⟨rfl, hR, hg⟩
  · have e0 : ((fuse - 1 : Nat) : Int) = (fuse : Int) - 1 := by omega
    rw [e0] at hg hR
    clear hb e0
    go_enter Tryz.func38, Tryz.ntmps38
    go_wp2
    go_ret
    exact ⟨rfl, hR, hg⟩

theorem new_none (n : Int) (w : World) (h : n < 1 ∨ 16777216 < n) : Calls Tryz.prog 9 #[.int .i64 n] w fun e w' => e = .returned (.pointer none) ∧ w = w' := by
  by_cases h1 : n < 1
  · go_enter Tryz.func9, Tryz.ntmps9
    go_wp2
    go_ret
    exact ⟨rfl, rfl⟩
  · have h2 : 16777216 < n := by omega
    go_enter Tryz.func9, Tryz.ntmps9
    go_wp2
    go_ret
    exact ⟨rfl, rfl⟩

theorem new_any (n : Nat) (w : World) (h1 : 1 ≤ n) (h2 : n ≤ 16777216) :
    Calls Tryz.prog 9 #[.int .i64 (n : Int)] w fun e w' => e = .returned (.pointer (some ⟨w.heap.size + 1, 0, none⟩)) ∧ Sto w' (w.heap.size + 1) (fun i => i < w.heap.size) ⟨[], n, 0, false⟩ ∧ Below w.heap.size w w' := by
  have hmm := @run_makeMap Tryz.prog
  go_enter Tryz.func9, Tryz.ntmps9
  go_wp2
  go_ret
  have hm := World.ownsMap_made w Tryz.prog 9 rawElem
  refine ⟨rfl, ⟨w.heap.size, [], ⟨?_, by omega, by omega, fun i hi => by simp; omega, ⟨[], hm.alloc _, .refl _⟩, by simp, by simp, ?_⟩, rfl⟩, ((Below.refl _ _).alloc (Nat.le_refl _) _).alloc (by simp) _⟩
  · have := Box.new (w.alloc (.map #[] 0)) 59 #[.map (some w.heap.size), .int .i64 (n : Int), .int .i64 0, .bool false]
    simpa using this
  · exact ⟨List.Pairwise.nil, by simp, by simp [usedF], h2, by simp, by simp, by simp⟩

/-! ### Copies of bytes -/
theorem info5 : (Tryz.prog.info? 5).map (fun i => (i.zero, i.size, i.bytes)) = some (some (.int .u8 0), 1, 1) := by kernel_rfl
theorem own_below {w w' : World} {base : Nat} {e : TypeId} {v : Value} {n : Nat} {xs : List Value} (h : w.ownsRow base e 1 v n xs) (hb : Below w.heap.size w w') : w'.ownsRow base e 1 v n xs := by
  refine ⟨h.1, ?_⟩
  rcases h.2 with h1 | ⟨g, cap, cur, hv, hg, hh, r⟩
  · exact .inl h1
  · exact .inr ⟨g, cap, cur, hv, hg, (hb.block g (Array.getElem?_eq_some_iff.1 hh).1).trans hh, r⟩
set_option maxHeartbeats 1000000 in
theorem clone_any (A : Option Addr) (l : List UInt8) (c : Nat) (w : World) (hb : Byt w w.heap.size A l) (hl : l.length ≤ 1099511627776) :
    Calls Tryz.prog 42 #[.slice A l.length c] w fun e w' => ∃ v, e = .returned v ∧ w'.ownsRow w.heap.size 5 1 v l.length (cellsB l) ∧ Below w.heap.size w w' := by
  obtain ⟨i0, hi0, hz0, hz1, hz2⟩ := info_parts info5
  cases A with
  | none =>
    obtain rfl : l = [] := by
      cases l with
      | nil => rfl
      | cons x t => obtain ⟨b, o, h, _⟩ := hb (by simp); cases h
    have hq := Lib.run_eql_slice_nil (P := Tryz.prog) w 31 5 none 0 c 0 0 Tryz.underlying31
    go_enter Tryz.func42, Tryz.ntmps42
    go_wp2
    go_ret
    exact ⟨_, rfl, World.ownsRow_nil _ _ _ _, Below.refl _ _⟩
  | some a =>
    have hq := Lib.run_eql_slice_nil (P := Tryz.prog) w 31 5 (some a) l.length c 0 0 Tryz.underlying31
    go_enter Tryz.func42, Tryz.ntmps42
    go_wp2_with (at_builtin; refine wpList_append_byt _ rfl (.tmp 5) (.tmp 6) _ rfl w.heap.size 5 i0 _ Tryz.underlying31 hi0 hz0 hz1 hz2 rfl _ 0 [] rfl (World.ownsRow_lit w #[] 0 (Nat.le_refl _) (by decide) rfl) w.heap.size _ _ _ l rfl rfl (hb.below ((Below.refl _ _).alloc (Nat.le_refl _) _)) (by omega) (by simp) ?_; intro v1 w1 hown1 hg1 hat1)
    go_ret
    refine ⟨v1, rfl, by simpa using hown1, ((Below.refl _ w).alloc (Nat.le_refl _) _).grown hg1 (by simp) fun k hk => ?_⟩
    exact ((World.ownsRow_lit (base := w.heap.size) (e := 5) (size := 1) w #[] 0 (Nat.le_refl _) (by decide) rfl).lt k hk).1


theorem size_file (v : Value) (n : Nat) (b : Bool) : (Tryz.prog.info? 72).map (·.size) = some (#[v, .int .i64 (n : Int), .bool b] : Array Value).size := by
  show (Tryz.prog.info? 72).map (·.size) = some 3
  kernel_rfl
theorem sure_any (A : Option Addr) (n c : Nat) (w : World) :
    Calls Tryz.prog 61 #[.slice A n c] w fun e w' => e = .returned (.agg #[.slice A n c, .int .i64 (n : Int), .bool true]) ∧ Below w.heap.size w w' := by
  go_enter Tryz.func61, Tryz.ntmps61
  go_wp2
  refine bodyPost_ret (results_cell_row rfl _ _ w.heap.size 72 #[.slice A n c, .int .i64 (n : Int), .bool true] (0, 0) _ rfl ?_ Tryz.underlying72 rfl (size_file _ _ _)) rfl ⟨rfl, ?_⟩
  · exact Box.new w _ _
  · exact (Below.refl _ _).alloc (Nat.le_refl _) _
end Go.Proofs.YtohnhboeipckjaaGreatDoor
