/-
  What own of package state answers: the same state, in rows of its own.
  Conditions: the state lies in memory; its rows are of moderate length.
-/
import Derived.Test.YteejocnogpaifaaGreatDoorStaMem
import Derived.Deep.RegionHeld3
import Derived.LoopTactic
import Derived.WalkMore
import Derived.Lib.SliceRun
import Derived.Lib.Hide
namespace Go.Proofs.YteejocnogpaifaaGreatDoor.Tt
open Go.RowKit
open Go.Proofs.YteejocnogpaifaaGreatDoor.El
open Go.Proofs.YteejocnogpaifaaGreatDoor.Df
open Go.Proofs.YteejocnogpaifaaGreatDoor.Bo (P Made ret_int ret_bool)
open Go.Proofs.YteejocnogpaifaaGreatDoor.Sa (Sg Cm)
open Go.Proofs.YteejocnogpaifaaGreatDoor.Co (Ev Mod)

theorem info_of {o : Option TypeInfo} {z : Option Value} {a b : Nat} (h : o.map (fun i => (i.zero, i.size, i.bytes)) = some (z, a, b)) : ∃ i, o = some i ∧ i.zero = z ∧ i.size = a ∧ i.bytes = b := by
  cases o with
  | none => cases h
  | some i =>
    simp only [Option.map_some, Option.some.injEq, Prod.mk.injEq] at h
    exact ⟨i, rfl, h.1, h.2.1, h.2.2⟩
/-- a definition of nothing, a saga of nothing -/
def zeroD : Value := .agg #[.string ⟨#[]⟩, .int .i64 0, .slice none 0 0]
def zeroS : Value := .agg #[.int .i64 0, .string ⟨#[]⟩, .int .i64 0, .int .i64 0, .int .i64 0, .int .i64 0, .bool false, .int .i64 0, .int .i64 0]
theorem infoD : (Tryz.prog.info? 33).map (fun i => (i.zero, i.size, i.bytes)) = some (some zeroD, 3, 48) := by kernel_rfl
theorem infoS : (Tryz.prog.info? 49).map (fun i => (i.zero, i.size, i.bytes)) = some (some zeroS, 9, 80) := by kernel_rfl
/-- what a copy of a row is -/
def ClonedAs (w : World) (e : TypeId) (k n : Nat) (xs : List Value) (v : Value) (w' : World) : Prop := w'.ownsRow w.heap.size e k v n xs ∧ Below w.heap.size w w'
set_option maxHeartbeats 2000000 in
set_option maxRecDepth 100000 in
theorem cloneD_any (A : Option Addr) (n c : Nat) (dx : List DX) (w : World) (hn : n = dx.length) (hb : n ≤ 1000000000) (hE : Els DX.cells 3 w w.heap.size A dx) (h0 : A = none → n = 0 ∧ c = 0) :
    Calls Tryz.prog 32 #[.slice A n c] w fun e w' => ∃ v, e = .returned v ∧ ClonedAs w 33 3 n (dx.flatMap DX.cells) v w' := by
  have q22 : ∀ (w : World) (a : Option Addr) (n c n' c' : Nat), (binOp .eql 24 (.slice a n c) (.slice none n' c')).run Tryz.prog w = .ok (.bool a.isNone) w := fun w a n c n' c' => Lib.run_eql_slice_nil w _ _ a n c n' c' Tryz.underlying24
  cases A with
  | none =>
    obtain ⟨rfl, rfl⟩ := h0 rfl
    have hs : dx = [] := List.eq_nil_of_length_eq_zero hn.symm
    have HC : Hid (ClonedAs w 33 3 0 (dx.flatMap DX.cells) (.slice none 0 0) w) := Lib.hid (by rw [hs]; exact ⟨World.ownsRow_nil _ _ _ _, Below.refl _ _⟩)
    clear hE hs hn h0
    go_enter Tryz.func32, Tryz.ntmps32
    go_wp2
    go_ret
    exact ⟨_, rfl, HC.out⟩
  | some a =>
    obtain ⟨i0, hi0, hz0, hz1, hz2⟩ := info_of infoD
    have HL : Hid ((dx.flatMap DX.cells).length = n * 3) := Lib.hid (by rw [flat_len dx_len, hn])
    have HC := Lib.hid (els_cells (by decide) dx_len (hE.on ((Below.refl _ w).alloc (Nat.le_refl _) (.cells #[] 33))))
    clear hE hn h0
    go_enter Tryz.func32, Tryz.ntmps32
    go_wp2_with (at_builtin; refine wpList_append_own _ rfl (.tmp 5) (.tmp 6) 24 rfl w.heap.size 33 i0 zeroD 3 48 Tryz.underlying24 hi0 hz0 hz1 hz2 rfl (by decide) _ 0 [] rfl (World.ownsRow_made w #[] 0 (Nat.le_refl _) (Nat.zero_le _) (by simp)) a n c (dx.flatMap DX.cells) rfl HL.out HC.out (flat_one dx_one dx) (by unfold maxLen; omega) (by omega) (by simp) ?_; intro v1 w1 hown1 hgrow1 _; have HO := Lib.hid hown1; have HG := Lib.hid hgrow1; clear hown1 hgrow1)
    go_ret
    refine ⟨v1, rfl, by simpa using HO.out, ((Below.refl _ w).alloc (Nat.le_refl _) _).grown HG.out (by simp) (by intro k hk; have hk' : some w.heap.size = some k := hk; injection hk' with e; omega)⟩
set_option maxHeartbeats 2000000 in
set_option maxRecDepth 100000 in
theorem cloneS_any (A : Option Addr) (n c : Nat) (gs : List Sg) (w : World) (hn : n = gs.length) (hb : n ≤ 1000000000) (hE : Els sgc 9 w w.heap.size A gs) (h0 : A = none → n = 0 ∧ c = 0) :
    Calls Tryz.prog 33 #[.slice A n c] w fun e w' => ∃ v, e = .returned v ∧ ClonedAs w 49 9 n (gs.flatMap sgc) v w' := by
  have q22 : ∀ (w : World) (a : Option Addr) (n c n' c' : Nat), (binOp .eql 25 (.slice a n c) (.slice none n' c')).run Tryz.prog w = .ok (.bool a.isNone) w := fun w a n c n' c' => Lib.run_eql_slice_nil w _ _ a n c n' c' Tryz.underlying25
  cases A with
  | none =>
    obtain ⟨rfl, rfl⟩ := h0 rfl
    have hs : gs = [] := List.eq_nil_of_length_eq_zero hn.symm
    have HC : Hid (ClonedAs w 49 9 0 (gs.flatMap sgc) (.slice none 0 0) w) := Lib.hid (by rw [hs]; exact ⟨World.ownsRow_nil _ _ _ _, Below.refl _ _⟩)
    clear hE hs hn h0
    go_enter Tryz.func33, Tryz.ntmps33
    go_wp2
    go_ret
    exact ⟨_, rfl, HC.out⟩
  | some a =>
    obtain ⟨i0, hi0, hz0, hz1, hz2⟩ := info_of infoS
    have HL : Hid ((gs.flatMap sgc).length = n * 9) := Lib.hid (by rw [flat_len sg_len, hn])
    have HC := Lib.hid (els_cells (by decide) sg_len (hE.on ((Below.refl _ w).alloc (Nat.le_refl _) (.cells #[] 49))))
    clear hE hn h0
    go_enter Tryz.func33, Tryz.ntmps33
    go_wp2_with (at_builtin; refine wpList_append_own _ rfl (.tmp 5) (.tmp 6) 25 rfl w.heap.size 49 i0 zeroS 9 80 Tryz.underlying25 hi0 hz0 hz1 hz2 rfl (by decide) _ 0 [] rfl (World.ownsRow_made w #[] 0 (Nat.le_refl _) (Nat.zero_le _) (by simp)) a n c (gs.flatMap sgc) rfl HL.out HC.out (flat_one sg_one gs) (by unfold maxLen; omega) (by omega) (by simp) ?_; intro v1 w1 hown1 hgrow1 _; have HO := Lib.hid hown1; have HG := Lib.hid hgrow1; clear hown1 hgrow1)
    go_ret
    refine ⟨v1, rfl, by simpa using HO.out, ((Below.refl _ w).alloc (Nat.le_refl _) _).grown HG.out (by simp) (by intro k hk; have hk' : some w.heap.size = some k := hk; injection hk' with e; omega)⟩
theorem own_form {w : World} {base : Nat} {e : TypeId} {v : Value} {n k : Nat} {xs : List Value} (h : w.ownsRow base e k v n xs) : ∃ A c, v = .slice A n c := by
  rcases h.2 with ⟨rfl, rfl⟩ | ⟨g, cap, cur, rfl, _⟩
  · exact ⟨_, _, rfl⟩
  · exact ⟨_, _, rfl⟩
end Go.Proofs.YteejocnogpaifaaGreatDoor.Tt
