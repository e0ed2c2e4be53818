/-
  What the statements' awake answers: true.
  Conditions: none.
-/
import Derived.Test.YtenkjopmldmobaaFldWr
namespace Go.Proofs.Ytenkjopmldmobaa
open Go.RowKit

theorem Rd.cells {w : World} {g : Nat} {l : List UInt8} {pos on er : Nat} (h : Rd w g l pos on er) : w.cell? ⟨g, 2, Option.none⟩ = some (.int .i64 (on : Int)) ∧ w.cell? ⟨g, 3, Option.none⟩ = some (.int .i64 (er : Int)) := by
  obtain ⟨A, c, hc, hb, hby⟩ := h.box
  exact ⟨hb.cell 2, hb.cell 3⟩
theorem Rd.below {w w' : World} {g B : Nat} {l : List UInt8} {pos on er : Nat} (h : Rd w g l pos on er) (hb : Below B w w') (hg : g < B) : Rd w' g l pos on er := by
  obtain ⟨A, c, hc, hx, hby⟩ := h.box
  exact ⟨h.le, h.small, h.none, A, c, hc, hx.below hb hg, hby.below (hb.mono (by omega))⟩
theorem Rd.lt {w : World} {g : Nat} {l : List UInt8} {pos on er : Nat} (h : Rd w g l pos on er) : g < w.heap.size := by
  obtain ⟨A, c, hc, hx, hby⟩ := h.box
  exact hx.lt
theorem rerr_any (g pos on er : Nat) (l : List UInt8) (w : World) (h : Rd w g l pos on er) :
    Calls Try.prog 18 #[.pointer (some ⟨g, 0, none⟩)] w fun e w' => e = .returned (.tuple #[.int .i64 (on : Int), .int .i64 (er : Int)]) ∧ ∃ m, w' = w.drewN m := err_any g on er w h.cells.1 h.cells.2
theorem below_drewN {B : Nat} {a w : World} (h : Below B a w) (n : Nat) : Below B a (w.drewN n) := ⟨h.os, h.tape, h.output, h.size, h.block⟩
theorem Wr.new (w : World) : Wr (w.alloc (.cells #[.slice none 0 0] 48)) w.heap.size w.heap.size [] :=
  ⟨Nat.le_refl _, .slice none 0 0, Box.new _ _ _, World.ownsRow_nil _ _ _ _⟩

set_option maxHeartbeats 1000000 in
theorem awake_any (w : World) : Calls Try.prog 6 #[] w fun e w' => e = .returned (.bool true) ∧ Below w.heap.size w w' := by
  have hf : flagA [2] 0 0 = false := by decide
  have hE : flagE [2] 0 = 3 := by decide
  have hP : nxP 0 0 1 3 = 0 := by decide
  have hO : nxO 0 0 0 3 = 0 := by decide
  have hX : nxE 0 3 = 3 := by decide
  have hN : num8 (clp 258) = [0, 0, 0, 0, 0, 0, 1, 2] := by decide
  have hFl : ∀ (g : Nat) (W : World), Rd W g [2] 0 0 0 → Calls Try.prog 13 #[.pointer (some ⟨g, 0, none⟩)] W fun e w' => e = .returned (.bool false) ∧ Rd w' g [2] 0 0 3 ∧ W.grownBy w' (some g) := fun g W h => by
    have := rflag_any g 0 0 0 [2] W h
    rw [hf, hE, hP, hO, hX] at this
    exact this
  have hNu : ∀ (g base : Nat) (W : World), Wr W base g [] → Calls Try.prog 19 #[.pointer (some ⟨g, 0, none⟩), .int .i64 258] W fun e w' => e = .returned (.tuple #[]) ∧ WrAt W w' base g [0, 0, 0, 0, 0, 0, 1, 2] := fun g base W h => by
    have := wnum_any g base 258 [] W h (by simp) (by omega) (by omega)
    rw [hN] at this
    exact this
  have hNw : Calls Try.prog 7 #[.slice (some ⟨w.heap.size, 0, none⟩) 1 1] (w.alloc (.cells #[.int .u8 2] 5)) (NewRd (w.alloc (.cells #[.int .u8 2] 5)) [2]) := new_any _ [2] 1 _ (by simpa using Byt.one w 5 _ 2 rfl) (by simp)
  have H0 := Lib.hid hNw
  have HF := Lib.hid hFl
  have HN := Lib.hid hNu
  clear hNw hFl hNu hf hE hP hO hX hN
  go_enter Try.func6, Try.ntmps6
  go_wp2_with (first
    | (go_at_call 7; refine H0.out.mono ?_; rintro e w1 ⟨g, rfl, hg, hR1, hB1⟩)
    | (go_at_call 13; refine (HF.out g w1 hR1).mono ?_; rintro e w2 ⟨rfl, hR2, hG2⟩; have hB2 : Below w.heap.size w w2 := (((Below.refl _ w).alloc (Nat.le_refl _) _).trans (hB1.mono (by simp))).grown hG2 (by have := hB1.size; simp at this; omega) (fun k hk => by injection hk with hk; subst hk; simp at hg; omega))
    | (go_at_call 18; refine (rerr_any g 0 0 3 [2] w2 hR2).mono ?_; rintro e w3 ⟨rfl, m, rfl⟩)
    | (go_at_call 19; refine (HN.out _ _ _ (Wr.new _)).mono ?_; rintro e w4 ⟨rfl, hW⟩; have hB4 : Below w.heap.size w w4 := ((below_drewN hB2 m).alloc (by have := hB2.size; simpa using this) _).trans (hW.bel.mono (by have := hB2.size; simpa using this)))
    | (go_at_call 23; refine (wbytes_any _ _ _ w4 hW.wr (by simp)).mono ?_; rintro e w5 ⟨A5, c5, rfl, hc5, hy5, hB5⟩; have hT := hy5.text (P := Try.prog) 22 5 9 Try.underlying22 Try.underlying5 Try.underlying9 c5; simp only [List.length_cons, List.length_nil, Nat.zero_add, Nat.reduceAdd] at hT))
  go_ret
  exact ⟨rfl, hB4.trans (hB5.mono hB4.size)⟩
end Go.Proofs.Ytenkjopmldmobaa
