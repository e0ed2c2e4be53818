/-
  What was put is taken as it was: the reader's Num, Text and Flag at the form of an act.
  Conditions: the act's text has at most 60 bytes.
-/
import Derived.Test.YtenkjopmldmobaaFldOut
namespace Go.Proofs.Ytenkjopmldmobaa
open Go.RowKit

/-- four of an act's cells -/
def Four (u : World) (q : Nat) (a : ActD) : Prop :=
  u.cell? ⟨q, 0, none⟩ = some (.int .i64 a.kind) ∧ u.cell? ⟨q, 1, none⟩ = some (.int .i64 a.n) ∧ u.cell? ⟨q, 3, none⟩ = some (.string a.s) ∧ u.cell? ⟨q, 4, none⟩ = some (.bool a.yes)
theorem Box.four {u : World} {q : Nat} {a : ActD} (h : Box u q 30 a.cells) : Four u q a := ⟨h.cell 0, h.cell 1, h.cell 3, h.cell 4⟩
/-- the act is taken: its answer, and the reader behind it -/
def Took (W : World) (g : Nat) (L X : List UInt8) (a : ActD) (v : Value) (e : Ending) (w' : World) : Prop :=
  e = .returned v ∧ Rd w' g L (X ++ form a).length 0 0 ∧ W.grownBy w' (some g)
theorem took_0 (W : World) (g : Nat) (X Y : List UInt8) (a : ActD) (h0 : a.kind = 0) (h : Rd W g (X ++ (form a ++ Y)) X.length 0 0) :
    Calls Try.prog 9 #[.pointer (some ⟨g, 0, none⟩)] W (Took W g (X ++ (form a ++ Y)) X a (.int .i64 (clp a.n : Nat))) := by
  rw [form_0 h0] at h ⊢
  have hE := numE_put X Y (clp a.n) (clp_le _)
  have hA : numA (X ++ (num8 (clp a.n) ++ Y)) X.length 0 = clp a.n := by
    unfold numA
    rw [hE, numAt_put X Y _ (by have := clp_le a.n; omega)]
    rfl
  have hC := rnum_any g X.length 0 0 _ W h
  rw [hE, hA] at hC
  refine hC.mono ?_
  rintro e w' ⟨rfl, h1, h2⟩
  exact ⟨rfl, by rw [form_0 h0, List.length_append, num8_len]; exact h1, h2⟩
theorem took_1 (W : World) (g : Nat) (X Y : List UInt8) (a : ActD) (h1 : a.kind = 1) (h60 : a.s.size ≤ 60) (h : Rd W g (X ++ (form a ++ Y)) X.length 0 0) :
    Calls Try.prog 11 #[.pointer (some ⟨g, 0, none⟩), .int .i64 60] W (Took W g (X ++ (form a ++ Y)) X a (.string a.s)) := by
  have hl : a.s.data.toList.length = a.s.size := Array.length_toList
  have hL : X ++ (form a ++ Y) = X ++ (num8 a.s.size ++ (a.s.data.toList ++ Y)) := by rw [form_1 h1, List.append_assoc]
  rw [hL] at h ⊢
  have hE := numE_put X (a.s.data.toList ++ Y) a.s.size (by omega)
  have hN := numN_put X (a.s.data.toList ++ Y) a.s.size (by omega)
  have hT : txtE (X ++ (num8 a.s.size ++ (a.s.data.toList ++ Y))) X.length 60 = 0 := by
    unfold txtE
    rw [if_neg (by simpa using hE), hN, if_neg (by omega), if_neg (by simp only [List.length_append, num8_len, hl]; omega)]
  have hA : txtA (X ++ (num8 a.s.size ++ (a.s.data.toList ++ Y))) X.length 0 60 = a.s.data.toList := by
    rw [txtA_txt hT rfl, hN, ← hl]
    have := cut_put X Y a.s.data.toList a.s.data.toList.length
    exact this
  have hC := rtext_any g X.length 0 0 60 _ W h
  rw [hT, hA, hN] at hC
  refine hC.mono ?_
  rintro e w' ⟨rfl, h2, h3⟩
  exact ⟨rfl, by rw [form_1 h1, List.length_append, List.length_append, num8_len, hl]; exact h2, h3⟩
theorem took_2 (W : World) (g : Nat) (X Y : List UInt8) (a : ActD) (h2 : a.kind = 2) (h : Rd W g (X ++ (form a ++ Y)) X.length 0 0) :
    Calls Try.prog 13 #[.pointer (some ⟨g, 0, none⟩)] W (Took W g (X ++ (form a ++ Y)) X a (.bool a.yes)) := by
  rw [form_2 h2] at h ⊢
  have hlt : X.length < (X ++ ([if a.yes then (1 : UInt8) else 0] ++ Y)).length := by simp
  have hx : (X ++ ([if a.yes then (1 : UInt8) else 0] ++ Y))[X.length]'hlt = if a.yes then 1 else 0 := by simp
  have hE : flagE (X ++ ([if a.yes then (1 : UInt8) else 0] ++ Y)) X.length = 0 := by
    unfold flagE
    rw [dif_pos hlt, hx]
    cases a.yes <;> rfl
  have hB : flagB (X ++ ([if a.yes then (1 : UInt8) else 0] ++ Y)) X.length = a.yes := by
    unfold flagB
    rw [dif_pos hlt, hx]
    cases a.yes <;> rfl
  have hA : flagA (X ++ ([if a.yes then (1 : UInt8) else 0] ++ Y)) X.length 0 = a.yes := by unfold flagA; rw [hE, hB]; rfl
  have hC := rflag_any g X.length 0 0 _ W h
  rw [hE, hA] at hC
  refine hC.mono ?_
  rintro e w' ⟨rfl, h3, h4⟩
  exact ⟨rfl, by rw [form_2 h2, List.length_append]; exact h3, h4⟩
theorem took_end (W : World) (g : Nat) (L : List UInt8) (h : Rd W g L L.length 0 0) :
    Calls Try.prog 17 #[.pointer (some ⟨g, 0, none⟩)] W fun e w' => e = .returned (.bool true) ∧ W.grownBy w' (some g) := by
  have hE : endE L L.length = 0 := by unfold endE; rw [if_neg (by omega)]
  have hC := rend_any g L.length 0 0 L W h
  rw [hE] at hC
  refine hC.mono ?_
  rintro e w' ⟨rfl, h3, h4⟩
  exact ⟨rfl, h4⟩
end Go.Proofs.Ytenkjopmldmobaa
