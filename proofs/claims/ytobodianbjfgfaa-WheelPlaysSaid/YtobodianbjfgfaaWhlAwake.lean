/-
  The statements' own awake: it answers true.
  Conditions: none.
-/
import Derived.Test.YtobodianbjfgfaaWhlGo
namespace Go.Proofs.Ytobodianbjfgfaa.Wh
open Go.RowKit Go.Maps
section
variable {w : World} {g : Nat} {X : Nat → Prop} {s : Ws}
theorem go_is (h : Whl w g X s) (hlast : s.last < 4611686018427387904) {to : Nat} (h1 : s.now < to) (ht : to ≤ 1099511627776) {l : List T} (hl : Gone s.xs to l) :
    Calls Try.prog 14 #[ptr g, .int .i64 (to : Int)] w fun e w' => ∃ gv, e = .returned gv ∧ w'.ownsRow w.heap.size 34 3 gv l.length (cellsT l) ∧ Whl w' g (fun b => X b ∨ gv.ownBlock = some b) (s.go to) ∧ Keep X w w' :=
  (go_any h hlast h1 ht).mono fun e w' ⟨gv, l', he, hg, hr, hW, hK⟩ => by
    rw [gone_uniq hg hl] at hr
    exact ⟨gv, he, hr, hW, hK⟩
/-- a row of one timer -/
theorem one_row {B : Nat} {gv : Value} {t : T} (h : w.ownsRow B 34 3 gv 1 (cellsT [t])) : ∃ r c, gv = .slice (some ⟨r, 0, none⟩) 1 c ∧ w.cell? ⟨r, 1, none⟩ = some (.int .i64 t.id) := by
  rcases h.2 with ⟨_, h0⟩ | ⟨r, c, cur, rfl, _⟩
  · cases h0
  · have := h.cells (g := r) rfl 1 (.int .i64 t.id) (by simp [cellsT, T.cells])
    rw [Addr.add_lit, Nat.zero_add] at this
    exact ⟨r, c, rfl, this⟩
end
theorem keep_cell {w w' : World} {X : Nat → Prop} {r i : Nat} {u : Value} (hk : Keep X w w') (hr : r < w.heap.size) (hx : X r) (hc : w.cell? ⟨r, i, none⟩ = some u) : w'.cell? ⟨r, i, none⟩ = some u := (World.cell?_of_block (hk.block r hr hx)).trans hc
def wA : Ws := ⟨4, 0, 0, []⟩
def wB : Ws := ⟨4, 0, 1, [⟨1, 7, 100⟩]⟩
def wC : Ws := ⟨4, 0, 2, [⟨1, 7, 100⟩, ⟨2, 8, 5⟩]⟩
def wD : Ws := ⟨4, 50, 2, [⟨1, 7, 100⟩]⟩
def wE : Ws := ⟨4, 100, 2, []⟩
theorem wA_set : wA.set 7 100 = wB := by simp [wA, wB, Ws.set, dueAt]
theorem wB_set : wB.set 8 5 = wC := by simp [wB, wC, Ws.set, dueAt]
theorem wC_go : wC.go 50 = wD := by simp [wC, wD, Ws.go, stays]
theorem wD_go : wD.go 100 = wE := by simp [wD, wE, Ws.go, stays]
theorem wC_gone : Gone wC.xs 50 [⟨2, 8, 5⟩] := ⟨by simp [wC], by simp⟩
theorem wD_gone : Gone wD.xs 100 [⟨1, 7, 100⟩] := ⟨by simp [wD], by simp⟩
set_option maxHeartbeats 1000000 in
set_option maxRecDepth 100000 in
theorem awake_any (w : World) : Calls Try.prog 6 #[] w fun e w' => e = .returned (.bool true) ∧ Below w.heap.size w w' := by
  have hN : ∀ w, Calls Try.prog 7 #[.int .i64 0, .int .i64 4] w fun e w' => e = .returned (.pointer (some ⟨w.heap.size + 1, 0, none⟩)) ∧ Whl w' (w.heap.size + 1) (fun i => i < w.heap.size) wA ∧ Below w.heap.size w w' :=
    fun w => new_any 0 4 w (by omega) (by omega) (by omega)
  have hA : ∀ w g X, Whl w g X wA → Calls Try.prog 9 #[.pointer (some ⟨g, 0, none⟩), .int .i64 7, .int .i64 100] w fun e w' => e = .returned (.tuple #[.int .i64 1, .int .i64 0]) ∧ Whl w' g X wB ∧ Keep X w w' :=
    fun w g X h => by have := set_ok h (id := 7) (a := 100) (by omega) (by decide) (by decide); rw [wA_set] at this; exact this
  have hB : ∀ w g X, Whl w g X wB → Calls Try.prog 9 #[.pointer (some ⟨g, 0, none⟩), .int .i64 8, .int .i64 5] w fun e w' => e = .returned (.tuple #[.int .i64 2, .int .i64 0]) ∧ Whl w' g X wC ∧ Keep X w w' :=
    fun w g X h => by have := set_ok h (id := 8) (a := 5) (by omega) (by decide) (by decide); rw [wB_set] at this; exact this
  have hF : ∀ w g X, Whl w g X wC → Calls Try.prog 14 #[.pointer (some ⟨g, 0, none⟩), .int .i64 50] w fun e w' => ∃ r c, e = .returned (.slice (some ⟨r, 0, none⟩) 1 c) ∧ w'.cell? ⟨r, 1, none⟩ = some (.int .i64 8) ∧ Whl w' g (fun b => X b ∨ some r = some b) wD ∧ Keep X w w' :=
    fun w g X h => by
      refine (go_is h (to := 50) (by decide) (by decide) (by omega) wC_gone).mono ?_
      rintro e w' ⟨gv, rfl, hr, hW, hK⟩
      obtain ⟨r, c, rfl, hc⟩ := one_row hr
      rw [wC_go] at hW
      exact ⟨r, c, rfl, hc, hW, hK⟩
  have hG : ∀ w g X, Whl w g X wD → Calls Try.prog 14 #[.pointer (some ⟨g, 0, none⟩), .int .i64 100] w fun e w' => ∃ r c, e = .returned (.slice (some ⟨r, 0, none⟩) 1 c) ∧ w'.cell? ⟨r, 1, none⟩ = some (.int .i64 7) ∧ Whl w' g (fun b => X b ∨ some r = some b) wE ∧ Keep X w w' :=
    fun w g X h => by
      refine (go_is h (to := 100) (by decide) (by decide) (by omega) wD_gone).mono ?_
      rintro e w' ⟨gv, rfl, hr, hW, hK⟩
      obtain ⟨r, c, rfl, hc⟩ := one_row hr
      rw [wD_go] at hW
      exact ⟨r, c, rfl, hc, hW, hK⟩
  have hL : ∀ w g X, Whl w g X wE → Calls Try.prog 19 #[.pointer (some ⟨g, 0, none⟩)] w fun e w' => e = .returned (.int .i64 0) ∧ w = w' := fun w g X h => len_any h
  have HN := Lib.hid hN
  have HA := Lib.hid hA
  have HB := Lib.hid hB
  have HF := Lib.hid hF
  have HG := Lib.hid hG
  have HL := Lib.hid hL
  clear hN hA hB hF hL hG
  go_enter Try.func6, Try.ntmps6
  go_wp2_with (first
    | (go_at_call 7; (with_reducible refine (HN.out _).mono ?_); rintro e w1 ⟨rfl, hq1, hb1⟩; have Hq1 := Lib.hid hq1; clear hq1)
    | (go_at_call 9; (with_reducible refine (HA.out _ _ _ Hq1.out).mono ?_); rintro e w2 ⟨rfl, hq2, hk2⟩; have Hq2 := Lib.hid hq2; clear hq2)
    | (go_at_call 9; (with_reducible refine (HB.out _ _ _ Hq2.out).mono ?_); rintro e w3 ⟨rfl, hq3, hk3⟩; have Hq3 := Lib.hid hq3; clear hq3)
    | (go_at_call 14; (with_reducible refine (HF.out _ _ _ Hq3.out).mono ?_); rintro e w4 ⟨r, c, rfl, hc4, hq4, hk4⟩; have Hq4 := Lib.hid hq4; have hr4 := hq4.xlt r (Or.inr rfl); clear hq4)
    | (go_at_call 14; (with_reducible refine (HG.out _ _ _ Hq4.out).mono ?_); rintro e w5 ⟨r5, c5, rfl, hc5, hq5, hk5⟩; have Hq5 := Lib.hid hq5; have hc4' := keep_cell hk5 hr4 (Or.inr rfl) hc4; clear hq5)
    | (go_at_call 19; (with_reducible refine (HL.out _ _ _ Hq5.out).mono ?_); rintro e w6 ⟨rfl, rfl⟩))
  go_ret
  refine ⟨rfl, ?_⟩
  have h1 := ((hk2.trans hk3).trans (hk4.trans (hk5.mono fun b hb => Or.inl hb))).below hb1.size (fun i hi => hi)
  exact hb1.trans h1
end Go.Proofs.Ytobodianbjfgfaa.Wh
