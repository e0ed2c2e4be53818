/-
  The statements' own awake: it answers true.
  Conditions: none.
-/
import Derived.Test.YtkfkjpabollaoaaRdyPut
namespace Go.Proofs.Ytkfkjpabollaoaa
open Go.RowKit Go.Maps
section
variable {w : World} {g : Nat} {X : Nat → Prop} {s : Qs}
theorem first_is (h : Que w g X s) (x : E) (hx : ∀ y, FirstOf s.xs y → y = x) (hne : s.xs ≠ []) :
    Calls Try.prog 18 #[ptr g] w fun e w' => e = .returned (.tuple #[.int .i64 x.id, .int .i64 (x.h : Int), .bool true]) ∧ ∃ n, w' = w.drewN n :=
  (first_some h hne).mono fun e w' ⟨y, hy, he, hw⟩ => by rw [hx y hy] at he; exact ⟨he, hw⟩
theorem drewN_below (w : World) (n : Nat) : Below w.heap.size w (w.drewN n) := ⟨rfl, rfl, rfl, Nat.le_refl _, fun _ _ => rfl⟩
end
def qA : Qs := ⟨4, 10, 0, []⟩
def qB : Qs := ⟨4, 10, 1, [⟨1, 7, 10⟩]⟩
def qC : Qs := ⟨4, 10, 2, [⟨1, 7, 10⟩, ⟨2, 8, 9⟩]⟩
theorem qC_first (y : E) (h : FirstOf qC.xs y) : y = ⟨1, 7, 10⟩ := by
  obtain ⟨h1, h2⟩ := h
  have h3 := h2 ⟨1, 7, 10⟩ (by simp [qC])
  simp only [qC, List.mem_cons, List.not_mem_nil, or_false] at h1
  rcases h1 with rfl | rfl
  · rfl
  · exact absurd (.inl (by decide)) h3
set_option maxHeartbeats 1000000 in
set_option maxRecDepth 100000 in
theorem awake_any (w : World) : Calls Try.prog 6 #[] w fun e w' => e = .returned (.bool true) ∧ Below w.heap.size w w' := by
  have hN : ∀ w, Calls Try.prog 7 #[.int .i64 4, .int .i64 10] w fun e w' => e = .returned (.pointer (some ⟨w.heap.size + 1, 0, none⟩)) ∧ Que w' (w.heap.size + 1) (fun i => i < w.heap.size) qA ∧ Below w.heap.size w w' :=
    fun w => new_any 4 10 w (by omega) (by omega) (by omega) (by omega)
  have hA : ∀ w g X, Que w g X qA → Calls Try.prog 8 #[.pointer (some ⟨g, 0, none⟩), .int .i64 7, .int .i64 1, .int .i64 0] w fun e w' => e = .returned (.tuple #[.int .i64 1, .int .i64 0]) ∧ Que w' g X qB ∧ Keep X w w' :=
    fun w g X h => put_ok h (id := 7) (prio := 1) (now := 0) rfl (by decide) (by decide)
  have hB : ∀ w g X, Que w g X qB → Calls Try.prog 8 #[.pointer (some ⟨g, 0, none⟩), .int .i64 8, .int .i64 2, .int .i64 11] w fun e w' => e = .returned (.tuple #[.int .i64 2, .int .i64 0]) ∧ Que w' g X qC ∧ Keep X w w' :=
    fun w g X h => put_ok h (id := 8) (prio := 2) (now := 11) rfl (by decide) (by decide)
  have hF : ∀ w g X, Que w g X qC → Calls Try.prog 18 #[.pointer (some ⟨g, 0, none⟩)] w fun e w' => e = .returned (.tuple #[.int .i64 7, .int .i64 1, .bool true]) ∧ ∃ n, w' = w.drewN n :=
    fun w g X h => first_is h _ qC_first (by simp [qC])
  have hL : ∀ w g X, Que w g X qC → Calls Try.prog 17 #[.pointer (some ⟨g, 0, none⟩)] w fun e w' => e = .returned (.int .i64 2) ∧ w' = w := fun w g X h => len_any h
  have HN := Lib.hid hN
  have HA := Lib.hid hA
  have HB := Lib.hid hB
  have HF := Lib.hid hF
  have HL := Lib.hid hL
  clear hN hA hB hF hL
  go_enter Try.func6, Try.ntmps6
  go_wp2_with (first
    | (go_at_call 7; (with_reducible refine (HN.out _).mono ?_); rintro e w1 ⟨rfl, hq1, hb1⟩; have Hq1 := Lib.hid hq1; clear hq1)
    | (go_at_call 8; (with_reducible refine (HA.out _ _ _ Hq1.out).mono ?_); rintro e w2 ⟨rfl, hq2, hk2⟩; have Hq2 := Lib.hid hq2; clear hq2)
    | (go_at_call 8; (with_reducible refine (HB.out _ _ _ Hq2.out).mono ?_); rintro e w3 ⟨rfl, hq3, hk3⟩; have Hq3 := Lib.hid hq3; clear hq3)
    | (go_at_call 18; (with_reducible refine (HF.out _ _ _ Hq3.out).mono ?_); rintro e w4 ⟨rfl, n, rfl⟩; have Hq4 := Lib.hid (Hq3.out.drewN n))
    | (go_at_call 17; (with_reducible refine (HL.out _ _ _ Hq4.out).mono ?_); rintro e w5 ⟨rfl, rfl⟩))
  go_ret
  refine ⟨rfl, ?_⟩
  have h1 := (hk2.trans hk3).below hb1.size (fun i hi => hi)
  exact (hb1.trans h1).trans ((drewN_below w3 n).mono (by have := hb1.size; have := hk2.size; have := hk3.size; omega))
end Go.Proofs.Ytkfkjpabollaoaa
