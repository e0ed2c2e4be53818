/-
  What the statements' own comparison of payloads and texts (begins) answers where they are the same: true; and the mathematics of rows of segments, some of which are whole.
  Conditions: at most 1000 payloads; they lie in memory.
-/
import Derived.Test.YtohnhboeipckjaaGreatDoorWalLaw
import Derived.Test.YtohnhboeipckjaaGreatDoorWalGrow
import Derived.Test.YtohnhboeipckjaaGreatDoorRecRows
import Derived.Deep.QuietTactic
import Derived.BigQuiet
namespace Go.Proofs.YtohnhboeipckjaaGreatDoor
open Go.RowKit

set_option maxHeartbeats 2000000 in
set_option maxRecDepth 100000 in
theorem begins_any (A B : Option Addr) (ls : List (List UInt8)) (n c d : Nat) (w : World) (hA : SlsAt w A ls) (hB : StrAt w B ls) (hn : n = ls.length) (h1 : ls.length ≤ 1000) :
    Calls Tryz.prog 20 #[.slice A n c, .slice B n d, .int .i64 (n : Int)] w fun e w' => e = .returned (.bool true) ∧ Below w.heap.size w w' := by
  have HE := Lib.hid hn
  rw [← hn] at h1
  clear hn
  go_enter Tryz.func20, Tryz.ntmps20
  go_wp2
  go_loopw [7] (fun p wr => ∃ k j : Nat, p = .int .i64 k ∧ k ≤ n ∧ wr = w.drewN j) (fun p _ => n - (intOf p).toNat)
  case atStart => exact ⟨0, 0, rfl, by omega, rfl⟩
  case round =>
    obtain ⟨k, j, rfl, hk, rfl⟩ := hrel
    by_cases h8 : k < n
    · have h8' : k < ls.length := by rw [← HE.out]; exact h8
      obtain ⟨g1, o1, A1, c1, rfl, hc1, hb1⟩ := hA k h8'
      obtain ⟨g2, o2, rfl, hc2⟩ := hB k h8'
      have ht := fun n => Byt.text (P := Tryz.prog) (w := (w.drewN j).drewN n) (B := w.heap.size) hb1 31 5 9 Tryz.underlying31 Tryz.underlying5 Tryz.underlying9 c1
      have hc1' : (w.drewN j).cell? ⟨g1, o1 + k, none⟩ = some (.slice A1 (ls[k]).length c1) := hc1
      have hc2' : (w.drewN j).cell? ⟨g2, o2 + k, none⟩ = some (.string ⟨(ls[k]).toArray⟩) := hc2
      generalize ls[k] = l at *
      obtain ⟨wr, hwr⟩ : ∃ x, x = w.drewN j := ⟨_, rfl⟩
      rw [← hwr] at ht hc1' hc2' ⊢
      have HW := Lib.hid hwr
      clear hwr hb1 hc1 hc2
      have hne : (l != l) = false := by simp
      go_wp2_with fail
      go_quiet (fail)
      go_wp2
      go_roundw
      case rel => exact ⟨k + 1, j + nq, by go_num, by omega, by rw [← World.drewN_drewN, HW.out]⟩
      case measure => simp [intOf]; omega
    · obtain rfl : k = n := by omega
      go_wp2
      go_ret
      exact ⟨rfl, drewN_below _ _⟩

/-! ### Rows of segments, some of which are whole -/
def AllWhole (ds : List (List UInt8)) : Prop := ∀ d ∈ ds, allN d = d.length
theorem runC_app {ds : List (List UInt8)} (h : AllWhole ds) (d : List UInt8) : runC (ds ++ [d]) = runC ds ++ [allP d] := by
  induction ds with
  | nil => simp [runC]
  | cons c ds ih =>
    have hc : allN c = c.length := h c (by simp)
    rw [List.cons_append, runC, if_pos hc, ih (fun x hx => h x (by simp [hx])), runC, if_pos hc]
    rfl
theorem runC_not {ds : List (List UInt8)} (h : ¬ AllWhole ds) (es : List (List UInt8)) : runC (ds ++ es) = runC ds := by
  induction ds with
  | nil => exact absurd (fun d hd => by simp at hd) h
  | cons c ds ih =>
    rw [List.cons_append, runC, runC]
    by_cases hc : allN c = c.length
    · rw [if_pos hc, if_pos hc, ih]
      intro hw
      exact h fun d hd => by
        rcases List.mem_cons.1 hd with rfl | hd
        · exact hc
        · exact hw d hd
    · rw [if_neg hc, if_neg hc]
theorem whole_app {ds : List (List UInt8)} {d : List UInt8} : AllWhole (ds ++ [d]) ↔ AllWhole ds ∧ allN d = d.length := by
  unfold AllWhole
  constructor
  · intro h
    exact ⟨fun x hx => h x (by simp [hx]), h d (by simp)⟩
  · rintro ⟨h1, h2⟩ x hx
    rcases List.mem_append.1 hx with hx | hx
    · exact h1 x hx
    · rw [List.mem_singleton.1 hx]; exact h2
/-- how many payloads -/
theorem runC_count (ds : List (List UInt8)) {m : Nat} (h : ∀ d ∈ ds, d.length ≤ m) : (runC ds).flatten.length * 13 ≤ m * ds.length := by
  induction ds with
  | nil => simp [runC]
  | cons d ds ih =>
    have h1 := all_count d
    have h2 := h d (by simp)
    have h3 := ih fun x hx => h x (by simp [hx])
    rw [runC, List.flatten_cons, List.length_append, List.length_cons, Nat.mul_add, Nat.mul_one]
    split
    · omega
    · simp
      omega
end Go.Proofs.YtohnhboeipckjaaGreatDoor
