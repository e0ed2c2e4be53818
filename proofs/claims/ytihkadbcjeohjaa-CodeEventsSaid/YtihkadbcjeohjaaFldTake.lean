/-
  What the reader's left, take and Err answer.
  Conditions: the reader's four cells are those of a place within the bytes.
-/
import Derived.Test.YtihkadbcjeohjaaFldMem
import Derived.Test.YtihkadbcjeohjaaFldMath
import Derived.Test.YtihkadbcjeohjaaProg
import Derived.Deep.QuietTactic
import Derived.BigQuiet
namespace Go.Proofs.Ytihkadbcjeohjaa
open Go.RowKit

theorem ret_int {k : IntKind} {a b : Int} (h : a = b) : Ending.returned (.int k a) = .returned (.int k b) := by rw [h]
theorem ret_bool {a b : Bool} (h : a = b) : Ending.returned (.bool a) = .returned (.bool b) := by rw [h]

theorem left_any (g n c pos k : Nat) (A : Option Addr) (w : World) (h0 : w.cell? ⟨g, 0, none⟩ = some (.slice A n c)) (h1 : w.cell? ⟨g, 1, none⟩ = some (.int .i64 (pos : Int)))
    (hk : pos + k = n) (hn : n ≤ 1099511627776) :
    Calls Try.prog 83 #[.pointer (some ⟨g, 0, none⟩)] w fun e w' => e = .returned (.int .i64 (k : Int)) ∧ ∃ m, w' = w.drewN m := by
  subst hk
  go_enter Try.func83, Try.ntmps83
  go_wp2
  go_quiet (fail)
  go_wp2
  go_ret
  exact ⟨ret_int (by omega), _, rfl⟩

theorem err_any (g : Nat) (on er : Int) (w : World) (h2 : w.cell? ⟨g, 2, none⟩ = some (.int .i64 on)) (h3 : w.cell? ⟨g, 3, none⟩ = some (.int .i64 er)) :
    Calls Try.prog 63 #[.pointer (some ⟨g, 0, none⟩)] w fun e w' => e = .returned (.tuple #[.int .i64 on, .int .i64 er]) ∧ ∃ m, w' = w.drewN m := by
  go_enter Try.func63, Try.ntmps63
  go_wp2
  go_quiet (fail)
  go_wp2
  go_ret2
  exact ⟨rfl, _, rfl⟩

/-- the reader's cells -/
def rdV (v : Value) (pos on er : Nat) : Array Value := #[v, .int .i64 (pos : Int), .int .i64 (on : Int), .int .i64 (er : Int)]

theorem take_late (g : Nat) (v : Value) (pos on er : Nat) (size e0 : Int) (w : World) (hb : Box w g 110 (rdV v pos on er)) (he : er ≠ 0) :
    Calls Try.prog 74 #[.pointer (some ⟨g, 0, none⟩), .int .i64 size, .int .i64 e0] w fun e w' => e = .returned (.bool false) ∧ w = w' := by
  have h2 : w.cell? ⟨g, 2, none⟩ = some (.int .i64 (on : Int)) := hb.cell 2
  have h3 : w.cell? ⟨g, 3, none⟩ = some (.int .i64 (er : Int)) := hb.cell 3
  have hz : ((er : Int) == 0) = false := by simpa using he
  go_enter Try.func74, Try.ntmps74
  go_wp2
  go_ret
  exact ⟨rfl, rfl⟩

theorem take_fail (g : Nat) (v : Value) (pos e0 : Nat) (size : Int) (w : World) (hb : Box w g 110 (rdV v pos 0 0)) (he : e0 ≠ 0) :
    Calls Try.prog 74 #[.pointer (some ⟨g, 0, none⟩), .int .i64 size, .int .i64 (e0 : Int)] w fun e w' => e = .returned (.bool false) ∧ Box w' g 110 (rdV v pos pos e0) ∧ w.grownBy w' (some g) := by
  have h1 : w.cell? ⟨g, 1, none⟩ = some (.int .i64 (pos : Int)) := hb.cell 1
  have h2 : w.cell? ⟨g, 2, none⟩ = some (.int .i64 0) := hb.cell 2
  have h3 : w.cell? ⟨g, 3, none⟩ = some (.int .i64 0) := hb.cell 3
  have f2 := hb.frozen 2
  have f3 := hb.frozen 3
  have hz : ((e0 : Int) == 0) = false := by simpa using he
  go_enter Try.func74, Try.ntmps74
  go_wp2
  go_ret
  refine ⟨rfl, ?_, only_put (only_put (World.grownBy.refl w _) 2 _) 3 _⟩
  exact (hb.put 2 (.int .i64 (pos : Int))).put 3 (.int .i64 (e0 : Int))

theorem take_on (g : Nat) (v : Value) (pos size : Nat) (w : World) (hb : Box w g 110 (rdV v pos 0 0)) (hs : pos + size ≤ 1099511627776) :
    Calls Try.prog 74 #[.pointer (some ⟨g, 0, none⟩), .int .i64 (size : Int), .int .i64 0] w fun e w' => e = .returned (.bool true) ∧ Box w' g 110 (rdV v (pos + size) 0 0) ∧ w.grownBy w' (some g) := by
  have h1 : w.cell? ⟨g, 1, none⟩ = some (.int .i64 (pos : Int)) := hb.cell 1
  have h2 : w.cell? ⟨g, 2, none⟩ = some (.int .i64 0) := hb.cell 2
  have h3 : w.cell? ⟨g, 3, none⟩ = some (.int .i64 0) := hb.cell 3
  have f1 := hb.frozen 1
  go_enter Try.func74, Try.ntmps74
  go_wp2
  go_ret
  refine ⟨rfl, ?_, only_put (World.grownBy.refl w _) 1 _⟩
  have e := hb.put 1 (.int .i64 ((pos : Int) + (size : Int)))
  exact e
end Go.Proofs.Ytihkadbcjeohjaa
