/-
  The cells of a definition that a call has laid; what End answers: the tick from which on a saga doesn't go forward; the document's own End.
  Conditions: none.
-/
import Derived.Test.YtihkadbcjeohjaaDefEq
namespace Go.Proofs.Ytihkadbcjeohjaa.Df
open Go.RowKit
open Go.Proofs.Ytihkadbcjeohjaa.El
open Go.Proofs.Ytihkadbcjeohjaa.Bo (P Made ret_int ret_bool)

def dcells (nm : ByteArray) (dl : Int) (A : Option Addr) (n c : Nat) : Array Value := #[.string nm, .int .i64 dl, .slice A n c]
theorem len_is (s : ByteArray) : s.data.toList.length = s.size := Array.length_toList
/-- its own blocks -/
theorem two_box {w w' : World} {cs cs' : Array Value} {t : TypeId} (h : Made ((w.alloc (.cells cs t)).alloc (.cells cs' t)) w') : Box w' w.heap.size t cs ∧ Box w' (w.heap.size + 1) t cs' := by
  refine ⟨Bo.Box.made ((Box.new w t cs).alloc _) h, Bo.Box.made ?_ h⟩
  have := Box.new (w.alloc (.cells cs t)) t cs'
  simpa using this
def zstep : Value := .agg #[.string ⟨#[]⟩, .string ⟨#[]⟩, .int .i64 0, .int .i64 0, .int .i64 0, .int .i64 0, .int .i64 0, .int .i64 0, .int .i64 0, .int .i64 0, .int .i64 0, .int .i64 0]
theorem infoStep : (Try.prog.info? 67).map (fun i => (i.zero, i.size, i.bytes)) = some (some zstep, 12, 112) := by kernel_rfl
theorem info_is : ∃ i : TypeInfo, Try.prog.info? 67 = some i ∧ i.zero = some zstep ∧ i.size = 12 ∧ i.bytes = 112 := by
  have h := infoStep
  cases hi : Try.prog.info? 67 with
  | none => rw [hi] at h; cases h
  | some i =>
    rw [hi] at h
    simp only [Option.map_some, Option.some.injEq, Prod.mk.injEq] at h
    exact ⟨i, rfl, h.1, h.2.1, h.2.2⟩
theorem Dc0 {w : World} {g n c : Nat} {nm : ByteArray} {dl : Int} {A : Option Addr} (h : Box w g 24 (dcells nm dl A n c)) : w.cell? ⟨g, 0, none⟩ = some (.string nm) := h.cell 0
theorem Dc1 {w : World} {g n c : Nat} {nm : ByteArray} {dl : Int} {A : Option Addr} (h : Box w g 24 (dcells nm dl A n c)) : w.cell? ⟨g, 1, none⟩ = some (.int .i64 dl) := h.cell 1
theorem Dc2 {w : World} {g n c : Nat} {nm : ByteArray} {dl : Int} {A : Option Addr} (h : Box w g 24 (dcells nm dl A n c)) : w.cell? ⟨g, 2, none⟩ = some (.slice A n c) := h.cell 2
theorem sizeD : (Try.prog.info? 24).map (·.size) = some 3 := by kernel_rfl
theorem size_def (nm : ByteArray) (dl : Int) (A : Option Addr) (n c : Nat) : (Try.prog.info? 24).map (·.size) = some (dcells nm dl A n c).size := sizeD
theorem one_def (nm : ByteArray) (dl : Int) (A : Option Addr) (n c : Nat) : (dcells nm dl A n c).all (·.oneCell') = true := by simp [dcells, Value.oneCell']
/-- two blocks that a call has laid, behind a further call -/
theorem two_below {w w' : World} {cs cs' : Array Value} {t : TypeId} (h : Below ((w.alloc (.cells cs t)).alloc (.cells cs' t)).heap.size ((w.alloc (.cells cs t)).alloc (.cells cs' t)) w') : Box w' w.heap.size t cs ∧ Box w' (w.heap.size + 1) t cs' := by
  obtain ⟨h1, h2⟩ := two_box (w := w) (cs := cs) (cs' := cs') (t := t) (Made.refl _)
  exact ⟨h1.below h h1.lt, h2.below h h2.lt⟩
/-! ### End -/
end Go.Proofs.Ytihkadbcjeohjaa.Df
