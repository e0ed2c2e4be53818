/-
  The cells of a definition that a call has laid; what End answers: the tick from which on a saga doesn't go forward; the document's own End.
  Conditions: none.
-/
import Derived.Test.YteejocnogpaifaaGreatDoorDefEq
namespace Go.Proofs.YteejocnogpaifaaGreatDoor.Df
open Go.RowKit
open Go.Proofs.YteejocnogpaifaaGreatDoor.El
open Go.Proofs.YteejocnogpaifaaGreatDoor.Bo (P Made ret_int ret_bool)

def dcells (nm : ByteArray) (dl : Int) (A : Option Addr) (n c : Nat) : Array Value := #[.string nm, .int .i64 dl, .slice A n c]
theorem len_is (s : ByteArray) : s.data.toList.length = s.size := Array.length_toList
/-- its own blocks -/
theorem two_box {w w' : World} {cs cs' : Array Value} {t : TypeId} (h : Made ((w.alloc (.cells cs t)).alloc (.cells cs' t)) w') : Box w' w.heap.size t cs ∧ Box w' (w.heap.size + 1) t cs' := by
  refine ⟨Bo.Box.made ((Box.new w t cs).alloc _) h, Bo.Box.made ?_ h⟩
  have := Box.new (w.alloc (.cells cs t)) t cs'
  simpa using this
def zstep : Value := .agg #[.string ⟨#[]⟩, .string ⟨#[]⟩, .int .i64 0, .int .i64 0, .int .i64 0, .int .i64 0, .int .i64 0, .int .i64 0, .int .i64 0, .int .i64 0, .int .i64 0, .int .i64 0]
theorem infoStep : (Tryz.prog.info? 54).map (fun i => (i.zero, i.size, i.bytes)) = some (some zstep, 12, 112) := by kernel_rfl
theorem info_is : ∃ i : TypeInfo, Tryz.prog.info? 54 = some i ∧ i.zero = some zstep ∧ i.size = 12 ∧ i.bytes = 112 := by
  have h := infoStep
  cases hi : Tryz.prog.info? 54 with
  | none => rw [hi] at h; cases h
  | some i =>
    rw [hi] at h
    simp only [Option.map_some, Option.some.injEq, Prod.mk.injEq] at h
    exact ⟨i, rfl, h.1, h.2.1, h.2.2⟩
theorem Dc0 {w : World} {g n c : Nat} {nm : ByteArray} {dl : Int} {A : Option Addr} (h : Box w g 33 (dcells nm dl A n c)) : w.cell? ⟨g, 0, none⟩ = some (.string nm) := h.cell 0
theorem Dc1 {w : World} {g n c : Nat} {nm : ByteArray} {dl : Int} {A : Option Addr} (h : Box w g 33 (dcells nm dl A n c)) : w.cell? ⟨g, 1, none⟩ = some (.int .i64 dl) := h.cell 1
theorem Dc2 {w : World} {g n c : Nat} {nm : ByteArray} {dl : Int} {A : Option Addr} (h : Box w g 33 (dcells nm dl A n c)) : w.cell? ⟨g, 2, none⟩ = some (.slice A n c) := h.cell 2
theorem sizeD : (Tryz.prog.info? 33).map (·.size) = some 3 := by kernel_rfl
theorem size_def (nm : ByteArray) (dl : Int) (A : Option Addr) (n c : Nat) : (Tryz.prog.info? 33).map (·.size) = some (dcells nm dl A n c).size := sizeD
theorem one_def (nm : ByteArray) (dl : Int) (A : Option Addr) (n c : Nat) : (dcells nm dl A n c).all (·.oneCell') = true := by simp [dcells, Value.oneCell']
/-- two blocks that a call has laid, behind a further call -/
theorem two_below {w w' : World} {cs cs' : Array Value} {t : TypeId} (h : Below ((w.alloc (.cells cs t)).alloc (.cells cs' t)).heap.size ((w.alloc (.cells cs t)).alloc (.cells cs' t)) w') : Box w' w.heap.size t cs ∧ Box w' (w.heap.size + 1) t cs' := by
  obtain ⟨h1, h2⟩ := two_box (w := w) (cs := cs) (cs' := cs') (t := t) (Made.refl _)
  exact ⟨h1.below h h1.lt, h2.below h h2.lt⟩
/-! ### End -/
theorem rof_any (n : Int) (w : World) :
    Calls Tryz.prog 91 #[.int .i64 n] w fun e w' => e = .returned (.int .i64 (ofT n)) ∧ w = w' := by
  go_enter Tryz.func91, Tryz.ntmps91
  go_wp2
  all_goals
    go_ret
    refine ⟨ret_int ?_, rfl⟩
    unfold ofT
    repeat' split
    all_goals omega
theorem radd_any (a b : Int) (w : World) :
    Calls Tryz.prog 56 #[.int .i64 a, .int .i64 b] w fun e w' => e = .returned (.int .i64 (addT a b)) ∧ w = w' := by
  have h1 := ofT_lo a; have h2 := ofT_hi a; have h3 := ofT_lo b; have h4 := ofT_hi b
  go_enter Tryz.func56, Tryz.ntmps56
  go_wp2_with (go_at_call 91; refine (rof_any _ _).mono ?_; rintro e w' ⟨rfl, rfl⟩)
  go_ret
  exact ⟨rfl, rfl⟩
set_option maxHeartbeats 1000000 in
theorem end_any (nm : ByteArray) (dl : Int) (A : Option Addr) (n c : Nat) (start : Int) (w : World) :
    Calls Tryz.prog 111 #[.agg #[.string nm, .int .i64 dl, .slice A n c], .int .i64 start] w fun e w' => e = .returned (.int .i64 (endT dl start)) ∧ Made w w' := by
  by_cases h : dl = 0
  · subst h
    go_enter Tryz.func111, Tryz.ntmps111
    go_wp2
    go_ret
    exact ⟨rfl, Made.alloc _ _⟩
  · have hb : (dl == 0) = false := by simpa using h
    have HE : Hid (endT dl start = addT start dl) := Lib.hid (by unfold endT; rw [if_neg h])
    clear h
    go_enter Tryz.func111, Tryz.ntmps111
    go_wp2_with (go_at_call 105; refine (Bo.tadd_any _ _ _).mono ?_; rintro e w' ⟨rfl, rfl⟩)
    go_ret
    exact ⟨ret_int HE.out.symm, Made.alloc _ _⟩
set_option maxHeartbeats 1000000 in
theorem rend_any (nm : ByteArray) (dl : Int) (A : Option Addr) (n c : Nat) (start : Int) (w : World) :
    Calls Tryz.prog 55 #[.agg #[.string nm, .int .i64 dl, .slice A n c], .int .i64 start] w fun e w' => e = .returned (.int .i64 (endT dl start)) ∧ Made w w' := by
  by_cases h : dl = 0
  · subst h
    go_enter Tryz.func55, Tryz.ntmps55
    go_wp2
    go_ret
    exact ⟨rfl, Made.alloc _ _⟩
  · have hb : (dl == 0) = false := by simpa using h
    have HE : Hid (endT dl start = addT start dl) := Lib.hid (by unfold endT; rw [if_neg h])
    clear h
    go_enter Tryz.func55, Tryz.ntmps55
    go_wp2_with (go_at_call 56; refine (radd_any _ _ _).mono ?_; rintro e w' ⟨rfl, rfl⟩)
    go_ret
    exact ⟨ret_int HE.out.symm, Made.alloc _ _⟩
end Go.Proofs.YteejocnogpaifaaGreatDoor.Df
