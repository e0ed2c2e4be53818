/-
  What the laws of sagas have in common: their own definition's block; the library's table of powers of ten out of what their rows list.
  Conditions: as each theorem names them.
-/
import Derived.Test.YtkmldgcnbjjbcaaGreatDoorSagAwake
import Derived.Test.YtkmldgcnbjjbcaaGreatDoorSagArg
import Derived.Test.YtkmldgcnbjjbcaaGreatDoorDefSmall
import Derived.Test.YtkmldgcnbjjbcaaGreatDoorDefRCheck
import Derived.Test.YtkmldgcnbjjbcaaGreatDoorCards
import Derived.Test.YtkmldgcnbjjbcaaGreatDoorTie
import Derived.Test.YtkmldgcnbjjbcaaGreatDoorFrame
import Derived.Lib.LaidTab
import Derived.Stop.LaidErr
import Derived.ProofKit
import Derived.OpenShut
import Derived.ShutString
import Derived.LaidMore
import Derived.Lay
import Derived.Shelf.Vars
import Derived.Stop.Joined
import Derived.LoopTactic
import Derived.WalkMore
namespace Go.Proofs.YtkmldgcnbjjbcaaGreatDoor.Sa
open Go.RowKit
open Go.Proofs.YtkmldgcnbjjbcaaGreatDoor.El
open Go.Proofs.YtkmldgcnbjjbcaaGreatDoor.Bo (P Made)
open Go.Proofs.YtkmldgcnbjjbcaaGreatDoor.Df

/-- a law's own definition, in its first block -/
structure Ld (w u : World) (nm : ByteArray) (dl : Int) (A : Option Addr) (n c : Nat) : Prop where
  d : Box u w.heap.size 24 #[.string nm, .int .i64 dl, .slice A n c]
  b : Below w.heap.size w u
section
variable {w u u' : World} {nm : ByteArray} {dl : Int} {A : Option Addr} {n c : Nat}
theorem ld_start (h : Below (w.alloc (.cells #[.string nm, .int .i64 dl, .slice A n c] 24)).heap.size (w.alloc (.cells #[.string nm, .int .i64 dl, .slice A n c] 24)) u) : Ld w u nm dl A n c :=
  ⟨(Box.new w _ _).below h (Box.new w 24 #[.string nm, .int .i64 dl, .slice A n c]).lt, (al1 w _).trans (h.mono (al1 w _).size)⟩
theorem Ld.on (h : Ld w u nm dl A n c) (hb : Below u.heap.size u u') : Ld w u' nm dl A n c := ⟨h.d.below hb h.d.lt, h.b.trans (hb.mono h.b.size)⟩
theorem Ld.cd (h : Ld w u nm dl A n c) : u.cell? ⟨w.heap.size, 0, none⟩ = some (.string nm) ∧ u.cell? ⟨w.heap.size, 1, none⟩ = some (.int .i64 dl) ∧ u.cell? ⟨w.heap.size, 2, none⟩ = some (.slice A n c) := ⟨h.d.cell 0, h.d.cell 1, h.d.cell 2⟩
theorem Ld.setDl (h : Ld w u nm dl A n c) (x : Int) : Ld w (u.setCell ⟨w.heap.size, 1, none⟩ (.int .i64 x)) nm x A n c :=
  ⟨h.d.put 1 _, h.b.trans ⟨rfl, rfl, rfl, by simp [World.setCell], fun k hk => Below.heap_setCell u ⟨w.heap.size, 1, none⟩ _ k (by show k ≠ w.heap.size; omega)⟩⟩
theorem Ld.aw {s : Sg} (h : Ld w u nm dl A n c) (hm : Below (u.alloc (.cells #[.int .i64 s.id, .string s.dn, .int .i64 s.st, .int .i64 s.ph, .int .i64 s.sp, .int .i64 s.tr, .bool s.out, .int .i64 s.at_, .int .i64 s.sk] 26)).heap.size (u.alloc (.cells #[.int .i64 s.id, .string s.dn, .int .i64 s.st, .int .i64 s.ph, .int .i64 s.sp, .int .i64 s.tr, .bool s.out, .int .i64 s.at_, .int .i64 s.sk] 26)) u') : Aw w u' w.heap.size u.heap.size nm dl A n c s := aw_start h.b h.d hm
theorem bel_al (h : Below w.heap.size w u) (o : Obj) : Below w.heap.size w (u.alloc o) := h.trans ((al1 u o).mono h.size)
theorem bel_al2 (h : Below w.heap.size w u) (o o' : Obj) : Below w.heap.size w ((u.alloc o).alloc o') := bel_al (bel_al h o) o'
theorem al2 (u : World) (o o' : Obj) : Below u.heap.size u ((u.alloc o).alloc o') := bel_al2 (Below.refl _ _) o o'
end
end Go.Proofs.YtkmldgcnbjjbcaaGreatDoor.Sa
