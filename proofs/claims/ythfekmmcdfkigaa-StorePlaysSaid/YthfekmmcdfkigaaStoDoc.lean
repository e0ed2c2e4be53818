/-
  What the statement's do answers: an act by the document.
  Conditions: at most 256 files; acts that are short.
-/
import Derived.Test.YthfekmmcdfkigaaStoRefBoot
import Derived.Test.YthfekmmcdfkigaaLabRefs
namespace Go.Proofs.Ythfekmmcdfkigaa
open Go.RowKit

/-- the answer of do: the files then, whether the power is gone, and an error's number -/
def DoIs (w : World) (A : Option Addr) (c : Nat) (fs y : List Fl) (gone : Bool) (want : Nat) (e : Ending) (w' : World) : Prop :=
  ∃ A' c', e = .returned (.tuple #[.slice A' y.length c', .bool gone, .int .i64 (want : Int)]) ∧ y.length ≤ c' ∧ ((A' = A ∧ c' = c ∧ y = fs) ∨ w'.ownsRow w.heap.size 44 4 (.slice A' y.length c') y.length (cellsF y)) ∧ Below w.heap.size w w'
theorem do_same {w w' : World} {A : Option Addr} {c : Nat} {fs : List Fl} {gone : Bool} {want : Nat} {z : Int} (hc : fs.length ≤ c) (hb : Below w.heap.size w w') (hz : (want : Int) = z) : DoIs w A c fs fs gone want (.returned (.tuple #[.slice A fs.length c, .bool gone, .int .i64 z])) w' :=
  ⟨A, c, by rw [hz], hc, .inl ⟨rfl, rfl, rfl⟩, hb⟩
theorem do_new {w w1 w' : World} {A : Option Addr} {c : Nat} {fs y : List Fl} {gone : Bool} {want : Nat} {z : Int} {v : Value} (h : w'.ownsRow w1.heap.size 44 4 v y.length (cellsF y)) (hw : Below w.heap.size w w1) (hb : Below w1.heap.size w1 w') (hz : (want : Int) = z) :
    DoIs w A c fs y gone want (.returned (.tuple #[v, .bool gone, .int .i64 z])) w' := by
  obtain ⟨A', c', rfl, hc'⟩ := own_form4 h
  exact ⟨A', c', by rw [hz], hc', .inr (own_base4 h hw.size), hw.trans (hb.mono hw.size)⟩
theorem below_drewN {B : Nat} {a w : World} (h : Below B a w) (n : Nat) : Below B a (w.drewN n) := ⟨h.os, h.tape, h.output, h.size, h.block⟩

section
variable (A : Option Addr) (fs : List Fl) (c : Nat) (cap : Int) (a : ActD) (w : World)
theorem do_boot_up (hc : fs.length ≤ c) (h6 : a.kind = 6) :
    Calls Try.prog 12 #[.slice A fs.length c, .bool false, .int .i64 cap, .agg #[.int .i64 a.kind, .int .i64 a.n, .string a.s, .slice a.ba a.b.length a.bc, .slice a.ka a.ks.length a.kc]] w (DoIs w A c fs fs false 9) := by
  have z6 : (a.kind == 6) = true := by simpa using h6
  clear h6
  have hb1 := fun o => (Below.refl w.heap.size w).alloc (Nat.le_refl _) o
  go_enter Try.func12, Try.ntmps12
  go_wp2
  go_ret3
  exact do_same hc (hb1 _) rfl
set_option maxRecDepth 100000 in
theorem do_boot (h : Fils w w.heap.size A fs) (hn : fs.length ≤ 256) {B : Nat} (hok : a.Ok w B) (hB : B ≤ w.heap.size) (ho : okA a) (hs : ∀ f ∈ fs, f.safe ≤ f.bs.length) (hbl : ∀ f ∈ fs, f.bs.length ≤ 16777216) (h6 : a.kind = 6) :
    Calls Try.prog 12 #[.slice A fs.length c, .bool true, .int .i64 cap, .agg #[.int .i64 a.kind, .int .i64 a.n, .string a.s, .slice a.ba a.b.length a.bc, .slice a.ka a.ks.length a.kc]] w (DoIs w A c fs (bootF fs a.ks) false 0) := by
  have z6 : (a.kind == 6) = true := by simpa using h6
  have hb1 := fun o => (Below.refl w.heap.size w).alloc (Nat.le_refl _) o
  have HC := Lib.hid (fun o => rboot_any A fs c a.ka a.ks a.kc (w.alloc o) ((h.below (hb1 o)).more (by simp)) (by omega) (((hok.ints.more (fun i hi => Nat.lt_of_lt_of_le hi hB)).keep (Keep.of_below (hb1 o))).more (fun i hi => by simp; omega)) (by have := ho.2.2; omega) hs hbl)
  clear h6 h hok hs hbl
  go_enter Try.func12, Try.ntmps12
  go_wp2_with fail
  refine (HC.out _).mono ?_
  rintro e W2 ⟨v, rfl, hrow, hb2⟩
  go_wp2
  go_ret3
  exact do_new hrow (hb1 _) hb2 rfl
theorem do_crash (down : Bool) (hc : fs.length ≤ c) (h5 : a.kind = 5) :
    Calls Try.prog 12 #[.slice A fs.length c, .bool down, .int .i64 cap, .agg #[.int .i64 a.kind, .int .i64 a.n, .string a.s, .slice a.ba a.b.length a.bc, .slice a.ka a.ks.length a.kc]] w (DoIs w A c fs fs true 0) := by
  have z6 : (a.kind == 6) = false := by simp; omega
  have z5 : (a.kind == 5) = true := by simpa using h5
  clear h5
  have hb1 := fun o => (Below.refl w.heap.size w).alloc (Nat.le_refl _) o
  go_enter Try.func12, Try.ntmps12
  go_wp2
  go_ret3
  exact do_same hc (hb1 _) rfl
theorem do_down (hc : fs.length ≤ c) (h5 : a.kind ≤ 4) :
    Calls Try.prog 12 #[.slice A fs.length c, .bool true, .int .i64 cap, .agg #[.int .i64 a.kind, .int .i64 a.n, .string a.s, .slice a.ba a.b.length a.bc, .slice a.ka a.ks.length a.kc]] w (DoIs w A c fs fs true 12) := by
  have z6 : (a.kind == 6) = false := by simp; omega
  have z5 : (a.kind == 5) = false := by simp; omega
  have hb1 := fun o => (Below.refl w.heap.size w).alloc (Nat.le_refl _) o
  go_enter Try.func12, Try.ntmps12
  go_wp2
  go_ret3
  exact do_same hc (hb1 _) rfl
theorem do_name (h : Fils w w.heap.size A fs) (hn : fs.length ≤ 256) (hc : fs.length ≤ c) {k : Nat} {b : Bool} (hp : Pos fs a.s.data.toList k b) (hs : a.s.size ≤ 100) (h1 : a.kind ≤ 1) (hg : nameB a.s.data.toList = false) :
    Calls Try.prog 12 #[.slice A fs.length c, .bool false, .int .i64 cap, .agg #[.int .i64 a.kind, .int .i64 a.n, .string a.s, .slice a.ba a.b.length a.bc, .slice a.ka a.ks.length a.kc]] w (DoIs w A c fs fs false 10) := by
  have z6 : (a.kind == 6) = false := by simp; omega
  have z5 : (a.kind == 5) = false := by simp; omega
  have zl : decide (a.kind ≤ 1) = true := by simpa using h1
  have hb1 := fun o => (Below.refl w.heap.size w).alloc (Nat.le_refl _) o
  have HFd := Lib.hid (fun o => rfind_at A fs c a.s k b (w.alloc o) ((h.below (hb1 o)).more (by simp)) (by omega) hp)
  have HG : Hid (∀ W, Calls Try.prog 22 #[.string a.s] W fun e w' => e = .returned (.bool false) ∧ W = w') := Lib.hid (fun W => by have := rgood_any a.s W (by omega); rw [hg] at this; exact this)
  clear hg hp h
  go_enter Try.func12, Try.ntmps12
  go_wp2_with fail
  refine (HFd.out _).mono ?_
  rintro e V ⟨rfl, m, hV⟩
  have hbV : Below w.heap.size w V := by rw [hV]; exact below_drewN (hb1 _) m
  have hbx : Box V w.heap.size 31 #[.int .i64 a.kind, .int .i64 a.n, .string a.s, .slice a.ba a.b.length a.bc, .slice a.ka a.ks.length a.kc] := by rw [hV]; exact (Box.new w _ _).drewN m
  have f0 : V.cell? ⟨w.heap.size, 0, none⟩ = some (.int .i64 a.kind) := hbx.cell 0
  have f1 : V.cell? ⟨w.heap.size, 1, none⟩ = some (.int .i64 a.n) := hbx.cell 1
  have f2 : V.cell? ⟨w.heap.size, 2, none⟩ = some (.string a.s) := hbx.cell 2
  have f3 : V.cell? ⟨w.heap.size, 3, none⟩ = some (.slice a.ba a.b.length a.bc) := hbx.cell 3
  have hlt := hbx.lt
  clear hV HFd hbx
  go_wp2_with (go_at_call 22; (with_reducible refine (HG.out _).mono ?_); rintro e w' ⟨rfl, rfl⟩)
  go_ret3
  exact do_same hc hbV rfl
theorem do_full (h : Fils w w.heap.size A fs) (hn : fs.length ≤ 256) (hc : fs.length ≤ c) {k : Nat} (hp : Pos fs a.s.data.toList k false) (hs : a.s.size ≤ 100) (h1 : a.kind ≤ 1) (hg : nameB a.s.data.toList = true) (hf : 256 ≤ fs.length) :
    Calls Try.prog 12 #[.slice A fs.length c, .bool false, .int .i64 cap, .agg #[.int .i64 a.kind, .int .i64 a.n, .string a.s, .slice a.ba a.b.length a.bc, .slice a.ka a.ks.length a.kc]] w (DoIs w A c fs fs false 8) := by
  have z6 : (a.kind == 6) = false := by simp; omega
  have z5 : (a.kind == 5) = false := by simp; omega
  have zl : decide (a.kind ≤ 1) = true := by simpa using h1
  have hb1 := fun o => (Below.refl w.heap.size w).alloc (Nat.le_refl _) o
  have HFd := Lib.hid (fun o => rfind_at A fs c a.s k false (w.alloc o) ((h.below (hb1 o)).more (by simp)) (by omega) hp)
  have HG : Hid (∀ W, Calls Try.prog 22 #[.string a.s] W fun e w' => e = .returned (.bool true) ∧ W = w') := Lib.hid (fun W => by have := rgood_any a.s W (by omega); rw [hg] at this; exact this)
  have zf : decide (256 ≤ (fs.length : Int)) = true := by simp; omega
  clear hg hp h
  go_enter Try.func12, Try.ntmps12
  go_wp2_with fail
  refine (HFd.out _).mono ?_
  rintro e V ⟨rfl, m, hV⟩
  have hbV : Below w.heap.size w V := by rw [hV]; exact below_drewN (hb1 _) m
  have hbx : Box V w.heap.size 31 #[.int .i64 a.kind, .int .i64 a.n, .string a.s, .slice a.ba a.b.length a.bc, .slice a.ka a.ks.length a.kc] := by rw [hV]; exact (Box.new w _ _).drewN m
  have f0 : V.cell? ⟨w.heap.size, 0, none⟩ = some (.int .i64 a.kind) := hbx.cell 0
  have f1 : V.cell? ⟨w.heap.size, 1, none⟩ = some (.int .i64 a.n) := hbx.cell 1
  have f2 : V.cell? ⟨w.heap.size, 2, none⟩ = some (.string a.s) := hbx.cell 2
  have f3 : V.cell? ⟨w.heap.size, 3, none⟩ = some (.slice a.ba a.b.length a.bc) := hbx.cell 3
  have hlt := hbx.lt
  clear hV HFd hbx
  go_wp2_with (go_at_call 22; (with_reducible refine (HG.out _).mono ?_); rintro e w' ⟨rfl, rfl⟩)
  go_ret3
  exact do_same hc hbV rfl
theorem do_none (h : Fils w w.heap.size A fs) (hn : fs.length ≤ 256) (hc : fs.length ≤ c) {k : Nat} (hp : Pos fs a.s.data.toList k false) (h1 : 2 ≤ a.kind) (h4 : a.kind ≤ 4) :
    Calls Try.prog 12 #[.slice A fs.length c, .bool false, .int .i64 cap, .agg #[.int .i64 a.kind, .int .i64 a.n, .string a.s, .slice a.ba a.b.length a.bc, .slice a.ka a.ks.length a.kc]] w (DoIs w A c fs fs false 7) := by
  have z6 : (a.kind == 6) = false := by simp; omega
  have z5 : (a.kind == 5) = false := by simp; omega
  have zl : decide (a.kind ≤ 1) = false := by simp; omega
  have hb1 := fun o => (Below.refl w.heap.size w).alloc (Nat.le_refl _) o
  have HFd := Lib.hid (fun o => rfind_at A fs c a.s k false (w.alloc o) ((h.below (hb1 o)).more (by simp)) (by omega) hp)
  clear hp h
  go_enter Try.func12, Try.ntmps12
  go_wp2_with fail
  refine (HFd.out _).mono ?_
  rintro e V ⟨rfl, m, hV⟩
  have hbV : Below w.heap.size w V := by rw [hV]; exact below_drewN (hb1 _) m
  have hbx : Box V w.heap.size 31 #[.int .i64 a.kind, .int .i64 a.n, .string a.s, .slice a.ba a.b.length a.bc, .slice a.ka a.ks.length a.kc] := by rw [hV]; exact (Box.new w _ _).drewN m
  have f0 : V.cell? ⟨w.heap.size, 0, none⟩ = some (.int .i64 a.kind) := hbx.cell 0
  have f1 : V.cell? ⟨w.heap.size, 1, none⟩ = some (.int .i64 a.n) := hbx.cell 1
  have f2 : V.cell? ⟨w.heap.size, 2, none⟩ = some (.string a.s) := hbx.cell 2
  have f3 : V.cell? ⟨w.heap.size, 3, none⟩ = some (.slice a.ba a.b.length a.bc) := hbx.cell 3
  have hlt := hbx.lt
  clear hV HFd hbx
  go_wp2
  go_ret3
  exact do_same hc hbV rfl
end
end Go.Proofs.Ythfekmmcdfkigaa
