/-
  What the statement's do answers, where a file is there or is made.
  Conditions: at most 256 files; acts that are short.
-/
import Derived.Test.YthfekmmcdfkigaaStoDoc
namespace Go.Proofs.Ythfekmmcdfkigaa
open Go.RowKit

section
variable (A : Option Addr) (fs : List Fl) (c : Nat) (cap : Int) (a : ActD) (w : World)
set_option maxHeartbeats 1000000 in
set_option maxRecDepth 100000 in
theorem do_space_new (h : Fils w w.heap.size A fs) (hn : fs.length ≤ 256) (hc : fs.length ≤ c) {k : Nat} (hp : Pos fs a.s.data.toList k false) (hs : a.s.size ≤ 100) (h1 : a.kind ≤ 1) (hg : nameB a.s.data.toList = true) (hf : fs.length < 256) (hu : usedF fs ≤ 16777216) (hcap0 : 0 ≤ cap) (hcap : cap ≤ 16777216) (hbl : a.b.length ≤ 60) (hsp : cap - (usedF fs : Int) < (a.b.length : Int)) :
    Calls Try.prog 12 #[.slice A fs.length c, .bool false, .int .i64 cap, .agg #[.int .i64 a.kind, .int .i64 a.n, .string a.s, .slice a.ba a.b.length a.bc, .slice a.ka a.ks.length a.kc]] w (DoIs w A c fs fs false 13) := by
  have z6 : (a.kind == 6) = false := by simp; omega
  have z5 : (a.kind == 5) = false := by simp; omega
  have zl : decide (a.kind ≤ 1) = true := by simpa using h1
  have hb1 := fun o => (Below.refl w.heap.size w).alloc (Nat.le_refl _) o
  have HFd := Lib.hid (fun o => rfind_at A fs c a.s k false (w.alloc o) ((h.below (hb1 o)).more (by simp)) (by omega) hp)
  have HG : Hid (∀ W, Calls Try.prog 22 #[.string a.s] W fun e w' => e = .returned (.bool true) ∧ W = w') := Lib.hid (fun W => by have := rgood_any a.s W (by omega); rw [hg] at this; exact this)
  have zf : decide (256 ≤ (fs.length : Int)) = false := by simp; omega
  have HFil := Lib.hid h
  have zs : decide (cap - (usedF fs : Int) < (a.b.length : Int)) = true := by simpa using hsp
  have hw1 : IntKind.i64.wrap (cap - (usedF fs : Int)) = cap - (usedF fs : Int) := IntWalk.i64_in _ (by omega)
  clear hg hp h
  go_enter Try.func12, Try.ntmps12
  go_wp2_with fail
  refine (HFd.out _).mono ?_
  rintro e V ⟨rfl, m, hV⟩
  have hbV : Below w.heap.size w V := by rw [hV]; exact below_drewN (hb1 _) m
  have hbx : Box V w.heap.size 31 #[.int .i64 a.kind, .int .i64 a.n, .string a.s, .slice a.ba a.b.length a.bc, .slice a.ka a.ks.length a.kc] := by rw [hV]; exact (Box.new w _ _).drewN m
  have f0 : V.cell? ⟨w.heap.size, 0, none⟩ = some (.int .i64 a.kind) := hbx.cell 0
  have f1 : V.cell? ⟨w.heap.size, 1, none⟩ = some (.int .i64 a.n) := hbx.cell 1
  have f2 : V.cell? ⟨w.heap.size, 2, none⟩ = some (.string a.s) := hbx.cell 2
  have f3 : V.cell? ⟨w.heap.size, 3, none⟩ = some (.slice a.ba a.b.length a.bc) := hbx.cell 3
  have hlt := hbx.lt
  clear hV HFd hbx
  have HU : Hid (∀ m, Calls Try.prog 16 #[.slice A fs.length c] (V.drewN m) fun e w' => e = .returned (.int .i64 (usedF fs : Int)) ∧ w' = V.drewN m) := Lib.hid (fun m => (rused_any A fs c (V.drewN m) ((HFil.out.below (below_drewN hbV m)).more hbV.size) (by omega) (by omega)).mono fun e w' ⟨h1, h2⟩ => ⟨h1, h2.symm⟩)
  go_wp2_with (go_at_call 22; (with_reducible refine (HG.out _).mono ?_); rintro e w' ⟨rfl, rfl⟩)
  go_quiet ((go_at_call 16; exact Calls.quiet_of_same (HU.out _)))
  go_wp2
  go_ret3
  exact do_same hc (below_drewN hbV _) rfl
set_option maxHeartbeats 1000000 in
set_option maxRecDepth 100000 in
theorem do_space_old (h : Fils w w.heap.size A fs) (hn : fs.length ≤ 256) (hc : fs.length ≤ c) {k : Nat} (hp : Pos fs a.s.data.toList k true) (hs : a.s.size ≤ 100) (h1 : a.kind ≤ 1) (hg : nameB a.s.data.toList = true) (hu : usedF fs ≤ 16777216) (hcap0 : 0 ≤ cap) (hcap : cap ≤ 16777216) (hbl : a.b.length ≤ 60) (hsp : cap - (usedF fs : Int) < (a.b.length : Int)) :
    Calls Try.prog 12 #[.slice A fs.length c, .bool false, .int .i64 cap, .agg #[.int .i64 a.kind, .int .i64 a.n, .string a.s, .slice a.ba a.b.length a.bc, .slice a.ka a.ks.length a.kc]] w (DoIs w A c fs fs false 13) := by
  have z6 : (a.kind == 6) = false := by simp; omega
  have z5 : (a.kind == 5) = false := by simp; omega
  have zl : decide (a.kind ≤ 1) = true := by simpa using h1
  have hb1 := fun o => (Below.refl w.heap.size w).alloc (Nat.le_refl _) o
  have HFd := Lib.hid (fun o => rfind_at A fs c a.s k true (w.alloc o) ((h.below (hb1 o)).more (by simp)) (by omega) hp)
  have HG : Hid (∀ W, Calls Try.prog 22 #[.string a.s] W fun e w' => e = .returned (.bool true) ∧ W = w') := Lib.hid (fun W => by have := rgood_any a.s W (by omega); rw [hg] at this; exact this)
  have HFil := Lib.hid h
  have zs : decide (cap - (usedF fs : Int) < (a.b.length : Int)) = true := by simpa using hsp
  have hw1 : IntKind.i64.wrap (cap - (usedF fs : Int)) = cap - (usedF fs : Int) := IntWalk.i64_in _ (by omega)
  clear hg hp h
  go_enter Try.func12, Try.ntmps12
  go_wp2_with fail
  refine (HFd.out _).mono ?_
  rintro e V ⟨rfl, m, hV⟩
  have hbV : Below w.heap.size w V := by rw [hV]; exact below_drewN (hb1 _) m
  have hbx : Box V w.heap.size 31 #[.int .i64 a.kind, .int .i64 a.n, .string a.s, .slice a.ba a.b.length a.bc, .slice a.ka a.ks.length a.kc] := by rw [hV]; exact (Box.new w _ _).drewN m
  have f0 : V.cell? ⟨w.heap.size, 0, none⟩ = some (.int .i64 a.kind) := hbx.cell 0
  have f1 : V.cell? ⟨w.heap.size, 1, none⟩ = some (.int .i64 a.n) := hbx.cell 1
  have f2 : V.cell? ⟨w.heap.size, 2, none⟩ = some (.string a.s) := hbx.cell 2
  have f3 : V.cell? ⟨w.heap.size, 3, none⟩ = some (.slice a.ba a.b.length a.bc) := hbx.cell 3
  have hlt := hbx.lt
  clear hV HFd hbx
  have HU : Hid (∀ m, Calls Try.prog 16 #[.slice A fs.length c] (V.drewN m) fun e w' => e = .returned (.int .i64 (usedF fs : Int)) ∧ w' = V.drewN m) := Lib.hid (fun m => (rused_any A fs c (V.drewN m) ((HFil.out.below (below_drewN hbV m)).more hbV.size) (by omega) (by omega)).mono fun e w' ⟨h1, h2⟩ => ⟨h1, h2.symm⟩)
  go_wp2_with (go_at_call 22; (with_reducible refine (HG.out _).mono ?_); rintro e w' ⟨rfl, rfl⟩)
  go_quiet ((go_at_call 16; exact Calls.quiet_of_same (HU.out _)))
  go_wp2
  go_ret3
  exact do_same hc (below_drewN hbV _) rfl
theorem do_arg (h : Fils w w.heap.size A fs) (hn : fs.length ≤ 256) (hc : fs.length ≤ c) {k : Nat} (hp : Pos fs a.s.data.toList k true) (hk : k < fs.length) (h3 : a.kind = 3) (ha : a.n < 0 ∨ (fs[k].bs.length : Int) < a.n) :
    Calls Try.prog 12 #[.slice A fs.length c, .bool false, .int .i64 cap, .agg #[.int .i64 a.kind, .int .i64 a.n, .string a.s, .slice a.ba a.b.length a.bc, .slice a.ka a.ks.length a.kc]] w (DoIs w A c fs fs false 1) := by
  have z6 : (a.kind == 6) = false := by simp; omega
  have z5 : (a.kind == 5) = false := by simp; omega
  have zl : decide (a.kind ≤ 1) = false := by simp; omega
  have z2 : (a.kind == 2) = false := by simp; omega
  have z3 : (a.kind == 3) = true := by simpa using h3
  have hb1 := fun o => (Below.refl w.heap.size w).alloc (Nat.le_refl _) o
  have HFd := Lib.hid (fun o => rfind_at A fs c a.s k true (w.alloc o) ((h.below (hb1 o)).more (by simp)) (by omega) hp)
  have HFil := Lib.hid h
  clear hp h h3
  go_enter Try.func12, Try.ntmps12
  go_wp2_with fail
  refine (HFd.out _).mono ?_
  rintro e V ⟨rfl, m, hV⟩
  have hbV : Below w.heap.size w V := by rw [hV]; exact below_drewN (hb1 _) m
  have hbx : Box V w.heap.size 31 #[.int .i64 a.kind, .int .i64 a.n, .string a.s, .slice a.ba a.b.length a.bc, .slice a.ka a.ks.length a.kc] := by rw [hV]; exact (Box.new w _ _).drewN m
  have f0 : V.cell? ⟨w.heap.size, 0, none⟩ = some (.int .i64 a.kind) := hbx.cell 0
  have f1 : V.cell? ⟨w.heap.size, 1, none⟩ = some (.int .i64 a.n) := hbx.cell 1
  have f2 : V.cell? ⟨w.heap.size, 2, none⟩ = some (.string a.s) := hbx.cell 2
  have f3 : V.cell? ⟨w.heap.size, 3, none⟩ = some (.slice a.ba a.b.length a.bc) := hbx.cell 3
  have hlt := hbx.lt
  clear hV HFd hbx
  obtain ⟨b, o, rfl, hbl', c0, c1, c2, c3⟩ := (HFil.out.below hbV).four hk
  have hsz : (str fs[k].bs).size = fs[k].bs.length := str_size _
  generalize str fs[k].bs = s2 at c1 hsz
  rw [← hsz] at ha
  have hbV2 : b < V.heap.size := Nat.lt_of_lt_of_le hbl' hbV.size
  clear hsz
  by_cases ha0 : a.n < 0
  · clear ha
    go_wp2
    go_ret3
    exact do_same hc (hbV.alloc hbV.size _) rfl
  · have ha1 : (s2.size : Int) < a.n := by omega
    clear ha
    go_wp2
    go_ret3
    exact do_same hc (hbV.alloc hbV.size _) rfl
set_option maxHeartbeats 1000000 in
set_option maxRecDepth 100000 in
theorem do_remove (h : Fils w w.heap.size A fs) (hn : fs.length ≤ 256) (hc : fs.length ≤ c) {k : Nat} (hp : Pos fs a.s.data.toList k true) (hk : k < fs.length) (h4 : a.kind = 4) :
    Calls Try.prog 12 #[.slice A fs.length c, .bool false, .int .i64 cap, .agg #[.int .i64 a.kind, .int .i64 a.n, .string a.s, .slice a.ba a.b.length a.bc, .slice a.ka a.ks.length a.kc]] w (DoIs w A c fs (fs.take k ++ fs.drop (k + 1)) false 0) := by
  have z6 : (a.kind == 6) = false := by simp; omega
  have z5 : (a.kind == 5) = false := by simp; omega
  have zl : decide (a.kind ≤ 1) = false := by simp; omega
  have z2 : (a.kind == 2) = false := by simp; omega
  have z3 : (a.kind == 3) = false := by simp; omega
  have hb1 := fun o => (Below.refl w.heap.size w).alloc (Nat.le_refl _) o
  have HFd := Lib.hid (fun o => rfind_at A fs c a.s k true (w.alloc o) ((h.below (hb1 o)).more (by simp)) (by omega) hp)
  have HFil := Lib.hid h
  clear hp h h4
  go_enter Try.func12, Try.ntmps12
  go_wp2_with fail
  refine (HFd.out _).mono ?_
  rintro e V ⟨rfl, m, hV⟩
  have hbV : Below w.heap.size w V := by rw [hV]; exact below_drewN (hb1 _) m
  have hbx : Box V w.heap.size 31 #[.int .i64 a.kind, .int .i64 a.n, .string a.s, .slice a.ba a.b.length a.bc, .slice a.ka a.ks.length a.kc] := by rw [hV]; exact (Box.new w _ _).drewN m
  have f0 : V.cell? ⟨w.heap.size, 0, none⟩ = some (.int .i64 a.kind) := hbx.cell 0
  have f1 : V.cell? ⟨w.heap.size, 1, none⟩ = some (.int .i64 a.n) := hbx.cell 1
  have f2 : V.cell? ⟨w.heap.size, 2, none⟩ = some (.string a.s) := hbx.cell 2
  have f3 : V.cell? ⟨w.heap.size, 3, none⟩ = some (.slice a.ba a.b.length a.bc) := hbx.cell 3
  have hlt := hbx.lt
  clear hV HFd hbx
  obtain ⟨b, o, rfl, hbl', c0, c1, c2, c3⟩ := (HFil.out.below hbV).four hk
  have hbV2 : b < V.heap.size := Nat.lt_of_lt_of_le hbl' hbV.size
  have HW := Lib.hid (fun U (hU : Below w.heap.size w U) => rwithout_any (some ⟨b, o, none⟩) fs c k U ((HFil.out.below hU).more hU.size) (by omega) hc hk)
  go_wp2_with fail
  refine (HW.out _ (hbV.alloc hbV.size _)).mono ?_
  rintro e W2 ⟨v, rfl, hrow, hb2⟩
  go_wp2
  go_ret3
  exact do_new hrow (hbV.alloc hbV.size _) hb2 rfl
end
end Go.Proofs.Ythfekmmcdfkigaa
