/-
  What plan, triesLeft and goodTries of package saga answer, and the document's own Plan, Wait and Left.
  Conditions: the steps lie in memory, the saga's step is one of them; the plan is right, where a contract asks it.
-/
import Derived.Test.YteejocnogpaifaaGreatDoorSagDone
import Derived.Test.YteejocnogpaifaaGreatDoorMrg1
import Derived.Test.YteejocnogpaifaaGreatDoorMrg2
namespace Go.Proofs.YteejocnogpaifaaGreatDoor.Sa
open Go.RowKit Go.Sort
open Go.Proofs.YteejocnogpaifaaGreatDoor.El
open Go.Proofs.YteejocnogpaifaaGreatDoor.Bo (P Made ret_int ret_bool left wait)
open Go.Proofs.YteejocnogpaifaaGreatDoor.Df

theorem sizeP (p : P) : (Tryz.prog.info? 52).map (·.size) = some p.cells.size := by
  show (Tryz.prog.info? 52).map (·.size) = some 4
  kernel_rfl
theorem res_plan {fn : Func} {q : Tmp} (h : fn.results = #[.cell q 52]) (tmps : Array Value) (w : World) (g : Nat) (p : P) (hp : tmps.getD q undef = .pointer (some ⟨g, 0, none⟩)) (hg : Box w g 52 p.cells) :
    (results fn tmps).run Tryz.prog w = .ok (.agg p.cells) w := results_cell_row h tmps w g 52 p.cells (0, 0) _ hp hg Tryz.underlying52 rfl (sizeP p)
/-- a plan's retries, out of it as a value -/
theorem field_plan (a b c d : Int) (w : World) : (Instr.field 52 (.agg #[.int .i64 a, .int .i64 b, .int .i64 c, .int .i64 d]) 0).run Tryz.prog w = .ok (.int .i64 a) w := by
  kernel_rfl
theorem made3 (w : World) (o o' o2 : Obj) : Made w (((w.alloc o).alloc o').alloc o2) := ((Made.alloc _ _).trans (Made.alloc _ _)).trans (Made.alloc _ _)
section
variable (nm : ByteArray) (dl : Int) (A : Option Addr) (n c : Nat) (ss : List Stp) (s : Sg) (w : World) (hn : n = ss.length) (hS : Df.Steps w w.heap.size A ss) (h0 : 0 ≤ s.sp) (h1 : s.sp < n)
include hn hS h0 h1
set_option maxRecDepth 100000 in
set_option maxHeartbeats 2000000 in
theorem plan_any : Calls Tryz.prog 119 #[.agg #[.string nm, .int .i64 dl, .slice A n c], .agg #[.int .i64 s.id, .string s.dn, .int .i64 s.st, .int .i64 s.ph, .int .i64 s.sp, .int .i64 s.tr, .bool s.out, .int .i64 s.at_, .int .i64 s.sk]] w fun e w' => e = .returned (.agg #[.int .i64 (planOf ss s).r, .int .i64 (planOf ss s).b, .int .i64 (planOf ss s).f, .int .i64 (planOf ss s).c]) ∧ Made w w' := by
  have hx := stp_at (ss := ss) h0 (by omega)
  have hP : planOf ss s = if s.ph = 0 then (stp ss s.sp).t else (stp ss s.sp).u := rfl
  generalize planOf ss s = p at hP ⊢
  generalize stp ss s.sp = x at hx hP
  obtain ⟨k, hk⟩ : ∃ k : Nat, s.sp = (k : Int) := ⟨s.sp.toNat, by omega⟩
  rw [hk] at h1 hx ⊢
  rw [Int.toNat_natCast] at hx
  obtain ⟨b, o, rfl, hbl⟩ := hS.at_ hx
  have HS := Lib.hid (fun w' (h : Below w.heap.size w w') => hS.on h)
  have hkn : k < n := by omega
  have HX := Lib.hid hx
  have HM := Lib.hid (made3 w)
  clear hn hS hx hk h0 h1
  by_cases hp : s.ph = 0
  · rw [if_pos hp] at hP
    subst hP
    have g0 : (s.ph == 0) = true := by simpa using hp
    clear hp
    have c3 : ∀ o1 o2 o3, (((w.alloc o1).alloc o2).alloc o3).cell? ⟨b, o + k * 12 + 3, none⟩ = some (.int .i64 x.t.r) := fun o1 o2 o3 => (HS.out _ (HM.out o1 o2 o3).below).get HX.out 3 rfl
    have c4 : ∀ o1 o2 o3, (((w.alloc o1).alloc o2).alloc o3).cell? ⟨b, o + k * 12 + 4, none⟩ = some (.int .i64 x.t.b) := fun o1 o2 o3 => (HS.out _ (HM.out o1 o2 o3).below).get HX.out 4 rfl
    have c5 : ∀ o1 o2 o3, (((w.alloc o1).alloc o2).alloc o3).cell? ⟨b, o + k * 12 + 5, none⟩ = some (.int .i64 x.t.f) := fun o1 o2 o3 => (HS.out _ (HM.out o1 o2 o3).below).get HX.out 5 rfl
    have c6 : ∀ o1 o2 o3, (((w.alloc o1).alloc o2).alloc o3).cell? ⟨b, o + k * 12 + 6, none⟩ = some (.int .i64 x.t.c) := fun o1 o2 o3 => (HS.out _ (HM.out o1 o2 o3).below).get HX.out 6 rfl
    go_enter Tryz.func119, Tryz.ntmps119
    go_wp2
    exact bodyPost_ret (res_plan rfl _ _ (w.heap.size + 2) x.t rfl (box_new3 w _ _ _ _)) rfl ⟨rfl, HM.out _ _ _⟩
  · rw [if_neg hp] at hP
    subst hP
    have g0 : (s.ph == 0) = false := by simpa using hp
    clear hp
    have c3 : ∀ o1 o2 o3, (((w.alloc o1).alloc o2).alloc o3).cell? ⟨b, o + k * 12 + 7, none⟩ = some (.int .i64 x.u.r) := fun o1 o2 o3 => (HS.out _ (HM.out o1 o2 o3).below).get HX.out 7 rfl
    have c4 : ∀ o1 o2 o3, (((w.alloc o1).alloc o2).alloc o3).cell? ⟨b, o + k * 12 + 8, none⟩ = some (.int .i64 x.u.b) := fun o1 o2 o3 => (HS.out _ (HM.out o1 o2 o3).below).get HX.out 8 rfl
    have c5 : ∀ o1 o2 o3, (((w.alloc o1).alloc o2).alloc o3).cell? ⟨b, o + k * 12 + 9, none⟩ = some (.int .i64 x.u.f) := fun o1 o2 o3 => (HS.out _ (HM.out o1 o2 o3).below).get HX.out 9 rfl
    have c6 : ∀ o1 o2 o3, (((w.alloc o1).alloc o2).alloc o3).cell? ⟨b, o + k * 12 + 10, none⟩ = some (.int .i64 x.u.c) := fun o1 o2 o3 => (HS.out _ (HM.out o1 o2 o3).below).get HX.out 10 rfl
    go_enter Tryz.func119, Tryz.ntmps119
    go_wp2
    exact bodyPost_ret (res_plan rfl _ _ (w.heap.size + 2) x.u rfl (box_new3 w _ _ _ _)) rfl ⟨rfl, HM.out _ _ _⟩
set_option maxRecDepth 100000 in
set_option maxHeartbeats 2000000 in
theorem rplan_any : Calls Tryz.prog 54 #[.agg #[.string nm, .int .i64 dl, .slice A n c], .agg #[.int .i64 s.id, .string s.dn, .int .i64 s.st, .int .i64 s.ph, .int .i64 s.sp, .int .i64 s.tr, .bool s.out, .int .i64 s.at_, .int .i64 s.sk]] w fun e w' => e = .returned (.agg #[.int .i64 (planOf ss s).r, .int .i64 (planOf ss s).b, .int .i64 (planOf ss s).f, .int .i64 (planOf ss s).c]) ∧ Made w w' := by
  have hx := stp_at (ss := ss) h0 (by omega)
  have hP : planOf ss s = if s.ph = 0 then (stp ss s.sp).t else (stp ss s.sp).u := rfl
  generalize planOf ss s = p at hP ⊢
  generalize stp ss s.sp = x at hx hP
  obtain ⟨k, hk⟩ : ∃ k : Nat, s.sp = (k : Int) := ⟨s.sp.toNat, by omega⟩
  rw [hk] at h1 hx ⊢
  rw [Int.toNat_natCast] at hx
  obtain ⟨b, o, rfl, hbl⟩ := hS.at_ hx
  have HS := Lib.hid (fun w' (h : Below w.heap.size w w') => hS.on h)
  have hkn : k < n := by omega
  have HX := Lib.hid hx
  have HM := Lib.hid (made3 w)
  clear hn hS hx hk h0 h1
  by_cases hp : s.ph = 0
  · rw [if_pos hp] at hP
    subst hP
    have g0 : (s.ph == 0) = true := by simpa using hp
    clear hp
    have c3 : ∀ o1 o2 o3, (((w.alloc o1).alloc o2).alloc o3).cell? ⟨b, o + k * 12 + 3, none⟩ = some (.int .i64 x.t.r) := fun o1 o2 o3 => (HS.out _ (HM.out o1 o2 o3).below).get HX.out 3 rfl
    have c4 : ∀ o1 o2 o3, (((w.alloc o1).alloc o2).alloc o3).cell? ⟨b, o + k * 12 + 4, none⟩ = some (.int .i64 x.t.b) := fun o1 o2 o3 => (HS.out _ (HM.out o1 o2 o3).below).get HX.out 4 rfl
    have c5 : ∀ o1 o2 o3, (((w.alloc o1).alloc o2).alloc o3).cell? ⟨b, o + k * 12 + 5, none⟩ = some (.int .i64 x.t.f) := fun o1 o2 o3 => (HS.out _ (HM.out o1 o2 o3).below).get HX.out 5 rfl
    have c6 : ∀ o1 o2 o3, (((w.alloc o1).alloc o2).alloc o3).cell? ⟨b, o + k * 12 + 6, none⟩ = some (.int .i64 x.t.c) := fun o1 o2 o3 => (HS.out _ (HM.out o1 o2 o3).below).get HX.out 6 rfl
    go_enter Tryz.func54, Tryz.ntmps54
    go_wp2
    exact bodyPost_ret (res_plan rfl _ _ (w.heap.size + 2) x.t rfl (box_new3 w _ _ _ _)) rfl ⟨rfl, HM.out _ _ _⟩
  · rw [if_neg hp] at hP
    subst hP
    have g0 : (s.ph == 0) = false := by simpa using hp
    clear hp
    have c3 : ∀ o1 o2 o3, (((w.alloc o1).alloc o2).alloc o3).cell? ⟨b, o + k * 12 + 7, none⟩ = some (.int .i64 x.u.r) := fun o1 o2 o3 => (HS.out _ (HM.out o1 o2 o3).below).get HX.out 7 rfl
    have c4 : ∀ o1 o2 o3, (((w.alloc o1).alloc o2).alloc o3).cell? ⟨b, o + k * 12 + 8, none⟩ = some (.int .i64 x.u.b) := fun o1 o2 o3 => (HS.out _ (HM.out o1 o2 o3).below).get HX.out 8 rfl
    have c5 : ∀ o1 o2 o3, (((w.alloc o1).alloc o2).alloc o3).cell? ⟨b, o + k * 12 + 9, none⟩ = some (.int .i64 x.u.f) := fun o1 o2 o3 => (HS.out _ (HM.out o1 o2 o3).below).get HX.out 9 rfl
    have c6 : ∀ o1 o2 o3, (((w.alloc o1).alloc o2).alloc o3).cell? ⟨b, o + k * 12 + 10, none⟩ = some (.int .i64 x.u.c) := fun o1 o2 o3 => (HS.out _ (HM.out o1 o2 o3).below).get HX.out 10 rfl
    go_enter Tryz.func54, Tryz.ntmps54
    go_wp2
    exact bodyPost_ret (res_plan rfl _ _ (w.heap.size + 2) x.u rfl (box_new3 w _ _ _ _)) rfl ⟨rfl, HM.out _ _ _⟩
end
/-- a saga's cells, whatever has been made since -/
theorem sall {w : World} {g : Nat} {s : Sg} (h : Box w g 49 s.arr) :
    (∀ n os, (grow (w.drewN n) os).cell? ⟨g, 0, none⟩ = some (.int .i64 s.id)) ∧ (∀ n os, (grow (w.drewN n) os).cell? ⟨g, 1, none⟩ = some (.string s.dn)) ∧ (∀ n os, (grow (w.drewN n) os).cell? ⟨g, 2, none⟩ = some (.int .i64 s.st)) ∧
    (∀ n os, (grow (w.drewN n) os).cell? ⟨g, 3, none⟩ = some (.int .i64 s.ph)) ∧ (∀ n os, (grow (w.drewN n) os).cell? ⟨g, 4, none⟩ = some (.int .i64 s.sp)) ∧ (∀ n os, (grow (w.drewN n) os).cell? ⟨g, 5, none⟩ = some (.int .i64 s.tr)) ∧
    (∀ n os, (grow (w.drewN n) os).cell? ⟨g, 6, none⟩ = some (.bool s.out)) ∧ (∀ n os, (grow (w.drewN n) os).cell? ⟨g, 7, none⟩ = some (.int .i64 s.at_)) ∧ (∀ n os, (grow (w.drewN n) os).cell? ⟨g, 8, none⟩ = some (.int .i64 s.sk)) := by
  obtain ⟨c0, c1, c2, c3, c4, c5, c6, c7, c8⟩ := sgcells h
  exact ⟨fun n os => cell_grown h.lt c0 n os, fun n os => cell_grown h.lt c1 n os, fun n os => cell_grown h.lt c2 n os, fun n os => cell_grown h.lt c3 n os, fun n os => cell_grown h.lt c4 n os, fun n os => cell_grown h.lt c5 n os, fun n os => cell_grown h.lt c6 n os, fun n os => cell_grown h.lt c7 n os, fun n os => cell_grown h.lt c8 n os⟩
theorem dall {w : World} {g : Nat} {nm : ByteArray} {dl : Int} {A : Option Addr} {n c : Nat} (h : Box w g 33 #[.string nm, .int .i64 dl, .slice A n c]) :
    (∀ n os, (grow (w.drewN n) os).cell? ⟨g, 0, none⟩ = some (.string nm)) ∧ (∀ n os, (grow (w.drewN n) os).cell? ⟨g, 1, none⟩ = some (.int .i64 dl)) ∧ (∀ m os, (grow (w.drewN m) os).cell? ⟨g, 2, none⟩ = some (.slice A n c)) :=
  ⟨fun n os => cell_grown h.lt (Dc0 h) n os, fun n os => cell_grown h.lt (Dc1 h) n os, fun n os => cell_grown h.lt (Dc2 h) n os⟩
theorem grown_below (w : World) (n : Nat) (os : Array Obj) : Below w.heap.size w (grow (w.drewN n) os) := Made.below ⟨n, os, rfl⟩
theorem left_pos {p : P} {n : Int} (h : 0 ≤ p.r) (hn : 0 ≤ n) : (0 < left p n) ↔ n ≤ p.r := by
  unfold left
  omega
section
variable (nm : ByteArray) (dl : Int) (A : Option Addr) (n c : Nat) (ss : List Stp) (s : Sg) (w : World) (hn : n = ss.length) (hS : Df.Steps w w.heap.size A ss) (h0 : 0 ≤ s.sp) (h1 : s.sp < n) (hp : (planOf ss s).Good) (ht : 0 ≤ s.tr ∧ s.tr ≤ 9223372036854775807)
include hn hS h0 h1 hp ht
set_option maxRecDepth 100000 in
set_option maxHeartbeats 2000000 in
theorem tries_any : Calls Tryz.prog 122 #[.agg #[.string nm, .int .i64 dl, .slice A n c], .agg #[.int .i64 s.id, .string s.dn, .int .i64 s.st, .int .i64 s.ph, .int .i64 s.sp, .int .i64 s.tr, .bool s.out, .int .i64 s.at_, .int .i64 s.sk]] w fun e w' => e = .returned (.bool (decide (s.tr ≤ (planOf ss s).r))) ∧ Made w w' := by
  have HP : Hid (∀ W, Below w.heap.size w W → Calls Tryz.prog 119 #[.agg #[.string nm, .int .i64 dl, .slice A n c], .agg #[.int .i64 s.id, .string s.dn, .int .i64 s.st, .int .i64 s.ph, .int .i64 s.sp, .int .i64 s.tr, .bool s.out, .int .i64 s.at_, .int .i64 s.sk]] W fun e w' => e = .returned (.agg #[.int .i64 (planOf ss s).r, .int .i64 (planOf ss s).b, .int .i64 (planOf ss s).f, .int .i64 (planOf ss s).c]) ∧ Made W w') := Lib.hid fun W hW => plan_any nm dl A n c ss s W hn (hS.on hW) h0 h1
  have hlp := left_pos (p := planOf ss s) (n := s.tr) hp.1 ht.1
  have HL := Lib.hid (fun w => Bo.left_any (planOf ss s) hp s.tr (by omega) w)
  have HB := Lib.hid (ed2 (w := w) (nm := nm) (dl := dl) (A := A) (n := n) (c := c) (s := s) (Below.refl _ _))
  have HM := Lib.hid ((Made.alloc w (.cells #[.string nm, .int .i64 dl, .slice A n c] 33)).trans (Made.alloc _ (.cells #[.int .i64 s.id, .string s.dn, .int .i64 s.st, .int .i64 s.ph, .int .i64 s.sp, .int .i64 s.tr, .bool s.out, .int .i64 s.at_, .int .i64 s.sk] 49)))
  have HR : Hid (decide (0 < left (planOf ss s) s.tr) = decide (s.tr ≤ (planOf ss s).r)) := Lib.hid (by rw [Bool.eq_iff_iff, decide_eq_true_eq, decide_eq_true_eq]; exact hlp)
  have mixed : Tryz.prog.follows .mixedOrders = true := by kernel_rfl
  generalize planOf ss s = p at *
  clear hn hS h0 h1 hp ht hlp
  go_enter Tryz.func122, Tryz.ntmps122
  go_wp2
  obtain ⟨d0, d1, d2⟩ := dall HB.out.d
  obtain ⟨c0, c1, c2, c3, c4, c5, c6, c7, c8⟩ := sall HB.out.s
  have HQ : Hid (∀ q os, Below w.heap.size w (grow ((((w.alloc (.cells #[.string nm, .int .i64 dl, .slice A n c] 33)).alloc (.cells #[.int .i64 s.id, .string s.dn, .int .i64 s.st, .int .i64 s.ph, .int .i64 s.sp, .int .i64 s.tr, .bool s.out, .int .i64 s.at_, .int .i64 s.sk] 49))).drewN q) os)) := Lib.hid fun q os => HB.out.b.trans ((grown_below _ q os).mono HB.out.b.size)
  generalize ((w.alloc (.cells #[.string nm, .int .i64 dl, .slice A n c] 33)).alloc (.cells #[.int .i64 s.id, .string s.dn, .int .i64 s.st, .int .i64 s.ph, .int .i64 s.sp, .int .i64 s.tr, .bool s.out, .int .i64 s.at_, .int .i64 s.sk] 49)) = W0 at *
  go_quiet_grown (first
    | (go_at_call 119; with_reducible exact Calls.grown_of (HP.out _ (HQ.out _ _)))
    | (go_at_call 129; with_reducible exact Calls.grown_of (HL.out _)))
  go_wp2
  go_ret
  exact ⟨ret_bool HR.out, HM.out.trans ⟨nq, osq, rfl⟩⟩
end
end Go.Proofs.YteejocnogpaifaaGreatDoor.Sa
