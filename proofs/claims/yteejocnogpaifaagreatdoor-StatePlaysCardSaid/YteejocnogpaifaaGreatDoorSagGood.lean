/-
  What goodTries of package saga answers; a definition by value, whose steps lie in memory.
  Conditions: the definition's steps lie in memory, its names are of moderate length.
-/
import Derived.Test.YteejocnogpaifaaGreatDoorSagPlan
import Derived.Test.YteejocnogpaifaaGreatDoorMrg2
import Derived.Test.YteejocnogpaifaaGreatDoorDefCheck
namespace Go.Proofs.YteejocnogpaifaaGreatDoor.Sa
open Go.RowKit Go.Sort
open Go.Proofs.YteejocnogpaifaaGreatDoor.El
open Go.Proofs.YteejocnogpaifaaGreatDoor.Bo (P Made ret_int ret_bool left wait)
open Go.Proofs.YteejocnogpaifaaGreatDoor.Df

/-- a definition by value, whose steps lie in memory -/
structure Dn (w : World) (nm : ByteArray) (A : Option Addr) (n c : Nat) (ss : List Stp) : Prop where
  en : n = ss.length
  len : n ≤ 4611686018427387904
  cap : n ≤ c
  mem : Df.Steps w w.heap.size A ss
  nmz : nm.size ≤ 1000000
  names : ∀ s ∈ ss, s.nm.size ≤ 1000000 ∧ s.pt.size ≤ 1000000
  tab : Tab w
theorem Dn.on {w w' : World} {nm : ByteArray} {A : Option Addr} {n c : Nat} {ss : List Stp} (h : Dn w nm A n c ss) (hb : Below w.heap.size w w') : Dn w' nm A n c ss :=
  ⟨h.en, h.len, h.cap, h.mem.on hb, h.nmz, h.names, tab_below h.tab hb⟩
theorem triesB_01 {p : P} {s : Sg} (h : s.ph = 0 ∨ s.ph = 1) : decide (TriesOk p s) = (decide (s.tr ≤ p.r + 1) && (decide (0 < s.tr) || !s.out)) := by
  rw [Bool.eq_iff_iff]
  cases ho : s.out <;> simp [TriesOk, ho] <;> omega
theorem triesB_2 {p : P} {s : Sg} (h : s.ph = 2) : decide (TriesOk p s) = (decide (s.tr = p.r + 1) && !s.out) := by
  rw [Bool.eq_iff_iff]
  cases ho : s.out <;> simp [TriesOk, ho] <;> omega
theorem triesB_3 {p : P} {s : Sg} (h : ¬ (s.ph = 0 ∨ s.ph = 1)) (h2 : ¬ s.ph = 2) : decide (TriesOk p s) = (overB s && !s.out) := by
  rw [Bool.eq_iff_iff]
  cases ho : s.out <;> simp [TriesOk, overB, ho] <;> omega
section
variable (nm : ByteArray) (dl : Int) (A : Option Addr) (n c : Nat) (ss : List Stp) (s : Sg) (w : World) (hd : Dn w nm A n c ss)
section
variable (h0 : 0 ≤ s.sp) (h1 : s.sp < n) (hp : (planOf ss s).Good)
include hd h0 h1 hp
set_option maxRecDepth 100000 in
set_option maxHeartbeats 4000000 in
theorem goodTries_any : Calls Tryz.prog 96 #[.agg #[.string nm, .int .i64 dl, .slice A n c], .agg #[.int .i64 s.id, .string s.dn, .int .i64 s.st, .int .i64 s.ph, .int .i64 s.sp, .int .i64 s.tr, .bool s.out, .int .i64 s.at_, .int .i64 s.sk]] w fun e w' => e = .returned (.bool (decide (TriesOk (planOf ss s) s))) ∧ Below w.heap.size w w' := by
  have HP : Hid (∀ W, Below w.heap.size w W → Calls Tryz.prog 119 #[.agg #[.string nm, .int .i64 dl, .slice A n c], .agg #[.int .i64 s.id, .string s.dn, .int .i64 s.st, .int .i64 s.ph, .int .i64 s.sp, .int .i64 s.tr, .bool s.out, .int .i64 s.at_, .int .i64 s.sk]] W fun e w' => e = .returned (.agg #[.int .i64 (planOf ss s).r, .int .i64 (planOf ss s).b, .int .i64 (planOf ss s).f, .int .i64 (planOf ss s).c]) ∧ Made W w') := Lib.hid fun W hW => plan_any nm dl A n c ss s W hd.en (hd.mem.on hW) h0 h1
  have hr : 0 ≤ (planOf ss s).r ∧ (planOf ss s).r ≤ 1000 := ⟨hp.1, hp.2.1⟩
  have HB := Lib.hid (ed2 (w := w) (nm := nm) (dl := dl) (A := A) (n := n) (c := c) (s := s) (Below.refl _ _))
  have HO := Lib.hid (over_any s)
  have hfp := field_plan
  generalize planOf ss s = p at *
  clear hd h0 h1 hp
  by_cases p01 : s.ph = 0 ∨ s.ph = 1
  · rw [triesB_01 p01]
    cases g0 : (s.ph == 0)
    · have g1 : (s.ph == 1) = true := by
        have : s.ph ≠ 0 := by simpa using g0
        simp only [beq_iff_eq]
        omega
      clear p01
      cases ho : s.out
      all_goals
        rw [ho] at HP HB HO
        go_enter Tryz.func96, Tryz.ntmps96
        go_wp2_with (first
          | (go_at_call 119; (with_reducible refine (HP.out _ HB.out.b).mono ?_); rintro e w1 ⟨rfl, hm⟩; have H1 := Lib.hid (HB.out.on hm.below); clear hm; obtain ⟨d0, d1, d2⟩ := H1.out.cd; obtain ⟨c0, c1, c2, c3, c4, c5, c6, c7, c8⟩ := H1.out.cs))
        all_goals
          go_ret
          refine ⟨ret_bool ?_, H1.out.b⟩
          first | (simp_all; done) | (simp_all; omega)
    · clear p01
      cases ho : s.out
      all_goals
        rw [ho] at HP HB HO
        go_enter Tryz.func96, Tryz.ntmps96
        go_wp2_with (first
          | (go_at_call 119; (with_reducible refine (HP.out _ HB.out.b).mono ?_); rintro e w1 ⟨rfl, hm⟩; have H1 := Lib.hid (HB.out.on hm.below); clear hm; obtain ⟨d0, d1, d2⟩ := H1.out.cd; obtain ⟨c0, c1, c2, c3, c4, c5, c6, c7, c8⟩ := H1.out.cs))
        all_goals
          go_ret
          refine ⟨ret_bool ?_, H1.out.b⟩
          first | (simp_all; done) | (simp_all; omega)
  · have g0 : (s.ph == 0) = false := by simpa using fun e => p01 (.inl e)
    have g1 : (s.ph == 1) = false := by simpa using fun e => p01 (.inr e)
    by_cases p2 : s.ph = 2
    · rw [triesB_2 p2]
      have g2 : (s.ph == 2) = true := by simpa using p2
      clear p01 p2
      cases ho : s.out
      all_goals
        rw [ho] at HP HB HO
        go_enter Tryz.func96, Tryz.ntmps96
        go_wp2_with (first
          | (go_at_call 119; (with_reducible refine (HP.out _ HB.out.b).mono ?_); rintro e w1 ⟨rfl, hm⟩; have H1 := Lib.hid (HB.out.on hm.below); clear hm; obtain ⟨d0, d1, d2⟩ := H1.out.cd; obtain ⟨c0, c1, c2, c3, c4, c5, c6, c7, c8⟩ := H1.out.cs))
        all_goals
          go_ret
          refine ⟨ret_bool ?_, H1.out.b⟩
          first | (simp_all; done) | (simp_all; omega)
    · rw [triesB_3 p01 p2]
      have g2 : (s.ph == 2) = false := by simpa using p2
      clear p01 p2
      cases hv : overB s
      all_goals
        rw [hv] at HO
        cases ho : s.out
        all_goals
          rw [ho] at HP HB HO
          go_enter Tryz.func96, Tryz.ntmps96
          go_wp2_with (first
            | (go_at_call 119; (with_reducible refine (HP.out _ HB.out.b).mono ?_); rintro e w1 ⟨rfl, hm⟩; have H1 := Lib.hid (HB.out.on hm.below); clear hm; obtain ⟨d0, d1, d2⟩ := H1.out.cd; obtain ⟨c0, c1, c2, c3, c4, c5, c6, c7, c8⟩ := H1.out.cs)
            | (go_at_call 47; (with_reducible refine (HO.out _).mono ?_); rintro e w2 ⟨rfl, hm⟩; have H2 := Lib.hid (H1.out.on hm.below); clear hm; obtain ⟨d0, d1, d2⟩ := H2.out.cd; obtain ⟨c0, c1, c2, c3, c4, c5, c6, c7, c8⟩ := H2.out.cs))
          all_goals
            go_ret
            exact ⟨rfl, H2.out.b⟩
end
end
end Go.Proofs.YteejocnogpaifaaGreatDoor.Sa
