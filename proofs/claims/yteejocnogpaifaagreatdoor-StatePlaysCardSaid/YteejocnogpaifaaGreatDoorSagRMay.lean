/-
  What the document's own May of a saga answers.
  Conditions: the definition's steps lie in memory, its names are of moderate length.
-/
import Derived.Test.YteejocnogpaifaaGreatDoorMrg1
import Derived.Test.YteejocnogpaifaaGreatDoorSagFail
import Derived.Test.YteejocnogpaifaaGreatDoorSagRGood
import Derived.Deep.RegionHeld3
namespace Go.Proofs.YteejocnogpaifaaGreatDoor.Sa
open Go.RowKit Go.Sort
open Go.Proofs.YteejocnogpaifaaGreatDoor.El
open Go.Proofs.YteejocnogpaifaaGreatDoor.Bo (P Made ret_int ret_bool left wait)
open Go.Proofs.YteejocnogpaifaaGreatDoor.Df

section
variable (nm : ByteArray) (dl : Int) (A : Option Addr) (n c : Nat) (ss : List Stp) (s : Sg) (w : World) (hd : Dn w nm A n c ss) (now : Int)
include hd
set_option maxRecDepth 100000 in
set_option maxHeartbeats 8000000 in
theorem rmay14_any : Calls Tryz.prog 24 #[.agg #[.string nm, .int .i64 dl, .slice A n c], .agg #[.int .i64 s.id, .string s.dn, .int .i64 s.st, .int .i64 s.ph, .int .i64 s.sp, .int .i64 s.tr, .bool s.out, .int .i64 s.at_, .int .i64 s.sk], .int .i64 now] w fun e w' => e = .returned (.bool (mayB nm dl ss s now)) ∧ Below w.heap.size w w' := by
  obtain ⟨mb, hmb⟩ : ∃ mb, mb = mayB nm dl ss s now := ⟨_, rfl⟩
  rw [← hmb]
  have HMB := Lib.hid hmb
  have HD := Lib.hid hd
  have HB := Lib.hid (ed2 (w := w) (nm := nm) (dl := dl) (A := A) (n := n) (c := c) (s := s) (Below.refl _ _))
  clear hmb hd
  go_enter Tryz.func24, Tryz.ntmps24
  go_upto_region 1 with (fail)
  generalize ((w.alloc _).alloc _) = W0 at *
  have hb := HB.out.b
  have hz := hb.size
  have hl0 := HB.out.d.lt
  have hl1 := HB.out.s.lt
  have HR := Lib.hid (fun W (hW : Below W0.heap.size W0 W) => (rcheck14_any nm dl A n c ss s W (HD.out.on (hb.trans (hW.mono hz))) now).mono fun e w' (h : _ ∧ _) => And.intro h.1 (hW.trans (h.2.mono hW.size)))
  have HE := Lib.hid (fun W => rend_any nm dl A n c s.st W)
  have z0 : ∀ u, Below W0.heap.size W0 u → u.cell? ⟨w.heap.size, 0, none⟩ = some (.string nm) := fun u H => (H.cell (p := ⟨w.heap.size, 0, none⟩) hl0).trans (HB.out.d.cell 0)
  have z1 : ∀ u, Below W0.heap.size W0 u → u.cell? ⟨w.heap.size, 1, none⟩ = some (.int .i64 dl) := fun u H => (H.cell (p := ⟨w.heap.size, 1, none⟩) hl0).trans (HB.out.d.cell 1)
  have z2 : ∀ u, Below W0.heap.size W0 u → u.cell? ⟨w.heap.size, 2, none⟩ = some (.slice A n c) := fun u H => (H.cell (p := ⟨w.heap.size, 2, none⟩) hl0).trans (HB.out.d.cell 2)
  have s0 : ∀ u, Below W0.heap.size W0 u → u.cell? ⟨w.heap.size + 1, 0, none⟩ = some (.int .i64 s.id) := fun u H => (H.cell (p := ⟨w.heap.size + 1, 0, none⟩) hl1).trans (HB.out.s.cell 0)
  have s1 : ∀ u, Below W0.heap.size W0 u → u.cell? ⟨w.heap.size + 1, 1, none⟩ = some (.string s.dn) := fun u H => (H.cell (p := ⟨w.heap.size + 1, 1, none⟩) hl1).trans (HB.out.s.cell 1)
  have s2 : ∀ u, Below W0.heap.size W0 u → u.cell? ⟨w.heap.size + 1, 2, none⟩ = some (.int .i64 s.st) := fun u H => (H.cell (p := ⟨w.heap.size + 1, 2, none⟩) hl1).trans (HB.out.s.cell 2)
  have s3 : ∀ u, Below W0.heap.size W0 u → u.cell? ⟨w.heap.size + 1, 3, none⟩ = some (.int .i64 s.ph) := fun u H => (H.cell (p := ⟨w.heap.size + 1, 3, none⟩) hl1).trans (HB.out.s.cell 3)
  have s4 : ∀ u, Below W0.heap.size W0 u → u.cell? ⟨w.heap.size + 1, 4, none⟩ = some (.int .i64 s.sp) := fun u H => (H.cell (p := ⟨w.heap.size + 1, 4, none⟩) hl1).trans (HB.out.s.cell 4)
  have s5 : ∀ u, Below W0.heap.size W0 u → u.cell? ⟨w.heap.size + 1, 5, none⟩ = some (.int .i64 s.tr) := fun u H => (H.cell (p := ⟨w.heap.size + 1, 5, none⟩) hl1).trans (HB.out.s.cell 5)
  have s6 : ∀ u, Below W0.heap.size W0 u → u.cell? ⟨w.heap.size + 1, 6, none⟩ = some (.bool s.out) := fun u H => (H.cell (p := ⟨w.heap.size + 1, 6, none⟩) hl1).trans (HB.out.s.cell 6)
  have s7 : ∀ u, Below W0.heap.size W0 u → u.cell? ⟨w.heap.size + 1, 7, none⟩ = some (.int .i64 s.at_) := fun u H => (H.cell (p := ⟨w.heap.size + 1, 7, none⟩) hl1).trans (HB.out.s.cell 7)
  have s8 : ∀ u, Below W0.heap.size W0 u → u.cell? ⟨w.heap.size + 1, 8, none⟩ = some (.int .i64 s.sk) := fun u H => (H.cell (p := ⟨w.heap.size + 1, 8, none⟩) hl1).trans (HB.out.s.cell 8)
  by_cases h0 : refE nm dl ss s now = 0
  · have hr := refE_zero h0
    have hsp := hr.1.fld.sp
    have hfp := field_plan
    have HC : Hid (mb = mayC dl ss s now) := Lib.hid (by rw [HMB.out]; unfold mayB; rw [decide_eq_true h0, Bool.true_and])
    have HCm : Hid (mayC dl ss s now = decide ((s.ph = 0 ∧ now < endT dl s.st ∨ s.ph = 1) ∧ s.out = false ∧ s.at_ ≤ now ∧ s.tr ≤ (planOf ss s).r)) := Lib.hid rfl
    have HP := Lib.hid (fun W (hW : Below W0.heap.size W0 W) => (rplan_any nm dl A n c ss s W HD.out.en (HD.out.mem.on (hb.trans (hW.mono hz))) hsp.1 (by have := HD.out.en; omega)).mono fun e w' (h : _ ∧ _) => And.intro h.1 (hW.trans (h.2.below.mono hW.size)))
    rw [h0] at HR
    generalize planOf ss s = p at HP HCm
    have HPh := Lib.hid hr.2.2
    clear h0 hr hsp HMB hl0 hl1
    by_cases h2 : s.ph = 2
    · have g2 : (s.ph == 2) = true := by simp [h2]
      have hX : mb = false := by rw [HC.out, HCm.out]; exact decide_eq_false (by omega)
      subst hX
      clear h2 HC HCm HPh
      refine wp_region_held_drew (S := fun u => Below W0.heap.size W0 u) (by kernel_rfl) (Below.drew (Below.refl _ _)) (fun hHeld => ?_)
      refine Un.tk 0 7 rfl ?_
      refine Un.tk 1 8 rfl ?_
      refine Un.tk 2 9 rfl ?_
      refine wpAnyH_ready (rs := [3]) (by kernel_rfl) (by simp) ?_
      refine AllReadyH.cons (o := ⟨some 10, _, _, _, _, _⟩) rfl (fun K hK => ?_) AllReadyH.nil
      go_simp
      (with_reducible refine (HR.out _ (Below.drew (Below.refl _ _))).mono ?_)
      rintro e w1 ⟨rfl, hw1⟩
      go_wp2_with fail
      refine hK.out _ _ ?_ (fun hHeld => ?_)
      · exact hw1
      clear hK K
      (try simp only [Act.put, List.setIfInBounds_toArray, List.set_cons_zero, List.set_cons_succ])
      refine Un.tk 4 11 rfl ?_
      refine Un.tk 5 12 rfl ?_
      refine Un.tk 6 13 rfl ?_
      refine Un.tk 7 14 rfl ?_
      refine Un.tk 8 15 rfl ?_
      refine Un.tk 9 16 rfl ?_
      refine Un.tk 10 17 rfl ?_
      refine Un.ofk 11 18 rfl ?_
      refine Un.ofk 12 19 rfl ?_
      refine Un.tk 13 20 rfl ?_
      refine Un.tk 14 21 rfl ?_
      refine Un.ofk 15 22 rfl ?_
      refine Un.ofk 16 23 rfl ?_
      refine Un.ofk 17 24 rfl ?_
      refine Un.ofk 18 25 rfl ?_
      refine Un.tk 19 26 rfl ?_
      refine Un.tk 20 27 rfl ?_
      refine Un.ofk 21 28 rfl ?_
      refine Un.ofk 22 29 rfl ?_
      refine Un.ofk 23 30 rfl ?_
      refine Un.ofk 24 31 rfl ?_
      refine Un.ofk 25 32 rfl ?_
      refine Un.ofk 26 33 rfl ?_
      refine Un.ofk 27 34 rfl ?_
      refine Un.tk 28 35 rfl ?_
      refine wpAnyH_done (by kernel_rfl) ?_ _
      have q0 := z0 _ hw1
      have q1 := z1 _ hw1
      have q2 := z2 _ hw1
      have q3 := s2 _ hw1
      have q4 := s3 _ hw1
      clear z0 z1 z2 s0 s1 s2 s3 s4 s5 s6 s7 s8
      go_wp2
      go_ret
      exact ⟨rfl, hb.trans (hw1.mono hz)⟩
    · have g2 : (s.ph == 2) = false := by simp [h2]
      cases ho : s.out with
      | true =>
        have hX : mb = false := by rw [HC.out, HCm.out]; exact decide_eq_false (fun e => by have := e.2.1; rw [ho] at this; cases this)
        subst hX
        rw [ho] at s6 HP HR
        clear h2 HC HCm ho HPh
        refine wp_region_held_drew (S := fun u => Below W0.heap.size W0 u) (by kernel_rfl) (Below.drew (Below.refl _ _)) (fun hHeld => ?_)
        refine Un.tk 0 7 rfl ?_
        refine Un.tk 1 8 rfl ?_
        refine Un.tk 2 9 rfl ?_
        refine wpAnyH_ready (rs := [3]) (by kernel_rfl) (by simp) ?_
        refine AllReadyH.cons (o := ⟨some 10, _, _, _, _, _⟩) rfl (fun K hK => ?_) AllReadyH.nil
        go_simp
        (with_reducible refine (HR.out _ (Below.drew (Below.refl _ _))).mono ?_)
        rintro e w1 ⟨rfl, hw1⟩
        go_wp2_with fail
        refine hK.out _ _ ?_ (fun hHeld => ?_)
        · exact hw1
        clear hK K
        (try simp only [Act.put, List.setIfInBounds_toArray, List.set_cons_zero, List.set_cons_succ])
        refine Un.tk 4 11 rfl ?_
        refine Un.tk 5 12 rfl ?_
        refine Un.tk 6 13 rfl ?_
        refine Un.tk 7 14 rfl ?_
        refine Un.tk 8 15 rfl ?_
        refine Un.tk 9 16 rfl ?_
        refine Un.tk 10 17 rfl ?_
        refine Un.tk 11 18 rfl ?_
        refine Un.tk 12 19 rfl ?_
        refine Un.tk 13 20 rfl ?_
        refine Un.tk 14 21 rfl ?_
        refine Un.ofk 15 22 rfl ?_
        refine Un.ofk 16 23 rfl ?_
        refine Un.ofk 17 24 rfl ?_
        refine Un.ofk 18 25 rfl ?_
        refine Un.tk 19 26 rfl ?_
        refine Un.tk 20 27 rfl ?_
        refine Un.ofk 21 28 rfl ?_
        refine Un.ofk 22 29 rfl ?_
        refine Un.ofk 23 30 rfl ?_
        refine Un.ofk 24 31 rfl ?_
        refine Un.ofk 25 32 rfl ?_
        refine Un.ofk 26 33 rfl ?_
        refine Un.ofk 27 34 rfl ?_
        refine Un.tk 28 35 rfl ?_
        refine wpAnyH_done (by kernel_rfl) ?_ _
        have q0 := z0 _ hw1
        have q1 := z1 _ hw1
        have q2 := z2 _ hw1
        have q3 := s2 _ hw1
        have q4 := s3 _ hw1
        clear z0 z1 z2 s0 s1 s2 s3 s4 s5 s6 s7 s8
        go_wp2
        go_ret
        exact ⟨rfl, hb.trans (hw1.mono hz)⟩
      | false =>
        rw [ho] at s6 HP HR HCm
        by_cases ha : now < s.at_
        · have ga : decide (now < s.at_) = true := decide_eq_true ha
          have hX : mb = false := by rw [HC.out, HCm.out]; exact decide_eq_false (by omega)
          subst hX
          clear h2 HC HCm ho ha HPh
          refine wp_region_held_drew (S := fun u => Below W0.heap.size W0 u) (by kernel_rfl) (Below.drew (Below.refl _ _)) (fun hHeld => ?_)
          refine Un.tk 0 7 rfl ?_
          refine Un.tk 1 8 rfl ?_
          refine Un.tk 2 9 rfl ?_
          refine wpAnyH_ready (rs := [3]) (by kernel_rfl) (by simp) ?_
          refine AllReadyH.cons (o := ⟨some 10, _, _, _, _, _⟩) rfl (fun K hK => ?_) AllReadyH.nil
          go_simp
          (with_reducible refine (HR.out _ (Below.drew (Below.refl _ _))).mono ?_)
          rintro e w1 ⟨rfl, hw1⟩
          go_wp2_with fail
          refine hK.out _ _ ?_ (fun hHeld => ?_)
          · exact hw1
          clear hK K
          (try simp only [Act.put, List.setIfInBounds_toArray, List.set_cons_zero, List.set_cons_succ])
          refine Un.tk 4 11 rfl ?_
          refine Un.tk 5 12 rfl ?_
          refine Un.tk 6 13 rfl ?_
          refine Un.tk 7 14 rfl ?_
          refine Un.tk 8 15 rfl ?_
          refine Un.tk 9 16 rfl ?_
          refine Un.tk 10 17 rfl ?_
          refine Un.tk 11 18 rfl ?_
          refine Un.tk 12 19 rfl ?_
          refine Un.tk 13 20 rfl ?_
          refine Un.tk 14 21 rfl ?_
          refine Un.tk 15 22 rfl ?_
          refine Un.tk 16 23 rfl ?_
          refine Un.tk 17 24 rfl ?_
          refine Un.tk 18 25 rfl ?_
          refine Un.tk 19 26 rfl ?_
          refine Un.tk 20 27 rfl ?_
          refine Un.ofk 21 28 rfl ?_
          refine Un.ofk 22 29 rfl ?_
          refine Un.ofk 23 30 rfl ?_
          refine Un.ofk 24 31 rfl ?_
          refine Un.ofk 25 32 rfl ?_
          refine Un.ofk 26 33 rfl ?_
          refine Un.ofk 27 34 rfl ?_
          refine Un.tk 28 35 rfl ?_
          refine wpAnyH_done (by kernel_rfl) ?_ _
          have q0 := z0 _ hw1
          have q1 := z1 _ hw1
          have q2 := z2 _ hw1
          have q3 := s2 _ hw1
          have q4 := s3 _ hw1
          clear z0 z1 z2 s0 s1 s2 s3 s4 s5 s6 s7 s8
          go_wp2
          go_ret
          exact ⟨rfl, hb.trans (hw1.mono hz)⟩
        · have ga : decide (now < s.at_) = false := decide_eq_false ha
          by_cases ht : p.r < s.tr
          · have gt : decide (p.r < s.tr) = true := decide_eq_true ht
            have hX : mb = false := by rw [HC.out, HCm.out]; exact decide_eq_false (by omega)
            subst hX
            clear h2 HC HCm ho ha ht HPh
            refine wp_region_held_drew (S := fun u => Below W0.heap.size W0 u) (by kernel_rfl) (Below.drew (Below.refl _ _)) (fun hHeld => ?_)
            refine Un.tk 0 7 rfl ?_
            refine Un.tk 1 8 rfl ?_
            refine Un.tk 2 9 rfl ?_
            refine wpAnyH_ready (rs := [3]) (by kernel_rfl) (by simp) ?_
            refine AllReadyH.cons (o := ⟨some 10, _, _, _, _, _⟩) rfl (fun K hK => ?_) AllReadyH.nil
            go_simp
            (with_reducible refine (HR.out _ (Below.drew (Below.refl _ _))).mono ?_)
            rintro e w1 ⟨rfl, hw1⟩
            go_wp2_with fail
            refine hK.out _ _ ?_ (fun hHeld => ?_)
            · exact hw1
            clear hK K
            (try simp only [Act.put, List.setIfInBounds_toArray, List.set_cons_zero, List.set_cons_succ])
            refine Un.tk 4 11 rfl ?_
            refine Un.tk 5 12 rfl ?_
            refine Un.tk 6 13 rfl ?_
            refine Un.tk 7 14 rfl ?_
            refine Un.tk 8 15 rfl ?_
            refine Un.tk 9 16 rfl ?_
            refine Un.tk 10 17 rfl ?_
            refine Un.tk 11 18 rfl ?_
            refine Un.tk 12 19 rfl ?_
            refine Un.tk 13 20 rfl ?_
            refine Un.tk 14 21 rfl ?_
            refine Un.tk 15 22 rfl ?_
            refine Un.tk 16 23 rfl ?_
            refine Un.tk 17 24 rfl ?_
            refine Un.tk 18 25 rfl ?_
            refine Un.tk 19 26 rfl ?_
            refine Un.tk 20 27 rfl ?_
            refine Un.tk 21 28 rfl ?_
            refine Un.tk 22 29 rfl ?_
            refine Un.tk 23 30 rfl ?_
            refine Un.tk 24 31 rfl ?_
            refine wpAnyH_ready (rs := [25]) (by kernel_rfl) (by simp) ?_
            refine AllReadyH.cons (o := ⟨some 32, _, _, _, _, _⟩) rfl (fun K hK => ?_) AllReadyH.nil
            go_simp
            (with_reducible refine (HP.out _ hw1).mono ?_)
            rintro e w2 ⟨rfl, hw2⟩
            go_wp2_with fail
            refine hK.out _ _ ?_ (fun hHeld => ?_)
            · exact hw2
            clear hK K
            (try simp only [Act.put, List.setIfInBounds_toArray, List.set_cons_zero, List.set_cons_succ])
            refine Un.tk 26 33 rfl ?_
            refine Un.tk 27 34 rfl ?_
            refine Un.tk 28 35 rfl ?_
            refine wpAnyH_done (by kernel_rfl) ?_ _
            have q0 := z0 _ hw2
            have q1 := z1 _ hw2
            have q2 := z2 _ hw2
            have q3 := s2 _ hw2
            have q4 := s3 _ hw2
            clear z0 z1 z2 s0 s1 s2 s3 s4 s5 s6 s7 s8
            go_wp2
            go_ret
            exact ⟨rfl, hb.trans (hw2.mono hz)⟩
          · have gt : decide (p.r < s.tr) = false := decide_eq_false ht
            by_cases h1 : s.ph = 1
            · have g1 : (s.ph == 1) = true := by simp [h1]
              have hX : mb = true := by rw [HC.out, HCm.out]; exact decide_eq_true ⟨.inr h1, rfl, by omega, by omega⟩
              subst hX
              clear h2 HC HCm ho ha ht h1 HPh
              refine wp_region_held_drew (S := fun u => Below W0.heap.size W0 u) (by kernel_rfl) (Below.drew (Below.refl _ _)) (fun hHeld => ?_)
              refine Un.tk 0 7 rfl ?_
              refine Un.tk 1 8 rfl ?_
              refine Un.tk 2 9 rfl ?_
              refine wpAnyH_ready (rs := [3]) (by kernel_rfl) (by simp) ?_
              refine AllReadyH.cons (o := ⟨some 10, _, _, _, _, _⟩) rfl (fun K hK => ?_) AllReadyH.nil
              go_simp
              (with_reducible refine (HR.out _ (Below.drew (Below.refl _ _))).mono ?_)
              rintro e w1 ⟨rfl, hw1⟩
              go_wp2_with fail
              refine hK.out _ _ ?_ (fun hHeld => ?_)
              · exact hw1
              clear hK K
              (try simp only [Act.put, List.setIfInBounds_toArray, List.set_cons_zero, List.set_cons_succ])
              refine Un.tk 4 11 rfl ?_
              refine Un.tk 5 12 rfl ?_
              refine Un.tk 6 13 rfl ?_
              refine Un.tk 7 14 rfl ?_
              refine Un.tk 8 15 rfl ?_
              refine Un.tk 9 16 rfl ?_
              refine Un.tk 10 17 rfl ?_
              refine Un.tk 11 18 rfl ?_
              refine Un.tk 12 19 rfl ?_
              refine Un.tk 13 20 rfl ?_
              refine Un.tk 14 21 rfl ?_
              refine Un.tk 15 22 rfl ?_
              refine Un.tk 16 23 rfl ?_
              refine Un.tk 17 24 rfl ?_
              refine Un.tk 18 25 rfl ?_
              refine Un.tk 19 26 rfl ?_
              refine Un.tk 20 27 rfl ?_
              refine Un.tk 21 28 rfl ?_
              refine Un.tk 22 29 rfl ?_
              refine Un.tk 23 30 rfl ?_
              refine Un.tk 24 31 rfl ?_
              refine wpAnyH_ready (rs := [25]) (by kernel_rfl) (by simp) ?_
              refine AllReadyH.cons (o := ⟨some 32, _, _, _, _, _⟩) rfl (fun K hK => ?_) AllReadyH.nil
              go_simp
              (with_reducible refine (HP.out _ hw1).mono ?_)
              rintro e w2 ⟨rfl, hw2⟩
              go_wp2_with fail
              refine hK.out _ _ ?_ (fun hHeld => ?_)
              · exact hw2
              clear hK K
              (try simp only [Act.put, List.setIfInBounds_toArray, List.set_cons_zero, List.set_cons_succ])
              refine Un.tk 26 33 rfl ?_
              refine Un.tk 27 34 rfl ?_
              refine Un.tk 28 35 rfl ?_
              refine wpAnyH_done (by kernel_rfl) ?_ _
              have q0 := z0 _ hw2
              have q1 := z1 _ hw2
              have q2 := z2 _ hw2
              have q3 := s2 _ hw2
              have q4 := s3 _ hw2
              clear z0 z1 z2 s0 s1 s2 s3 s4 s5 s6 s7 s8
              go_wp2
              go_ret
              exact ⟨rfl, hb.trans (hw2.mono hz)⟩
            · have g1 : (s.ph == 1) = false := by simp [h1]
              have hp0 : s.ph = 0 := by have := HPh.out; omega
              have hX : mb = decide (now < endT dl s.st) := by
                rw [HC.out, HCm.out]
                by_cases hn : now < endT dl s.st
                · rw [decide_eq_true hn]; exact decide_eq_true ⟨.inl ⟨hp0, hn⟩, rfl, by omega, by omega⟩
                · rw [decide_eq_false hn]; exact decide_eq_false (by omega)
              subst hX
              clear h2 HC HCm ho ha ht h1 HPh hp0
              refine wp_region_held_drew (S := fun u => Below W0.heap.size W0 u) (by kernel_rfl) (Below.drew (Below.refl _ _)) (fun hHeld => ?_)
              refine Un.tk 0 7 rfl ?_
              refine Un.tk 1 8 rfl ?_
              refine Un.tk 2 9 rfl ?_
              refine wpAnyH_ready (rs := [3]) (by kernel_rfl) (by simp) ?_
              refine AllReadyH.cons (o := ⟨some 10, _, _, _, _, _⟩) rfl (fun K hK => ?_) AllReadyH.nil
              go_simp
              (with_reducible refine (HR.out _ (Below.drew (Below.refl _ _))).mono ?_)
              rintro e w1 ⟨rfl, hw1⟩
              go_wp2_with fail
              refine hK.out _ _ ?_ (fun hHeld => ?_)
              · exact hw1
              clear hK K
              (try simp only [Act.put, List.setIfInBounds_toArray, List.set_cons_zero, List.set_cons_succ])
              refine Un.tk 4 11 rfl ?_
              refine Un.tk 5 12 rfl ?_
              refine Un.tk 6 13 rfl ?_
              refine Un.tk 7 14 rfl ?_
              refine Un.tk 8 15 rfl ?_
              refine Un.tk 9 16 rfl ?_
              refine Un.tk 10 17 rfl ?_
              refine Un.tk 11 18 rfl ?_
              refine Un.tk 12 19 rfl ?_
              refine Un.tk 13 20 rfl ?_
              refine Un.tk 14 21 rfl ?_
              refine Un.tk 15 22 rfl ?_
              refine Un.tk 16 23 rfl ?_
              refine Un.tk 17 24 rfl ?_
              refine Un.tk 18 25 rfl ?_
              refine Un.tk 19 26 rfl ?_
              refine Un.tk 20 27 rfl ?_
              refine Un.tk 21 28 rfl ?_
              refine Un.tk 22 29 rfl ?_
              refine Un.tk 23 30 rfl ?_
              refine Un.tk 24 31 rfl ?_
              refine wpAnyH_ready (rs := [25]) (by kernel_rfl) (by simp) ?_
              refine AllReadyH.cons (o := ⟨some 32, _, _, _, _, _⟩) rfl (fun K hK => ?_) AllReadyH.nil
              go_simp
              (with_reducible refine (HP.out _ hw1).mono ?_)
              rintro e w2 ⟨rfl, hw2⟩
              go_wp2_with fail
              refine hK.out _ _ ?_ (fun hHeld => ?_)
              · exact hw2
              clear hK K
              (try simp only [Act.put, List.setIfInBounds_toArray, List.set_cons_zero, List.set_cons_succ])
              refine Un.tk 26 33 rfl ?_
              refine Un.tk 27 34 rfl ?_
              refine Un.tk 28 35 rfl ?_
              refine wpAnyH_done (by kernel_rfl) ?_ _
              have q0 := z0 _ hw2
              have q1 := z1 _ hw2
              have q2 := z2 _ hw2
              have q3 := s2 _ hw2
              have q4 := s3 _ hw2
              clear z0 z1 z2 s0 s1 s2 s3 s4 s5 s6 s7 s8
              go_wp2_with (go_at_call 55; (with_reducible refine (HE.out _).mono ?_); rintro e w3 ⟨rfl, hm⟩)
              go_ret
              exact ⟨rfl, hb.trans ((hw2.trans (hm.below.mono hw2.size)).mono hz)⟩
  · have g0 : (refE nm dl ss s now != 0) = true := by simpa using h0
    have hX : mb = false := by rw [HMB.out]; unfold mayB; rw [decide_eq_false h0, Bool.false_and]
    subst hX
    generalize refE nm dl ss s now = r at *
    clear HMB h0 hl0 hl1
    refine wp_region_held_drew (S := fun u => Below W0.heap.size W0 u) (by kernel_rfl) (Below.drew (Below.refl _ _)) (fun hHeld => ?_)
    refine Un.tk 0 7 rfl ?_
    refine Un.tk 1 8 rfl ?_
    refine Un.tk 2 9 rfl ?_
    refine wpAnyH_ready (rs := [3]) (by kernel_rfl) (by simp) ?_
    refine AllReadyH.cons (o := ⟨some 10, _, _, _, _, _⟩) rfl (fun K hK => ?_) AllReadyH.nil
    go_simp
    (with_reducible refine (HR.out _ (Below.drew (Below.refl _ _))).mono ?_)
    rintro e w1 ⟨rfl, hw1⟩
    go_wp2_with fail
    refine hK.out _ _ ?_ (fun hHeld => ?_)
    · exact hw1
    clear hK K
    (try simp only [Act.put, List.setIfInBounds_toArray, List.set_cons_zero, List.set_cons_succ])
    refine Un.tk 4 11 rfl ?_
    refine Un.tk 5 12 rfl ?_
    refine Un.ofk 6 13 rfl ?_
    refine Un.ofk 7 14 rfl ?_
    refine Un.ofk 8 15 rfl ?_
    refine Un.tk 9 16 rfl ?_
    refine Un.tk 10 17 rfl ?_
    refine Un.ofk 11 18 rfl ?_
    refine Un.ofk 12 19 rfl ?_
    refine Un.tk 13 20 rfl ?_
    refine Un.tk 14 21 rfl ?_
    refine Un.ofk 15 22 rfl ?_
    refine Un.ofk 16 23 rfl ?_
    refine Un.ofk 17 24 rfl ?_
    refine Un.ofk 18 25 rfl ?_
    refine Un.tk 19 26 rfl ?_
    refine Un.tk 20 27 rfl ?_
    refine Un.ofk 21 28 rfl ?_
    refine Un.ofk 22 29 rfl ?_
    refine Un.ofk 23 30 rfl ?_
    refine Un.ofk 24 31 rfl ?_
    refine Un.ofk 25 32 rfl ?_
    refine Un.ofk 26 33 rfl ?_
    refine Un.ofk 27 34 rfl ?_
    refine Un.tk 28 35 rfl ?_
    refine wpAnyH_done (by kernel_rfl) ?_ _
    have q0 := z0 _ hw1
    have q1 := z1 _ hw1
    have q2 := z2 _ hw1
    have q3 := s2 _ hw1
    have q4 := s3 _ hw1
    clear z0 z1 z2 s0 s1 s2 s3 s4 s5 s6 s7 s8
    go_wp2
    go_ret
    exact ⟨rfl, hb.trans (hw1.mono hz)⟩
end
end Go.Proofs.YteejocnogpaifaaGreatDoor.Sa
