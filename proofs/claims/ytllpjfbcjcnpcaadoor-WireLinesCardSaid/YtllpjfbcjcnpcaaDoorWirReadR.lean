/-
  What ReadReply answers: the reply of a line.
  Conditions: the line is of moderate length; the listed variables hold what they do.
-/
import Derived.Test.YtllpjfbcjcnpcaaDoorWirStep
namespace Go.Proofs.YtllpjfbcjcnpcaaDoor.Wi
open Go.RowKit
open Go.Proofs.YtllpjfbcjcnpcaaDoor.El
open Go.Proofs.YtllpjfbcjcnpcaaDoor.Df
open Go.Lib (decDigits)

set_option maxRecDepth 100000 in
set_option maxHeartbeats 8000000 in
theorem readReply_any (l : List UInt8) (w : World) (hG : Gl w) (hs : l.length ≤ 1000000) :
    Calls Tryd.prog 14 #[.string (tx l)] w fun e w' => ∃ d ok, e = .returned (.tuple #[.agg #[.int .i64 d.sg, .int .i64 d.st, .bool d.un, .int .i64 d.tr, .bool d.gd], .bool ok]) ∧ RepIs l d ok ∧ Below w.heap.size w w' := by
  have eg : ∀ args w, (callFunc 41 args).run Tryd.prog w = .ok (.enter 41 args) w := enters_of Tryd.func41 (by kernel_rfl) rfl
  have HZ0 := Lib.hid (And.intro ((Below.refl w.heap.size w).alloc (Nat.le_refl _) (.cells #[.int .i64 0, .int .i64 0, .bool false, .int .i64 0, .bool false] 25)) (Box.new w 25 #[.int .i64 0, .int .i64 0, .bool false, .int .i64 0, .bool false]))
  have HGl := Lib.hid (hG.on HZ0.out.1)
  have hlt := HZ0.out.2.lt
  have HLen := Lib.hid hs
  have HW := Lib.hid (wordsOf_any (tx l))
  clear hG hs
  go_enter Tryd.func14, Tryd.ntmps14
  go_upto_region 1 with fail
  generalize w.alloc _ = U0 at *
  obtain ⟨l1, hl1⟩ : ∃ x, x = rst l := ⟨_, rfl⟩
  obtain ⟨l2, hl2⟩ : ∃ x, x = rst l1 := ⟨_, rfl⟩
  obtain ⟨l3, hl3⟩ : ∃ x, x = rst l2 := ⟨_, rfl⟩
  obtain ⟨l4, hl4⟩ : ∃ x, x = rst l3 := ⟨_, rfl⟩
  obtain ⟨l5, hl5⟩ : ∃ x, x = rst l4 := ⟨_, rfl⟩
  have HL := Lib.hid (And.intro hl1 (And.intro hl2 (And.intro hl3 (And.intro hl4 (hl5)))))
  obtain ⟨un, hun⟩ : ∃ v, v = decide (fst l3 = way true) := ⟨_, rfl⟩
  have eu : ((tx (fst l3)).toList == [117, 110, 100, 111]) = un := word_eq hun
  have HU : Hid (un = decide (fst (rst (rst (rst l))) = way true)) := Lib.hid (by rw [← hl1, ← hl2, ← hl3]; exact hun)
  obtain ⟨gd, hgd⟩ : ∃ v, v = decide (fst l5 = how true) := ⟨_, rfl⟩
  have eo : ((tx (fst l5)).toList == [103, 111, 111, 100]) = gd := word_eq hgd
  have HO : Hid (gd = decide (fst (rst (rst (rst (rst (rst l))))) = how true)) := Lib.hid (by rw [← hl1, ← hl2, ← hl3, ← hl4, ← hl5]; exact hgd)
  clear hgd
  clear hun hl1 hl2 hl3 hl4 hl5
  go_upto_region 3 with (first
    | (go_at_call 27; (with_reducible refine (HW.out _).mono ?_); rintro e w1 ⟨rfl, hx, hb⟩; have H1 := Lib.hid (wd_of HGl.out HLen.out hx hb); clear hx hb)
    | (go_at_call 41; (with_reducible refine H1.out.call.mono ?_); rintro e w2 ⟨rfl, h2, g2⟩; rw [← HL.out.1] at h2; have H2 := Lib.hid h2; clear h2 g2))
  generalize w1.heap.size = g4 at *
  have hS0 : w2.drew.cell? ⟨g4, 0, Option.none⟩ = some (.func (.func 41) #[] #[.pointer (some ⟨U0.heap.size, 0, Option.none⟩)]) := H2.out.cell
  go_cut [5] from 11 to 25 (fun v wc => ∃ (g5 : Nat) (d : Rp), v = .pointer (some ⟨g5, 0, none⟩) ∧ Hid (ReadR l d ∧ Box wc g5 25 #[.int .i64 d.sg, .int .i64 d.st, .bool d.un, .int .i64 d.tr, .bool d.gd] ∧ Below U0.heap.size U0 wc ∧ U0.heap.size ≤ g5))
  case first => as_aux_lemma =>
    have hbd := build_rep
    refine wp_region_held_drew (S := fun u => u.cell? ⟨g4, 0, Option.none⟩ = some (.func (.func 41) #[] #[.pointer (some ⟨U0.heap.size, 0, Option.none⟩)])) (by kernel_rfl) hS0 (fun hHeld => ?_)
    have H2 := Lib.hid (H2.out.drew)
    generalize w2.drew = V0 at *
    refine Un.tk 0 11 rfl ?_
    refine Un.tk 2 13 rfl ?_
    refine Un.tk 4 15 rfl ?_
    refine Un.tk 5 16 rfl ?_
    refine Un.tk 8 19 rfl ?_
    refine Un.tk 10 21 rfl ?_
    refine Un.tk 11 22 rfl ?_
    refine wpAnyH_ready (rs := [1, 15]) (by decide +kernel) (by simp) ?_
    refine AllReadyH.cons (o := ⟨some 12, _, _, _, _, _⟩) rfl (fun K hK => ?_) (AllReadyH.cons (o := ⟨some 5, _, _, _, _, _⟩) rfl (fun K hK => ?_) AllReadyH.nil)
    · as_aux_lemma =>
        go_simp
        (with_reducible refine H2.out.num.mono ?_)
        rintro e v1 ⟨n1, rfl, hn, hw, hg⟩
        rw [← HL.out.2.1] at hw
        have N1 := Lib.hid hn
        have H3 := Lib.hid hw
        clear hn hw hg
        go_wp2_with fail
        refine hK.out _ _ ?_ (fun hHeld => ?_)
        · exact H3.out.cell
        clear hK K
        (try simp only [Act.put, List.setIfInBounds_toArray, List.set_cons_zero, List.set_cons_succ])
        refine wpAnyH_ready (rs := [3, 15]) (by decide +kernel) (by simp) ?_
        refine AllReadyH.cons (o := ⟨some 14, _, _, _, _, _⟩) rfl (fun K hK => ?_) (AllReadyH.cons (o := ⟨some 5, _, _, _, _, _⟩) rfl (fun K hK => ?_) AllReadyH.nil)
        · as_aux_lemma =>
            go_simp
            (with_reducible refine H3.out.num.mono ?_)
            rintro e v2 ⟨n2, rfl, hn, hw, hg⟩
            rw [← HL.out.2.2.1] at hw
            have N2 := Lib.hid hn
            have H4 := Lib.hid hw
            clear hn hw hg
            go_wp2_with fail
            refine hK.out _ _ ?_ (fun hHeld => ?_)
            · exact H4.out.cell
            clear hK K
            (try simp only [Act.put, List.setIfInBounds_toArray, List.set_cons_zero, List.set_cons_succ])
            refine wpAnyH_ready (rs := [6, 15]) (by decide +kernel) (by simp) ?_
            refine AllReadyH.cons (o := ⟨some 17, _, _, _, _, _⟩) rfl (fun K hK => ?_) (AllReadyH.cons (o := ⟨some 5, _, _, _, _, _⟩) rfl (fun K hK => ?_) AllReadyH.nil)
            · as_aux_lemma =>
                go_simp
                (with_reducible refine H4.out.call.mono ?_)
                rintro e v3 ⟨rfl, hw, hg⟩
                rw [← HL.out.2.2.2.1] at hw
                have H5 := Lib.hid hw
                clear hw hg
                go_wp2_with fail
                refine hK.out _ _ ?_ (fun hHeld => ?_)
                · exact H5.out.cell
                clear hK K
                (try simp only [Act.put, List.setIfInBounds_toArray, List.set_cons_zero, List.set_cons_succ])
                refine Un.tk 7 18 rfl ?_
                refine wpAnyH_ready (rs := [9, 15]) (by decide +kernel) (by simp) ?_
                refine AllReadyH.cons (o := ⟨some 20, _, _, _, _, _⟩) rfl (fun K hK => ?_) (AllReadyH.cons (o := ⟨some 5, _, _, _, _, _⟩) rfl (fun K hK => ?_) AllReadyH.nil)
                · as_aux_lemma =>
                    go_simp
                    (with_reducible refine H5.out.num.mono ?_)
                    rintro e v4 ⟨n3, rfl, hn, hw, hg⟩
                    rw [← HL.out.2.2.2.2] at hw
                    have N4 := Lib.hid hn
                    have H6 := Lib.hid hw
                    clear hn hw hg
                    go_wp2_with fail
                    refine hK.out _ _ ?_ (fun hHeld => ?_)
                    · exact H6.out.cell
                    clear hK K
                    (try simp only [Act.put, List.setIfInBounds_toArray, List.set_cons_zero, List.set_cons_succ])
                    refine wpAnyH_ready (rs := [12, 15]) (by decide +kernel) (by simp) ?_
                    refine AllReadyH.cons (o := ⟨some 23, _, _, _, _, _⟩) rfl (fun K hK => ?_) (AllReadyH.cons (o := ⟨some 5, _, _, _, _, _⟩) rfl (fun K hK => ?_) AllReadyH.nil)
                    · as_aux_lemma =>
                        go_simp
                        (with_reducible refine H6.out.call.mono ?_)
                        rintro e v5 ⟨rfl, hw, hg⟩
                        have H7 := Lib.hid hw
                        clear hw hg
                        go_wp2_with fail
                        refine hK.out _ _ ?_ (fun hHeld => ?_)
                        · exact H7.out.cell
                        clear hK K
                        (try simp only [Act.put, List.setIfInBounds_toArray, List.set_cons_zero, List.set_cons_succ])
                        refine Un.tk 13 24 rfl ?_
                        refine Un.tk (hy := fun u hu => yield_build (parts' := #[(0, .int .i64 n1), (1, .int .i64 n2), (2, .bool un), (3, .int .i64 n3), (4, .bool gd)]) (by kernel_rfl) (hbd _ _ _ _ _ u)) 14 25 rfl ?_
                        refine wpAnyH_ready (rs := [15]) (by decide +kernel) (by simp) ?_
                        refine AllReadyH.cons (o := ⟨some 5, _, _, _, _, _⟩) rfl (fun K hK => ?_) AllReadyH.nil
                        go_simp
                        refine hK.out _ _ ?_ (fun hHeld => ?_)
                        · exact (H7.out.alloc _).cell
                        clear hK K
                        (try simp only [Act.put, List.setIfInBounds_toArray, List.set_cons_zero, List.set_cons_succ])
                        have HA5 := Lib.hid (H7.out.alloc (.cells #[.int .i64 0, .int .i64 0, .bool false, .int .i64 0, .bool false] 25))
                        have qa := Lib.hid (slot_new #[.int .i64 0, .int .i64 0, .bool false, .int .i64 0, .bool false] 25 H7.out)
                        generalize v5.alloc _ = VA5 at *
                        obtain ⟨cs, hcs, hsz, hge, hne1, hne2⟩ := qa.out
                        refine st1 16 25 _ _ rfl (v5.heap.size) 25 cs #[.int .i64 n1, .int .i64 n2, .bool un, .int .i64 n3, .bool gd] rfl rfl hcs (by kernel_rfl) hsz (by kernel_rfl) ?_ (fun hHeld => ?_)
                        · exact (HA5.out.row hne1 hne2 hge _).cell
                        refine wpAnyH_done (by kernel_rfl) ?_ _
                        go_wp2
                        go_meet
                        exact ⟨_, ⟨n1, n2, un, n3, gd⟩, rfl, Lib.hid ⟨⟨by rw [← HL.out.1]; exact N1.out, by rw [← HL.out.1, ← HL.out.2.1]; exact N2.out, HU.out, by rw [← HL.out.1, ← HL.out.2.1, ← HL.out.2.2.1, ← HL.out.2.2.2.1]; exact N4.out, HO.out⟩, box_set hcs _, below_putRow HA5.out.below hge _, hge⟩⟩
                    · as_aux_lemma =>
                        go_simp
                        refine hK.out _ _ ?_ (fun hHeld => ?_)
                        · exact (H6.out.alloc _).cell
                        clear hK K
                        (try simp only [Act.put, List.setIfInBounds_toArray, List.set_cons_zero, List.set_cons_succ])
                        have HA4 := Lib.hid (H6.out.alloc (.cells #[.int .i64 0, .int .i64 0, .bool false, .int .i64 0, .bool false] 25))
                        have qa := Lib.hid (slot_new #[.int .i64 0, .int .i64 0, .bool false, .int .i64 0, .bool false] 25 H6.out)
                        generalize v4.alloc _ = VA4 at *
                        refine wpAnyH_ready (rs := [12]) (by decide +kernel) (by simp) ?_
                        refine AllReadyH.cons (o := ⟨some 23, _, _, _, _, _⟩) rfl (fun K hK => ?_) AllReadyH.nil
                        go_simp
                        (with_reducible refine HA4.out.call.mono ?_)
                        rintro e v5 ⟨rfl, hw, hg⟩
                        have H7 := Lib.hid hw
                        have q5 := Lib.hid (slot_grown qa.out hg)
                        clear hw hg
                        go_wp2_with fail
                        refine hK.out _ _ ?_ (fun hHeld => ?_)
                        · exact H7.out.cell
                        clear hK K
                        (try simp only [Act.put, List.setIfInBounds_toArray, List.set_cons_zero, List.set_cons_succ])
                        refine Un.tk 13 24 rfl ?_
                        refine Un.tk (hy := fun u hu => yield_build (parts' := #[(0, .int .i64 n1), (1, .int .i64 n2), (2, .bool un), (3, .int .i64 n3), (4, .bool gd)]) (by kernel_rfl) (hbd _ _ _ _ _ u)) 14 25 rfl ?_
                        obtain ⟨cs, hcs, hsz, hge, hne1, hne2⟩ := q5.out
                        refine st1 16 25 _ _ rfl (v4.heap.size) 25 cs #[.int .i64 n1, .int .i64 n2, .bool un, .int .i64 n3, .bool gd] rfl rfl hcs (by kernel_rfl) hsz (by kernel_rfl) ?_ (fun hHeld => ?_)
                        · exact (H7.out.row hne1 hne2 hge _).cell
                        refine wpAnyH_done (by kernel_rfl) ?_ _
                        go_wp2
                        go_meet
                        exact ⟨_, ⟨n1, n2, un, n3, gd⟩, rfl, Lib.hid ⟨⟨by rw [← HL.out.1]; exact N1.out, by rw [← HL.out.1, ← HL.out.2.1]; exact N2.out, HU.out, by rw [← HL.out.1, ← HL.out.2.1, ← HL.out.2.2.1, ← HL.out.2.2.2.1]; exact N4.out, HO.out⟩, box_set hcs _, below_putRow H7.out.below hge _, hge⟩⟩
                · as_aux_lemma =>
                    go_simp
                    refine hK.out _ _ ?_ (fun hHeld => ?_)
                    · exact (H5.out.alloc _).cell
                    clear hK K
                    (try simp only [Act.put, List.setIfInBounds_toArray, List.set_cons_zero, List.set_cons_succ])
                    have HA3 := Lib.hid (H5.out.alloc (.cells #[.int .i64 0, .int .i64 0, .bool false, .int .i64 0, .bool false] 25))
                    have qa := Lib.hid (slot_new #[.int .i64 0, .int .i64 0, .bool false, .int .i64 0, .bool false] 25 H5.out)
                    generalize v3.alloc _ = VA3 at *
                    refine wpAnyH_ready (rs := [9]) (by decide +kernel) (by simp) ?_
                    refine AllReadyH.cons (o := ⟨some 20, _, _, _, _, _⟩) rfl (fun K hK => ?_) AllReadyH.nil
                    go_simp
                    (with_reducible refine HA3.out.num.mono ?_)
                    rintro e v4 ⟨n3, rfl, hn, hw, hg⟩
                    rw [← HL.out.2.2.2.2] at hw
                    have N4 := Lib.hid hn
                    have H6 := Lib.hid hw
                    have q4 := Lib.hid (slot_grown qa.out hg)
                    clear hn hw hg
                    go_wp2_with fail
                    refine hK.out _ _ ?_ (fun hHeld => ?_)
                    · exact H6.out.cell
                    clear hK K
                    (try simp only [Act.put, List.setIfInBounds_toArray, List.set_cons_zero, List.set_cons_succ])
                    refine wpAnyH_ready (rs := [12]) (by decide +kernel) (by simp) ?_
                    refine AllReadyH.cons (o := ⟨some 23, _, _, _, _, _⟩) rfl (fun K hK => ?_) AllReadyH.nil
                    go_simp
                    (with_reducible refine H6.out.call.mono ?_)
                    rintro e v5 ⟨rfl, hw, hg⟩
                    have H7 := Lib.hid hw
                    have q5 := Lib.hid (slot_grown q4.out hg)
                    clear hw hg
                    go_wp2_with fail
                    refine hK.out _ _ ?_ (fun hHeld => ?_)
                    · exact H7.out.cell
                    clear hK K
                    (try simp only [Act.put, List.setIfInBounds_toArray, List.set_cons_zero, List.set_cons_succ])
                    refine Un.tk 13 24 rfl ?_
                    refine Un.tk (hy := fun u hu => yield_build (parts' := #[(0, .int .i64 n1), (1, .int .i64 n2), (2, .bool un), (3, .int .i64 n3), (4, .bool gd)]) (by kernel_rfl) (hbd _ _ _ _ _ u)) 14 25 rfl ?_
                    obtain ⟨cs, hcs, hsz, hge, hne1, hne2⟩ := q5.out
                    refine st1 16 25 _ _ rfl (v3.heap.size) 25 cs #[.int .i64 n1, .int .i64 n2, .bool un, .int .i64 n3, .bool gd] rfl rfl hcs (by kernel_rfl) hsz (by kernel_rfl) ?_ (fun hHeld => ?_)
                    · exact (H7.out.row hne1 hne2 hge _).cell
                    refine wpAnyH_done (by kernel_rfl) ?_ _
                    go_wp2
                    go_meet
                    exact ⟨_, ⟨n1, n2, un, n3, gd⟩, rfl, Lib.hid ⟨⟨by rw [← HL.out.1]; exact N1.out, by rw [← HL.out.1, ← HL.out.2.1]; exact N2.out, HU.out, by rw [← HL.out.1, ← HL.out.2.1, ← HL.out.2.2.1, ← HL.out.2.2.2.1]; exact N4.out, HO.out⟩, box_set hcs _, below_putRow H7.out.below hge _, hge⟩⟩
            · as_aux_lemma =>
                go_simp
                refine hK.out _ _ ?_ (fun hHeld => ?_)
                · exact (H4.out.alloc _).cell
                clear hK K
                (try simp only [Act.put, List.setIfInBounds_toArray, List.set_cons_zero, List.set_cons_succ])
                have HA2 := Lib.hid (H4.out.alloc (.cells #[.int .i64 0, .int .i64 0, .bool false, .int .i64 0, .bool false] 25))
                have qa := Lib.hid (slot_new #[.int .i64 0, .int .i64 0, .bool false, .int .i64 0, .bool false] 25 H4.out)
                generalize v2.alloc _ = VA2 at *
                refine wpAnyH_ready (rs := [6]) (by decide +kernel) (by simp) ?_
                refine AllReadyH.cons (o := ⟨some 17, _, _, _, _, _⟩) rfl (fun K hK => ?_) AllReadyH.nil
                go_simp
                (with_reducible refine HA2.out.call.mono ?_)
                rintro e v3 ⟨rfl, hw, hg⟩
                rw [← HL.out.2.2.2.1] at hw
                have H5 := Lib.hid hw
                have q3 := Lib.hid (slot_grown qa.out hg)
                clear hw hg
                go_wp2_with fail
                refine hK.out _ _ ?_ (fun hHeld => ?_)
                · exact H5.out.cell
                clear hK K
                (try simp only [Act.put, List.setIfInBounds_toArray, List.set_cons_zero, List.set_cons_succ])
                refine Un.tk 7 18 rfl ?_
                refine wpAnyH_ready (rs := [9]) (by decide +kernel) (by simp) ?_
                refine AllReadyH.cons (o := ⟨some 20, _, _, _, _, _⟩) rfl (fun K hK => ?_) AllReadyH.nil
                go_simp
                (with_reducible refine H5.out.num.mono ?_)
                rintro e v4 ⟨n3, rfl, hn, hw, hg⟩
                rw [← HL.out.2.2.2.2] at hw
                have N4 := Lib.hid hn
                have H6 := Lib.hid hw
                have q4 := Lib.hid (slot_grown q3.out hg)
                clear hn hw hg
                go_wp2_with fail
                refine hK.out _ _ ?_ (fun hHeld => ?_)
                · exact H6.out.cell
                clear hK K
                (try simp only [Act.put, List.setIfInBounds_toArray, List.set_cons_zero, List.set_cons_succ])
                refine wpAnyH_ready (rs := [12]) (by decide +kernel) (by simp) ?_
                refine AllReadyH.cons (o := ⟨some 23, _, _, _, _, _⟩) rfl (fun K hK => ?_) AllReadyH.nil
                go_simp
                (with_reducible refine H6.out.call.mono ?_)
                rintro e v5 ⟨rfl, hw, hg⟩
                have H7 := Lib.hid hw
                have q5 := Lib.hid (slot_grown q4.out hg)
                clear hw hg
                go_wp2_with fail
                refine hK.out _ _ ?_ (fun hHeld => ?_)
                · exact H7.out.cell
                clear hK K
                (try simp only [Act.put, List.setIfInBounds_toArray, List.set_cons_zero, List.set_cons_succ])
                refine Un.tk 13 24 rfl ?_
                refine Un.tk (hy := fun u hu => yield_build (parts' := #[(0, .int .i64 n1), (1, .int .i64 n2), (2, .bool un), (3, .int .i64 n3), (4, .bool gd)]) (by kernel_rfl) (hbd _ _ _ _ _ u)) 14 25 rfl ?_
                obtain ⟨cs, hcs, hsz, hge, hne1, hne2⟩ := q5.out
                refine st1 16 25 _ _ rfl (v2.heap.size) 25 cs #[.int .i64 n1, .int .i64 n2, .bool un, .int .i64 n3, .bool gd] rfl rfl hcs (by kernel_rfl) hsz (by kernel_rfl) ?_ (fun hHeld => ?_)
                · exact (H7.out.row hne1 hne2 hge _).cell
                refine wpAnyH_done (by kernel_rfl) ?_ _
                go_wp2
                go_meet
                exact ⟨_, ⟨n1, n2, un, n3, gd⟩, rfl, Lib.hid ⟨⟨by rw [← HL.out.1]; exact N1.out, by rw [← HL.out.1, ← HL.out.2.1]; exact N2.out, HU.out, by rw [← HL.out.1, ← HL.out.2.1, ← HL.out.2.2.1, ← HL.out.2.2.2.1]; exact N4.out, HO.out⟩, box_set hcs _, below_putRow H7.out.below hge _, hge⟩⟩
        · as_aux_lemma =>
            go_simp
            refine hK.out _ _ ?_ (fun hHeld => ?_)
            · exact (H3.out.alloc _).cell
            clear hK K
            (try simp only [Act.put, List.setIfInBounds_toArray, List.set_cons_zero, List.set_cons_succ])
            have HA1 := Lib.hid (H3.out.alloc (.cells #[.int .i64 0, .int .i64 0, .bool false, .int .i64 0, .bool false] 25))
            have qa := Lib.hid (slot_new #[.int .i64 0, .int .i64 0, .bool false, .int .i64 0, .bool false] 25 H3.out)
            generalize v1.alloc _ = VA1 at *
            refine wpAnyH_ready (rs := [3]) (by decide +kernel) (by simp) ?_
            refine AllReadyH.cons (o := ⟨some 14, _, _, _, _, _⟩) rfl (fun K hK => ?_) AllReadyH.nil
            go_simp
            (with_reducible refine HA1.out.num.mono ?_)
            rintro e v2 ⟨n2, rfl, hn, hw, hg⟩
            rw [← HL.out.2.2.1] at hw
            have N2 := Lib.hid hn
            have H4 := Lib.hid hw
            have q2 := Lib.hid (slot_grown qa.out hg)
            clear hn hw hg
            go_wp2_with fail
            refine hK.out _ _ ?_ (fun hHeld => ?_)
            · exact H4.out.cell
            clear hK K
            (try simp only [Act.put, List.setIfInBounds_toArray, List.set_cons_zero, List.set_cons_succ])
            refine wpAnyH_ready (rs := [6]) (by decide +kernel) (by simp) ?_
            refine AllReadyH.cons (o := ⟨some 17, _, _, _, _, _⟩) rfl (fun K hK => ?_) AllReadyH.nil
            go_simp
            (with_reducible refine H4.out.call.mono ?_)
            rintro e v3 ⟨rfl, hw, hg⟩
            rw [← HL.out.2.2.2.1] at hw
            have H5 := Lib.hid hw
            have q3 := Lib.hid (slot_grown q2.out hg)
            clear hw hg
            go_wp2_with fail
            refine hK.out _ _ ?_ (fun hHeld => ?_)
            · exact H5.out.cell
            clear hK K
            (try simp only [Act.put, List.setIfInBounds_toArray, List.set_cons_zero, List.set_cons_succ])
            refine Un.tk 7 18 rfl ?_
            refine wpAnyH_ready (rs := [9]) (by decide +kernel) (by simp) ?_
            refine AllReadyH.cons (o := ⟨some 20, _, _, _, _, _⟩) rfl (fun K hK => ?_) AllReadyH.nil
            go_simp
            (with_reducible refine H5.out.num.mono ?_)
            rintro e v4 ⟨n3, rfl, hn, hw, hg⟩
            rw [← HL.out.2.2.2.2] at hw
            have N4 := Lib.hid hn
            have H6 := Lib.hid hw
            have q4 := Lib.hid (slot_grown q3.out hg)
            clear hn hw hg
            go_wp2_with fail
            refine hK.out _ _ ?_ (fun hHeld => ?_)
            · exact H6.out.cell
            clear hK K
            (try simp only [Act.put, List.setIfInBounds_toArray, List.set_cons_zero, List.set_cons_succ])
            refine wpAnyH_ready (rs := [12]) (by decide +kernel) (by simp) ?_
            refine AllReadyH.cons (o := ⟨some 23, _, _, _, _, _⟩) rfl (fun K hK => ?_) AllReadyH.nil
            go_simp
            (with_reducible refine H6.out.call.mono ?_)
            rintro e v5 ⟨rfl, hw, hg⟩
            have H7 := Lib.hid hw
            have q5 := Lib.hid (slot_grown q4.out hg)
            clear hw hg
            go_wp2_with fail
            refine hK.out _ _ ?_ (fun hHeld => ?_)
            · exact H7.out.cell
            clear hK K
            (try simp only [Act.put, List.setIfInBounds_toArray, List.set_cons_zero, List.set_cons_succ])
            refine Un.tk 13 24 rfl ?_
            refine Un.tk (hy := fun u hu => yield_build (parts' := #[(0, .int .i64 n1), (1, .int .i64 n2), (2, .bool un), (3, .int .i64 n3), (4, .bool gd)]) (by kernel_rfl) (hbd _ _ _ _ _ u)) 14 25 rfl ?_
            obtain ⟨cs, hcs, hsz, hge, hne1, hne2⟩ := q5.out
            refine st1 16 25 _ _ rfl (v1.heap.size) 25 cs #[.int .i64 n1, .int .i64 n2, .bool un, .int .i64 n3, .bool gd] rfl rfl hcs (by kernel_rfl) hsz (by kernel_rfl) ?_ (fun hHeld => ?_)
            · exact (H7.out.row hne1 hne2 hge _).cell
            refine wpAnyH_done (by kernel_rfl) ?_ _
            go_wp2
            go_meet
            exact ⟨_, ⟨n1, n2, un, n3, gd⟩, rfl, Lib.hid ⟨⟨by rw [← HL.out.1]; exact N1.out, by rw [← HL.out.1, ← HL.out.2.1]; exact N2.out, HU.out, by rw [← HL.out.1, ← HL.out.2.1, ← HL.out.2.2.1, ← HL.out.2.2.2.1]; exact N4.out, HO.out⟩, box_set hcs _, below_putRow H7.out.below hge _, hge⟩⟩
    · as_aux_lemma =>
        go_simp
        refine hK.out _ _ ?_ (fun hHeld => ?_)
        · exact (H2.out.alloc _).cell
        clear hK K
        (try simp only [Act.put, List.setIfInBounds_toArray, List.set_cons_zero, List.set_cons_succ])
        have HA0 := Lib.hid (H2.out.alloc (.cells #[.int .i64 0, .int .i64 0, .bool false, .int .i64 0, .bool false] 25))
        have qa := Lib.hid (slot_new #[.int .i64 0, .int .i64 0, .bool false, .int .i64 0, .bool false] 25 H2.out)
        generalize V0.alloc _ = VA0 at *
        refine wpAnyH_ready (rs := [1]) (by decide +kernel) (by simp) ?_
        refine AllReadyH.cons (o := ⟨some 12, _, _, _, _, _⟩) rfl (fun K hK => ?_) AllReadyH.nil
        go_simp
        (with_reducible refine HA0.out.num.mono ?_)
        rintro e v1 ⟨n1, rfl, hn, hw, hg⟩
        rw [← HL.out.2.1] at hw
        have N1 := Lib.hid hn
        have H3 := Lib.hid hw
        have q1 := Lib.hid (slot_grown qa.out hg)
        clear hn hw hg
        go_wp2_with fail
        refine hK.out _ _ ?_ (fun hHeld => ?_)
        · exact H3.out.cell
        clear hK K
        (try simp only [Act.put, List.setIfInBounds_toArray, List.set_cons_zero, List.set_cons_succ])
        refine wpAnyH_ready (rs := [3]) (by decide +kernel) (by simp) ?_
        refine AllReadyH.cons (o := ⟨some 14, _, _, _, _, _⟩) rfl (fun K hK => ?_) AllReadyH.nil
        go_simp
        (with_reducible refine H3.out.num.mono ?_)
        rintro e v2 ⟨n2, rfl, hn, hw, hg⟩
        rw [← HL.out.2.2.1] at hw
        have N2 := Lib.hid hn
        have H4 := Lib.hid hw
        have q2 := Lib.hid (slot_grown q1.out hg)
        clear hn hw hg
        go_wp2_with fail
        refine hK.out _ _ ?_ (fun hHeld => ?_)
        · exact H4.out.cell
        clear hK K
        (try simp only [Act.put, List.setIfInBounds_toArray, List.set_cons_zero, List.set_cons_succ])
        refine wpAnyH_ready (rs := [6]) (by decide +kernel) (by simp) ?_
        refine AllReadyH.cons (o := ⟨some 17, _, _, _, _, _⟩) rfl (fun K hK => ?_) AllReadyH.nil
        go_simp
        (with_reducible refine H4.out.call.mono ?_)
        rintro e v3 ⟨rfl, hw, hg⟩
        rw [← HL.out.2.2.2.1] at hw
        have H5 := Lib.hid hw
        have q3 := Lib.hid (slot_grown q2.out hg)
        clear hw hg
        go_wp2_with fail
        refine hK.out _ _ ?_ (fun hHeld => ?_)
        · exact H5.out.cell
        clear hK K
        (try simp only [Act.put, List.setIfInBounds_toArray, List.set_cons_zero, List.set_cons_succ])
        refine Un.tk 7 18 rfl ?_
        refine wpAnyH_ready (rs := [9]) (by decide +kernel) (by simp) ?_
        refine AllReadyH.cons (o := ⟨some 20, _, _, _, _, _⟩) rfl (fun K hK => ?_) AllReadyH.nil
        go_simp
        (with_reducible refine H5.out.num.mono ?_)
        rintro e v4 ⟨n3, rfl, hn, hw, hg⟩
        rw [← HL.out.2.2.2.2] at hw
        have N4 := Lib.hid hn
        have H6 := Lib.hid hw
        have q4 := Lib.hid (slot_grown q3.out hg)
        clear hn hw hg
        go_wp2_with fail
        refine hK.out _ _ ?_ (fun hHeld => ?_)
        · exact H6.out.cell
        clear hK K
        (try simp only [Act.put, List.setIfInBounds_toArray, List.set_cons_zero, List.set_cons_succ])
        refine wpAnyH_ready (rs := [12]) (by decide +kernel) (by simp) ?_
        refine AllReadyH.cons (o := ⟨some 23, _, _, _, _, _⟩) rfl (fun K hK => ?_) AllReadyH.nil
        go_simp
        (with_reducible refine H6.out.call.mono ?_)
        rintro e v5 ⟨rfl, hw, hg⟩
        have H7 := Lib.hid hw
        have q5 := Lib.hid (slot_grown q4.out hg)
        clear hw hg
        go_wp2_with fail
        refine hK.out _ _ ?_ (fun hHeld => ?_)
        · exact H7.out.cell
        clear hK K
        (try simp only [Act.put, List.setIfInBounds_toArray, List.set_cons_zero, List.set_cons_succ])
        refine Un.tk 13 24 rfl ?_
        refine Un.tk (hy := fun u hu => yield_build (parts' := #[(0, .int .i64 n1), (1, .int .i64 n2), (2, .bool un), (3, .int .i64 n3), (4, .bool gd)]) (by kernel_rfl) (hbd _ _ _ _ _ u)) 14 25 rfl ?_
        obtain ⟨cs, hcs, hsz, hge, hne1, hne2⟩ := q5.out
        refine st1 16 25 _ _ rfl (V0.heap.size) 25 cs #[.int .i64 n1, .int .i64 n2, .bool un, .int .i64 n3, .bool gd] rfl rfl hcs (by kernel_rfl) hsz (by kernel_rfl) ?_ (fun hHeld => ?_)
        · exact (H7.out.row hne1 hne2 hge _).cell
        refine wpAnyH_done (by kernel_rfl) ?_ _
        go_wp2
        go_meet
        exact ⟨_, ⟨n1, n2, un, n3, gd⟩, rfl, Lib.hid ⟨⟨by rw [← HL.out.1]; exact N1.out, by rw [← HL.out.1, ← HL.out.2.1]; exact N2.out, HU.out, by rw [← HL.out.1, ← HL.out.2.1, ← HL.out.2.2.1, ← HL.out.2.2.2.1]; exact N4.out, HO.out⟩, box_set hcs _, below_putRow H7.out.below hge _, hge⟩⟩
  case rest =>
    clear HW HU HO eu eo HL H1 H2 hS0
    obtain ⟨g5, d, rfl, HQ⟩ := hcut
    obtain ⟨hr, hx, hb, hge⟩ := HQ.out
    have HRx := Lib.hid (HZ0.out.2.below hb hlt)
    have HC := Lib.hid (fun u (hu : Below U0.heap.size U0 u) => goodReply_any d u)
    have HN := Lib.hid (fun u (hu : Below U0.heap.size U0 u) => replyLine_any d u (HGl.out.on hu))
    have HX := Lib.hid hx
    have HB := Lib.hid hb
    have HR := Lib.hid hr
    have c0 := hx.cell 0
    have c1 := hx.cell 1
    have c2 := hx.cell 2
    have c3 := hx.cell 3
    have c4 := hx.cell 4
    clear hr hx hb HQ HLen
    cases hgd : goodR d
    · have HP : Hid (RepIs l zR false) := Lib.hid (.inr ⟨rfl, rfl, rep_none HR.out fun h => absurd h.1 (of_decide_eq_false hgd)⟩)
      rw [hgd] at HC
      clear hgd HR HN HGl
      go_wp2_with (go_at_call 8; (with_reducible refine (HC.out _ HB.out).mono ?_); rintro e w3 ⟨rfl, hb3⟩; have HB3 := Lib.hid (HB.out.trans (hb3.mono HB.out.size)); have bb := HX.out.below hb3 HX.out.lt; have d0 := bb.cell 0; have d1 := bb.cell 1; have d2 := bb.cell 2; have d3 := bb.cell 3; have d4 := bb.cell 4; have rr := HRx.out.below hb3 HRx.out.lt; have HR3 := Lib.hid rr; have HX3 := Lib.hid bb; have r0 := rr.cell 0; have r1 := rr.cell 1; have r2 := rr.cell 2; have r3 := rr.cell 3; have r4 := rr.cell 4; have s0 := rr.frozen 0; have s1 := rr.frozen 1; have s2 := rr.frozen 2; have s3 := rr.frozen 3; have s4 := rr.frozen 4; clear hb3 bb rr)
      (try simp only [Exit.inBlock, Exit.then])
      exact bodyPost_ret (res2 rfl _ _ w.heap.size _ rfl (run_loadVar_row _ _ _ _ _ _ _ (bx5 HR3.out _ _ _ _ _) Tryd.underlying25 rfl (by kernel_rfl))) rfl ⟨zR, false, rfl, HP.out, below5 (HZ0.out.1.trans (HB3.out.mono (Nat.le_of_lt hlt))) (Nat.le_refl _) _ _ _ _ _⟩
    · have hg := of_decide_eq_true hgd
      have e1 : lnR d = lineR d := by unfold lnR; rw [hgd]; rfl
      by_cases hl : lineR d = l
      · have HP : Hid (RepIs l d true) := Lib.hid (.inl ⟨rfl, hg, hl⟩)
        have eL : ((tx (lnR d)).toList == (tx l).toList) = true := by rw [e1, hl]; simp
        generalize lnR d = L at *
        rw [hgd] at HC
        clear hgd HR HGl hg e1 hl
        go_wp2_with (first | (go_at_call 8; (with_reducible refine (HC.out _ HB.out).mono ?_); rintro e w3 ⟨rfl, hb3⟩; have HB3 := Lib.hid (HB.out.trans (hb3.mono HB.out.size)); have bb := HX.out.below hb3 HX.out.lt; have d0 := bb.cell 0; have d1 := bb.cell 1; have d2 := bb.cell 2; have d3 := bb.cell 3; have d4 := bb.cell 4; have rr := HRx.out.below hb3 HRx.out.lt; have HR3 := Lib.hid rr; have HX3 := Lib.hid bb; have r0 := rr.cell 0; have r1 := rr.cell 1; have r2 := rr.cell 2; have r3 := rr.cell 3; have r4 := rr.cell 4; have s0 := rr.frozen 0; have s1 := rr.frozen 1; have s2 := rr.frozen 2; have s3 := rr.frozen 3; have s4 := rr.frozen 4; clear hb3 bb rr) | (go_at_call 11; (with_reducible refine (HN.out _ HB3.out).mono ?_); rintro e w4 ⟨rfl, hb4⟩; have HB4 := Lib.hid (HB3.out.trans (hb4.mono HB3.out.size)); have bb := HX3.out.below hb4 HX3.out.lt; have x0 := bb.cell 0; have x1 := bb.cell 1; have x2 := bb.cell 2; have x3 := bb.cell 3; have x4 := bb.cell 4; have rr := HR3.out.below hb4 HR3.out.lt; have HR4 := Lib.hid rr; have y0 := rr.cell 0; have y1 := rr.cell 1; have y2 := rr.cell 2; have y3 := rr.cell 3; have y4 := rr.cell 4; have f0 := rr.frozen 0; have f1 := rr.frozen 1; have f2 := rr.frozen 2; have f3 := rr.frozen 3; have f4 := rr.frozen 4; clear hb4 bb rr))
        (try simp only [Exit.inBlock, Exit.then])
        exact bodyPost_ret (res2 rfl _ _ w.heap.size _ rfl (run_loadVar_row _ _ _ _ _ _ _ (bx5 HR4.out _ _ _ _ _) Tryd.underlying25 rfl (by kernel_rfl))) rfl ⟨d, true, rfl, HP.out, below5 (HZ0.out.1.trans (HB4.out.mono (Nat.le_of_lt hlt))) (Nat.le_refl _) _ _ _ _ _⟩
      · have HP : Hid (RepIs l zR false) := Lib.hid (.inr ⟨rfl, rfl, rep_none HR.out fun h => absurd h.2 hl⟩)
        have eL : ((tx (lnR d)).toList == (tx l).toList) = false := by
          rw [e1, ByteArray.toList_eq, ByteArray.toList_eq, tx_list, tx_list]
          exact beq_eq_false_iff_ne.2 hl
        generalize lnR d = L at *
        rw [hgd] at HC
        clear hgd HR HGl hg e1 hl
        go_wp2_with (first | (go_at_call 8; (with_reducible refine (HC.out _ HB.out).mono ?_); rintro e w3 ⟨rfl, hb3⟩; have HB3 := Lib.hid (HB.out.trans (hb3.mono HB.out.size)); have bb := HX.out.below hb3 HX.out.lt; have d0 := bb.cell 0; have d1 := bb.cell 1; have d2 := bb.cell 2; have d3 := bb.cell 3; have d4 := bb.cell 4; have rr := HRx.out.below hb3 HRx.out.lt; have HR3 := Lib.hid rr; have HX3 := Lib.hid bb; have r0 := rr.cell 0; have r1 := rr.cell 1; have r2 := rr.cell 2; have r3 := rr.cell 3; have r4 := rr.cell 4; have s0 := rr.frozen 0; have s1 := rr.frozen 1; have s2 := rr.frozen 2; have s3 := rr.frozen 3; have s4 := rr.frozen 4; clear hb3 bb rr) | (go_at_call 11; (with_reducible refine (HN.out _ HB3.out).mono ?_); rintro e w4 ⟨rfl, hb4⟩; have HB4 := Lib.hid (HB3.out.trans (hb4.mono HB3.out.size)); have bb := HX3.out.below hb4 HX3.out.lt; have x0 := bb.cell 0; have x1 := bb.cell 1; have x2 := bb.cell 2; have x3 := bb.cell 3; have x4 := bb.cell 4; have rr := HR3.out.below hb4 HR3.out.lt; have HR4 := Lib.hid rr; have y0 := rr.cell 0; have y1 := rr.cell 1; have y2 := rr.cell 2; have y3 := rr.cell 3; have y4 := rr.cell 4; have f0 := rr.frozen 0; have f1 := rr.frozen 1; have f2 := rr.frozen 2; have f3 := rr.frozen 3; have f4 := rr.frozen 4; clear hb4 bb rr))
        (try simp only [Exit.inBlock, Exit.then])
        exact bodyPost_ret (res2 rfl _ _ w.heap.size _ rfl (run_loadVar_row _ _ _ _ _ _ _ (bx5 HR4.out _ _ _ _ _) Tryd.underlying25 rfl (by kernel_rfl))) rfl ⟨zR, false, rfl, HP.out, below5 (HZ0.out.1.trans (HB4.out.mono (Nat.le_of_lt hlt))) (Nat.le_refl _) _ _ _ _ _⟩
end Go.Proofs.YtllpjfbcjcnpcaaDoor.Wi
