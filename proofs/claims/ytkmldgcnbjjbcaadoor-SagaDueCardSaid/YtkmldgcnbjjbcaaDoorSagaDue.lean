/-
  The statement SagaDueCardSaid: for every input the law function SagaDue returns true (ahead of the tick at which something is due nothing can be done by time; at it something can), and the arguments read afterwards as before.
  Conditions: none beyond the statement's own (the listed tables of the library hold what its text lays).
-/
import Derived.Test.YtkmldgcnbjjbcaaDoorSagLaw
import Derived.Test.YtkmldgcnbjjbcaaDoorSagArgs
import Derived.Test.YtkmldgcnbjjbcaaDoorSagDo
import Derived.Test.YtkmldgcnbjjbcaaDoorSagStayMath
import Derived.Test.YtkmldgcnbjjbcaaDoorSagDue
import Derived.Test.YtkmldgcnbjjbcaaDoorSagRDo
import Derived.Test.YtkmldgcnbjjbcaaDoorSagRMay
import Derived.StillTailTactics
import Derived.Deep.DeepCutAuto
namespace Go.Proofs.YtkmldgcnbjjbcaaDoor.sagaDue
open Go.Proofs.YtkmldgcnbjjbcaaDoor.Sa Go.Proofs.YtkmldgcnbjjbcaaDoor.Df Go.Proofs.YtkmldgcnbjjbcaaDoor.El
open Go.Proofs.YtkmldgcnbjjbcaaDoor.Bo (P Made ret_int ret_bool)
open Go.ChangeShapes Go.WideShapes Go.ChangeAt Go.RowKit Go.Sort
open Go.ChangeMaps (open_string shut_string)

set_option maxHeartbeats 16000000 in
set_option maxRecDepth 100000 in
theorem walk (nm : ByteArray) (dl : Int) (A : Option Addr) (c : Nat) (ss : List Stp) (now : Int) (LA : Option Addr) (lc : Nat) (l : List Ac) (look : Int) (w : World) (hT : Tab w) (hnz : nm.size ≤ 140737488355328) (hl : ss.length ≤ 9223372036854775807) (hc : ss.length ≤ c) (hf : ∀ s ∈ ss, s.Fits ∧ Big s) (he : Df.Steps w w.heap.size A ss)
    (hml : l.length ≤ 9223372036854775807) (hle : Els Ac.cells 7 w w.heap.size LA l) :
    Calls Tryd.prog 8 #[.agg #[.string nm, .int .i64 dl, .slice A ss.length c], .int .i64 now, .slice LA l.length lc, .int .i64 look] w fun e w' => e = .returned (.bool true) ∧ Below w.heap.size w w' := by
  obtain ⟨n, hn⟩ : ∃ n, n = ss.length := ⟨_, rfl⟩
  obtain ⟨m, hm⟩ : ∃ m, m = l.length := ⟨_, rfl⟩
  rw [← hn] at hl hc ⊢
  rw [← hm] at hml ⊢
  have HL := Lib.hid hle
  have HM := Lib.hid hm
  have HA : Hid (∀ w', Below w.heap.size w w' → Calls Tryd.prog 24 #[] w' fun e w'' => e = .returned (.bool true) ∧ Below w'.heap.size w' w'') := Lib.hid fun w' h => awake_any w' (tab_below hT h)
  have HSm : Hid (∀ w', Below w.heap.size w w' → Calls Tryd.prog 11 #[.agg #[.string nm, .int .i64 dl, .slice A n c]] w' fun e w'' => e = .returned (.int .i64 (smallI nm ss)) ∧ Below w'.heap.size w' w'') := Lib.hid fun w' h => (small_any nm dl A c ss n w' hn hl (by omega) (fun s hs => (hf s hs).1) (he.on h)).mono fun e w'' ⟨h1, h2⟩ => ⟨h1, h2.below⟩
  have hck : ∀ W, Below w.heap.size w W → Calls Tryd.prog 13 #[.agg #[.string nm, .int .i64 dl, .slice A n c]] W (ChkPost nm dl ss W) := fun W hW => rcheck_any nm dl A c ss n W hn hl (he.on hW) hnz (fun s hs => (hf s hs).2)
  obtain ⟨hC1, hC0⟩ := chk_ok hck
  clear hle hm
  by_cases hr : RightD nm dl ss
  · have HC := Lib.hid (hC1 hr)
    by_cases hq : smallI nm ss = 0
    · rw [hq] at HSm
      by_cases h60 : m ≤ 60
      · have t1 : decide ((60 : Int) < (m : Int)) = false := decide_eq_false (by omega)
        have t2 : decide (60 < m) = false := decide_eq_false (by omega)
        obtain ⟨s40, snm, sst⟩ := small_yes hq
        have hd : Dn w nm A n c ss := ⟨hn, by omega, hc, he, by omega, fun s hs => by have := sst s hs; omega, hT⟩
        have HDn := Lib.hid hd
        have HB : Hid (∀ W, Calls Tryd.prog 25 #[.agg #[.string nm, .int .i64 dl, .slice A n c], .int .i64 7, .int .i64 now] W fun e w' => e = .returned (.agg #[.int .i64 7, .string nm, .int .i64 (ofT now), .int .i64 0, .int .i64 0, .int .i64 0, .bool false, .int .i64 (ofT now), .int .i64 0]) ∧ Made W w') := Lib.hid fun W => begin_any nm dl A n c 7 now W
        have HX0 : Hid (Row7 nm dl ss 7 ⟨7, nm, ofT now, 0, 0, 0, false, ofT now, 0⟩) := Lib.hid (row_begin hr (by decide))
        generalize ofT now = t0 at *
        have HN := Lib.hid hn
        clear hT hnz hl hc hf he hck hC1 hC0 hr hq s40 snm sst hd hn
        go_enter Tryd.func8, Tryd.ntmps8
        go_wp2_with (first
          | (go_at_call 24; (with_reducible refine (HA.out _ (al1 w _)).mono ?_); rintro e w1 ⟨rfl, hb⟩; have H1 := Lib.hid (ld_start hb); clear hb; obtain ⟨d0, d1, d2⟩ := H1.out.cd)
          | (go_at_call 13; (with_reducible refine (HC.out _ H1.out.b).mono ?_); rintro e w2 ⟨k, rfl, hb⟩; have H2 := Lib.hid (H1.out.on hb); clear hb; obtain ⟨d0, d1, d2⟩ := H2.out.cd)
          | (go_at_call 11; (with_reducible refine (HSm.out _ H2.out.b).mono ?_); rintro e w3 ⟨rfl, hb⟩; have H3 := Lib.hid (H2.out.on hb); clear hb; obtain ⟨d0, d1, d2⟩ := H3.out.cd)
          | (go_at_call 25; (with_reducible refine (HB.out _).mono ?_); rintro e w4 ⟨rfl, hm⟩; have H4 := Lib.hid (H3.out.on hm.below); clear hm; obtain ⟨d0, d1, d2⟩ := H4.out.cd))
        have H5 := Lib.hid (Ld.aw (s := ⟨7, nm, t0, 0, 0, 0, false, t0, 0⟩) H4.out (Below.refl _ _))
        dsimp only at H5
        clear d0 d1 d2 HA HSm HC HB H1 H2 H3 H4
        generalize w4.heap.size = g at *
        generalize w4.alloc _ = W5 at *
        go_loopw [12] (fun vi wr => ∃ (k : Nat) (x : Sg), vi = .int .i64 (k : Int) ∧ k ≤ m ∧ Hid (Aw w wr w.heap.size g nm dl A n c x) ∧ Hid (Row7 nm dl ss 7 x)) (fun vi _ => m - (intOf vi).toNat)
        case atStart => exact ⟨0, _, rfl, Nat.zero_le _, H5, HX0⟩
        case round =>
          clear H5 HX0
          obtain ⟨k, x, rfl, hk, HW, HX⟩ := hrel
          by_cases hkm : k < m
          · obtain ⟨a, ha⟩ : ∃ a, l[k]? = some a := ⟨l[k]'(by have := HM.out; omega), List.getElem?_eq_getElem _⟩
            obtain ⟨b, o, hLA, hbw, hac⟩ := HL.out k a ha
            subst hLA
            obtain ⟨d0, d1, d2⟩ := HW.out.cd
            obtain ⟨x0, x1, x2, x3, x4, x5, x6, x7, x8⟩ := HW.out.cs
            have c0 := (HW.out.bel.cell (p := ⟨b, o + k * 7 + 0, none⟩) hbw).trans (hac 0 _ rfl)
            have c1 := (HW.out.bel.cell (p := ⟨b, o + k * 7 + 1, none⟩) hbw).trans (hac 1 _ rfl)
            have c2 := (HW.out.bel.cell (p := ⟨b, o + k * 7 + 2, none⟩) hbw).trans (hac 2 _ rfl)
            have c3 := (HW.out.bel.cell (p := ⟨b, o + k * 7 + 3, none⟩) hbw).trans (hac 3 _ rfl)
            have c4 := (HW.out.bel.cell (p := ⟨b, o + k * 7 + 4, none⟩) hbw).trans (hac 4 _ rfl)
            have c5 := (HW.out.bel.cell (p := ⟨b, o + k * 7 + 5, none⟩) hbw).trans (hac 5 _ rfl)
            have c6 := (HW.out.bel.cell (p := ⟨b, o + k * 7 + 6, none⟩) hbw).trans (hac 6 _ rfl)
            simp only [Nat.add_zero] at c0
            have hwz := HW.out.bel.size
            have HD := Lib.hid (fun W (hW : Below w.heap.size w W) => do_any nm dl A n c ss x a W (HDn.out.on hW) (by have := HX.out.tr; omega) (by have := HX.out.id; omega))
            have HXn := Lib.hid (HX.out.does a)
            generalize doA nm dl ss x a = Y at *
            obtain ⟨y, C, er⟩ := Y
            dsimp only at HD HXn
            go_upto_region 10 with (fail)
            clear d0 d1 d2 x0 x1 x2 x3 x4 x5 x6 x7 x8 c0 c1 c2 c3 c4 c5 c6
            have H5 := Lib.hid (HW.out.on (Below.drew (Below.refl _ _)))
            have u0 : ∀ u, (fun u => Below w.heap.size w u ∧ Box u w.heap.size 24 #[.string nm, .int .i64 dl, .slice A n c]) u → u.cell? ⟨w.heap.size, 0, none⟩ = some (.string nm) := fun u H => H.2.cell 0
            have u1 : ∀ u, (fun u => Below w.heap.size w u ∧ Box u w.heap.size 24 #[.string nm, .int .i64 dl, .slice A n c]) u → u.cell? ⟨w.heap.size, 1, none⟩ = some (.int .i64 dl) := fun u H => H.2.cell 1
            have u2 : ∀ u, (fun u => Below w.heap.size w u ∧ Box u w.heap.size 24 #[.string nm, .int .i64 dl, .slice A n c]) u → u.cell? ⟨w.heap.size, 2, none⟩ = some (.slice A n c) := fun u H => H.2.cell 2
            have a0 : ∀ u, (fun u => Below w.heap.size w u ∧ Box u w.heap.size 24 #[.string nm, .int .i64 dl, .slice A n c]) u → u.cell? ⟨b, o + k * 7, none⟩ = some (.int .i64 a.k) := fun u H => (H.1.cell (p := ⟨b, o + k * 7, none⟩) hbw).trans (hac 0 _ rfl)
            have a1 : ∀ u, (fun u => Below w.heap.size w u ∧ Box u w.heap.size 24 #[.string nm, .int .i64 dl, .slice A n c]) u → u.cell? ⟨b, o + k * 7 + 1, none⟩ = some (.int .i64 a.now) := fun u H => (H.1.cell (p := ⟨b, o + k * 7 + 1, none⟩) hbw).trans (hac 1 _ rfl)
            have a2 : ∀ u, (fun u => Below w.heap.size w u ∧ Box u w.heap.size 24 #[.string nm, .int .i64 dl, .slice A n c]) u → u.cell? ⟨b, o + k * 7 + 2, none⟩ = some (.int .i64 a.r.sg) := fun u H => (H.1.cell (p := ⟨b, o + k * 7 + 2, none⟩) hbw).trans (hac 2 _ rfl)
            have a3 : ∀ u, (fun u => Below w.heap.size w u ∧ Box u w.heap.size 24 #[.string nm, .int .i64 dl, .slice A n c]) u → u.cell? ⟨b, o + k * 7 + 3, none⟩ = some (.int .i64 a.r.sp) := fun u H => (H.1.cell (p := ⟨b, o + k * 7 + 3, none⟩) hbw).trans (hac 3 _ rfl)
            have a4 : ∀ u, (fun u => Below w.heap.size w u ∧ Box u w.heap.size 24 #[.string nm, .int .i64 dl, .slice A n c]) u → u.cell? ⟨b, o + k * 7 + 4, none⟩ = some (.bool a.r.un) := fun u H => (H.1.cell (p := ⟨b, o + k * 7 + 4, none⟩) hbw).trans (hac 4 _ rfl)
            have a5 : ∀ u, (fun u => Below w.heap.size w u ∧ Box u w.heap.size 24 #[.string nm, .int .i64 dl, .slice A n c]) u → u.cell? ⟨b, o + k * 7 + 5, none⟩ = some (.int .i64 a.r.tr) := fun u H => (H.1.cell (p := ⟨b, o + k * 7 + 5, none⟩) hbw).trans (hac 5 _ rfl)
            have a6 : ∀ u, (fun u => Below w.heap.size w u ∧ Box u w.heap.size 24 #[.string nm, .int .i64 dl, .slice A n c]) u → u.cell? ⟨b, o + k * 7 + 6, none⟩ = some (.bool a.r.good) := fun u H => (H.1.cell (p := ⟨b, o + k * 7 + 6, none⟩) hbw).trans (hac 6 _ rfl)
            refine wp_region_held_drew (S := fun u => Below w.heap.size w u ∧ Box u w.heap.size 24 #[.string nm, .int .i64 dl, .slice A n c]) (by kernel_rfl) (⟨H5.out.bel, H5.out.d⟩) (fun hHeld => ?_)
            obtain ⟨x0, x1, x2, x3, x4, x5, x6, x7, x8⟩ := H5.out.cs
            refine wpAnyH_take (i := 0) (oi := ⟨some 51, _, _, _, _, _⟩) (v := ?_) rfl (by kernel_rfl) (by kernel_rfl) (by kernel_rfl) (fun _ _ _ h => h) (Or.inl ⟨by rfl, ?_⟩) (by assumption) ?_
            rotate_left
            · (intro u hu; (try dsimp only at hu); go_simp; (try with_reducible rfl))
            (try simp only [Act.put, List.setIfInBounds_toArray, List.set_cons_zero, List.set_cons_succ])
            refine wpAnyH_take (i := 2) (oi := ⟨some 53, _, _, _, _, _⟩) (v := ?_) rfl (by kernel_rfl) (by kernel_rfl) (by kernel_rfl) (fun _ _ _ h => h) (Or.inl ⟨by rfl, ?_⟩) (by assumption) ?_
            rotate_left
            · (intro u hu; (try dsimp only at hu); go_simp; (try with_reducible rfl))
            (try simp only [Act.put, List.setIfInBounds_toArray, List.set_cons_zero, List.set_cons_succ])
            refine wpAnyH_take (i := 3) (oi := ⟨some 54, _, _, _, _, _⟩) (v := ?_) rfl (by kernel_rfl) (by kernel_rfl) (by kernel_rfl) (fun _ _ _ h => h) (Or.inl ⟨by rfl, ?_⟩) (by assumption) ?_
            rotate_left
            · (intro u hu; (try dsimp only at hu); go_simp; (try with_reducible rfl))
            (try simp only [Act.put, List.setIfInBounds_toArray, List.set_cons_zero, List.set_cons_succ])
            refine wpAnyH_take (i := 4) (oi := ⟨some 55, _, _, _, _, _⟩) (v := ?_) rfl (by kernel_rfl) (by kernel_rfl) (by kernel_rfl) (fun _ _ _ h => h) (Or.inl ⟨by rfl, ?_⟩) (by assumption) ?_
            rotate_left
            · (intro u hu; (try dsimp only at hu); go_simp; (try with_reducible rfl))
            (try simp only [Act.put, List.setIfInBounds_toArray, List.set_cons_zero, List.set_cons_succ])
            refine wpAnyH_take (i := 5) (oi := ⟨some 56, _, _, _, _, _⟩) (v := ?_) rfl (by kernel_rfl) (by kernel_rfl) (by kernel_rfl) (fun _ _ _ h => h) (Or.inl ⟨by rfl, ?_⟩) (by assumption) ?_
            rotate_left
            · (intro u hu; (try dsimp only at hu); go_simp; (try with_reducible rfl))
            (try simp only [Act.put, List.setIfInBounds_toArray, List.set_cons_zero, List.set_cons_succ])
            refine wpAnyH_ready (rs := [1]) (by decide +kernel) (by simp) ?_
            refine AllReadyH.cons (o := ⟨some 52, _, _, _, _, _⟩) rfl (fun K hK => ?_) AllReadyH.nil
            go_simp
            refine hK.out _ _ ?_ (fun hHeld => ?_)
            · exact ⟨H5.out.bel, H5.out.d⟩
            clear hK K x0 x1 x2 x3 x4 x5 x6 x7 x8
            (try simp only [Act.put, List.setIfInBounds_toArray, List.set_cons_zero, List.set_cons_succ])
            refine wpAnyH_ready (rs := [6]) (by decide +kernel) (by simp) ?_
            refine AllReadyH.cons (o := ⟨some 57, _, _, _, _, _⟩) rfl (fun K hK => ?_) AllReadyH.nil
            go_simp
            (with_reducible refine (HD.out _ H5.out.bel).mono ?_)
            rintro e v1 ⟨rfl, hb⟩
            have H6 := Lib.hid (H5.out.on hb)
            clear hb
            go_wp2_with fail
            refine hK.out _ _ ?_ (fun hHeld => ?_)
            · exact ⟨H6.out.bel, H6.out.d⟩
            clear hK K
            (try simp only [Act.put, List.setIfInBounds_toArray, List.set_cons_zero, List.set_cons_succ])
            refine wpAnyH_take (i := 7) (oi := ⟨some 50, _, _, _, _, _⟩) (v := ?_) rfl (by kernel_rfl) (by kernel_rfl) (by kernel_rfl) (fun _ _ _ h => h) (Or.inl ⟨by rfl, ?_⟩) (by assumption) ?_
            rotate_left
            · (intro u hu; (try dsimp only at hu); go_simp; (try with_reducible rfl))
            (try simp only [Act.put, List.setIfInBounds_toArray, List.set_cons_zero, List.set_cons_succ])
            refine wpAnyH_take (i := 8) (oi := ⟨some 58, _, _, _, _, _⟩) (v := ?_) rfl (by kernel_rfl) (by kernel_rfl) (by kernel_rfl) (fun _ _ _ h => h) (Or.inl ⟨by rfl, ?_⟩) (by assumption) ?_
            rotate_left
            · (intro u hu; (try dsimp only at hu); go_simp; (try with_reducible rfl))
            (try simp only [Act.put, List.setIfInBounds_toArray, List.set_cons_zero, List.set_cons_succ])
            refine wpAnyH_take (i := 9) (oi := ⟨some 59, _, _, _, _, _⟩) (v := ?_) rfl (by kernel_rfl) (by kernel_rfl) (by kernel_rfl) (fun _ _ _ h => h) (Or.inl ⟨by rfl, ?_⟩) (by assumption) ?_
            rotate_left
            · (intro u hu; (try dsimp only at hu); go_simp; (try with_reducible rfl))
            (try simp only [Act.put, List.setIfInBounds_toArray, List.set_cons_zero, List.set_cons_succ])
            refine wpAnyH_take (i := 10) (oi := ⟨some 60, _, _, _, _, _⟩) (v := ?_) rfl (by kernel_rfl) (by kernel_rfl) (by kernel_rfl) (fun _ _ _ h => h) (Or.inl ⟨by rfl, ?_⟩) (by assumption) ?_
            rotate_left
            · (intro u hu; (try dsimp only at hu); go_simp; (try with_reducible rfl))
            (try simp only [Act.put, List.setIfInBounds_toArray, List.set_cons_zero, List.set_cons_succ])
            refine wpAnyH_ready (rs := [11]) (by decide +kernel) (by simp) ?_
            refine AllReadyH.cons (o := ⟨none, _, _, _, _, _⟩) rfl (fun K hK => ?_) AllReadyH.nil
            rw [if_pos (by rfl)]
            obtain ⟨cs, hcs, hsz⟩ := (Box.slot H6.out.s rfl : Slot _ _ _ 9)
            refine oper_store_row 53 _ _ rfl (g) 53 cs (y).arr rfl rfl hcs (sizeG _) hsz (oneG _) ?_
            refine hK.out _ _ ?_ (fun hHeld => ?_)
            · exact ⟨(H6.out.set y).bel, (H6.out.set y).d⟩
            clear hK K hcs hsz
            (try simp only [Act.put])
            refine wpAnyH_done (by kernel_rfl) ?_ _
            clear u0 u1 u2 a0 a1 a2 a3 a4 a5 a6
            go_wp2
            (try simp only [Act.put])
            go_roundw
            case rel => exact ⟨k + 1, y, by go_num, by omega, Lib.hid (H6.out.set y), HXn⟩
            case measure => simp only [intOf]; omega
          · obtain rfl : k = m := by omega
            have HDu := Lib.hid (fun W (hW : Below w.heap.size w W) => due_any nm dl A n c ss x W (HDn.out.on hW) (by have := HX.out.tr; omega))
            obtain ⟨d0, d1, d2⟩ := HW.out.cd
            obtain ⟨x0, x1, x2, x3, x4, x5, x6, x7, x8⟩ := HW.out.cs
            by_cases hp : x.ph = 0 ∨ x.ph = 1
            · have hdl := due_live HX.out.live hp
              have HT : Hid (∀ n0 : Int, 0 ≤ n0 ∧ n0 ≤ 1099511627776 → timeB nm dl ss x n0 = decide (dueI nm dl ss x ≤ n0)) := Lib.hid fun n0 hn => time_due HX.out.live hp hn
              have hD0 := hdl.2.2
              rw [hdl.1] at HDu
              clear hdl hp
              generalize dueI nm dl ss x = D at HDu HT hD0
              have gd1 : decide (0 ≤ D) = true := decide_eq_true hD0.1
              have gd2 : decide (D ≤ 1099511627776) = true := decide_eq_true hD0.2
              go_wp2_with (go_at_call 29; (with_reducible refine (HDu.out _ HW.out.bel).mono ?_); rintro e v2 ⟨rfl, hb⟩; have H7 := Lib.hid (HW.out.on hb); clear hb)
              clear x0 x1 x2 x3 x4 x5 x6 x7 x8 d0 d1 d2 HW hD0
              have hL : 0 ≤ min (max look 0) 1099511627776 ∧ min (max look 0) 1099511627776 ≤ 1099511627776 := by omega
              have hD1 : 0 ≤ D ∧ D ≤ 1099511627776 := ⟨of_decide_eq_true gd1, of_decide_eq_true gd2⟩
              go_loopw [15, 16] (fun vn vt wr => ∃ (j : Nat) (nn : Int), vn = .int .i64 nn ∧ vt = .int .i64 (j : Int) ∧ j ≤ 2 ∧ 0 ≤ nn ∧ nn ≤ 1099511627776 ∧ Hid (Aw w wr w.heap.size g nm dl A n c x)) (fun _ vt _ => 2 - (intOf vt).toNat)
              case atStart => exact ⟨0, _, rfl, rfl, by omega, hL.1, hL.2, H7⟩
              case round =>
                clear H7 hL
                obtain ⟨j, nn, rfl, rfl, hj, hn0, hn1, HW⟩ := hrel
                by_cases hj2 : j < 2
                · have HTn := Lib.hid (HT.out nn ⟨hn0, hn1⟩)
                  have HL := Lib.hid (fun W (hW : Below w.heap.size w W) => rdo_any nm dl A n c ss x W (HDn.out.on hW) 0 nn (by have := HX.out.tr; omega) (by decide))
                  have HE := Lib.hid (fun W (hW : Below w.heap.size w W) => rdo_any nm dl A n c ss x W (HDn.out.on hW) 1 nn (by have := HX.out.tr; omega) (by decide))
                  have HMy := Lib.hid (fun W (hW : Below w.heap.size w W) => rmay14_any nm dl A n c ss x W (HDn.out.on hW) nn)
                  have e1 : numA nm dl ss x 0 nn = lateA nm dl ss x nn := rfl
                  have e2 : numA nm dl ss x 1 nn = expireA nm dl ss x nn := rfl
                  rw [e1] at HL
                  rw [e2] at HE
                  have HTb : Hid (timeB nm dl ss x nn = (decide ((lateA nm dl ss x nn).2 = 0) || decide ((expireA nm dl ss x nn).2 = 0) || mayB nm dl ss x nn)) := Lib.hid rfl
                  rw [HTn.out] at HTb
                  clear e1 e2 HTn
                  generalize lateA nm dl ss x nn = Z1 at HL HTb
                  generalize expireA nm dl ss x nn = Z2 at HE HTb
                  generalize mayB nm dl ss x nn = mb at HMy HTb
                  obtain ⟨z1, f1⟩ := Z1
                  obtain ⟨z2, f2⟩ := Z2
                  dsimp only at HL HE HTb
                  unfold Sg.arr at HL HE
                  obtain ⟨d0, d1, d2⟩ := HW.out.cd
                  obtain ⟨x0, x1, x2, x3, x4, x5, x6, x7, x8⟩ := HW.out.cs
                  obtain ⟨tb, htb⟩ : ∃ tb, tb = decide (D ≤ nn) := ⟨_, rfl⟩
                  rw [← htb] at HTb
                  have HTv := Lib.hid htb
                  clear htb
                  go_upto_region 21 with (go_at_call 31; (with_reducible refine (HL.out _ HW.out.bel).mono ?_); rintro e v3 ⟨rfl, hb⟩; have H8 := Lib.hid (HW.out.on hb); clear hb)
                  have H9 := Lib.hid (H8.out.on (al1 v3 (.cells #[.int .i64 z1.id, .string z1.dn, .int .i64 z1.st, .int .i64 z1.ph, .int .i64 z1.sp, .int .i64 z1.tr, .bool z1.out, .int .i64 z1.at_, .int .i64 z1.sk] 53)))
                  clear d0 d1 d2 x0 x1 x2 x3 x4 x5 x6 x7 x8 HW H8
                  generalize v3.alloc _ = W3 at *
                  obtain ⟨d0, d1, d2⟩ := H9.out.cd
                  obtain ⟨x0, x1, x2, x3, x4, x5, x6, x7, x8⟩ := H9.out.cs
                  go_upto_region 22 with (go_at_call 31; (with_reducible refine (HE.out _ H9.out.bel).mono ?_); rintro e v4 ⟨rfl, hb⟩; have H10 := Lib.hid (H9.out.on hb); clear hb)
                  have H11 := Lib.hid (H10.out.on (al1 v4 (.cells #[.int .i64 z2.id, .string z2.dn, .int .i64 z2.st, .int .i64 z2.ph, .int .i64 z2.sp, .int .i64 z2.tr, .bool z2.out, .int .i64 z2.at_, .int .i64 z2.sk] 53)))
                  clear d0 d1 d2 x0 x1 x2 x3 x4 x5 x6 x7 x8 H9 H10
                  generalize v4.alloc _ = W4 at *
                  obtain ⟨d0, d1, d2⟩ := H11.out.cd
                  obtain ⟨x0, x1, x2, x3, x4, x5, x6, x7, x8⟩ := H11.out.cs
                  go_cut [21] (fun v wx => v = .bool tb ∧ Hid (Aw w wx w.heap.size g nm dl A n c x))
                  case first =>
                    by_cases k1 : f1 = 0
                    · have g1 : (f1 == 0) = true := by simp [k1]
                      have hp : tb = true := by rw [HTb.out, decide_eq_true k1]; rfl
                      subst hp
                      clear k1 HTb HTv
                      go_wp2
                      go_meet
                      exact ⟨rfl, H11⟩
                    · have g1 : (f1 == 0) = false := by simp [k1]
                      by_cases k2 : f2 = 0
                      · have g2 : (f2 == 0) = true := by simp [k2]
                        have hp : tb = true := by rw [HTb.out, decide_eq_true k2]; simp
                        subst hp
                        clear k1 k2 HTb HTv
                        go_wp2
                        go_meet
                        exact ⟨rfl, H11⟩
                      · have g2 : (f2 == 0) = false := by simp [k2]
                        have hp : tb = mb := by rw [HTb.out, decide_eq_false k1, decide_eq_false k2]; simp
                        subst hp
                        clear k1 k2 HTb HTv
                        go_wp2_with (go_at_call 32; (with_reducible refine (HMy.out _ H11.out.bel).mono ?_); rintro e v5 ⟨rfl, hb⟩; have H12 := Lib.hid (H11.out.on hb); clear hb)
                        go_meet
                        exact ⟨rfl, H12⟩
                  case rest =>
                    obtain ⟨rfl, H13⟩ := hcut
                    clear d0 d1 d2 x0 x1 x2 x3 x4 x5 x6 x7 x8 H11 HTb
                    cases tb with
                    | true =>
                      have hle := of_decide_eq_true HTv.out.symm
                      have g3 : decide (nn < D) = false := decide_eq_false (by omega)
                      clear HTv hle
                      go_wp2
                      go_roundw
                      case rel => exact ⟨j + 1, D, rfl, by go_num, by omega, hD1.1, hD1.2, H13⟩
                      case measure => simp only [intOf]; omega
                    | false =>
                      have hle := of_decide_eq_false HTv.out.symm
                      have g3 : (nn == D) = false := by simp; omega
                      clear HTv hle
                      go_wp2
                      go_roundw
                      case rel => exact ⟨j + 1, D, rfl, by go_num, by omega, hD1.1, hD1.2, H13⟩
                      case measure => simp only [intOf]; omega
                · obtain rfl : j = 2 := by omega
                  go_wp2
                  go_ret
                  exact ⟨rfl, HW.out.bel⟩
            · have hdr := due_rest (nm := nm) (dl := dl) (ss := ss) hp
              have h2 : 2 ≤ x.ph := by rcases HX.out.live.good.tries with h | h | h <;> omega
              have g2 : decide (2 ≤ x.ph) = true := decide_eq_true h2
              rw [hdr.1, hdr.2] at HDu
              clear hdr hp h2
              go_wp2_with (go_at_call 29; (with_reducible refine (HDu.out _ HW.out.bel).mono ?_); rintro e v2 ⟨rfl, hb⟩; have H7 := Lib.hid (HW.out.on hb); clear hb; obtain ⟨x0, x1, x2, x3, x4, x5, x6, x7, x8⟩ := H7.out.cs)
              go_ret
              exact ⟨rfl, H7.out.bel⟩
      · have t1 : decide ((60 : Int) < (m : Int)) = true := decide_eq_true (by omega)
        have t2 : decide (60 < m) = true := decide_eq_true (by omega)
        clear hT hnz hl hc hf he hck hC1 hC0 hr hq hn
        go_enter Tryd.func8, Tryd.ntmps8
        go_wp2_with (first
          | (go_at_call 24; (with_reducible refine (HA.out _ (al1 w _)).mono ?_); rintro e w1 ⟨rfl, hb⟩; have H1 := Lib.hid (ld_start hb); clear hb; obtain ⟨d0, d1, d2⟩ := H1.out.cd)
          | (go_at_call 13; (with_reducible refine (HC.out _ H1.out.b).mono ?_); rintro e w2 ⟨k, rfl, hb⟩; have H2 := Lib.hid (H1.out.on hb); clear hb; obtain ⟨d0, d1, d2⟩ := H2.out.cd)
          | (go_at_call 11; (with_reducible refine (HSm.out _ H2.out.b).mono ?_); rintro e w3 ⟨rfl, hb⟩; have H3 := Lib.hid (H2.out.on hb); clear hb; obtain ⟨d0, d1, d2⟩ := H3.out.cd))
        go_ret
        exact ⟨rfl, H3.out.b⟩
    · have g0 : (smallI nm ss != 0) = true := by simpa using hq
      clear hT hnz hl hc hf he hck hC1 hC0 hr hq hn
      go_enter Tryd.func8, Tryd.ntmps8
      go_wp2_with (first
        | (go_at_call 24; (with_reducible refine (HA.out _ (al1 w _)).mono ?_); rintro e w1 ⟨rfl, hb⟩; have H1 := Lib.hid (ld_start hb); clear hb; obtain ⟨d0, d1, d2⟩ := H1.out.cd)
        | (go_at_call 13; (with_reducible refine (HC.out _ H1.out.b).mono ?_); rintro e w2 ⟨k, rfl, hb⟩; have H2 := Lib.hid (H1.out.on hb); clear hb; obtain ⟨d0, d1, d2⟩ := H2.out.cd)
        | (go_at_call 11; (with_reducible refine (HSm.out _ H2.out.b).mono ?_); rintro e w3 ⟨rfl, hb⟩; have H3 := Lib.hid (H2.out.on hb); clear hb; obtain ⟨d0, d1, d2⟩ := H3.out.cd))
      go_ret
      exact ⟨rfl, H3.out.b⟩
  · have HC := Lib.hid (hC0 hr)
    clear hT hnz hl hc hf he hck hC1 hC0 hr hn
    generalize smallI nm ss = q at *
    go_enter Tryd.func8, Tryd.ntmps8
    go_wp2_with (first
      | (go_at_call 24; (with_reducible refine (HA.out _ (al1 w _)).mono ?_); rintro e w1 ⟨rfl, hb⟩; have H1 := Lib.hid (ld_start hb); clear hb; obtain ⟨d0, d1, d2⟩ := H1.out.cd)
      | (go_at_call 13; (with_reducible refine (HC.out _ H1.out.b).mono ?_); rintro e w2 ⟨k, ev, rfl, hev, hb⟩; have H2 := Lib.hid (H1.out.on hb); clear hb; obtain ⟨d0, d1, d2⟩ := H2.out.cd)
      | (go_at_call 11; (with_reducible refine (HSm.out _ H2.out.b).mono ?_); rintro e w3 ⟨rfl, hb⟩; have H3 := Lib.hid (H2.out.on hb); clear hb; obtain ⟨d0, d1, d2⟩ := H3.out.cd))
    all_goals
      go_ret
      exact ⟨rfl, H3.out.b⟩



theorem tab_of_laid {W : World} (h : laidMetH Tryd.prog Rows.sagaDueRow.laid W) : Tab W := by
  rw [MakeChecks.laidMetH_plain _ _ _ (by kernel_rfl)] at h
  have h2 := laidMet.tail (laidMet.tail h)
  have e : (Rows.laid_internal_strconv_uint64pow10 : DataW Unit) = Lib.tabData .u64 Lib.pow10Tab := by kernel_rfl
  rw [show (Rows.laid_internal_strconv_uint64pow10 : DataW Unit) = Lib.tabData .u64 Lib.pow10Tab from e] at h2
  exact Lib.tabIs_of_head (g := 1) (t := 140) (e := 132) (n := 20) (by kernel_rfl) (by kernel_rfl) Tryd.underlying140 Tryd.underlying132 (by kernel_rfl) (by kernel_rfl) h2
set_option maxRecDepth 100000 in
theorem lifted (os : Os) (started : os.Started) (H : Type) (enc : TypeId × Value → H) :
    ReturnsInHanded {} Tryd.checked os 8 .any (fun w args => (Rows.sagaDueSpec.pre enc Tryd.prog Tryd.f8 Rows.sagaDueRow.domain false w args ∧ laidMetH Tryd.prog Rows.sagaDueRow.laid w) ∧ sizedMet enc Tryd.prog Tryd.f8 (OpenSpec.ofChange Rows.sagaDueSpec) false w args)
      (Rows.sagaDueSpec.post enc Tryd.prog Tryd.f8 false true false false) := by
  refine returns_both (C := Tryd.checked) (X := fun w _ => laidMetH Tryd.prog Rows.sagaDueRow.laid w) (fun _ _ _ hh h => h.of_heap hh) own started (by kernel_rfl) Tryd.func8
    (ChangeSpec.witness_shaped (enc := enc) (C := Tryd.checked) (os := os) (X := fun w _ => laidMetH Tryd.prog Rows.sagaDueRow.laid w) false (World.laidAll Tryd.prog os Rows.sagaDueRow.laid) #[.agg #[.string ⟨#[]⟩, .int .i64 0, .slice none 0 0], .int .i64 0, .slice none 0 0, .int .i64 0] 8 (World.laidAll_os _ _ _)
      (World.shaped_of_ZipB (by kernel_rfl) (by kernel_rfl)) (by kernel_rfl) (by kernel_rfl) (by kernel_rfl)
      (by rw [MakeChecks.laidMetH_plain _ _ _ (by kernel_rfl)]; exact laidMet_laidAll _ (by kernel_rfl) (by kernel_rfl))) ?_
  intro W base args ds gs before hval0 hW hreach0 hlaid _
  have hT : Tab W := tab_of_laid hlaid
  have hval : ∀ (j : Nat) t v, Tryd.f8.params[j]? = some t → args[j]? = some v → Value.okWide Tryd.prog W .any base t v := hval0
  have hW' := hW
  obtain ⟨p, q, hA0, hV, rfl, _, _⟩ := hW
  have hreach : (DataW.weightsEach Tryd.prog (Tryd.f8.params.toList ++ Rows.sagaDueSpec.plain.varTypes Tryd.prog) (ds ++ gs)).all (· ≤ reachBytes) = true := hreach0
  have hA : DataW.TrodAll enc Tryd.prog W 0 (fun _ => true) true Tryd.f8.params.toList args.toList ds p := hA0
  rw [Tryd.params8] at hA hval hreach
  obtain ⟨rfl, rfl⟩ := trodVars_none hV
  obtain ⟨v0, vs0, d0, ds0, p0, q0, hargs, rfl, rfl, h0, r0⟩ := trodAll_cons hA
  obtain ⟨v1, vs1, d1, ds1, p1, q1, rfl, rfl, rfl, h1, r1⟩ := trodAll_cons r0
  obtain ⟨v2, vs2, d2, ds2, p2, q2, rfl, rfl, rfl, h2, r2⟩ := trodAll_cons r1
  obtain ⟨v3, vs3, d3, ds3, p3, q3, rfl, rfl, rfl, h3, r3⟩ := trodAll_cons r2
  obtain ⟨rfl, rfl, rfl⟩ := trodAll_nil r3
  obtain rfl : args = #[v0, v1, v2, v3] := by cases args; simp_all
  obtain ⟨nm0, dl0, A0, c0, ss0, y0, z0, n0, cc0, f0, e0⟩ := arg_dn (hval 0 24 v0 rfl rfl) h0 (fun m hm => by have := List.all_eq_true.1 hreach m (DataW.weights_mem_each (j := 0) rfl rfl m hm); simpa using this)
  subst y0
  obtain ⟨a1, rfl, rfl, rfl, w1⟩ := open_int Tryd.underlying3 (hval 1 3 v1 rfl rfl) h1
  obtain ⟨A2, c2, l2, y2, n2, cc2, e2⟩ := arg_acts (hval 2 51 v2 rfl rfl) h2
  subst y2
  obtain ⟨a3, rfl, rfl, rfl, w3⟩ := open_int Tryd.underlying3 (hval 3 3 v3 rfl rfl) h3
  clear hA0 hval0
  simp only [List.append_nil] at hW'
  have hlt0 : ∀ x ∈ p0, x.block < W.heap.size := fun x hx => by simpa using hW'.lt x (by simp [hx])
  have hlt2 : ∀ x ∈ p2, x.block < W.heap.size := fun x hx => by simpa using hW'.lt x (by simp [hx])
  refine (walk nm0 dl0 A0 c0 ss0 a1 A2 c2 l2 a3 W hT z0 n0 cc0 f0 e0 n2 e2).mono fun e W' ⟨he, bel⟩ => ?_
  subst he
  exact ⟨_, rfl, _, _, _, [], _, [], hW', trodAll_mk1 (shut_bool Tryd.underlying4 _), (trodAll_cons_mk (Below.trod laidOut (by kernel_rfl) (of_decide_eq_true (by kernel_rfl)) h0 bel hlt0) (trodAll_cons_mk (shut_int Tryd.underlying3 w1) (trodAll_cons_mk (Below.trod laidOut (by kernel_rfl) (of_decide_eq_true (by kernel_rfl)) h2 bel hlt2) (trodAll_cons_mk (shut_int Tryd.underlying3 w3) trodAll_mk0)))), rfl, bel.frame _, fun h => by cases h⟩

theorem over : Rows.sagaDueRow.holds Tryd.pinned (OpenSpec.ofChange Rows.sagaDueSpec) :=
  OpenClaim.holds_of_wide 8 Tryd.f8 rfl rfl rfl rfl rfl rfl rfl ⟨rfl, rfl, rfl, rfl, rfl⟩ rfl rfl rfl rfl rfl (by kernel_rfl) Tryd.func8 (by kernel_rfl)
    (of_decide_eq_true (by kernel_rfl)) (by unfold Func.isWrapper; first | (rw [if_pos (by decide +kernel)]; kernel_rfl) | (rw [if_neg (by decide +kernel)]; exact ⟨rfl, rfl⟩))
    (fun os started H enc _ => lifted os started H enc)

/-- the statement -/
theorem proved : Rows.SagaDueCardSaid :=
  Claim7.holds_tied_plain_at .later [] [.data, .data, .data] true Rows.sagaDueCard.stood.harness false over (fun _ h => by cases h) (by kernel_rfl) (fun _ h => by cases h) sagaDue_row_tie rfl ⟨rfl, rfl⟩ (by kernel_rfl) rfl
    (fun f fn hf hfn => by
      obtain rfl : f = 8 := Option.some.inj ((show Tryd.prog.funcNamed Rows.sagaDueRow.func = some 8 by kernel_rfl).symm.trans hf) |>.symm
      obtain rfl : fn = Tryd.f8 := (Option.some.inj (Tryd.func8.symm.trans hfn)).symm
      exact ⟨by kernel_rfl, fun j t ht => by
        rw [Tryd.params8] at ht
        have hm : t ∈ [24, 3, 51, 3] := by simpa using Array.mem_of_getElem? ht
        have hall : ([24, 3, 51, 3].all fun u => !Tryd.prog.wantsStandIn u) = true := by kernel_rfl
        exact (show Tryd.prog.wantsStandIn t = false by simpa using List.all_eq_true.1 hall t hm)⟩)
    (by kernel_rfl)
#print axioms proved
end Go.Proofs.YtkmldgcnbjjbcaaDoor.sagaDue
