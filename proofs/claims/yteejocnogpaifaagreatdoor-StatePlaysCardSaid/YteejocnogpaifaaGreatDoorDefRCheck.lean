/-
  What the document's own Check answers: the same fault, at the same place.
  Conditions: the steps lie in memory; texts have at most 2^47 bytes.
-/
import Derived.Test.YteejocnogpaifaaGreatDoorDefCheck
import Derived.Test.YteejocnogpaifaaGreatDoorMrg2
import Derived.Test.YteejocnogpaifaaGreatDoorMrg1
namespace Go.Proofs.YteejocnogpaifaaGreatDoor.Df
open Go.RowKit
open Go.Proofs.YteejocnogpaifaaGreatDoor.El
open Go.Proofs.YteejocnogpaifaaGreatDoor.Bo (P Made ret_int ret_bool)

section
variable {ss : List Stp} {i : Nat} {s : Stp}
theorem stepE_10 (h : nameB s.nm.data.toList = false ∨ nameB s.pt.data.toList = false) : stepE ss i s = 10 := by unfold stepE; rw [if_pos h]
theorem stepE_6 (h : ¬ (nameB s.nm.data.toList = false ∨ nameB s.pt.data.toList = false)) (h6 : (ss.take i).any (fun x => decide (x.nm = s.nm)) = true) : stepE ss i s = 6 := by unfold stepE; rw [if_neg h, if_pos h6]
theorem stepE_1 (h : ¬ (nameB s.nm.data.toList = false ∨ nameB s.pt.data.toList = false)) (h6 : (ss.take i).any (fun x => decide (x.nm = s.nm)) = false) (h1 : s.tm < 1 ∨ 1099511627776 < s.tm ∨ s.pr < 0 ∨ 255 < s.pr) : stepE ss i s = 1 := by
  unfold stepE; rw [if_neg h, if_neg (by rw [h6]; simp), if_pos h1]
theorem stepE_3 (h : ¬ (nameB s.nm.data.toList = false ∨ nameB s.pt.data.toList = false)) (h6 : (ss.take i).any (fun x => decide (x.nm = s.nm)) = false) (h1 : ¬ (s.tm < 1 ∨ 1099511627776 < s.tm ∨ s.pr < 0 ∨ 255 < s.pr)) (h3 : ¬ s.t.Good ∨ ¬ s.u.Good) : stepE ss i s = 3 := by
  unfold stepE; rw [if_neg h, if_neg (by rw [h6]; simp), if_neg h1, if_pos h3]
theorem stepE_0 (h : ¬ (nameB s.nm.data.toList = false ∨ nameB s.pt.data.toList = false)) (h6 : (ss.take i).any (fun x => decide (x.nm = s.nm)) = false) (h1 : ¬ (s.tm < 1 ∨ 1099511627776 < s.tm ∨ s.pr < 0 ∨ 255 < s.pr)) (h3 : ¬ (¬ s.t.Good ∨ ¬ s.u.Good)) : stepE ss i s = 0 := by
  unfold stepE; rw [if_neg h, if_neg (by rw [h6]; simp), if_neg h1, if_neg h3]
end
set_option maxHeartbeats 8000000 in
set_option maxRecDepth 100000 in
theorem rcheck_any (nm : ByteArray) (dl : Int) (A : Option Addr) (c : Nat) (ss : List Stp) (n : Nat) (w : World) (hn : n = ss.length) (hb : n ≤ 9223372036854775807) (hS : Steps w w.heap.size A ss) (hz : nm.size ≤ 140737488355328) (hzs : ∀ s ∈ ss, s.nm.size ≤ 140737488355328 ∧ s.pt.size ≤ 140737488355328) :
    Calls Tryz.prog 50 #[.agg #[.string nm, .int .i64 dl, .slice A n c]] w (ChkPost nm dl ss w) := by
  have hwb : Hid (Below w.heap.size w (w.alloc (.cells #[.string nm, .int .i64 dl, .slice A n c] 33))) := Lib.hid ((Below.refl w.heap.size w).alloc (Nat.le_refl _) _)
  have hz0 : (w.alloc (.cells #[.string nm, .int .i64 dl, .slice A n c] 33)).heap.size = w.heap.size + 1 := by simp
  have HG1 := Lib.hid (fun w => rgood_any nm w hz)
  have HB := Lib.hid (Below.refl (w.heap.size + 1) (w.alloc (.cells #[.string nm, .int .i64 dl, .slice A n c] 33)))
  have HS := Lib.hid hS
  have HN := Lib.hid hn
  have HZ := Lib.hid hzs
  clear hS hn hz hzs
  cases n1 : nameB nm.data.toList with
  | false =>
    rw [n1] at HG1
    have HE : Hid (ChkIs nm dl ss (-1) 10) := Lib.hid (by unfold ChkIs; rw [if_pos n1]; exact ⟨rfl, rfl⟩)
    clear n1
    go_enter Tryz.func50, Tryz.ntmps50
    go_wp2_with (first
      | (go_at_call 51; (with_reducible refine (HG1.out _).mono ?_); rintro e w' ⟨rfl, rfl⟩))
    go_ret2
    exact ⟨_, _, rfl, HE.out, hwb.out⟩
  | true =>
    rw [n1] at HG1
    have hn1 : ¬ nameB nm.data.toList = false := by rw [n1]; simp
    have HN1 := Lib.hid hn1
    clear n1 hn1
    by_cases h2 : dl < 0 ∨ 1099511627776 < dl
    · have HE : Hid (ChkIs nm dl ss (-1) 1) := Lib.hid (by unfold ChkIs; rw [if_neg HN1.out, if_pos h2]; exact ⟨rfl, rfl⟩)
      by_cases h2a : dl < 0
      · clear h2
        go_enter Tryz.func50, Tryz.ntmps50
        go_wp2_with (first
          | (go_at_call 51; (with_reducible refine (HG1.out _).mono ?_); rintro e w' ⟨rfl, rfl⟩))
        go_ret2
        exact ⟨_, _, rfl, HE.out, hwb.out⟩
      · have h2b : 1099511627776 < dl := by omega
        clear h2
        go_enter Tryz.func50, Tryz.ntmps50
        go_wp2_with (first
          | (go_at_call 51; (with_reducible refine (HG1.out _).mono ?_); rintro e w' ⟨rfl, rfl⟩))
        go_ret2
        exact ⟨_, _, rfl, HE.out, hwb.out⟩
    · have HN2 := Lib.hid h2
      have h2a : ¬ dl < 0 := by omega
      have h2b : ¬ 1099511627776 < dl := by omega
      clear h2
      by_cases h3 : n = 0
      · have HE : Hid (ChkIs nm dl ss (-1) 2) := Lib.hid (by unfold ChkIs; rw [if_neg HN1.out, if_neg HN2.out, if_pos (by have := HN.out; omega)]; exact ⟨rfl, rfl⟩)
        have g3 : ((n : Int) < 1) := by omega
        clear h3
        go_enter Tryz.func50, Tryz.ntmps50
        go_wp2_with (first
          | (go_at_call 51; (with_reducible refine (HG1.out _).mono ?_); rintro e w' ⟨rfl, rfl⟩))
        go_ret2
        exact ⟨_, _, rfl, HE.out, hwb.out⟩
      · have g3 : ¬ ((n : Int) < 1) := by omega
        by_cases h4 : 32 < n
        · have HE : Hid (ChkIs nm dl ss (-1) 4) := Lib.hid (by unfold ChkIs; rw [if_neg HN1.out, if_neg HN2.out, if_neg (by have := HN.out; omega), if_pos (by have := HN.out; omega)]; exact ⟨rfl, rfl⟩)
          go_enter Tryz.func50, Tryz.ntmps50
          go_wp2_with (first
            | (go_at_call 51; (with_reducible refine (HG1.out _).mono ?_); rintro e w' ⟨rfl, rfl⟩))
          go_ret2
          exact ⟨_, _, rfl, HE.out, hwb.out⟩
        · have HE : Hid (∀ k e, FaultIs ss k e → ChkIs nm dl ss k e) := Lib.hid (fun k e h => by unfold ChkIs; rw [if_neg HN1.out, if_neg HN2.out, if_neg (by have := HN.out; omega), if_neg (by have := HN.out; omega)]; exact h)
          have e32 : decide ((32 : Int) < (n : Int)) = false := decide_eq_false (by omega)
          have e1 : decide ((n : Int) < 1) = false := decide_eq_false (by omega)
          have e2a : decide (dl < 0) = false := decide_eq_false (by omega)
          have e2b : decide ((1099511627776 : Int) < dl) = false := decide_eq_false (by omega)
          clear h3
          go_enter Tryz.func50, Tryz.ntmps50
          go_wp2_with (first
            | (go_at_call 51; (with_reducible refine (HG1.out _).mono ?_); rintro e w' ⟨rfl, rfl⟩))
          clear HG1
          go_loopw [4] (fun vi wr => ∃ k : Nat, vi = .int .i64 (k : Int) ∧ k ≤ n ∧ Hid (Below (w.heap.size + 1) (w.alloc (.cells #[.string nm, .int .i64 dl, .slice A n c] 33)) wr) ∧ Hid (∀ (j : Nat) (t : Stp), j < k → ss[j]? = some t → stepE ss j t = 0)) (fun vi _ => n - (intOf vi).toNat)
          case atStart => exact ⟨0, rfl, Nat.zero_le _, HB, Lib.hid fun j t hj => absurd hj (by omega)⟩
          case round =>
            obtain ⟨k, rfl, hk, HW, HI⟩ := hrel
            have e2 := Dc2 (dbox HW.out)
            by_cases hkn : k < n
            · obtain ⟨x, hx⟩ : ∃ x, ss[k]? = some x := ⟨_, List.getElem?_eq_getElem (by have := HN.out; omega)⟩
              obtain ⟨b, o, rfl, hbl⟩ := HS.out.at_ hx
              have HSr := Lib.hid (HS.out.on (hwb.out.trans (HW.out.mono (by omega))))
              have c0 : (wr).cell? ⟨b, o + k * 12, none⟩ = some (.string x.nm) := HSr.out.get hx 0 rfl
              have c1 : (wr).cell? ⟨b, o + k * 12 + 1, none⟩ = some (.string x.pt) := HSr.out.get hx 1 rfl
              have c2 : (wr).cell? ⟨b, o + k * 12 + 2, none⟩ = some (.int .i64 x.tm) := HSr.out.get hx 2 rfl
              have c3 : (wr).cell? ⟨b, o + k * 12 + 3, none⟩ = some (.int .i64 x.t.r) := HSr.out.get hx 3 rfl
              have c4 : (wr).cell? ⟨b, o + k * 12 + 4, none⟩ = some (.int .i64 x.t.b) := HSr.out.get hx 4 rfl
              have c5 : (wr).cell? ⟨b, o + k * 12 + 5, none⟩ = some (.int .i64 x.t.f) := HSr.out.get hx 5 rfl
              have c6 : (wr).cell? ⟨b, o + k * 12 + 6, none⟩ = some (.int .i64 x.t.c) := HSr.out.get hx 6 rfl
              have c7 : (wr).cell? ⟨b, o + k * 12 + 7, none⟩ = some (.int .i64 x.u.r) := HSr.out.get hx 7 rfl
              have c8 : (wr).cell? ⟨b, o + k * 12 + 8, none⟩ = some (.int .i64 x.u.b) := HSr.out.get hx 8 rfl
              have c9 : (wr).cell? ⟨b, o + k * 12 + 9, none⟩ = some (.int .i64 x.u.f) := HSr.out.get hx 9 rfl
              have c10 : (wr).cell? ⟨b, o + k * 12 + 10, none⟩ = some (.int .i64 x.u.c) := HSr.out.get hx 10 rfl
              have c11 : (wr).cell? ⟨b, o + k * 12 + 11, none⟩ = some (.int .i64 x.pr) := HSr.out.get hx 11 rfl
              have hws : w.heap.size + 1 ≤ wr.heap.size := by have := HW.out.size; omega
              have HX := Lib.hid hx
              have hzx := HZ.out x (List.mem_of_getElem? hx)
              have HX1 := Lib.hid (fun w => rgood_any x.nm w hzx.1)
              have HX2 := Lib.hid (fun w => rgood_any x.pt w hzx.2)
              have HF : Hid (∀ e, stepE ss k x = e → e ≠ 0 → ChkIs nm dl ss (k : Int) e) := Lib.hid fun e he h0 => HE.out (k : Int) e (.inl ⟨k, x, HX.out, he.symm, by rw [he]; exact h0, rfl, HI.out⟩)
              have HV0 : Hid (Box (wr.alloc (.cells x.arr 54)) wr.heap.size 54 x.arr ∧ Below (w.heap.size + 1) (w.alloc (.cells #[.string nm, .int .i64 dl, .slice (some ⟨b, o, none⟩) n c] 33)) (wr.alloc (.cells x.arr 54))) := Lib.hid ⟨Box.new _ _ _, HW.out.alloc hws _⟩
              unfold Stp.arr at HV0
              clear hx hzx
              cases n2 : nameB x.nm.data.toList with
              | false =>
                rw [n2] at HX1
                have HG := Lib.hid (HF.out 10 (stepE_10 (.inl n2)) (by decide))
                clear n2
                go_wp2_with (first | (go_at_call 51; (with_reducible refine (HX1.out _).mono ?_); rintro e w' ⟨rfl, rfl⟩) | (go_at_call 51; (with_reducible refine (HX2.out _).mono ?_); rintro e w' ⟨rfl, rfl⟩))
                go_ret2
                exact ⟨_, _, rfl, HG.out, hwb.out.trans (HV0.out.2.mono (by omega))⟩
              | true =>
                rw [n2] at HX1
                cases n3 : nameB x.pt.data.toList with
                | false =>
                  rw [n3] at HX2
                  have HG := Lib.hid (HF.out 10 (stepE_10 (.inr n3)) (by decide))
                  clear n2 n3
                  go_wp2_with (first | (go_at_call 51; (with_reducible refine (HX1.out _).mono ?_); rintro e w' ⟨rfl, rfl⟩) | (go_at_call 51; (with_reducible refine (HX2.out _).mono ?_); rintro e w' ⟨rfl, rfl⟩))
                  go_ret2
                  exact ⟨_, _, rfl, HG.out, hwb.out.trans (HV0.out.2.mono (by omega))⟩
                | true =>
                  rw [n3] at HX2
                  have HNm : Hid (¬ (nameB x.nm.data.toList = false ∨ nameB x.pt.data.toList = false)) := Lib.hid (by rw [n2, n3]; simp)
                  clear n2 n3
                  go_wp2_with (first | (go_at_call 51; (with_reducible refine (HX1.out _).mono ?_); rintro e w' ⟨rfl, rfl⟩) | (go_at_call 51; (with_reducible refine (HX2.out _).mono ?_); rintro e w' ⟨rfl, rfl⟩))
                  generalize wr.alloc _ = W1 at *
                  go_loopw [6] (fun vk wr2 => ∃ j q : Nat, vk = .int .i64 (j : Int) ∧ j ≤ k ∧ wr2 = W1.drewN q ∧ Hid (∀ (j' : Nat) (t : Stp), j' < j → ss[j']? = some t → t.nm ≠ x.nm)) (fun vk _ => k - (intOf vk).toNat)
                  case atStart => exact ⟨0, 0, rfl, Nat.zero_le _, rfl, Lib.hid fun j t hj => absurd hj (by omega)⟩
                  case round =>
                    obtain ⟨j, q, rfl, hj, rfl, HJ⟩ := hrel
                    have HS1 : Hid (Box (W1.drewN q) wr.heap.size 54 x.arr) := Lib.hid HV0.out.1
                    have HV : Hid (Below (w.heap.size + 1) (w.alloc (.cells #[.string nm, .int .i64 dl, .slice (some ⟨b, o, none⟩) n c] 33)) (W1.drewN q)) := Lib.hid (HV0.out.2.trans ⟨rfl, rfl, rfl, Nat.le_refl _, fun _ _ => rfl⟩)
                    have HQ : Hid (∀ m, (W1.drewN q).drewN m = W1.drewN (q + m)) := Lib.hid fun m => World.drewN_drewN _ _ _
                    obtain ⟨c0, c1, c2, c3, c4, c5, c6, c7, c8, c9, c10, c11⟩ := scells (s := x) HS1.out
                    have e2 := Dc2 (dbox HV.out)
                    by_cases hjk : j < k
                    · obtain ⟨y, hy⟩ : ∃ y, ss[j]? = some y := ⟨_, List.getElem?_eq_getElem (by have := HN.out; omega)⟩
                      have d0 : (W1.drewN q).cell? ⟨b, o + j * 12, none⟩ = some (.string y.nm) := (HS.out.on (hwb.out.trans (HV.out.mono (by omega)))).get hy 0 rfl
                      generalize W1.drewN q = wq at *
                      by_cases he : y.nm = x.nm
                      · have g1 : (y.nm.toList == x.nm.toList) = true := by rw [bytes_beq]; exact decide_eq_true he
                        have HG := Lib.hid (HF.out 6 (stepE_6 HNm.out (any_hit hy hjk he)) (by decide))
                        clear hy he
                        go_wp2_with fail
                        go_quiet (fail)
                        go_wp2
                        go_ret2
                        exact ⟨_, _, rfl, HG.out, hwb.out.trans ((HV.out.mono (by omega)).trans ⟨rfl, rfl, rfl, Nat.le_refl _, fun _ _ => rfl⟩)⟩
                      · have g1 : (y.nm.toList == x.nm.toList) = false := by rw [bytes_beq]; exact decide_eq_false he
                        have HJ2 : Hid (∀ (j' : Nat) (t : Stp), j' < j + 1 → ss[j']? = some t → t.nm ≠ x.nm) := Lib.hid fun j' t hj' ht => by
                          by_cases e : j' = j
                          · subst e
                            rw [hy] at ht
                            injection ht with ht
                            subst ht
                            exact he
                          · exact HJ.out j' t (by omega) ht
                        clear hy he
                        go_wp2_with fail
                        go_quiet (fail)
                        go_wp2
                        go_roundw
                        case rel => exact ⟨j + 1, q + nq, by go_num, by omega, HQ.out nq, HJ2⟩
                        case measure => simp only [intOf]; omega
                    · have HA := Lib.hid (any_miss (ss := ss) (i := k) (t := x.nm) (fun j' t hj' ht => HJ.out j' t (by omega) ht))
                      generalize W1.drewN q = wq at *
                      have HP1 := Lib.hid (Bo.rgood_is x.t rfl)
                      have HP2 := Lib.hid (Bo.rgood_is x.u rfl)
                      by_cases h1 : x.tm < 1 ∨ 1099511627776 < x.tm ∨ x.pr < 0 ∨ 255 < x.pr
                      · have HG := Lib.hid (HF.out 1 (stepE_1 HNm.out HA.out h1) (by decide))
                        by_cases t1 : x.tm < 1
                        · clear h1
                          go_wp2
                          go_ret2
                          exact ⟨_, _, rfl, HG.out, hwb.out.trans (HV.out.mono (by omega))⟩
                        · by_cases t2 : 1099511627776 < x.tm
                          · clear h1
                            go_wp2
                            go_ret2
                            exact ⟨_, _, rfl, HG.out, hwb.out.trans (HV.out.mono (by omega))⟩
                          · by_cases t3 : x.pr < 0
                            · clear h1
                              go_wp2
                              go_ret2
                              exact ⟨_, _, rfl, HG.out, hwb.out.trans (HV.out.mono (by omega))⟩
                            · have t4 : 255 < x.pr := by omega
                              clear h1
                              go_wp2
                              go_ret2
                              exact ⟨_, _, rfl, HG.out, hwb.out.trans (HV.out.mono (by omega))⟩
                      · have H1 := Lib.hid h1
                        have t1 : ¬ x.tm < 1 := by omega
                        have t2 : ¬ 1099511627776 < x.tm := by omega
                        have t3 : ¬ x.pr < 0 := by omega
                        have t4 : ¬ 255 < x.pr := by omega
                        clear h1
                        cases p1 : x.t.goodB with
                        | false =>
                          rw [p1] at HP1
                          have HG := Lib.hid (HF.out 3 (stepE_3 HNm.out HA.out H1.out (.inl (of_decide_eq_false p1))) (by decide))
                          clear p1
                          go_wp2_with (first | (go_at_call 86; (with_reducible refine (HP1.out _).mono ?_); rintro e w5 ⟨rfl, hm⟩; have HQ1 := Lib.hid (HS1.out.below hm.below HS1.out.lt); have HV1 := Lib.hid (HV.out.trans (hm.below.mono (by have := HV.out.size; omega))); obtain ⟨c0, c1, c2, c3, c4, c5, c6, c7, c8, c9, c10, c11⟩ := scells (s := x) HQ1.out; clear hm) | (go_at_call 86; (with_reducible refine (HP2.out _).mono ?_); rintro e w6 ⟨rfl, hm⟩; have HV2 := Lib.hid (HV1.out.trans (hm.below.mono (by have := HV1.out.size; omega))); clear hm))
                          go_ret2
                          exact ⟨_, _, rfl, HG.out, hwb.out.trans (HV1.out.mono (by omega))⟩
                        | true =>
                          rw [p1] at HP1
                          cases p2 : x.u.goodB with
                          | false =>
                            rw [p2] at HP2
                            have HG := Lib.hid (HF.out 3 (stepE_3 HNm.out HA.out H1.out (.inr (of_decide_eq_false p2))) (by decide))
                            clear p1 p2
                            go_wp2_with (first | (go_at_call 86; (with_reducible refine (HP1.out _).mono ?_); rintro e w5 ⟨rfl, hm⟩; have HQ1 := Lib.hid (HS1.out.below hm.below HS1.out.lt); have HV1 := Lib.hid (HV.out.trans (hm.below.mono (by have := HV.out.size; omega))); obtain ⟨c0, c1, c2, c3, c4, c5, c6, c7, c8, c9, c10, c11⟩ := scells (s := x) HQ1.out; clear hm) | (go_at_call 86; (with_reducible refine (HP2.out _).mono ?_); rintro e w6 ⟨rfl, hm⟩; have HV2 := Lib.hid (HV1.out.trans (hm.below.mono (by have := HV1.out.size; omega))); clear hm))
                            go_ret2
                            exact ⟨_, _, rfl, HG.out, hwb.out.trans (HV2.out.mono (by omega))⟩
                          | true =>
                            rw [p2] at HP2
                            have HI2 : Hid (∀ (j : Nat) (t : Stp), j < k + 1 → ss[j]? = some t → stepE ss j t = 0) := Lib.hid fun j' t hj' ht => by
                              by_cases e : j' = k
                              · subst e
                                rw [HX.out] at ht
                                injection ht with ht
                                subst ht
                                exact stepE_0 HNm.out HA.out H1.out (by rintro (h | h) <;> first | exact h (of_decide_eq_true p1) | exact h (of_decide_eq_true p2))
                              · exact HI.out j' t (by omega) ht
                            clear p1 p2
                            go_wp2_with (first | (go_at_call 86; (with_reducible refine (HP1.out _).mono ?_); rintro e w5 ⟨rfl, hm⟩; have HQ1 := Lib.hid (HS1.out.below hm.below HS1.out.lt); have HV1 := Lib.hid (HV.out.trans (hm.below.mono (by have := HV.out.size; omega))); obtain ⟨c0, c1, c2, c3, c4, c5, c6, c7, c8, c9, c10, c11⟩ := scells (s := x) HQ1.out; clear hm) | (go_at_call 86; (with_reducible refine (HP2.out _).mono ?_); rintro e w6 ⟨rfl, hm⟩; have HV2 := Lib.hid (HV1.out.trans (hm.below.mono (by have := HV1.out.size; omega))); clear hm))
                            go_roundw
                            case rel => exact ⟨k + 1, by go_num, by omega, HV2, HI2⟩
                            case measure => simp only [intOf]; omega
            · have HG := Lib.hid (HE.out (-1) 0 (.inr ⟨rfl, rfl, fun j t ht => HI.out j t (by have := at_lt ht; have := HN.out; omega) ht⟩))
              go_wp2
              go_ret2
              exact ⟨_, _, rfl, HG.out, hwb.out.trans (HW.out.mono (by omega))⟩
end Go.Proofs.YteejocnogpaifaaGreatDoor.Df
