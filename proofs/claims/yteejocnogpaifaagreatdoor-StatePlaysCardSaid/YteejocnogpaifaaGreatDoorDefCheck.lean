/-
  What Check answers: what is wrong with a definition.
  Conditions: the steps lie in memory; texts have at most 2^45 bytes.
-/
import Derived.Test.YteejocnogpaifaaGreatDoorDefStep
import Derived.StillTailTactics
namespace Go.Proofs.YteejocnogpaifaaGreatDoor.Df
open Go.RowKit
open Go.Proofs.YteejocnogpaifaaGreatDoor.El
open Go.Proofs.YteejocnogpaifaaGreatDoor.Bo (P Made ret_int ret_bool)

/-- what Check answers, and leaves -/
def ChkPost (nm : ByteArray) (dl : Int) (ss : List Stp) (w : World) (e : Ending) (w' : World) : Prop :=
  ∃ k ev, e = .returned (.tuple #[.int .i64 k, .int .i64 ev]) ∧ ChkIs nm dl ss k ev ∧ Below w.heap.size w w'
/-- a definition that a call has laid, behind whatever has been made since -/
theorem dbox {w w' : World} {nm : ByteArray} {dl : Int} {A : Option Addr} {n c : Nat} (h : Below (w.heap.size + 1) (w.alloc (.cells #[.string nm, .int .i64 dl, .slice A n c] 33)) w') : Box w' w.heap.size 33 (dcells nm dl A n c) := (Box.new w 33 (dcells nm dl A n c)).below h (by omega)
theorem run_steps_to (W : World) (A : Option Addr) (n c k : Nat) (hk : k ≤ c) : (Instr.slice 31 (.slice A n c) none (some (.int .i64 (k : Int))) none).run Tryz.prog W = .ok (.slice A k c) W := by
  have ht' : Tryz.prog.underlying 31 = some (.slice (Tryz.prog.elem 31)) := by simp [Program.elem, Tryz.underlying31]
  have he : Tryz.prog.elem 31 = 54 := by simp [Program.elem, Tryz.underlying31]
  have hz : ∀ w, (Go.sizeOf 54).run Tryz.prog w = .ok 12 w := fun w => by
    obtain ⟨i0, hi0, _, hz1, _⟩ := info_is
    simp [Go.sizeOf, typeInfo, hi0, hz1]
  rw [run_slice_h W 31 _ _ _ ht' .i64 _ (by omega) (by omega), he, hz]
  cases A <;> simp [Result.andThen, sliced, Addr.add]
set_option maxHeartbeats 4000000 in
set_option maxRecDepth 100000 in
theorem check_any (nm : ByteArray) (dl : Int) (A : Option Addr) (c : Nat) (ss : List Stp) (n : Nat) (w : World) (hn : n = ss.length) (hb : n ≤ 9223372036854775807) (hc : n ≤ c) (hS : Steps w w.heap.size A ss) (hz : nm.size ≤ 35184372088832) (hzs : ∀ s ∈ ss, s.nm.size ≤ 35184372088832 ∧ s.pt.size ≤ 35184372088832) :
    Calls Tryz.prog 64 #[.agg #[.string nm, .int .i64 dl, .slice A n c]] w (ChkPost nm dl ss w) := by
  have hwb : Hid (Below w.heap.size w (w.alloc (.cells #[.string nm, .int .i64 dl, .slice A n c] 33))) := Lib.hid ((Below.refl w.heap.size w).alloc (Nat.le_refl _) _)
  have hz0 : (w.alloc (.cells #[.string nm, .int .i64 dl, .slice A n c] 33)).heap.size = w.heap.size + 1 := by simp
  have HG1 := Lib.hid (fun w => good_any nm w hz)
  have HT := Lib.hid (Bo.tgood_any dl)
  have HB := Lib.hid (Below.refl (w.heap.size + 1) (w.alloc (.cells #[.string nm, .int .i64 dl, .slice A n c] 33)))
  have HS := Lib.hid hS
  have HN := Lib.hid hn
  have HZ := Lib.hid hzs
  clear hS hn hz hzs
  cases n1 : nameB nm.data.toList with
  | false =>
    rw [n1] at HG1
    have HE : Hid (ChkIs nm dl ss (-1) 10) := Lib.hid (by unfold ChkIs; rw [if_pos n1]; exact ⟨rfl, rfl⟩)
    clear n1
    go_enter Tryz.func64, Tryz.ntmps64
    go_wp2_with (first
      | (go_at_call 72; (with_reducible refine (HG1.out _).mono ?_); rintro e w1 ⟨rfl, hb⟩; have hbn := HB.out.trans (hb.mono (by have := HB.out.size; omega)); clear hb; have HB := Lib.hid hbn; have c1 := Dc1 (dbox HB.out); have c2 := Dc2 (dbox HB.out); clear hbn)
      | (go_at_call 36; (with_reducible refine (HT.out _).mono ?_); rintro e w4 ⟨rfl, rfl⟩))
    go_ret2
    exact ⟨_, _, rfl, HE.out, hwb.out.trans (HB.out.mono (by omega))⟩
  | true =>
    rw [n1] at HG1
    have hn1 : ¬ nameB nm.data.toList = false := by rw [n1]; simp
    have HN1 := Lib.hid hn1
    clear n1 hn1
    by_cases h2 : dl < 0 ∨ 1099511627776 < dl
    · have HE : Hid (ChkIs nm dl ss (-1) 1) := Lib.hid (by unfold ChkIs; rw [if_neg HN1.out, if_pos h2]; exact ⟨rfl, rfl⟩)
      have hg : Bo.goodN dl = false := by unfold Bo.goodN; exact decide_eq_false (by omega)
      rw [hg] at HT
      clear h2 hg
      go_enter Tryz.func64, Tryz.ntmps64
      go_wp2_with (first
        | (go_at_call 72; (with_reducible refine (HG1.out _).mono ?_); rintro e w1 ⟨rfl, hb⟩; have hbn := HB.out.trans (hb.mono (by have := HB.out.size; omega)); clear hb; have HB := Lib.hid hbn; have c1 := Dc1 (dbox HB.out); have c2 := Dc2 (dbox HB.out); clear hbn)
        | (go_at_call 36; (with_reducible refine (HT.out _).mono ?_); rintro e w4 ⟨rfl, rfl⟩))
      go_ret2
      exact ⟨_, _, rfl, HE.out, hwb.out.trans (HB.out.mono (by omega))⟩
    · have hg : Bo.goodN dl = true := by unfold Bo.goodN; exact decide_eq_true (by omega)
      rw [hg] at HT
      have HN2 := Lib.hid h2
      clear h2 hg
      by_cases h3 : n = 0
      · have HE : Hid (ChkIs nm dl ss (-1) 2) := Lib.hid (by unfold ChkIs; rw [if_neg HN1.out, if_neg HN2.out, if_pos (by have := HN.out; omega)]; exact ⟨rfl, rfl⟩)
        have g3 : ((n : Int) == 0) = true := by simp [h3]
        clear h3
        go_enter Tryz.func64, Tryz.ntmps64
        go_wp2_with (first
          | (go_at_call 72; (with_reducible refine (HG1.out _).mono ?_); rintro e w1 ⟨rfl, hb⟩; have hbn := HB.out.trans (hb.mono (by have := HB.out.size; omega)); clear hb; have HB := Lib.hid hbn; have c1 := Dc1 (dbox HB.out); have c2 := Dc2 (dbox HB.out); clear hbn)
          | (go_at_call 36; (with_reducible refine (HT.out _).mono ?_); rintro e w4 ⟨rfl, rfl⟩))
        go_ret2
        exact ⟨_, _, rfl, HE.out, hwb.out.trans (HB.out.mono (by omega))⟩
      · have g3 : ((n : Int) == 0) = false := by simpa using h3
        by_cases h4 : 32 < n
        · have HE : Hid (ChkIs nm dl ss (-1) 4) := Lib.hid (by unfold ChkIs; rw [if_neg HN1.out, if_neg HN2.out, if_neg (by have := HN.out; omega), if_pos (by have := HN.out; omega)]; exact ⟨rfl, rfl⟩)
          clear h3
          go_enter Tryz.func64, Tryz.ntmps64
          go_wp2_with (first
            | (go_at_call 72; (with_reducible refine (HG1.out _).mono ?_); rintro e w1 ⟨rfl, hb⟩; have hbn := HB.out.trans (hb.mono (by have := HB.out.size; omega)); clear hb; have HB := Lib.hid hbn; have c1 := Dc1 (dbox HB.out); have c2 := Dc2 (dbox HB.out); clear hbn)
            | (go_at_call 36; (with_reducible refine (HT.out _).mono ?_); rintro e w4 ⟨rfl, rfl⟩))
          go_ret2
          exact ⟨_, _, rfl, HE.out, hwb.out.trans (HB.out.mono (by omega))⟩
        · have HE : Hid (∀ k e, FaultIs ss k e → ChkIs nm dl ss k e) := Lib.hid (fun k e h => by unfold ChkIs; rw [if_neg HN1.out, if_neg HN2.out, if_neg (by have := HN.out; omega), if_neg (by have := HN.out; omega)]; exact h)
          have e32 : decide ((32 : Int) < (n : Int)) = false := decide_eq_false (by omega)
          clear h3
          go_enter Tryz.func64, Tryz.ntmps64
          go_wp2_with (first
            | (go_at_call 72; (with_reducible refine (HG1.out _).mono ?_); rintro e w1 ⟨rfl, hb⟩; have hbn := HB.out.trans (hb.mono (by have := HB.out.size; omega)); clear hb; have HB := Lib.hid hbn; have c1 := Dc1 (dbox HB.out); have c2 := Dc2 (dbox HB.out); clear hbn)
            | (go_at_call 36; (with_reducible refine (HT.out _).mono ?_); rintro e w4 ⟨rfl, rfl⟩))
          clear HG1 HT
          go_loopw [30] (fun vi wr => ∃ k : Nat, vi = .int .i64 (k : Int) ∧ k ≤ n ∧ Hid (Below (w.heap.size + 1) (w.alloc (.cells #[.string nm, .int .i64 dl, .slice A n c] 33)) wr) ∧ Hid (∀ (j : Nat) (t : Stp), j < k → ss[j]? = some t → stepE ss j t = 0)) (fun vi _ => n - (intOf vi).toNat)
          case atStart => exact ⟨0, rfl, Nat.zero_le _, HB, Lib.hid fun j t hj => absurd hj (by omega)⟩
          case round =>
            obtain ⟨k, rfl, hk, HW, HI⟩ := hrel
            by_cases hkn : k < n
            · obtain ⟨x, hx⟩ : ∃ x, ss[k]? = some x := ⟨_, List.getElem?_eq_getElem (by have := HN.out; omega)⟩
              obtain ⟨b, o, rfl, hbl⟩ := HS.out.at_ hx
              have HSr := Lib.hid (HS.out.on (hwb.out.trans (HW.out.mono (by omega))))
              have c0 : (wr).cell? ⟨b, o + k * 12, none⟩ = some (.string x.nm) := HSr.out.get hx 0 rfl
              have c1 : (wr).cell? ⟨b, o + k * 12 + 1, none⟩ = some (.string x.pt) := HSr.out.get hx 1 rfl
              have c2 : (wr).cell? ⟨b, o + k * 12 + 2, none⟩ = some (.int .i64 x.tm) := HSr.out.get hx 2 rfl
              have c3 : (wr).cell? ⟨b, o + k * 12 + 3, none⟩ = some (.int .i64 x.t.r) := HSr.out.get hx 3 rfl
              have c4 : (wr).cell? ⟨b, o + k * 12 + 4, none⟩ = some (.int .i64 x.t.b) := HSr.out.get hx 4 rfl
              have c5 : (wr).cell? ⟨b, o + k * 12 + 5, none⟩ = some (.int .i64 x.t.f) := HSr.out.get hx 5 rfl
              have c6 : (wr).cell? ⟨b, o + k * 12 + 6, none⟩ = some (.int .i64 x.t.c) := HSr.out.get hx 6 rfl
              have c7 : (wr).cell? ⟨b, o + k * 12 + 7, none⟩ = some (.int .i64 x.u.r) := HSr.out.get hx 7 rfl
              have c8 : (wr).cell? ⟨b, o + k * 12 + 8, none⟩ = some (.int .i64 x.u.b) := HSr.out.get hx 8 rfl
              have c9 : (wr).cell? ⟨b, o + k * 12 + 9, none⟩ = some (.int .i64 x.u.f) := HSr.out.get hx 9 rfl
              have c10 : (wr).cell? ⟨b, o + k * 12 + 10, none⟩ = some (.int .i64 x.u.c) := HSr.out.get hx 10 rfl
              have c11 : (wr).cell? ⟨b, o + k * 12 + 11, none⟩ = some (.int .i64 x.pr) := HSr.out.get hx 11 rfl
              have e2 := Dc2 (dbox HW.out)
              have hws : w.heap.size + 1 ≤ wr.heap.size := by have := HW.out.size; omega
              have HX := Lib.hid hx
              clear hx
              go_wp2
              have HX1 : Hid (Box (wr.alloc (.cells x.arr 54)) wr.heap.size 54 x.arr ∧ Below wr.heap.size wr (wr.alloc (.cells x.arr 54))) := Lib.hid ⟨Box.new _ _ _, (Below.refl _ _).alloc (Nat.le_refl _) _⟩
              unfold Stp.arr at HX1
              generalize wr.alloc _ = W1 at *
              obtain ⟨c0, c1, c2, c3, c4, c5, c6, c7, c8, c9, c10, c11⟩ := scells (s := x) HX1.out.1
              have HW1 := Lib.hid (HW.out.trans (HX1.out.2.mono (by omega)))
              have e2 := Dc2 (dbox HW1.out)
              have hcut := fun W => run_steps_to W (some ⟨b, o, none⟩) n c k (by omega)
              have HCk : Hid (Calls Tryz.prog 94 #[.agg #[.string x.nm, .string x.pt, .int .i64 x.tm, .int .i64 x.t.r, .int .i64 x.t.b, .int .i64 x.t.f, .int .i64 x.t.c, .int .i64 x.u.r, .int .i64 x.u.b, .int .i64 x.u.f, .int .i64 x.u.c, .int .i64 x.pr], .slice (some ⟨b, o, none⟩) k c] W1.drew fun e w' => e = .returned (.int .i64 (stepE ss k x)) ∧ Below W1.heap.size W1 w') := Lib.hid
                ((cstep_any x (some ⟨b, o, none⟩) c k ss W1.drew (by have := HN.out; omega) (by omega) ((HS.out.on (hwb.out.trans (HW1.out.mono (by omega)))).below (Below.drew (Below.refl _ _))) (HZ.out x (List.mem_of_getElem? HX.out))).mono fun e w' ⟨h1, h2⟩ => ⟨h1, (Below.drew (Below.refl _ _)).trans h2⟩)
              by_cases hev : stepE ss k x = 0
              · have HI2 : Hid (∀ j t, j < k + 1 → ss[j]? = some t → stepE ss j t = 0) := Lib.hid fun j t hj ht => by
                  by_cases e : j = k
                  · subst e
                    rw [HX.out] at ht
                    injection ht with ht
                    subst ht
                    exact hev
                  · exact HI.out j t (by omega) ht
                rw [hev] at HCk
                clear hev
                refine wp_region_still_tail 5 (by kernel_rfl) (by kernel_rfl) ?_
                simp only [List.take_succ_cons, List.take_zero, List.drop_succ_cons, List.drop_zero]
                change wpStill _ _ W1.drew _ _ _
                iterate 5 still_step
                refine wpStill_nil ?_
                go_wp2_with (go_at_call 94; (with_reducible refine HCk.out.mono ?_); rintro e w2 ⟨rfl, hb2⟩; have HB2 := Lib.hid hb2; clear hb2)
                go_roundw
                case rel => exact ⟨k + 1, by go_num, by omega, Lib.hid (HW1.out.trans (HB2.out.mono (by have := HW1.out.size; omega))), HI2⟩
                case measure => simp only [intOf]; omega
              · have HF := Lib.hid (HE.out (k : Int) (stepE ss k x) (.inl ⟨k, x, HX.out, rfl, hev, rfl, HI.out⟩))
                have heb : (stepE ss k x != 0) = true := by simpa using hev
                clear hev
                generalize stepE ss k x = ev at *
                refine wp_region_still_tail 5 (by kernel_rfl) (by kernel_rfl) ?_
                simp only [List.take_succ_cons, List.take_zero, List.drop_succ_cons, List.drop_zero]
                change wpStill _ _ W1.drew _ _ _
                iterate 5 still_step
                refine wpStill_nil ?_
                go_wp2_with (go_at_call 94; (with_reducible refine HCk.out.mono ?_); rintro e w2 ⟨rfl, hb2⟩; have HB2 := Lib.hid hb2; clear hb2)
                go_ret2
                exact ⟨_, _, rfl, HF.out, hwb.out.trans ((HW1.out.trans (HB2.out.mono (by have := HW1.out.size; omega))).mono (by omega))⟩
            · have HF := Lib.hid (HE.out (-1) 0 (.inr ⟨rfl, rfl, fun j t ht => HI.out j t (by have := at_lt ht; have := HN.out; omega) ht⟩))
              go_wp2
              go_ret2
              exact ⟨_, _, rfl, HF.out, hwb.out.trans (HW.out.mono (by omega))⟩
end Go.Proofs.YteejocnogpaifaaGreatDoor.Df
