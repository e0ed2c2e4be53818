/-
  FieldStays: behind its first error a reader takes nothing: all answers are zero values, and the error stays.
  Conditions: none.
-/
import Derived.Test.YtenkjopmldmobaaFldArg
namespace Go.Proofs.Ytenkjopmldmobaa.fieldStays
open Go.ChangeShapes Go.WideShapes Go.ChangeAt Go.RowKit

/-- where the law's loop stands -/
structure At (w wr : World) (g : Nat) (l : List UInt8) : Prop where
  bel : Below w.heap.size w wr
  le : w.heap.size ≤ g
  rd : ∃ pos on er, Rd wr g l pos on er
theorem Rd.some {w : World} {g : Nat} {l : List UInt8} {pos on er : Nat} (h : Rd w g l pos on er) : ∃ p o e, Rd w g l p o e := ⟨_, _, _, h⟩
theorem bel_call {w w1 w2 : World} {g : Nat} {o : Obj} (h : Below w.heap.size w w1) (hle : w.heap.size ≤ g) (hG : (w1.alloc o).grownBy w2 (some g)) : Below w.heap.size w w2 :=
  (h.alloc h.size o).grown hG (by have := h.size; simp; omega) (fun k hk => by injection hk with hk; omega)
theorem Rd.alloc {w : World} {g : Nat} {l : List UInt8} {pos on er : Nat} (h : Rd w g l pos on er) (o : Obj) : Rd (w.alloc o) g l pos on er :=
  h.below ((Below.refl w.heap.size w).alloc (Nat.le_refl _) o) h.lt

/-- what a call of the reader leaves -/
def Left (W : World) (g : Nat) (l : List UInt8) (pos on er : Nat) (v : Value) (e : Ending) (w' : World) : Prop := e = .returned v ∧ Rd w' g l pos on er ∧ W.grownBy w' (some g)
theorem no_ok {er e : Nat} (h : er ≠ 0) : okB er e = false := by simp [okB, h]
theorem late_p {er : Nat} (h : er ≠ 0) (pos e s : Nat) : nxP pos er s e = pos := by simp [nxP, h]
theorem late_o {er : Nat} (h : er ≠ 0) (pos on e : Nat) : nxO pos on er e = on := by simp [nxO, h]
theorem late_e {er : Nat} (h : er ≠ 0) (e : Nat) : nxE er e = er := by simp [nxE, h]
theorem late_0 (g pos on er : Nat) (l : List UInt8) (W : World) (h : Rd W g l pos on er) (her : er ≠ 0) :
    Calls Try.prog 9 #[.pointer (some ⟨g, 0, none⟩)] W (Left W g l pos on er (.int .i64 0)) := by
  refine (rnum_any g pos on er l W h).mono ?_
  rintro e w' ⟨rfl, hr, hg⟩
  have ha : numA l pos er = 0 := by unfold numA; rw [no_ok her]; rfl
  rw [ha]
  rw [late_p her, late_o her, late_e her] at hr
  exact ⟨rfl, hr, hg⟩
theorem late_1 (g pos on er : Nat) (x : Int) (l : List UInt8) (W : World) (h : Rd W g l pos on er) (her : er ≠ 0) :
    Calls Try.prog 11 #[.pointer (some ⟨g, 0, none⟩), .int .i64 x] W (Left W g l pos on er (.string ⟨#[]⟩)) := by
  refine (rtext_any g pos on er x l W h).mono ?_
  rintro e w' ⟨rfl, hr, hg⟩
  have ha : txtA l pos er x = [] := by unfold txtA; rw [no_ok her]; rfl
  rw [ha]
  rw [late_p her, late_o her, late_e her] at hr
  exact ⟨rfl, hr, hg⟩
theorem late_2 (g pos on er : Nat) (l : List UInt8) (W : World) (h : Rd W g l pos on er) (her : er ≠ 0) :
    Calls Try.prog 13 #[.pointer (some ⟨g, 0, none⟩)] W (Left W g l pos on er (.bool false)) := by
  refine (rflag_any g pos on er l W h).mono ?_
  rintro e w' ⟨rfl, hr, hg⟩
  have ha : flagA l pos er = false := by unfold flagA; rw [no_ok her]; rfl
  rw [ha]
  rw [late_p her, late_o her, late_e her] at hr
  exact ⟨rfl, hr, hg⟩
theorem late_3 (g pos on er : Nat) (x y : Int) (y0 : -9223372036854775808 ≤ y) (y1 : y ≤ 9223372036854775807) (l : List UInt8) (W : World) (h : Rd W g l pos on er) (her : er ≠ 0) :
    Calls Try.prog 15 #[.pointer (some ⟨g, 0, none⟩), .int .i64 x, .int .i64 y] W (Left W g l pos on er (.int .i64 0)) := by
  refine (rcount_any g pos on er x y l W h y0 y1).mono ?_
  rintro e w' ⟨rfl, hr, hg⟩
  have ha : cntA l pos er x y = 0 := by unfold cntA; rw [no_ok her]; rfl
  rw [ha]
  rw [late_p her, late_o her, late_e her] at hr
  exact ⟨rfl, hr, hg⟩
theorem late_4 (g pos on er : Nat) (l : List UInt8) (W : World) (h : Rd W g l pos on er) (her : er ≠ 0) :
    Calls Try.prog 17 #[.pointer (some ⟨g, 0, none⟩)] W (Left W g l pos on er (.bool false)) := by
  refine (rend_any g pos on er l W h).mono ?_
  rintro e w' ⟨rfl, hr, hg⟩
  rw [no_ok her]
  rw [late_p her, late_o her, late_e her] at hr
  exact ⟨rfl, hr, hg⟩

set_option maxHeartbeats 4000000 in
set_option maxRecDepth 100000 in
theorem walk (A : Option Addr) (l : List UInt8) (c : Nat) (B : Option Addr) (n cb : Nat) (f : Nat → ActD) (w : World) (hb : Byt w w.heap.size A l) (hl : l.length ≤ 9223372036854775807) (hn : n ≤ 9223372036854775807) (hf : ∀ i, i < n → ActAt w w.heap.size B i (f i)) :
    Calls Try.prog 5 #[.slice A l.length c, .slice B n cb] w fun e w' => e = .returned (.bool true) ∧ Below w.heap.size w w' := by
  by_cases h200 : 200 < l.length
  · have hq : decide (200 < (l.length : Int)) = true := by simp; omega
    go_enter Try.func5, Try.ntmps5
    go_wp2_with (go_at_call 6; refine (awake_any _).mono ?_; rintro e W1 ⟨rfl, b1⟩)
    go_ret
    exact ⟨rfl, b1⟩
  · have hq : decide (200 < (l.length : Int)) = false := by simp; omega
    by_cases h30 : 30 < n
    · have hq2 : decide (30 < (n : Int)) = true := by simp; omega
      go_enter Try.func5, Try.ntmps5
      go_wp2_with (go_at_call 6; refine (awake_any _).mono ?_; rintro e W1 ⟨rfl, b1⟩)
      go_ret
      exact ⟨rfl, b1⟩
    · have hq2 : decide (30 < (n : Int)) = false := by simp; omega
      have HF := Lib.hid hf
      clear hf
      go_enter Try.func5, Try.ntmps5
      go_wp2_with (first
        | (go_at_call 6; refine (awake_any _).mono ?_; rintro e W1 ⟨rfl, b1⟩)
        | (go_at_call 7; refine (new_any A l c W1 ((hb.below b1).more b1.size) (by omega)).mono ?_; rintro e W2 ⟨g, rfl, hg, hR, b2⟩))
      have hAt : At w W2 g l := ⟨b1.trans (b2.mono b1.size), Nat.le_trans b1.size hg, 0, 0, 0, hR⟩
      clear hR b1 b2 hg hb
      go_loopw [6] (fun i wr => ∃ k : Nat, k ≤ n ∧ i = .int .i64 k ∧ At w wr g l) (fun i _ => n - (intOf i).toNat)
      case atStart => exact ⟨0, by omega, rfl, hAt⟩
      case round =>
        obtain ⟨k, hk, rfl, hR⟩ := hrel
        clear hAt
        by_cases hkn : k < n
        · obtain ⟨hok, b, o, rfl, hbl, _⟩ := HF.out k hkn
          obtain ⟨bel, hle, pos, on, er, hrd⟩ := hR
          have H5 := Lib.hid (fun w' (hb : Below w.heap.size w w') => (HF.out k hkn).five hb)
          obtain ⟨a, ha⟩ : ∃ a, a = f k := ⟨_, rfl⟩
          rw [← ha] at H5 hok
          clear ha
          obtain ⟨_, _, _, _, hl0, hl1, _⟩ := hok
          by_cases her : er ≠ 0
          · have he1 : ((er : Int) == 0) = false := by simpa using her
            have he2 : ((er : Int) != 0) = true := by simpa using her
            have HER := Lib.hid her
            clear her
            by_cases h0 : a.kind = 0
            · have k0 : (a.kind == 0) = true := by simpa using h0
              clear h0
              go_wp2_with fail
              refine (rerr_any g pos on er l wr hrd).mono ?_
              rintro e w1 ⟨rfl, m1, hw1⟩
              have bel1 : Below w.heap.size w w1 := by rw [hw1]; exact below_drewN bel m1
              have hrd1 : Rd w1 g l pos on er := by rw [hw1]; exact hrd.drewN m1
              obtain ⟨c0, c1, c2, c3, c4⟩ := H5.out w1 bel1
              clear hw1 bel hrd
              go_wp2_with fail
              refine (late_0 g pos on er l _ (Rd.alloc hrd1 _) HER.out).mono ?_
              rintro e w2 ⟨rfl, hrd2, hG2⟩
              have bel2 := bel_call bel1 hle hG2
              clear hG2
              go_wp2_with fail
              refine (rerr_any g pos on er l w2 hrd2).mono ?_
              rintro e w3 ⟨rfl, m3, hw3⟩
              have hN : At w w3 g l := ⟨by rw [hw3]; exact below_drewN bel2 m3, hle, by rw [hw3]; exact Rd.some (hrd2.drewN m3)⟩
              clear hw3
              go_wp2
              go_roundw
              case rel => exact ⟨k + 1, by omega, by go_num, hN⟩
              case measure => simp [intOf]; omega
            · have k0 : (a.kind == 0) = false := by simpa using h0
              clear h0
              by_cases h1 : a.kind = 1
              · have k1 : (a.kind == 1) = true := by simpa using h1
                clear h1
                go_wp2_with fail
                refine (rerr_any g pos on er l wr hrd).mono ?_
                rintro e w1 ⟨rfl, m1, hw1⟩
                have bel1 : Below w.heap.size w w1 := by rw [hw1]; exact below_drewN bel m1
                have hrd1 : Rd w1 g l pos on er := by rw [hw1]; exact hrd.drewN m1
                obtain ⟨c0, c1, c2, c3, c4⟩ := H5.out w1 bel1
                clear hw1 bel hrd
                go_wp2_with fail
                refine (late_1 g pos on er a.n l _ (Rd.alloc hrd1 _) HER.out).mono ?_
                rintro e w2 ⟨rfl, hrd2, hG2⟩
                have bel2 := bel_call bel1 hle hG2
                clear hG2
                go_wp2_with fail
                refine (rerr_any g pos on er l w2 hrd2).mono ?_
                rintro e w3 ⟨rfl, m3, hw3⟩
                have hN : At w w3 g l := ⟨by rw [hw3]; exact below_drewN bel2 m3, hle, by rw [hw3]; exact Rd.some (hrd2.drewN m3)⟩
                clear hw3
                go_wp2
                go_roundw
                case rel => exact ⟨k + 1, by omega, by go_num, hN⟩
                case measure => simp [intOf]; omega
              · have k1 : (a.kind == 1) = false := by simpa using h1
                clear h1
                by_cases h2 : a.kind = 2
                · have k2 : (a.kind == 2) = true := by simpa using h2
                  clear h2
                  go_wp2_with fail
                  refine (rerr_any g pos on er l wr hrd).mono ?_
                  rintro e w1 ⟨rfl, m1, hw1⟩
                  have bel1 : Below w.heap.size w w1 := by rw [hw1]; exact below_drewN bel m1
                  have hrd1 : Rd w1 g l pos on er := by rw [hw1]; exact hrd.drewN m1
                  obtain ⟨c0, c1, c2, c3, c4⟩ := H5.out w1 bel1
                  clear hw1 bel hrd
                  go_wp2_with fail
                  refine (late_2 g pos on er l _ (Rd.alloc hrd1 _) HER.out).mono ?_
                  rintro e w2 ⟨rfl, hrd2, hG2⟩
                  have bel2 := bel_call bel1 hle hG2
                  clear hG2
                  go_wp2_with fail
                  refine (rerr_any g pos on er l w2 hrd2).mono ?_
                  rintro e w3 ⟨rfl, m3, hw3⟩
                  have hN : At w w3 g l := ⟨by rw [hw3]; exact below_drewN bel2 m3, hle, by rw [hw3]; exact Rd.some (hrd2.drewN m3)⟩
                  clear hw3
                  go_wp2
                  go_roundw
                  case rel => exact ⟨k + 1, by omega, by go_num, hN⟩
                  case measure => simp [intOf]; omega
                · have k2 : (a.kind == 2) = false := by simpa using h2
                  clear h2
                  by_cases h3 : a.kind = 3
                  · have k3 : (a.kind == 3) = true := by simpa using h3
                    clear h3
                    go_wp2_with fail
                    refine (rerr_any g pos on er l wr hrd).mono ?_
                    rintro e w1 ⟨rfl, m1, hw1⟩
                    have bel1 : Below w.heap.size w w1 := by rw [hw1]; exact below_drewN bel m1
                    have hrd1 : Rd w1 g l pos on er := by rw [hw1]; exact hrd.drewN m1
                    obtain ⟨c0, c1, c2, c3, c4⟩ := H5.out w1 bel1
                    clear hw1 bel hrd
                    go_wp2_with fail
                    refine (late_3 g pos on er a.n a.least hl0 hl1 l _ (Rd.alloc hrd1 _) HER.out).mono ?_
                    rintro e w2 ⟨rfl, hrd2, hG2⟩
                    have bel2 := bel_call bel1 hle hG2
                    clear hG2
                    go_wp2_with fail
                    refine (rerr_any g pos on er l w2 hrd2).mono ?_
                    rintro e w3 ⟨rfl, m3, hw3⟩
                    have hN : At w w3 g l := ⟨by rw [hw3]; exact below_drewN bel2 m3, hle, by rw [hw3]; exact Rd.some (hrd2.drewN m3)⟩
                    clear hw3
                    go_wp2
                    go_roundw
                    case rel => exact ⟨k + 1, by omega, by go_num, hN⟩
                    case measure => simp [intOf]; omega
                  · have k3 : (a.kind == 3) = false := by simpa using h3
                    clear h3
                    by_cases h4 : a.kind = 4
                    · have k4 : (a.kind == 4) = true := by simpa using h4
                      clear h4
                      go_wp2_with fail
                      refine (rerr_any g pos on er l wr hrd).mono ?_
                      rintro e w1 ⟨rfl, m1, hw1⟩
                      have bel1 : Below w.heap.size w w1 := by rw [hw1]; exact below_drewN bel m1
                      have hrd1 : Rd w1 g l pos on er := by rw [hw1]; exact hrd.drewN m1
                      obtain ⟨c0, c1, c2, c3, c4⟩ := H5.out w1 bel1
                      clear hw1 bel hrd
                      go_wp2_with fail
                      refine (late_4 g pos on er l _ (Rd.alloc hrd1 _) HER.out).mono ?_
                      rintro e w2 ⟨rfl, hrd2, hG2⟩
                      have bel2 := bel_call bel1 hle hG2
                      clear hG2
                      go_wp2_with fail
                      refine (rerr_any g pos on er l w2 hrd2).mono ?_
                      rintro e w3 ⟨rfl, m3, hw3⟩
                      have hN : At w w3 g l := ⟨by rw [hw3]; exact below_drewN bel2 m3, hle, by rw [hw3]; exact Rd.some (hrd2.drewN m3)⟩
                      clear hw3
                      go_wp2
                      go_roundw
                      case rel => exact ⟨k + 1, by omega, by go_num, hN⟩
                      case measure => simp [intOf]; omega
                    · have k4 : (a.kind == 4) = false := by simpa using h4
                      clear h4
                      go_wp2_with fail
                      refine (rerr_any g pos on er l wr hrd).mono ?_
                      rintro e w1 ⟨rfl, m1, hw1⟩
                      have bel1 : Below w.heap.size w w1 := by rw [hw1]; exact below_drewN bel m1
                      have hrd1 : Rd w1 g l pos on er := by rw [hw1]; exact hrd.drewN m1
                      obtain ⟨c0, c1, c2, c3, c4⟩ := H5.out w1 bel1
                      clear hw1 bel hrd
                      go_wp2_with fail
                      refine (rerr_any g pos on er l _ (Rd.alloc hrd1 _)).mono ?_
                      rintro e w3 ⟨rfl, m3, hw3⟩
                      have hN : At w w3 g l := ⟨by rw [hw3]; exact below_drewN (bel1.alloc bel1.size _) m3, hle, by rw [hw3]; exact Rd.some ((Rd.alloc hrd1 _).drewN m3)⟩
                      clear hw3
                      go_wp2
                      go_roundw
                      case rel => exact ⟨k + 1, by omega, by go_num, hN⟩
                      case measure => simp [intOf]; omega
          · obtain rfl : er = 0 := by omega
            obtain rfl := hrd.none rfl
            clear her
            by_cases h0 : a.kind = 0
            · have k0 : (a.kind == 0) = true := by simpa using h0
              clear h0
              go_wp2_with fail
              refine (rerr_any g pos 0 0 l wr hrd).mono ?_
              rintro e w1 ⟨rfl, m1, hw1⟩
              have bel1 : Below w.heap.size w w1 := by rw [hw1]; exact below_drewN bel m1
              have hrd1 : Rd w1 g l pos 0 0 := by rw [hw1]; exact hrd.drewN m1
              obtain ⟨c0, c1, c2, c3, c4⟩ := H5.out w1 bel1
              clear hw1 bel hrd
              go_wp2_with fail
              refine (rnum_any g pos 0 0 l _ (Rd.alloc hrd1 _)).mono ?_
              rintro e w2 ⟨rfl, hrd2', hG2⟩
              obtain ⟨pos2, on2, er2, hrd2⟩ := Rd.some hrd2'
              clear hrd2'
              have bel2 := bel_call bel1 hle hG2
              clear hG2
              go_wp2_with fail
              refine (rerr_any g pos2 on2 er2 l w2 hrd2).mono ?_
              rintro e w3 ⟨rfl, m3, hw3⟩
              have hN : At w w3 g l := ⟨by rw [hw3]; exact below_drewN bel2 m3, hle, by rw [hw3]; exact Rd.some (hrd2.drewN m3)⟩
              clear hw3
              go_wp2
              go_roundw
              case rel => exact ⟨k + 1, by omega, by go_num, hN⟩
              case measure => simp [intOf]; omega
            · have k0 : (a.kind == 0) = false := by simpa using h0
              clear h0
              by_cases h1 : a.kind = 1
              · have k1 : (a.kind == 1) = true := by simpa using h1
                clear h1
                go_wp2_with fail
                refine (rerr_any g pos 0 0 l wr hrd).mono ?_
                rintro e w1 ⟨rfl, m1, hw1⟩
                have bel1 : Below w.heap.size w w1 := by rw [hw1]; exact below_drewN bel m1
                have hrd1 : Rd w1 g l pos 0 0 := by rw [hw1]; exact hrd.drewN m1
                obtain ⟨c0, c1, c2, c3, c4⟩ := H5.out w1 bel1
                clear hw1 bel hrd
                go_wp2_with fail
                refine (rtext_any g pos 0 0 a.n l _ (Rd.alloc hrd1 _)).mono ?_
                rintro e w2 ⟨rfl, hrd2', hG2⟩
                obtain ⟨pos2, on2, er2, hrd2⟩ := Rd.some hrd2'
                clear hrd2'
                have bel2 := bel_call bel1 hle hG2
                clear hG2
                go_wp2_with fail
                refine (rerr_any g pos2 on2 er2 l w2 hrd2).mono ?_
                rintro e w3 ⟨rfl, m3, hw3⟩
                have hN : At w w3 g l := ⟨by rw [hw3]; exact below_drewN bel2 m3, hle, by rw [hw3]; exact Rd.some (hrd2.drewN m3)⟩
                clear hw3
                go_wp2
                go_roundw
                case rel => exact ⟨k + 1, by omega, by go_num, hN⟩
                case measure => simp [intOf]; omega
              · have k1 : (a.kind == 1) = false := by simpa using h1
                clear h1
                by_cases h2 : a.kind = 2
                · have k2 : (a.kind == 2) = true := by simpa using h2
                  clear h2
                  go_wp2_with fail
                  refine (rerr_any g pos 0 0 l wr hrd).mono ?_
                  rintro e w1 ⟨rfl, m1, hw1⟩
                  have bel1 : Below w.heap.size w w1 := by rw [hw1]; exact below_drewN bel m1
                  have hrd1 : Rd w1 g l pos 0 0 := by rw [hw1]; exact hrd.drewN m1
                  obtain ⟨c0, c1, c2, c3, c4⟩ := H5.out w1 bel1
                  clear hw1 bel hrd
                  go_wp2_with fail
                  refine (rflag_any g pos 0 0 l _ (Rd.alloc hrd1 _)).mono ?_
                  rintro e w2 ⟨rfl, hrd2', hG2⟩
                  obtain ⟨pos2, on2, er2, hrd2⟩ := Rd.some hrd2'
                  clear hrd2'
                  have bel2 := bel_call bel1 hle hG2
                  clear hG2
                  go_wp2_with fail
                  refine (rerr_any g pos2 on2 er2 l w2 hrd2).mono ?_
                  rintro e w3 ⟨rfl, m3, hw3⟩
                  have hN : At w w3 g l := ⟨by rw [hw3]; exact below_drewN bel2 m3, hle, by rw [hw3]; exact Rd.some (hrd2.drewN m3)⟩
                  clear hw3
                  go_wp2
                  go_roundw
                  case rel => exact ⟨k + 1, by omega, by go_num, hN⟩
                  case measure => simp [intOf]; omega
                · have k2 : (a.kind == 2) = false := by simpa using h2
                  clear h2
                  by_cases h3 : a.kind = 3
                  · have k3 : (a.kind == 3) = true := by simpa using h3
                    clear h3
                    go_wp2_with fail
                    refine (rerr_any g pos 0 0 l wr hrd).mono ?_
                    rintro e w1 ⟨rfl, m1, hw1⟩
                    have bel1 : Below w.heap.size w w1 := by rw [hw1]; exact below_drewN bel m1
                    have hrd1 : Rd w1 g l pos 0 0 := by rw [hw1]; exact hrd.drewN m1
                    obtain ⟨c0, c1, c2, c3, c4⟩ := H5.out w1 bel1
                    clear hw1 bel hrd
                    go_wp2_with fail
                    refine (rcount_any g pos 0 0 a.n a.least l _ (Rd.alloc hrd1 _) hl0 hl1).mono ?_
                    rintro e w2 ⟨rfl, hrd2', hG2⟩
                    obtain ⟨pos2, on2, er2, hrd2⟩ := Rd.some hrd2'
                    clear hrd2'
                    have bel2 := bel_call bel1 hle hG2
                    clear hG2
                    go_wp2_with fail
                    refine (rerr_any g pos2 on2 er2 l w2 hrd2).mono ?_
                    rintro e w3 ⟨rfl, m3, hw3⟩
                    have hN : At w w3 g l := ⟨by rw [hw3]; exact below_drewN bel2 m3, hle, by rw [hw3]; exact Rd.some (hrd2.drewN m3)⟩
                    clear hw3
                    go_wp2
                    go_roundw
                    case rel => exact ⟨k + 1, by omega, by go_num, hN⟩
                    case measure => simp [intOf]; omega
                  · have k3 : (a.kind == 3) = false := by simpa using h3
                    clear h3
                    by_cases h4 : a.kind = 4
                    · have k4 : (a.kind == 4) = true := by simpa using h4
                      clear h4
                      go_wp2_with fail
                      refine (rerr_any g pos 0 0 l wr hrd).mono ?_
                      rintro e w1 ⟨rfl, m1, hw1⟩
                      have bel1 : Below w.heap.size w w1 := by rw [hw1]; exact below_drewN bel m1
                      have hrd1 : Rd w1 g l pos 0 0 := by rw [hw1]; exact hrd.drewN m1
                      obtain ⟨c0, c1, c2, c3, c4⟩ := H5.out w1 bel1
                      clear hw1 bel hrd
                      go_wp2_with fail
                      refine (rend_any g pos 0 0 l _ (Rd.alloc hrd1 _)).mono ?_
                      rintro e w2 ⟨rfl, hrd2', hG2⟩
                      obtain ⟨pos2, on2, er2, hrd2⟩ := Rd.some hrd2'
                      clear hrd2'
                      have bel2 := bel_call bel1 hle hG2
                      clear hG2
                      go_wp2_with fail
                      refine (rerr_any g pos2 on2 er2 l w2 hrd2).mono ?_
                      rintro e w3 ⟨rfl, m3, hw3⟩
                      have hN : At w w3 g l := ⟨by rw [hw3]; exact below_drewN bel2 m3, hle, by rw [hw3]; exact Rd.some (hrd2.drewN m3)⟩
                      clear hw3
                      go_wp2
                      go_roundw
                      case rel => exact ⟨k + 1, by omega, by go_num, hN⟩
                      case measure => simp [intOf]; omega
                    · have k4 : (a.kind == 4) = false := by simpa using h4
                      clear h4
                      go_wp2_with fail
                      refine (rerr_any g pos 0 0 l wr hrd).mono ?_
                      rintro e w1 ⟨rfl, m1, hw1⟩
                      have bel1 : Below w.heap.size w w1 := by rw [hw1]; exact below_drewN bel m1
                      have hrd1 : Rd w1 g l pos 0 0 := by rw [hw1]; exact hrd.drewN m1
                      obtain ⟨c0, c1, c2, c3, c4⟩ := H5.out w1 bel1
                      clear hw1 bel hrd
                      go_wp2_with fail
                      refine (rerr_any g pos 0 0 l _ (Rd.alloc hrd1 _)).mono ?_
                      rintro e w3 ⟨rfl, m3, hw3⟩
                      have hN : At w w3 g l := ⟨by rw [hw3]; exact below_drewN (bel1.alloc bel1.size _) m3, hle, by rw [hw3]; exact Rd.some ((Rd.alloc hrd1 _).drewN m3)⟩
                      clear hw3
                      go_wp2
                      go_roundw
                      case rel => exact ⟨k + 1, by omega, by go_num, hN⟩
                      case measure => simp [intOf]; omega
        · obtain rfl : k = n := by omega
          go_wp2
          go_ret
          exact ⟨rfl, hR.bel⟩

set_option maxRecDepth 100000 in
theorem lifted (os : Os) (started : os.Started) (H : Type) (enc : TypeId × Value → H) :
    ReturnsInHanded {} Try.checked os 5 .any (Rows.fieldStaysSpec.pre6 enc Try.prog Try.f5 Rows.fieldStaysRow.domain false) (Rows.fieldStaysSpec.post enc Try.prog Try.f5 false true false false) := by
  refine returnsInHanded_of_change_sized (C := Try.checked) own started (by kernel_rfl) Try.func5
    (ChangeSpec.witness6 (enc := enc) (C := Try.checked) false ⟨#[], #[.slice none 0 0, .slice none 0 0], []⟩ 8 (by kernel_rfl) (by kernel_rfl) (by kernel_rfl) (by kernel_rfl)) ?_
  intro W base args ds gs before hval0 hW _ _ _
  have hval : ∀ (j : Nat) t v, Try.f5.params[j]? = some t → args[j]? = some v → Value.okWide Try.prog W .any base t v := hval0
  have hW' := hW
  obtain ⟨p, q, hA0, hV, rfl, _, _⟩ := hW
  have hA : DataW.TrodAll enc Try.prog W 0 (fun _ => true) true Try.f5.params.toList args.toList ds p := hA0
  rw [Try.params5] at hA hval
  obtain ⟨rfl, rfl⟩ := trodVars_none hV
  obtain ⟨v0, vs0, d0, ds0, p0, q0, hargs, rfl, rfl, h0, r0⟩ := trodAll_cons hA
  obtain ⟨v1, vs1, d1, ds1, p1, q1, rfl, rfl, rfl, h1, r1⟩ := trodAll_cons r0
  obtain ⟨rfl, rfl, rfl⟩ := trodAll_nil r1
  obtain rfl : args = #[v0, v1] := by cases args; simp_all
  obtain ⟨a0, len, cap, rfl⟩ := okWide_slice Try.underlying22 (hval 0 22 v0 rfl rfl)
  obtain ⟨a1, len1, cap1, rfl⟩ := okWide_slice Try.underlying23 (hval 1 23 v1 rfl rfl)
  clear hA0 hval0
  simp only [List.append_nil] at hW'
  have hlt0 : ∀ x ∈ p0, x.block < W.heap.size := fun x hx => by simpa using hW'.lt x (by simp [hx])
  have hlt1 : ∀ x ∈ p1, x.block < W.heap.size := fun x hx => by simpa using hW'.lt x (by simp [hx])
  obtain ⟨l, rfl, hc, hm, hb⟩ := arg_bytes h0
  obtain ⟨f, hc1, hm1, hf⟩ := arg_acts h1
  refine (walk a0 l cap a1 len1 cap1 f W hb hm hm1 hf).mono fun e W' ⟨he, bel⟩ => ?_
  subst he
  exact ⟨_, rfl, _, _, _, [], _, [], hW', trodAll_mk1 (shut_bool Try.underlying4 _), (trodAll_cons_mk (Below.trod laidOut (by kernel_rfl) (of_decide_eq_true (by kernel_rfl)) h0 bel hlt0) (trodAll_cons_mk (Below.trod laidOut (by kernel_rfl) (of_decide_eq_true (by kernel_rfl)) h1 bel hlt1) trodAll_mk0)), rfl, bel.frame _, fun h => by cases h⟩

/-- the statement -/
theorem proved : Rows.FieldStaysSaid :=
  OpenClaim.holds_of_wide 5 Try.f5 rfl rfl rfl rfl rfl rfl rfl ⟨rfl, rfl, rfl, rfl, rfl⟩ rfl rfl rfl rfl rfl (by kernel_rfl) Try.func5 (by kernel_rfl)
    (of_decide_eq_true (by kernel_rfl)) (by unfold Func.isWrapper; first | (rw [if_pos (by decide +kernel)]; kernel_rfl) | (rw [if_neg (by decide +kernel)]; exact ⟨rfl, rfl⟩))
    (fun os started H enc _ => lifted os started H enc)
#print axioms proved
end Go.Proofs.Ytenkjopmldmobaa.fieldStays
