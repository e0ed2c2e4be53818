/-
  What next answers: the first tick above the time at which a timer is due, or that none is due up to a tick.
  Conditions: the wheel is one; each timer stands in its slot, and is due above the time.
-/
import Derived.Test.YtobodianbjfgfaaWhlMin
import Derived.Test.YtobodianbjfgfaaWhlPut
import Derived.Deep.LoopGhost
namespace Go.Proofs.Ytobodianbjfgfaa.Wh
open Go.RowKit Go.Maps

/-- each timer stands in its slot -/
def Std (now : Nat) (ct : Nat → Nat → List En) (d : List En) : Prop := ∀ k j, In k j → (ct k j).Perm (d.filter fun x => decide (lvl now x.due = k ∧ dig k x.due = j))
theorem Std.mem {now : Nat} {ct : Nat → Nat → List En} {d : List En} (h : Std now ct d) {k j : Nat} (hk : In k j) {x : En} : x ∈ ct k j ↔ x ∈ d ∧ lvl now x.due = k ∧ dig k x.due = j := by
  rw [(h k j hk).mem_iff, List.mem_filter, decide_eq_true_eq]
theorem Std.len {now : Nat} {ct : Nat → Nat → List En} {d : List En} (h : Std now ct d) {k j : Nat} (hk : In k j) : (ct k j).length ≤ d.length := by
  rw [(h k j hk).length_eq]
  exact List.length_filter_le _ _
theorem wle {m k W B : Nat} (hw : wid k = W) (h : m * W ≤ B) : m * wid k ≤ B := by rw [hw]; exact h
theorem nextm {m W B : Nat} (h : m * W ≤ B) : (m + 1) * W ≤ B + W := by rw [Nat.add_mul, Nat.one_mul]; exact Nat.add_le_add_right h W
/-- what next answers -/
def NextEnd (w : World) (d : List En) (to : Nat) (e : Ending) (w' : World) : Prop :=
  ((∃ y, y ∈ d ∧ (∀ x ∈ d, y.due ≤ x.due) ∧ e = .returned (.tuple #[.int .i64 (y.due : Int), .bool true])) ∨ ((∀ x ∈ d, to < x.due) ∧ e = .returned (.tuple #[.int .i64 0, .bool false]))) ∧ Below w.heap.size w w'
theorem next_some {w w' : World} {d : List En} {to : Nat} {y : En} (hy : y ∈ d) (hm : ∀ x ∈ d, y.due ≤ x.due) (hb : Below w.heap.size w w') : NextEnd w d to (.returned (.tuple #[.int .i64 (y.due : Int), .bool true])) w' := ⟨.inl ⟨y, hy, hm, rfl⟩, hb⟩
theorem next_none {w w' : World} {d : List En} {to : Nat} (hm : ∀ x ∈ d, to < x.due) (hb : Below w.heap.size w w') : NextEnd w d to (.returned (.tuple #[.int .i64 0, .bool false])) w' := ⟨.inr ⟨hm, rfl⟩, hb⟩
section
variable {w : World} {g bm : Nat} {X : Nat → Prop} {lev : Nat → Option Nat} {rv : Nat → Nat → Value} {ct : Nat → Nat → List En} {ms : List (Nat × Nat)} {cap now last : Nat}
set_option maxHeartbeats 2000000 in
set_option maxRecDepth 100000 in
theorem next_any (h : Raw w g X bm lev rv ct ms cap now last) (hn : now ≤ 1099511627776) {d : List En} (hS : Std now ct d) (hd : ∀ x ∈ d, now < x.due ∧ x.due ≤ 1099511627776) (hl : d.length ≤ 1099511627776) {to : Nat} (hto : to ≤ 1099511627776) :
    Calls Try.prog 26 #[ptr g, .int .i64 (to : Int)] w (NextEnd w d to) := by
  have k1 := h.c1
  have HH := Lib.hid h
  have HS := Lib.hid hS
  have HD := Lib.hid hd
  clear h hS hd
  unfold ptr
  go_enter Try.func26, Try.ntmps26
  go_wp2
  go_step3
  go_wp2
  go_step3
  go_wp2
  obtain ⟨N, hN⟩ : ∃ N : Nat, 1099511627780 ≤ N := ⟨_, Nat.le_refl _⟩
  go_loopg [10] 4 (fun q s10 wr => ∃ k : Nat, k + q = 4 ∧ s10 = .int .i64 (k : Int) ∧ (∀ x ∈ d, k ≤ lvl now x.due) ∧ wr = w)
  case atStart => exact ⟨0, rfl, rfl, fun _ _ => Nat.zero_le _, rfl⟩
  case round =>
    obtain ⟨k, hkq, rfl, hlev, rfl⟩ := hrel
    cases gk with
    | zero =>
      obtain rfl : k = 4 := by omega
      have HV := Lib.hid hlev
      clear hlev
      go_wp2
      try rw [Exit.noGoto_ret]
      go_ret2
      exact next_none (fun x hx => by have := HV.out x hx; have := lvl_lt now x.due; omega) (Below.refl _ _)
    | succ q =>
      have hk4 : k < 4 := by omega
      cases hlb : lev k with
      | none =>
        have k3 := HH.out.c3 hk4
        rw [hlb] at k3
        unfold lp at k3
        simp only [Option.map_none] at k3
        have HV : Hid (∀ x ∈ d, k + 1 ≤ lvl now x.due) := fun x hx => by
          have h1 := hlev x hx
          rcases Nat.eq_or_lt_of_le h1 with h2 | h2
          · have hin : In k (dig k x.due) := ⟨hk4, dig_lt _ _⟩
            have h3 := (HS.out.mem hin (x := x)).2 ⟨hx, h2.symm, rfl⟩
            rw [(HH.out.nol k _ hin hlb).2] at h3
            cases h3
          · exact h2
        clear hlb hlev
        go_wp2
        go_roundg q
        case rel => exact ⟨k + 1, by omega, by go_num, HV.out, rfl⟩
        case measure => omega
      | some lb =>
      rcases four hk4 with rfl | rfl | rfl | rfl
      · have k3 : wr.cell? ⟨g, 3 + 0, none⟩ = some (.pointer (some ⟨lb, 0, none⟩)) := by
          have := HH.out.c3 (k := 0) (by omega)
          rw [hlb] at this
          exact this
        have s0 := from_start (fun x hx => (HD.out x hx).1) 0 (by omega) hlev
        have s1 := ends_start now 0 (by omega)
        have HLB := Lib.hid hlb
        have HLV := Lib.hid hlev
        rw [wid0] at s0 s1
        have HS0 := Lib.hid s0
        have HS1 := Lib.hid s1
        clear s0 s1 hlb hlev
        go_wp2
        go_loopg [8] N (fun q s8 wr2 => ∃ m : Nat, N ≤ m + q ∧ s8 = .int .i64 (m : Int) ∧ Hid (From now 0 m d) ∧ Hid (Ends now 0 m) ∧ m * 1 ≤ 1099511627776 + 1 ∧ wr2 = wr)
        case atStart => exact ⟨now / 1 + 1, by omega, by go_num, HS0.out, HS1.out, by omega, rfl⟩
        case round =>
          obtain ⟨m, hmN, rfl, HF, HE, hmw, rfl⟩ := hrel
          have hmj : m % 1024 < 1024 := Nat.mod_lt _ (by omega)
          have hin : In 0 (m % 1024) := ⟨by omega, hmj⟩
          obtain ⟨A, c, hv, hc⟩ := own_form (HH.out.row 0 (m % 1024) hin)
          have k4 := (HH.out.levcell hin HLB.out).1
          have hlen := HS.out.len hin
          have hmin := fun hp => min_any HH.out hin hp (Nat.le_trans hlen hl)
          have hct : ∀ x, x ∈ ct 0 (m % 1024) ↔ x ∈ d ∧ lvl now x.due = 0 ∧ dig 0 x.due = m % 1024 := fun x => HS.out.mem hin
          rw [hv] at k4 hmin
          have HV := Lib.hid hv
          have HC := Lib.hid hct
          have HM := Lib.hid hmin
          obtain ⟨n, hnn⟩ : ∃ n, n = (ct 0 (m % 1024)).length := ⟨_, rfl⟩
          rw [← hnn] at k4 HM hlen hc
          have HN := Lib.hid hnn
          clear hv hct hmin hnn
          by_cases c1 : to < m * 1
          · have e1 : decide ((to : Int) < (m : Int)) = true := decide_eq_true (by omega)
            have HB : Hid (∀ x ∈ d, to < x.due) := fun x hx => by
              have := (HF.out x hx).2
              rw [wid0] at this
              omega
            go_wp2
            try rw [Exit.noGoto_ret]
            go_ret2
            exact next_none HB.out (Below.refl _ _)
          · have e1 : decide ((to : Int) < (m : Int)) = false := decide_eq_false (by omega)
            by_cases c2 : m % 1024 = 0
            · have e2 : (((m : Int) % 1024) == 0) = true := by rw [beq_iff_eq]; omega
              have HT : Hid (∀ x ∈ d, 0 + 1 ≤ lvl now x.due) := from_turn HF.out HE.out (by omega) c2
              have C2 := Lib.hid c2
              clear c2
              go_wp2
              go_roundg q
              case rel => exact ⟨1, by omega, rfl, HT.out, rfl⟩
              case measure => omega
            · have e2 : (((m : Int) % 1024) == 0) = false := by rw [beq_eq_false_iff_ne]; omega
              by_cases c3 : n = 0
              · have e3 : decide (0 < n) = false := by simp [c3]
                have HX : Hid (From now 0 (m + 1) d ∧ Ends now 0 (m + 1)) := from_next HF.out HE.out (by omega) (fun _ => c2) (wle wid0 (by omega)) HD.out (fun x hx hxx => by
                  have := (HC.out x).2 ⟨hx, hxx⟩
                  have h0 := HN.out
                  rw [c3] at h0
                  rw [List.length_eq_zero_iff.1 h0.symm] at this
                  cases this)
                cases gk with
                | zero => exfalso; omega
                | succ q2 =>
                  subst c3
                  go_wp2
                  go_roundg q2
                  case rel => exact ⟨m + 1, by omega, by go_num, HX.out.1, HX.out.2, nextm (by omega), rfl⟩
                  case measure => omega
              · have e3 : decide (0 < n) = true := decide_eq_true (by omega)
                have HP := Lib.hid (HM.out (by omega))
                go_wp2_with (go_at_call 31; refine HP.out.mono ?_; rintro e w1 ⟨y, hy, hym, rfl, hb⟩
                             have y2 : w1.cell? ⟨y.b, 2, none⟩ = some (.int .i64 (y.due : Int)) := by
                               obtain ⟨i, _, _, hyb⟩ := (HH.out.below hb).ek hin hy
                               exact hyb.cell 2
                             have HY := Lib.hid (And.intro hy hym)
                             unfold ptr
                             clear hy hym)
                try rw [Exit.noGoto_ret]
                go_ret2
                refine next_some ((HC.out y).1 HY.out.1).1 ?_ hb
                obtain ⟨y1, y3, y4⟩ := (HC.out y).1 HY.out.1
                exact from_first HF.out HE.out (by omega) (fun _ => c2) (wle wid0 (by omega)) HD.out y1 y3 y4 (fun x hx hx1 hx2 => HY.out.2 x ((HC.out x).2 ⟨hx, hx1, hx2⟩))
      · have k3 : wr.cell? ⟨g, 3 + 1, none⟩ = some (.pointer (some ⟨lb, 0, none⟩)) := by
          have := HH.out.c3 (k := 1) (by omega)
          rw [hlb] at this
          exact this
        have s0 := from_start (fun x hx => (HD.out x hx).1) 1 (by omega) hlev
        have s1 := ends_start now 1 (by omega)
        have HLB := Lib.hid hlb
        have HLV := Lib.hid hlev
        rw [wid1] at s0 s1
        have HS0 := Lib.hid s0
        have HS1 := Lib.hid s1
        clear s0 s1 hlb hlev
        go_wp2
        go_loopg [8] N (fun q s8 wr2 => ∃ m : Nat, N ≤ m + q ∧ s8 = .int .i64 (m : Int) ∧ Hid (From now 1 m d) ∧ Hid (Ends now 1 m) ∧ m * 1024 ≤ 1099511627776 + 1024 ∧ wr2 = wr)
        case atStart => exact ⟨now / 1024 + 1, by omega, by go_num, HS0.out, HS1.out, by omega, rfl⟩
        case round =>
          obtain ⟨m, hmN, rfl, HF, HE, hmw, rfl⟩ := hrel
          have hmj : m % 1024 < 1024 := Nat.mod_lt _ (by omega)
          have hin : In 1 (m % 1024) := ⟨by omega, hmj⟩
          obtain ⟨A, c, hv, hc⟩ := own_form (HH.out.row 1 (m % 1024) hin)
          have k4 := (HH.out.levcell hin HLB.out).1
          have hlen := HS.out.len hin
          have hmin := fun hp => min_any HH.out hin hp (Nat.le_trans hlen hl)
          have hct : ∀ x, x ∈ ct 1 (m % 1024) ↔ x ∈ d ∧ lvl now x.due = 1 ∧ dig 1 x.due = m % 1024 := fun x => HS.out.mem hin
          rw [hv] at k4 hmin
          have HV := Lib.hid hv
          have HC := Lib.hid hct
          have HM := Lib.hid hmin
          obtain ⟨n, hnn⟩ : ∃ n, n = (ct 1 (m % 1024)).length := ⟨_, rfl⟩
          rw [← hnn] at k4 HM hlen hc
          have HN := Lib.hid hnn
          clear hv hct hmin hnn
          by_cases c1 : to < m * 1024
          · have e1 : decide ((to : Int) < (m : Int) * 1024) = true := decide_eq_true (by omega)
            have HB : Hid (∀ x ∈ d, to < x.due) := fun x hx => by
              have := (HF.out x hx).2
              rw [wid1] at this
              omega
            go_wp2
            try rw [Exit.noGoto_ret]
            go_ret2
            exact next_none HB.out (Below.refl _ _)
          · have e1 : decide ((to : Int) < (m : Int) * 1024) = false := decide_eq_false (by omega)
            by_cases c2 : m % 1024 = 0
            · have e2 : (((m : Int) % 1024) == 0) = true := by rw [beq_iff_eq]; omega
              have HT : Hid (∀ x ∈ d, 1 + 1 ≤ lvl now x.due) := from_turn HF.out HE.out (by omega) c2
              have C2 := Lib.hid c2
              clear c2
              go_wp2
              go_roundg q
              case rel => exact ⟨2, by omega, rfl, HT.out, rfl⟩
              case measure => omega
            · have e2 : (((m : Int) % 1024) == 0) = false := by rw [beq_eq_false_iff_ne]; omega
              by_cases c3 : n = 0
              · have e3 : decide (0 < n) = false := by simp [c3]
                have HX : Hid (From now 1 (m + 1) d ∧ Ends now 1 (m + 1)) := from_next HF.out HE.out (by omega) (fun _ => c2) (wle wid1 (by omega)) HD.out (fun x hx hxx => by
                  have := (HC.out x).2 ⟨hx, hxx⟩
                  have h0 := HN.out
                  rw [c3] at h0
                  rw [List.length_eq_zero_iff.1 h0.symm] at this
                  cases this)
                cases gk with
                | zero => exfalso; omega
                | succ q2 =>
                  subst c3
                  go_wp2
                  go_roundg q2
                  case rel => exact ⟨m + 1, by omega, by go_num, HX.out.1, HX.out.2, nextm (by omega), rfl⟩
                  case measure => omega
              · have e3 : decide (0 < n) = true := decide_eq_true (by omega)
                have HP := Lib.hid (HM.out (by omega))
                go_wp2_with (go_at_call 31; refine HP.out.mono ?_; rintro e w1 ⟨y, hy, hym, rfl, hb⟩
                             have y2 : w1.cell? ⟨y.b, 2, none⟩ = some (.int .i64 (y.due : Int)) := by
                               obtain ⟨i, _, _, hyb⟩ := (HH.out.below hb).ek hin hy
                               exact hyb.cell 2
                             have HY := Lib.hid (And.intro hy hym)
                             unfold ptr
                             clear hy hym)
                try rw [Exit.noGoto_ret]
                go_ret2
                refine next_some ((HC.out y).1 HY.out.1).1 ?_ hb
                obtain ⟨y1, y3, y4⟩ := (HC.out y).1 HY.out.1
                exact from_first HF.out HE.out (by omega) (fun _ => c2) (wle wid1 (by omega)) HD.out y1 y3 y4 (fun x hx hx1 hx2 => HY.out.2 x ((HC.out x).2 ⟨hx, hx1, hx2⟩))
      · have k3 : wr.cell? ⟨g, 3 + 2, none⟩ = some (.pointer (some ⟨lb, 0, none⟩)) := by
          have := HH.out.c3 (k := 2) (by omega)
          rw [hlb] at this
          exact this
        have s0 := from_start (fun x hx => (HD.out x hx).1) 2 (by omega) hlev
        have s1 := ends_start now 2 (by omega)
        have HLB := Lib.hid hlb
        have HLV := Lib.hid hlev
        rw [wid2] at s0 s1
        have HS0 := Lib.hid s0
        have HS1 := Lib.hid s1
        clear s0 s1 hlb hlev
        go_wp2
        go_loopg [8] N (fun q s8 wr2 => ∃ m : Nat, N ≤ m + q ∧ s8 = .int .i64 (m : Int) ∧ Hid (From now 2 m d) ∧ Hid (Ends now 2 m) ∧ m * 1048576 ≤ 1099511627776 + 1048576 ∧ wr2 = wr)
        case atStart => exact ⟨now / 1048576 + 1, by omega, by go_num, HS0.out, HS1.out, by omega, rfl⟩
        case round =>
          obtain ⟨m, hmN, rfl, HF, HE, hmw, rfl⟩ := hrel
          have hmj : m % 1024 < 1024 := Nat.mod_lt _ (by omega)
          have hin : In 2 (m % 1024) := ⟨by omega, hmj⟩
          obtain ⟨A, c, hv, hc⟩ := own_form (HH.out.row 2 (m % 1024) hin)
          have k4 := (HH.out.levcell hin HLB.out).1
          have hlen := HS.out.len hin
          have hmin := fun hp => min_any HH.out hin hp (Nat.le_trans hlen hl)
          have hct : ∀ x, x ∈ ct 2 (m % 1024) ↔ x ∈ d ∧ lvl now x.due = 2 ∧ dig 2 x.due = m % 1024 := fun x => HS.out.mem hin
          rw [hv] at k4 hmin
          have HV := Lib.hid hv
          have HC := Lib.hid hct
          have HM := Lib.hid hmin
          obtain ⟨n, hnn⟩ : ∃ n, n = (ct 2 (m % 1024)).length := ⟨_, rfl⟩
          rw [← hnn] at k4 HM hlen hc
          have HN := Lib.hid hnn
          clear hv hct hmin hnn
          by_cases c1 : to < m * 1048576
          · have e1 : decide ((to : Int) < (m : Int) * 1048576) = true := decide_eq_true (by omega)
            have HB : Hid (∀ x ∈ d, to < x.due) := fun x hx => by
              have := (HF.out x hx).2
              rw [wid2] at this
              omega
            go_wp2
            try rw [Exit.noGoto_ret]
            go_ret2
            exact next_none HB.out (Below.refl _ _)
          · have e1 : decide ((to : Int) < (m : Int) * 1048576) = false := decide_eq_false (by omega)
            by_cases c2 : m % 1024 = 0
            · have e2 : (((m : Int) % 1024) == 0) = true := by rw [beq_iff_eq]; omega
              have HT : Hid (∀ x ∈ d, 2 + 1 ≤ lvl now x.due) := from_turn HF.out HE.out (by omega) c2
              have C2 := Lib.hid c2
              clear c2
              go_wp2
              go_roundg q
              case rel => exact ⟨3, by omega, rfl, HT.out, rfl⟩
              case measure => omega
            · have e2 : (((m : Int) % 1024) == 0) = false := by rw [beq_eq_false_iff_ne]; omega
              by_cases c3 : n = 0
              · have e3 : decide (0 < n) = false := by simp [c3]
                have HX : Hid (From now 2 (m + 1) d ∧ Ends now 2 (m + 1)) := from_next HF.out HE.out (by omega) (fun _ => c2) (wle wid2 (by omega)) HD.out (fun x hx hxx => by
                  have := (HC.out x).2 ⟨hx, hxx⟩
                  have h0 := HN.out
                  rw [c3] at h0
                  rw [List.length_eq_zero_iff.1 h0.symm] at this
                  cases this)
                cases gk with
                | zero => exfalso; omega
                | succ q2 =>
                  subst c3
                  go_wp2
                  go_roundg q2
                  case rel => exact ⟨m + 1, by omega, by go_num, HX.out.1, HX.out.2, nextm (by omega), rfl⟩
                  case measure => omega
              · have e3 : decide (0 < n) = true := decide_eq_true (by omega)
                have HP := Lib.hid (HM.out (by omega))
                go_wp2_with (go_at_call 31; refine HP.out.mono ?_; rintro e w1 ⟨y, hy, hym, rfl, hb⟩
                             have y2 : w1.cell? ⟨y.b, 2, none⟩ = some (.int .i64 (y.due : Int)) := by
                               obtain ⟨i, _, _, hyb⟩ := (HH.out.below hb).ek hin hy
                               exact hyb.cell 2
                             have HY := Lib.hid (And.intro hy hym)
                             unfold ptr
                             clear hy hym)
                try rw [Exit.noGoto_ret]
                go_ret2
                refine next_some ((HC.out y).1 HY.out.1).1 ?_ hb
                obtain ⟨y1, y3, y4⟩ := (HC.out y).1 HY.out.1
                exact from_first HF.out HE.out (by omega) (fun _ => c2) (wle wid2 (by omega)) HD.out y1 y3 y4 (fun x hx hx1 hx2 => HY.out.2 x ((HC.out x).2 ⟨hx, hx1, hx2⟩))
      · have k3 : wr.cell? ⟨g, 3 + 3, none⟩ = some (.pointer (some ⟨lb, 0, none⟩)) := by
          have := HH.out.c3 (k := 3) (by omega)
          rw [hlb] at this
          exact this
        have s0 := from_start (fun x hx => (HD.out x hx).1) 3 (by omega) hlev
        have s1 := ends_start now 3 (by omega)
        have HLB := Lib.hid hlb
        have HLV := Lib.hid hlev
        rw [wid3] at s0 s1
        have HS0 := Lib.hid s0
        have HS1 := Lib.hid s1
        clear s0 s1 hlb hlev
        go_wp2
        go_loopg [8] N (fun q s8 wr2 => ∃ m : Nat, N ≤ m + q ∧ s8 = .int .i64 (m : Int) ∧ Hid (From now 3 m d) ∧ Hid (Ends now 3 m) ∧ m * 1073741824 ≤ 1099511627776 + 1073741824 ∧ wr2 = wr)
        case atStart => exact ⟨now / 1073741824 + 1, by omega, by go_num, HS0.out, HS1.out, by omega, rfl⟩
        case round =>
          obtain ⟨m, hmN, rfl, HF, HE, hmw, rfl⟩ := hrel
          have hmj : m % 1024 < 1024 := Nat.mod_lt _ (by omega)
          have hin : In 3 (m % 1024) := ⟨by omega, hmj⟩
          obtain ⟨A, c, hv, hc⟩ := own_form (HH.out.row 3 (m % 1024) hin)
          have k4 := (HH.out.levcell hin HLB.out).1
          have hlen := HS.out.len hin
          have hmin := fun hp => min_any HH.out hin hp (Nat.le_trans hlen hl)
          have hct : ∀ x, x ∈ ct 3 (m % 1024) ↔ x ∈ d ∧ lvl now x.due = 3 ∧ dig 3 x.due = m % 1024 := fun x => HS.out.mem hin
          rw [hv] at k4 hmin
          have HV := Lib.hid hv
          have HC := Lib.hid hct
          have HM := Lib.hid hmin
          obtain ⟨n, hnn⟩ : ∃ n, n = (ct 3 (m % 1024)).length := ⟨_, rfl⟩
          rw [← hnn] at k4 HM hlen hc
          have HN := Lib.hid hnn
          clear hv hct hmin hnn
          by_cases c1 : to < m * 1073741824
          · have e1 : decide ((to : Int) < (m : Int) * 1073741824) = true := decide_eq_true (by omega)
            have HB : Hid (∀ x ∈ d, to < x.due) := fun x hx => by
              have := (HF.out x hx).2
              rw [wid3] at this
              omega
            go_wp2
            try rw [Exit.noGoto_ret]
            go_ret2
            exact next_none HB.out (Below.refl _ _)
          · have e1 : decide ((to : Int) < (m : Int) * 1073741824) = false := decide_eq_false (by omega)
            by_cases c2 : m % 1024 = 0
            · have e2 : (((m : Int) % 1024) == 0) = true := by rw [beq_iff_eq]; omega
              have C2 := Lib.hid c2
              clear c2
              by_cases c3 : n = 0
              · have e3 : decide (0 < n) = false := by simp [c3]
                have HX : Hid (From now 3 (m + 1) d ∧ Ends now 3 (m + 1)) := from_next HF.out HE.out (by omega) (fun h => absurd h (by omega)) (wle wid3 (by omega)) HD.out (fun x hx hxx => by
                  have := (HC.out x).2 ⟨hx, hxx⟩
                  have h0 := HN.out
                  rw [c3] at h0
                  rw [List.length_eq_zero_iff.1 h0.symm] at this
                  cases this)
                cases gk with
                | zero => exfalso; omega
                | succ q2 =>
                  subst c3
                  go_wp2
                  go_roundg q2
                  case rel => exact ⟨m + 1, by omega, by go_num, HX.out.1, HX.out.2, nextm (by omega), rfl⟩
                  case measure => omega
              · have e3 : decide (0 < n) = true := decide_eq_true (by omega)
                have HP := Lib.hid (HM.out (by omega))
                go_wp2_with (go_at_call 31; refine HP.out.mono ?_; rintro e w1 ⟨y, hy, hym, rfl, hb⟩
                             have y2 : w1.cell? ⟨y.b, 2, none⟩ = some (.int .i64 (y.due : Int)) := by
                               obtain ⟨i, _, _, hyb⟩ := (HH.out.below hb).ek hin hy
                               exact hyb.cell 2
                             have HY := Lib.hid (And.intro hy hym)
                             unfold ptr
                             clear hy hym)
                try rw [Exit.noGoto_ret]
                go_ret2
                refine next_some ((HC.out y).1 HY.out.1).1 ?_ hb
                obtain ⟨y1, y3, y4⟩ := (HC.out y).1 HY.out.1
                exact from_first HF.out HE.out (by omega) (fun h => absurd h (by omega)) (wle wid3 (by omega)) HD.out y1 y3 y4 (fun x hx hx1 hx2 => HY.out.2 x ((HC.out x).2 ⟨hx, hx1, hx2⟩))
            · have e2 : (((m : Int) % 1024) == 0) = false := by rw [beq_eq_false_iff_ne]; omega
              have C2 := Lib.hid c2
              clear c2
              by_cases c3 : n = 0
              · have e3 : decide (0 < n) = false := by simp [c3]
                have HX : Hid (From now 3 (m + 1) d ∧ Ends now 3 (m + 1)) := from_next HF.out HE.out (by omega) (fun h => absurd h (by omega)) (wle wid3 (by omega)) HD.out (fun x hx hxx => by
                  have := (HC.out x).2 ⟨hx, hxx⟩
                  have h0 := HN.out
                  rw [c3] at h0
                  rw [List.length_eq_zero_iff.1 h0.symm] at this
                  cases this)
                cases gk with
                | zero => exfalso; omega
                | succ q2 =>
                  subst c3
                  go_wp2
                  go_roundg q2
                  case rel => exact ⟨m + 1, by omega, by go_num, HX.out.1, HX.out.2, nextm (by omega), rfl⟩
                  case measure => omega
              · have e3 : decide (0 < n) = true := decide_eq_true (by omega)
                have HP := Lib.hid (HM.out (by omega))
                go_wp2_with (go_at_call 31; refine HP.out.mono ?_; rintro e w1 ⟨y, hy, hym, rfl, hb⟩
                             have y2 : w1.cell? ⟨y.b, 2, none⟩ = some (.int .i64 (y.due : Int)) := by
                               obtain ⟨i, _, _, hyb⟩ := (HH.out.below hb).ek hin hy
                               exact hyb.cell 2
                             have HY := Lib.hid (And.intro hy hym)
                             unfold ptr
                             clear hy hym)
                try rw [Exit.noGoto_ret]
                go_ret2
                refine next_some ((HC.out y).1 HY.out.1).1 ?_ hb
                obtain ⟨y1, y3, y4⟩ := (HC.out y).1 HY.out.1
                exact from_first HF.out HE.out (by omega) (fun h => absurd h (by omega)) (wle wid3 (by omega)) HD.out y1 y3 y4 (fun x hx hx1 hx2 => HY.out.2 x ((HC.out x).2 ⟨hx, hx1, hx2⟩))
end
end Go.Proofs.Ytobodianbjfgfaa.Wh
