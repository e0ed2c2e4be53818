/-
  Whether two definitions are the same: slices.Equal at steps, the program's Same, the document's own Same. Each makes blocks of its own and turns nothing else.
  Conditions: the rows of steps lie in memory.
-/
import Derived.Test.YteejocnogpaifaaGreatDoorMrg2
import Derived.LoopTactic
import Derived.WalkMore
import Derived.BigQuiet
import Derived.Deep.QuietTactic
import Derived.Deep.Draws
import Derived.Lib.Hide
namespace Go.Proofs.YteejocnogpaifaaGreatDoor.Df
open Go.RowKit
open Go.Proofs.YteejocnogpaifaaGreatDoor.El
open Go.Proofs.YteejocnogpaifaaGreatDoor.Bo (P Made ret_int ret_bool)

theorem dec_at {ss ts : List Stp} {k : Nat} {x y : Stp} (hx : ss[k]? = some x) (hy : ts[k]? = some y) (h : x ≠ y) : decide (ss = ts) = false := by
  refine decide_eq_false fun e => h ?_
  rw [e, hy] at hx
  injection hx with hx
  exact hx.symm
theorem dec_all {ss ts : List Stp} {n : Nat} (hn : n = ss.length) (hm : n = ts.length) (h : ∀ j, j < n → ss[j]? = ts[j]?) : decide (ss = ts) = true := by
  refine decide_eq_true (List.ext_getElem? fun j => ?_)
  rcases Nat.lt_or_ge j n with h1 | h1
  · exact h j h1
  · rw [List.getElem?_eq_none (by omega), List.getElem?_eq_none (by omega)]
theorem dec_len_ne {ss ts : List Stp} (h : ss.length ≠ ts.length) : decide (ss = ts) = false := decide_eq_false fun e => h (by rw [e])
set_option maxHeartbeats 2000000 in
set_option maxRecDepth 100000 in
theorem equal_any (A A' : Option Addr) (c c' : Nat) (ss ts : List Stp) (n m : Nat) (w : World) (hn : n = ss.length) (hm : m = ts.length) (hb : n ≤ 9223372036854775807) (hb' : m ≤ 9223372036854775807) (hS : Steps w w.heap.size A ss) (hT : Steps w w.heap.size A' ts) :
    Calls Tryz.prog 101 #[.slice A n c, .slice A' m c'] w fun e w' => e = .returned (.bool (decide (ss = ts))) ∧ ∃ q, w' = w.drewN q := by
  by_cases hnm : n = m
  · subst hnm
    have HS := Lib.hid hS
    have HT := Lib.hid hT
    have HN := Lib.hid hn
    have HM := Lib.hid hm
    clear hS hT hn hm
    go_enter Tryz.func101, Tryz.ntmps101
    go_wp2
    go_loopw [13] (fun vi wr => ∃ k q : Nat, vi = .int .i64 (k : Int) ∧ k ≤ n ∧ wr = w.drewN q ∧ Hid (∀ j, j < k → ss[j]? = ts[j]?)) (fun vi _ => n - (intOf vi).toNat)
    case atStart => exact ⟨0, 0, rfl, Nat.zero_le _, rfl, Lib.hid fun j hj => absurd hj (by omega)⟩
    case round =>
      obtain ⟨k, q, rfl, hk, rfl, HI⟩ := hrel
      by_cases hkn : k < n
      · obtain ⟨x, hx⟩ : ∃ x, ss[k]? = some x := ⟨_, List.getElem?_eq_getElem (by have := HN.out; omega)⟩
        obtain ⟨y, hy⟩ : ∃ y, ts[k]? = some y := ⟨_, List.getElem?_eq_getElem (by have := HM.out; omega)⟩
        obtain ⟨b, o, rfl, hbl⟩ := HS.out.at_ hx
        obtain ⟨b', o', rfl, hbl'⟩ := HT.out.at_ hy
        have c0 : (w.drewN q).cell? ⟨b, o + k * 12, none⟩ = some (.string x.nm) := HS.out.get hx 0 rfl
        have c1 : (w.drewN q).cell? ⟨b, o + k * 12 + 1, none⟩ = some (.string x.pt) := HS.out.get hx 1 rfl
        have c2 : (w.drewN q).cell? ⟨b, o + k * 12 + 2, none⟩ = some (.int .i64 x.tm) := HS.out.get hx 2 rfl
        have c3 : (w.drewN q).cell? ⟨b, o + k * 12 + 3, none⟩ = some (.int .i64 x.t.r) := HS.out.get hx 3 rfl
        have c4 : (w.drewN q).cell? ⟨b, o + k * 12 + 4, none⟩ = some (.int .i64 x.t.b) := HS.out.get hx 4 rfl
        have c5 : (w.drewN q).cell? ⟨b, o + k * 12 + 5, none⟩ = some (.int .i64 x.t.f) := HS.out.get hx 5 rfl
        have c6 : (w.drewN q).cell? ⟨b, o + k * 12 + 6, none⟩ = some (.int .i64 x.t.c) := HS.out.get hx 6 rfl
        have c7 : (w.drewN q).cell? ⟨b, o + k * 12 + 7, none⟩ = some (.int .i64 x.u.r) := HS.out.get hx 7 rfl
        have c8 : (w.drewN q).cell? ⟨b, o + k * 12 + 8, none⟩ = some (.int .i64 x.u.b) := HS.out.get hx 8 rfl
        have c9 : (w.drewN q).cell? ⟨b, o + k * 12 + 9, none⟩ = some (.int .i64 x.u.f) := HS.out.get hx 9 rfl
        have c10 : (w.drewN q).cell? ⟨b, o + k * 12 + 10, none⟩ = some (.int .i64 x.u.c) := HS.out.get hx 10 rfl
        have c11 : (w.drewN q).cell? ⟨b, o + k * 12 + 11, none⟩ = some (.int .i64 x.pr) := HS.out.get hx 11 rfl
        have d0 : (w.drewN q).cell? ⟨b', o' + k * 12, none⟩ = some (.string y.nm) := HT.out.get hy 0 rfl
        have d1 : (w.drewN q).cell? ⟨b', o' + k * 12 + 1, none⟩ = some (.string y.pt) := HT.out.get hy 1 rfl
        have d2 : (w.drewN q).cell? ⟨b', o' + k * 12 + 2, none⟩ = some (.int .i64 y.tm) := HT.out.get hy 2 rfl
        have d3 : (w.drewN q).cell? ⟨b', o' + k * 12 + 3, none⟩ = some (.int .i64 y.t.r) := HT.out.get hy 3 rfl
        have d4 : (w.drewN q).cell? ⟨b', o' + k * 12 + 4, none⟩ = some (.int .i64 y.t.b) := HT.out.get hy 4 rfl
        have d5 : (w.drewN q).cell? ⟨b', o' + k * 12 + 5, none⟩ = some (.int .i64 y.t.f) := HT.out.get hy 5 rfl
        have d6 : (w.drewN q).cell? ⟨b', o' + k * 12 + 6, none⟩ = some (.int .i64 y.t.c) := HT.out.get hy 6 rfl
        have d7 : (w.drewN q).cell? ⟨b', o' + k * 12 + 7, none⟩ = some (.int .i64 y.u.r) := HT.out.get hy 7 rfl
        have d8 : (w.drewN q).cell? ⟨b', o' + k * 12 + 8, none⟩ = some (.int .i64 y.u.b) := HT.out.get hy 8 rfl
        have d9 : (w.drewN q).cell? ⟨b', o' + k * 12 + 9, none⟩ = some (.int .i64 y.u.f) := HT.out.get hy 9 rfl
        have d10 : (w.drewN q).cell? ⟨b', o' + k * 12 + 10, none⟩ = some (.int .i64 y.u.c) := HT.out.get hy 10 rfl
        have d11 : (w.drewN q).cell? ⟨b', o' + k * 12 + 11, none⟩ = some (.int .i64 y.pr) := HT.out.get hy 11 rfl
        have hne : ∀ w, (binOp .neq 54 (.agg x.arr) (.agg y.arr)).run Tryz.prog w = .ok (.bool (!eqS x y)) w := neq_step x y
        have hgd := guard_step
        unfold Stp.arr at hne
        have HX := Lib.hid (And.intro hx hy)
        clear hx hy
        have HQ := Lib.hid (show ∀ m, (w.drewN q).drewN m = w.drewN (q + m) from fun m => World.drewN_drewN _ _ _)
        generalize w.drewN q = wq at *
        cases hxy : eqS x y with
        | true =>
          rw [hxy] at hne
          go_wp2_with fail
          go_quiet (fail)
          go_wp2
          go_roundw
          case rel =>
            refine ⟨k + 1, q + nq, by go_num, by omega, HQ.out _, Lib.hid fun j hj => ?_⟩
            by_cases e : j = k
            · subst e
              rw [HX.out.1, HX.out.2, eqS_iff.1 hxy]
            · exact HI.out j (by omega)
          case measure => simp [intOf]; omega
        | false =>
          rw [hxy] at hne
          have HD := Lib.hid (dec_at HX.out.1 HX.out.2 (fun e => by rw [eqS_iff.2 e] at hxy; cases hxy))
          go_wp2_with fail
          go_quiet (fail)
          go_wp2
          go_ret
          exact ⟨ret_bool HD.out.symm, q + nq, HQ.out _⟩
      · obtain rfl : n = k := by omega
        have HD := Lib.hid (dec_all HN.out HM.out HI.out)
        go_wp2
        go_ret
        exact ⟨ret_bool HD.out.symm, q, rfl⟩
  · have hd : decide (ss = ts) = false := dec_len_ne (by omega)
    rw [hd]
    clear hS hT hd hn hm
    go_enter Tryz.func101, Tryz.ntmps101
    go_wp2
    go_ret
    exact ⟨rfl, 0, rfl⟩

/-! ### Same -/
def sameB (nm nm' : ByteArray) (dl dl' : Int) (ss ts : List Stp) : Bool := decide (nm = nm') && (decide (dl = dl') && decide (ss = ts))
set_option maxHeartbeats 2000000 in
set_option maxRecDepth 100000 in
theorem same_any (nm nm' : ByteArray) (dl dl' : Int) (A A' : Option Addr) (c c' : Nat) (ss ts : List Stp) (n m : Nat) (w : World) (hn : n = ss.length) (hm : m = ts.length) (hb : n ≤ 9223372036854775807) (hb' : m ≤ 9223372036854775807) (hS : Steps w w.heap.size A ss) (hT : Steps w w.heap.size A' ts) :
    Calls Tryz.prog 74 #[.agg #[.string nm, .int .i64 dl, .slice A n c], .agg #[.string nm', .int .i64 dl', .slice A' m c']] w fun e w' => e = .returned (.bool (sameB nm nm' dl dl' ss ts)) ∧ Made w w' := by
  have HE : Hid (∀ W, Below w.heap.size w W → Calls Tryz.prog 101 #[.slice A n c, .slice A' m c'] W fun e w' => e = .returned (.bool (decide (ss = ts))) ∧ ∃ q, w' = W.drewN q) :=
    Lib.hid fun W hW => equal_any A A' c c' ss ts n m W hn hm hb hb' (hS.on hW) (hT.on hW)
  clear hS hT hn hm
  have hM : Made w ((w.alloc (.cells #[.string nm, .int .i64 dl, .slice A n c] 33)).alloc (.cells #[.string nm', .int .i64 dl', .slice A' m c'] 33)) := (Made.alloc _ _).trans (Made.alloc _ _)
  have HM := Lib.hid hM
  clear hM
  unfold sameB
  cases h1 : decide (nm = nm') with
  | false =>
    have g1 : (nm.toList == nm'.toList) = false := by rw [bytes_beq]; exact h1
    clear h1
    go_enter Tryz.func74, Tryz.ntmps74
    go_wp2
    go_ret
    exact ⟨rfl, HM.out⟩
  | true =>
    have g1 : (nm.toList == nm'.toList) = true := by rw [bytes_beq]; exact h1
    clear h1
    cases h2 : decide (dl = dl') with
    | false =>
      have g2 : (dl == dl') = false := by simpa using h2
      clear h2
      go_enter Tryz.func74, Tryz.ntmps74
      go_wp2
      go_ret
      exact ⟨rfl, HM.out⟩
    | true =>
      have g2 : (dl == dl') = true := by simpa using h2
      clear h2
      go_enter Tryz.func74, Tryz.ntmps74
      go_wp2_with (go_at_call 101; (with_reducible refine (HE.out _ HM.out.below).mono ?_); rintro e w1 ⟨rfl, q, rfl⟩)
      go_ret
      exact ⟨rfl, HM.out.trans (Made.drewN _ _)⟩
set_option maxHeartbeats 4000000 in
set_option maxRecDepth 100000 in
theorem rsame_any (nm nm' : ByteArray) (dl dl' : Int) (A A' : Option Addr) (c c' : Nat) (ss ts : List Stp) (n m : Nat) (w : World) (hn : n = ss.length) (hm : m = ts.length) (hb : n ≤ 9223372036854775807) (hb' : m ≤ 9223372036854775807) (hS : Steps w w.heap.size A ss) (hT : Steps w w.heap.size A' ts) :
    Calls Tryz.prog 12 #[.agg #[.string nm, .int .i64 dl, .slice A n c], .agg #[.string nm', .int .i64 dl', .slice A' m c']] w fun e w' => e = .returned (.bool (sameB nm nm' dl dl' ss ts)) ∧ Made w w' := by
  have hM : Made w ((w.alloc (.cells #[.string nm, .int .i64 dl, .slice A n c] 33)).alloc (.cells #[.string nm', .int .i64 dl', .slice A' m c'] 33)) := (Made.alloc _ _).trans (Made.alloc _ _)
  have HM := Lib.hid hM
  have HS := Lib.hid hS
  have HT := Lib.hid hT
  clear hM hS hT
  unfold sameB
  cases h1 : decide (nm = nm') with
  | false =>
    have g1 : (nm.toList == nm'.toList) = false := by rw [bytes_beq]; exact h1
    clear h1 hn hm
    go_enter Tryz.func12, Tryz.ntmps12
    go_wp2
    go_ret
    exact ⟨rfl, HM.out⟩
  | true =>
    have g1 : (nm.toList == nm'.toList) = true := by rw [bytes_beq]; exact h1
    clear h1
    cases h2 : decide (dl = dl') with
    | false =>
      have g2 : (dl != dl') = true := by simpa using h2
      clear h2 hn hm
      go_enter Tryz.func12, Tryz.ntmps12
      go_wp2
      go_ret
      exact ⟨rfl, HM.out⟩
    | true =>
      have g2 : (dl != dl') = false := by simpa using h2
      clear h2
      by_cases hnm : n = m
      · have HN := Lib.hid hn
        have HL : Hid (n = ts.length) := Lib.hid (hnm.trans hm)
        clear hn hm
        subst hnm
        go_enter Tryz.func12, Tryz.ntmps12
        go_wp2
        generalize hW0 : ((w.alloc (.cells #[.string nm, .int .i64 dl, .slice A n c] 33)).alloc (.cells #[.string nm', .int .i64 dl', .slice A' n c'] 33)) = W0 at *
        have HB : Hid (Box W0 w.heap.size 33 (dcells nm dl A n c) ∧ Box W0 (w.heap.size + 1) 33 (dcells nm' dl' A' n c')) := Lib.hid (by rw [← hW0]; exact two_box (Made.refl _))
        clear hW0
        go_loopw [5] (fun vi wr => ∃ k q : Nat, vi = .int .i64 (k : Int) ∧ k ≤ n ∧ wr = W0.drewN q ∧ Hid (∀ j, j < k → ss[j]? = ts[j]?)) (fun vi _ => n - (intOf vi).toNat)
        case atStart => exact ⟨0, 0, rfl, Nat.zero_le _, rfl, Lib.hid fun j hj => absurd hj (by omega)⟩
        case round =>
          obtain ⟨k, q, rfl, hk, rfl, HI⟩ := hrel
          have e2 : (W0.drewN q).cell? ⟨w.heap.size, 2, none⟩ = some (.slice A n c) := HB.out.1.cell 2
          have f2 : (W0.drewN q).cell? ⟨w.heap.size + 1, 2, none⟩ = some (.slice A' n c') := HB.out.2.cell 2
          by_cases hkn : k < n
          · obtain ⟨x, hx⟩ : ∃ x, ss[k]? = some x := ⟨_, List.getElem?_eq_getElem (by have := HN.out; omega)⟩
            obtain ⟨y, hy⟩ : ∃ y, ts[k]? = some y := ⟨_, List.getElem?_eq_getElem (by have := HL.out; omega)⟩
            obtain ⟨b, o, rfl, hbl⟩ := HS.out.at_ hx
            obtain ⟨b', o', rfl, hbl'⟩ := HT.out.at_ hy
            have HS0 := Lib.hid (HS.out.below HM.out.below)
            have HT0 := Lib.hid (HT.out.below HM.out.below)
            have c0 : (W0.drewN q).cell? ⟨b, o + k * 12, none⟩ = some (.string x.nm) := HS0.out.get hx 0 rfl
            have c1 : (W0.drewN q).cell? ⟨b, o + k * 12 + 1, none⟩ = some (.string x.pt) := HS0.out.get hx 1 rfl
            have c2 : (W0.drewN q).cell? ⟨b, o + k * 12 + 2, none⟩ = some (.int .i64 x.tm) := HS0.out.get hx 2 rfl
            have c3 : (W0.drewN q).cell? ⟨b, o + k * 12 + 3, none⟩ = some (.int .i64 x.t.r) := HS0.out.get hx 3 rfl
            have c4 : (W0.drewN q).cell? ⟨b, o + k * 12 + 4, none⟩ = some (.int .i64 x.t.b) := HS0.out.get hx 4 rfl
            have c5 : (W0.drewN q).cell? ⟨b, o + k * 12 + 5, none⟩ = some (.int .i64 x.t.f) := HS0.out.get hx 5 rfl
            have c6 : (W0.drewN q).cell? ⟨b, o + k * 12 + 6, none⟩ = some (.int .i64 x.t.c) := HS0.out.get hx 6 rfl
            have c7 : (W0.drewN q).cell? ⟨b, o + k * 12 + 7, none⟩ = some (.int .i64 x.u.r) := HS0.out.get hx 7 rfl
            have c8 : (W0.drewN q).cell? ⟨b, o + k * 12 + 8, none⟩ = some (.int .i64 x.u.b) := HS0.out.get hx 8 rfl
            have c9 : (W0.drewN q).cell? ⟨b, o + k * 12 + 9, none⟩ = some (.int .i64 x.u.f) := HS0.out.get hx 9 rfl
            have c10 : (W0.drewN q).cell? ⟨b, o + k * 12 + 10, none⟩ = some (.int .i64 x.u.c) := HS0.out.get hx 10 rfl
            have c11 : (W0.drewN q).cell? ⟨b, o + k * 12 + 11, none⟩ = some (.int .i64 x.pr) := HS0.out.get hx 11 rfl
            have d0 : (W0.drewN q).cell? ⟨b', o' + k * 12, none⟩ = some (.string y.nm) := HT0.out.get hy 0 rfl
            have d1 : (W0.drewN q).cell? ⟨b', o' + k * 12 + 1, none⟩ = some (.string y.pt) := HT0.out.get hy 1 rfl
            have d2 : (W0.drewN q).cell? ⟨b', o' + k * 12 + 2, none⟩ = some (.int .i64 y.tm) := HT0.out.get hy 2 rfl
            have d3 : (W0.drewN q).cell? ⟨b', o' + k * 12 + 3, none⟩ = some (.int .i64 y.t.r) := HT0.out.get hy 3 rfl
            have d4 : (W0.drewN q).cell? ⟨b', o' + k * 12 + 4, none⟩ = some (.int .i64 y.t.b) := HT0.out.get hy 4 rfl
            have d5 : (W0.drewN q).cell? ⟨b', o' + k * 12 + 5, none⟩ = some (.int .i64 y.t.f) := HT0.out.get hy 5 rfl
            have d6 : (W0.drewN q).cell? ⟨b', o' + k * 12 + 6, none⟩ = some (.int .i64 y.t.c) := HT0.out.get hy 6 rfl
            have d7 : (W0.drewN q).cell? ⟨b', o' + k * 12 + 7, none⟩ = some (.int .i64 y.u.r) := HT0.out.get hy 7 rfl
            have d8 : (W0.drewN q).cell? ⟨b', o' + k * 12 + 8, none⟩ = some (.int .i64 y.u.b) := HT0.out.get hy 8 rfl
            have d9 : (W0.drewN q).cell? ⟨b', o' + k * 12 + 9, none⟩ = some (.int .i64 y.u.f) := HT0.out.get hy 9 rfl
            have d10 : (W0.drewN q).cell? ⟨b', o' + k * 12 + 10, none⟩ = some (.int .i64 y.u.c) := HT0.out.get hy 10 rfl
            have d11 : (W0.drewN q).cell? ⟨b', o' + k * 12 + 11, none⟩ = some (.int .i64 y.pr) := HT0.out.get hy 11 rfl
            have hne : ∀ w, (binOp .neq 54 (.agg x.arr) (.agg y.arr)).run Tryz.prog w = .ok (.bool (!eqS x y)) w := neq_step x y
            have hgd := guard_step
            unfold Stp.arr at hne
            have HX := Lib.hid (And.intro hx hy)
            clear hx hy
            have HQ := Lib.hid (show ∀ m, (W0.drewN q).drewN m = W0.drewN (q + m) from fun m => World.drewN_drewN _ _ _)
            have HMQ := Lib.hid (fun m => HM.out.trans (Made.drewN W0 m))
            generalize W0.drewN q = wq at *
            cases hxy : eqS x y with
            | true =>
              rw [hxy] at hne
              go_wp2_with fail
              go_quiet (fail)
              go_wp2
              go_roundw
              case rel =>
                refine ⟨k + 1, q + nq, by go_num, by omega, HQ.out _, Lib.hid fun j hj => ?_⟩
                by_cases e : j = k
                · subst e
                  rw [HX.out.1, HX.out.2, eqS_iff.1 hxy]
                · exact HI.out j (by omega)
              case measure => simp [intOf]; omega
            | false =>
              rw [hxy] at hne
              have HD := Lib.hid (dec_at HX.out.1 HX.out.2 (fun e => by rw [eqS_iff.2 e] at hxy; cases hxy))
              go_wp2_with fail
              go_quiet (fail)
              go_wp2
              go_ret
              exact ⟨ret_bool (by rw [HD.out]; rfl), by rw [HQ.out]; exact HMQ.out _⟩
          · obtain rfl : n = k := by omega
            have HD := Lib.hid (dec_all HN.out HL.out HI.out)
            go_wp2
            go_ret
            exact ⟨ret_bool (by rw [HD.out]; rfl), HM.out.trans (Made.drewN _ _)⟩
      · have hd : decide (ss = ts) = false := dec_len_ne (by omega)
        have g3 : ((n : Int) != (m : Int)) = true := by simpa using fun e => hnm (by omega)
        rw [hd]
        clear hd hn hm hnm
        go_enter Tryz.func12, Tryz.ntmps12
        go_wp2
        go_ret
        exact ⟨rfl, HM.out⟩
end Go.Proofs.YteejocnogpaifaaGreatDoor.Df
