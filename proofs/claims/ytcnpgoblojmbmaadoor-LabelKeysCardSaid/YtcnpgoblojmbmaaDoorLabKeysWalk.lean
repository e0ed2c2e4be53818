/-
  The walk of the statement on keys: for every row of names and every text it returns true.
  Conditions: the row lies in memory as it is named (or there is none); the library's variable that Cut's search reads holds some number.
-/
import Derived.Test.YtcnpgoblojmbmaaDoorLabKeysParts
import Derived.Deep.QuietTactic
import Derived.BigQuiet
import Derived.Deep.Draws
namespace Go.Proofs.YtcnpgoblojmbmaaDoor
open Go.RowKit

theorem below_drewN {B : Nat} {a w : World} (h : Below B a w) (n : Nat) : Below B a (w.drewN n) := ⟨h.os, h.tape, h.output, h.size, h.block⟩
theorem row_len {ls : List (List UInt8)} (h : rowB ls = true) : ls.length ≤ 8 := by
  unfold rowB at h
  simp only [Bool.and_eq_true, decide_eq_true_eq] at h
  exact h.1.2
def SizesTo (xs : List ByteArray) (k : Nat) : Prop := ∀ j x, j < k → xs[j]? = some x → x.size ≤ 100

set_option maxHeartbeats 8000000 in
set_option maxRecDepth 1000000 in
theorem keys_nil_no (a : Option Addr) (c : Nat) (key : ByteArray) (m : Int) (w : World) (hkey : key.size ≤ 300) (hm : w.cell? ⟨0, 0, none⟩ = some (.int .i64 m)) (hkr : rowB (pieces [] key.data.toList) = false) :
    Calls Tryd.prog 4 #[.slice a 0 c, .string key] w fun e w' => e = .returned (.bool true) ∧ Below w.heap.size w w' := by
  have C0 := Lib.hid (awake_any m w hm)
  have Hm := Lib.hid hm
  have CK := Lib.hid (fun W (h : W.cell? ⟨0, 0, none⟩ = some (.int .i64 m)) => cut_hasnt key m W (by omega) h hkr)
  have RK := Lib.hid (fun W => rcut_hasnt key W (by omega) hkr)
  clear hkr
  clear hm
  go_enter Tryd.func4, Tryd.ntmps4
  go_wp2_with (go_at_call 7; (refine (C0.out).mono ?_); rintro e W1 ⟨rfl, b1⟩)
  go_loop [5] (fun p => p = .int .i64 0) (fun _ => 0)
  case atStart => exact rfl
  case round =>
    subst hrel
    go_wp2_with (first
      | (go_at_call 14; ((with_reducible refine (key_nil _ _ _).mono ?_)); rintro e W2 ⟨rfl, b2⟩; have b12 := b1.trans (b2.mono b1.size))
      | (go_at_call 15; ((with_reducible refine (rkey_nil _ _ _).mono ?_)); rintro e w' ⟨rfl, rfl⟩)
      | (go_at_call 16; ((with_reducible refine (CK.out _ (max_at Hm.out b12)).mono ?_)); rintro e W3 ⟨rfl, ba⟩)
      | (go_at_call 17; ((with_reducible refine (RK.out _).mono ?_)); rintro e W4 ⟨rfl, bb⟩))
    have b13 := b12.trans (ba.mono b12.size)
    have b14 := b13.trans (bb.mono b13.size)
    go_loop [17] (fun p => p = .int .i64 0) (fun _ => 0)
    case atStart => exact rfl
    case round =>
      subst hrel
      go_wp2_with (fail)
      go_ret
      exact ⟨rfl, b14⟩

set_option maxHeartbeats 8000000 in
set_option maxRecDepth 1000000 in
theorem keys_nil_yes (a : Option Addr) (c : Nat) (key : ByteArray) (m : Int) (w : World) (hkey : key.size ≤ 300) (hm : w.cell? ⟨0, 0, none⟩ = some (.int .i64 m)) (hkr : rowB (pieces [] key.data.toList) = true) :
    Calls Tryd.prog 4 #[.slice a 0 c, .string key] w fun e w' => e = .returned (.bool true) ∧ Below w.heap.size w w' := by
  have C0 := Lib.hid (awake_any m w hm)
  have Hm := Lib.hid hm
  obtain ⟨ys, hys⟩ : ∃ ys, texts ys = pieces [] key.data.toList := ⟨pcs key, (pcs_pieces key).2 hkr⟩
  obtain ⟨ny, hny⟩ : ∃ ny, ys.length = ny := ⟨_, rfl⟩
  have hny8 : ny ≤ 8 := by
    have h := row_len hkr
    rw [← hys, List.length_map, hny] at h
    exact h
  have CK := Lib.hid (fun W (h : W.cell? ⟨0, 0, none⟩ = some (.int .i64 m)) => cut_has key m W (by omega) h ys ny hys hny hkr)
  have RK := Lib.hid (fun W => rcut_has key W (by omega) ys ny hys hny hkr)
  have Hny := Lib.hid hny
  clear hkr hys hny
  clear hm
  go_enter Tryd.func4, Tryd.ntmps4
  go_wp2_with (go_at_call 7; (refine (C0.out).mono ?_); rintro e W1 ⟨rfl, b1⟩)
  go_loop [5] (fun p => p = .int .i64 0) (fun _ => 0)
  case atStart => exact rfl
  case round =>
    subst hrel
    go_wp2_with (first
      | (go_at_call 14; ((with_reducible refine (key_nil _ _ _).mono ?_)); rintro e W2 ⟨rfl, b2⟩; have b12 := b1.trans (b2.mono b1.size))
      | (go_at_call 15; ((with_reducible refine (rkey_nil _ _ _).mono ?_)); rintro e w' ⟨rfl, rfl⟩)
      | (go_at_call 16; ((with_reducible refine (CK.out _ (max_at Hm.out b12)).mono ?_)); rintro e W3 ⟨g1, cap1, rfl, L1', ba⟩; have L1 := Lib.hid L1'; clear L1')
      | (go_at_call 17; ((with_reducible refine (RK.out _).mono ?_)); rintro e W4 ⟨g2, cap2, rfl, L2', bb⟩; have L2 := Lib.hid L2'; clear L2'))
    have b13 := b12.trans (ba.mono b12.size)
    have b14 := b13.trans (bb.mono b13.size)
    have HL1 := Lib.hid (L1.out.below bb)
    have HB := Lib.hid (b14)
    go_loopw [17] (fun p wt => ∃ k : Nat, p = .int .i64 k ∧ k ≤ ny ∧ Hid (LiesAt wt g1 0 ys) ∧ Hid (LiesAt wt g2 0 ys) ∧ Hid (Below w.heap.size w wt)) (fun p _ => ny - (intOf p).toNat)
    case atStart => exact ⟨0, rfl, by omega, HL1, L2, HB⟩
    case round =>
      obtain ⟨k, rfl, hk, M1, M2, MB⟩ := hrel
      by_cases hlt3 : k < ny
      · obtain ⟨x, hxk⟩ : ∃ x, ys[k]? = some x := ⟨ys[k]'(by rw [Hny.out]; exact hlt3), List.getElem?_eq_getElem _⟩
        have q1 := lies_cell0 M1.out hxk
        have q2 := lies_cell0 M2.out hxk
        have q3 : (0 : Int) ≤ (k : Int) := by omega
        have q4 : (k : Int) < (ny : Int) := by omega
        clear hxk
        go_wp2_with (fail)
        go_quiet (fail)
        go_wp2_with (fail)
        go_roundw
        case rel => exact ⟨k + 1, by go_num, by omega, Lib.hid (M1.out.drewN _), Lib.hid (M2.out.drewN _), Lib.hid (below_drewN MB.out _)⟩
        case measure => simp [intOf]; omega
      · go_wp2_with (fail)
        go_ret
        exact ⟨rfl, MB.out⟩

set_option maxHeartbeats 8000000 in
set_option maxRecDepth 1000000 in
theorem keys_row_no_no (xs : List ByteArray) (n bk o c : Nat) (key : ByteArray) (m : Int) (w : World) (hn : xs.length = n) (hn12 : n ≤ 12) (hn1 : 1 ≤ n) (hc : n ≤ c) (hL : LiesAt w bk o xs) (hxm : ∀ x ∈ xs, x.size ≤ 9223372036854775807) (hkey : key.size ≤ 300) (hm : w.cell? ⟨0, 0, none⟩ = some (.int .i64 m)) (hr : rowB (texts xs) = false) (hkr : rowB (pieces [] key.data.toList) = false) :
    Calls Tryd.prog 4 #[.slice (some ⟨bk, o, none⟩) n c, .string key] w fun e w' => e = .returned (.bool true) ∧ Below w.heap.size w w' := by
  have C0 := Lib.hid (awake_any m w hm)
  have Hm := Lib.hid hm
  have Hn := Lib.hid hn
  have Hxm := Lib.hid hxm
  have HL0 := Lib.hid hL
  have Hr := Lib.hid hr
  have CK := Lib.hid (fun W (h : W.cell? ⟨0, 0, none⟩ = some (.int .i64 m)) => cut_hasnt key m W (by omega) h hkr)
  have RK := Lib.hid (fun W => rcut_hasnt key W (by omega) hkr)
  clear hkr
  clear hm hn hxm hL hr
  go_enter Tryd.func4, Tryd.ntmps4
  go_wp2_with (go_at_call 7; (refine (C0.out).mono ?_); rintro e W1 ⟨rfl, b1⟩)
  have HL := Lib.hid (HL0.out.below b1)
  go_loop [5] (fun p => ∃ k : Nat, p = .int .i64 k ∧ k ≤ n ∧ Hid (SizesTo xs k)) (fun p => n - (intOf p).toNat)
  case atStart => exact ⟨0, rfl, by omega, Lib.hid (fun j x h => by omega)⟩
  case round =>
    obtain ⟨k, rfl, hk, hsz⟩ := hrel
    by_cases hlt : k < n
    · obtain ⟨x, hxk⟩ : ∃ x, xs[k]? = some x := ⟨xs[k]'(by rw [Hn.out]; exact hlt), List.getElem?_eq_getElem _⟩
      have hcell := lies_cell HL.out hxk
      have hxs : x.size ≤ 9223372036854775807 := Hxm.out x (List.mem_of_getElem? hxk)
      have Hxk := Lib.hid hxk
      clear hxk
      by_cases hbig : 100 < x.size
      · go_wp2_with (fail)
        go_ret
        exact ⟨rfl, b1⟩
      · go_wp2_with (fail)
        go_round
        case rel =>
          refine ⟨k + 1, by go_num, by omega, Lib.hid (fun j y hj hy => ?_)⟩
          by_cases e : j = k
          · subst e
            have := hy.symm.trans Hxk.out
            injection this with this
            subst this
            omega
          · exact hsz.out j y (by omega) hy
        case measure => simp [intOf]; omega
    · have Hx : Hid (∀ x ∈ xs, x.size ≤ 100) := Lib.hid (fun x hx => by
        obtain ⟨j, hj⟩ := List.getElem?_of_mem hx
        have hlj := (List.getElem?_eq_some_iff.1 hj).1
        exact hsz.out j x (by have := Hn.out; omega) hj)
      have Hjl : Hid ((Lib.join (texts xs) [47]).length ≤ 140737488355328) := Lib.hid (by
        have h := join_len (texts xs) 100 (fun y hy => by
          obtain ⟨x, h1, rfl⟩ := List.mem_map.1 hy
          have e : x.data.toList.length = x.size := Array.length_toList
          have := Hx.out x h1
          omega)
        rw [List.length_map, Hn.out] at h
        omega)
      have CA := Lib.hid (fun W (h : LiesAt W bk o xs) => key_any xs n bk o c W Hn.out (by omega) hc h (fun x hx => by have := Hx.out x hx; omega) Hjl.out)
      have CB := Lib.hid (fun W (h : LiesAt W bk o xs) => rkey_any xs n bk o c W Hn.out (by omega) h (fun x hx => by have := Hx.out x hx; omega))
      unfold RKeyIs at CB
      rw [Hr.out] at CA CB
      rw [keyT_no Hr.out] at CA CB
      go_wp2_with (first
        | (go_at_call 14; ((with_reducible refine (CA.out _ HL.out).mono ?_)); rintro e W2 ⟨rfl, b2⟩; have b12 := b1.trans (b2.mono b1.size))
        | (go_at_call 15; ((with_reducible refine (CB.out _ (HL.out.below b2)).mono ?_)); rintro e w' ⟨rfl, rfl⟩)
        | (go_at_call 16; ((with_reducible refine (CK.out _ (max_at Hm.out b12)).mono ?_)); rintro e W3 ⟨rfl, ba⟩)
        | (go_at_call 17; ((with_reducible refine (RK.out _).mono ?_)); rintro e W4 ⟨rfl, bb⟩))
      have b13 := b12.trans (ba.mono b12.size)
      have b14 := b13.trans (bb.mono b13.size)
      go_loop [17] (fun p => p = .int .i64 0) (fun _ => 0)
      case atStart => exact rfl
      case round =>
        subst hrel
        go_wp2_with (fail)
        go_ret
        exact ⟨rfl, b14⟩

set_option maxHeartbeats 8000000 in
set_option maxRecDepth 1000000 in
theorem keys_row_no_yes (xs : List ByteArray) (n bk o c : Nat) (key : ByteArray) (m : Int) (w : World) (hn : xs.length = n) (hn12 : n ≤ 12) (hn1 : 1 ≤ n) (hc : n ≤ c) (hL : LiesAt w bk o xs) (hxm : ∀ x ∈ xs, x.size ≤ 9223372036854775807) (hkey : key.size ≤ 300) (hm : w.cell? ⟨0, 0, none⟩ = some (.int .i64 m)) (hr : rowB (texts xs) = false) (hkr : rowB (pieces [] key.data.toList) = true) :
    Calls Tryd.prog 4 #[.slice (some ⟨bk, o, none⟩) n c, .string key] w fun e w' => e = .returned (.bool true) ∧ Below w.heap.size w w' := by
  have C0 := Lib.hid (awake_any m w hm)
  have Hm := Lib.hid hm
  have Hn := Lib.hid hn
  have Hxm := Lib.hid hxm
  have HL0 := Lib.hid hL
  have Hr := Lib.hid hr
  obtain ⟨ys, hys⟩ : ∃ ys, texts ys = pieces [] key.data.toList := ⟨pcs key, (pcs_pieces key).2 hkr⟩
  obtain ⟨ny, hny⟩ : ∃ ny, ys.length = ny := ⟨_, rfl⟩
  have hny8 : ny ≤ 8 := by
    have h := row_len hkr
    rw [← hys, List.length_map, hny] at h
    exact h
  have CK := Lib.hid (fun W (h : W.cell? ⟨0, 0, none⟩ = some (.int .i64 m)) => cut_has key m W (by omega) h ys ny hys hny hkr)
  have RK := Lib.hid (fun W => rcut_has key W (by omega) ys ny hys hny hkr)
  have Hny := Lib.hid hny
  clear hkr hys hny
  clear hm hn hxm hL hr
  go_enter Tryd.func4, Tryd.ntmps4
  go_wp2_with (go_at_call 7; (refine (C0.out).mono ?_); rintro e W1 ⟨rfl, b1⟩)
  have HL := Lib.hid (HL0.out.below b1)
  go_loop [5] (fun p => ∃ k : Nat, p = .int .i64 k ∧ k ≤ n ∧ Hid (SizesTo xs k)) (fun p => n - (intOf p).toNat)
  case atStart => exact ⟨0, rfl, by omega, Lib.hid (fun j x h => by omega)⟩
  case round =>
    obtain ⟨k, rfl, hk, hsz⟩ := hrel
    by_cases hlt : k < n
    · obtain ⟨x, hxk⟩ : ∃ x, xs[k]? = some x := ⟨xs[k]'(by rw [Hn.out]; exact hlt), List.getElem?_eq_getElem _⟩
      have hcell := lies_cell HL.out hxk
      have hxs : x.size ≤ 9223372036854775807 := Hxm.out x (List.mem_of_getElem? hxk)
      have Hxk := Lib.hid hxk
      clear hxk
      by_cases hbig : 100 < x.size
      · go_wp2_with (fail)
        go_ret
        exact ⟨rfl, b1⟩
      · go_wp2_with (fail)
        go_round
        case rel =>
          refine ⟨k + 1, by go_num, by omega, Lib.hid (fun j y hj hy => ?_)⟩
          by_cases e : j = k
          · subst e
            have := hy.symm.trans Hxk.out
            injection this with this
            subst this
            omega
          · exact hsz.out j y (by omega) hy
        case measure => simp [intOf]; omega
    · have Hx : Hid (∀ x ∈ xs, x.size ≤ 100) := Lib.hid (fun x hx => by
        obtain ⟨j, hj⟩ := List.getElem?_of_mem hx
        have hlj := (List.getElem?_eq_some_iff.1 hj).1
        exact hsz.out j x (by have := Hn.out; omega) hj)
      have Hjl : Hid ((Lib.join (texts xs) [47]).length ≤ 140737488355328) := Lib.hid (by
        have h := join_len (texts xs) 100 (fun y hy => by
          obtain ⟨x, h1, rfl⟩ := List.mem_map.1 hy
          have e : x.data.toList.length = x.size := Array.length_toList
          have := Hx.out x h1
          omega)
        rw [List.length_map, Hn.out] at h
        omega)
      have CA := Lib.hid (fun W (h : LiesAt W bk o xs) => key_any xs n bk o c W Hn.out (by omega) hc h (fun x hx => by have := Hx.out x hx; omega) Hjl.out)
      have CB := Lib.hid (fun W (h : LiesAt W bk o xs) => rkey_any xs n bk o c W Hn.out (by omega) h (fun x hx => by have := Hx.out x hx; omega))
      unfold RKeyIs at CB
      rw [Hr.out] at CA CB
      rw [keyT_no Hr.out] at CA CB
      go_wp2_with (first
        | (go_at_call 14; ((with_reducible refine (CA.out _ HL.out).mono ?_)); rintro e W2 ⟨rfl, b2⟩; have b12 := b1.trans (b2.mono b1.size))
        | (go_at_call 15; ((with_reducible refine (CB.out _ (HL.out.below b2)).mono ?_)); rintro e w' ⟨rfl, rfl⟩)
        | (go_at_call 16; ((with_reducible refine (CK.out _ (max_at Hm.out b12)).mono ?_)); rintro e W3 ⟨g1, cap1, rfl, L1', ba⟩; have L1 := Lib.hid L1'; clear L1')
        | (go_at_call 17; ((with_reducible refine (RK.out _).mono ?_)); rintro e W4 ⟨g2, cap2, rfl, L2', bb⟩; have L2 := Lib.hid L2'; clear L2'))
      have b13 := b12.trans (ba.mono b12.size)
      have b14 := b13.trans (bb.mono b13.size)
      have HL1 := Lib.hid (L1.out.below bb)
      have HB := Lib.hid (b14)
      go_loopw [17] (fun p wt => ∃ k : Nat, p = .int .i64 k ∧ k ≤ ny ∧ Hid (LiesAt wt g1 0 ys) ∧ Hid (LiesAt wt g2 0 ys) ∧ Hid (Below w.heap.size w wt)) (fun p _ => ny - (intOf p).toNat)
      case atStart => exact ⟨0, rfl, by omega, HL1, L2, HB⟩
      case round =>
        obtain ⟨k, rfl, hk, M1, M2, MB⟩ := hrel
        by_cases hlt3 : k < ny
        · obtain ⟨x, hxk⟩ : ∃ x, ys[k]? = some x := ⟨ys[k]'(by rw [Hny.out]; exact hlt3), List.getElem?_eq_getElem _⟩
          have q1 := lies_cell0 M1.out hxk
          have q2 := lies_cell0 M2.out hxk
          have q3 : (0 : Int) ≤ (k : Int) := by omega
          have q4 : (k : Int) < (ny : Int) := by omega
          clear hxk
          go_wp2_with (fail)
          go_quiet (fail)
          go_wp2_with (fail)
          go_roundw
          case rel => exact ⟨k + 1, by go_num, by omega, Lib.hid (M1.out.drewN _), Lib.hid (M2.out.drewN _), Lib.hid (below_drewN MB.out _)⟩
          case measure => simp [intOf]; omega
        · go_wp2_with (fail)
          go_ret
          exact ⟨rfl, MB.out⟩

set_option maxHeartbeats 8000000 in
set_option maxRecDepth 1000000 in
theorem keys_row_yes_no (xs : List ByteArray) (n bk o c : Nat) (key : ByteArray) (m : Int) (w : World) (hn : xs.length = n) (hn12 : n ≤ 12) (hn1 : 1 ≤ n) (hc : n ≤ c) (hL : LiesAt w bk o xs) (hxm : ∀ x ∈ xs, x.size ≤ 9223372036854775807) (hkey : key.size ≤ 300) (hm : w.cell? ⟨0, 0, none⟩ = some (.int .i64 m)) (hr : rowB (texts xs) = true) (hkr : rowB (pieces [] key.data.toList) = false) :
    Calls Tryd.prog 4 #[.slice (some ⟨bk, o, none⟩) n c, .string key] w fun e w' => e = .returned (.bool true) ∧ Below w.heap.size w w' := by
  have C0 := Lib.hid (awake_any m w hm)
  have Hm := Lib.hid hm
  have Hn := Lib.hid hn
  have Hxm := Lib.hid hxm
  have HL0 := Lib.hid hL
  have Hr := Lib.hid hr
  have CK := Lib.hid (fun W (h : W.cell? ⟨0, 0, none⟩ = some (.int .i64 m)) => cut_hasnt key m W (by omega) h hkr)
  have RK := Lib.hid (fun W => rcut_hasnt key W (by omega) hkr)
  clear hkr
  clear hm hn hxm hL hr
  go_enter Tryd.func4, Tryd.ntmps4
  go_wp2_with (go_at_call 7; (refine (C0.out).mono ?_); rintro e W1 ⟨rfl, b1⟩)
  have HL := Lib.hid (HL0.out.below b1)
  go_loop [5] (fun p => ∃ k : Nat, p = .int .i64 k ∧ k ≤ n ∧ Hid (SizesTo xs k)) (fun p => n - (intOf p).toNat)
  case atStart => exact ⟨0, rfl, by omega, Lib.hid (fun j x h => by omega)⟩
  case round =>
    obtain ⟨k, rfl, hk, hsz⟩ := hrel
    by_cases hlt : k < n
    · obtain ⟨x, hxk⟩ : ∃ x, xs[k]? = some x := ⟨xs[k]'(by rw [Hn.out]; exact hlt), List.getElem?_eq_getElem _⟩
      have hcell := lies_cell HL.out hxk
      have hxs : x.size ≤ 9223372036854775807 := Hxm.out x (List.mem_of_getElem? hxk)
      have Hxk := Lib.hid hxk
      clear hxk
      by_cases hbig : 100 < x.size
      · go_wp2_with (fail)
        go_ret
        exact ⟨rfl, b1⟩
      · go_wp2_with (fail)
        go_round
        case rel =>
          refine ⟨k + 1, by go_num, by omega, Lib.hid (fun j y hj hy => ?_)⟩
          by_cases e : j = k
          · subst e
            have := hy.symm.trans Hxk.out
            injection this with this
            subst this
            omega
          · exact hsz.out j y (by omega) hy
        case measure => simp [intOf]; omega
    · have Hx : Hid (∀ x ∈ xs, x.size ≤ 100) := Lib.hid (fun x hx => by
        obtain ⟨j, hj⟩ := List.getElem?_of_mem hx
        have hlj := (List.getElem?_eq_some_iff.1 hj).1
        exact hsz.out j x (by have := Hn.out; omega) hj)
      have Hjl : Hid ((Lib.join (texts xs) [47]).length ≤ 140737488355328) := Lib.hid (by
        have h := join_len (texts xs) 100 (fun y hy => by
          obtain ⟨x, h1, rfl⟩ := List.mem_map.1 hy
          have e : x.data.toList.length = x.size := Array.length_toList
          have := Hx.out x h1
          omega)
        rw [List.length_map, Hn.out] at h
        omega)
      have CA := Lib.hid (fun W (h : LiesAt W bk o xs) => key_any xs n bk o c W Hn.out (by omega) hc h (fun x hx => by have := Hx.out x hx; omega) Hjl.out)
      have CB := Lib.hid (fun W (h : LiesAt W bk o xs) => rkey_any xs n bk o c W Hn.out (by omega) h (fun x hx => by have := Hx.out x hx; omega))
      unfold RKeyIs at CB
      rw [Hr.out] at CA CB
      have CC := Lib.hid (fun W (h : W.cell? ⟨0, 0, none⟩ = some (.int .i64 m)) => cut_back xs n m W h Hn.out Hr.out Hx.out hn12)
      generalize keyT (texts xs) = kt at CA CB CC
      go_wp2_with (first
        | (go_at_call 14; ((with_reducible refine (CA.out _ HL.out).mono ?_)); rintro e W2 ⟨rfl, b2⟩; have b12 := b1.trans (b2.mono b1.size))
        | (go_at_call 15; ((with_reducible refine (CB.out _ (HL.out.below b2)).mono ?_)); rintro e w' ⟨rfl, rfl⟩)
        | (go_at_call 16; ((with_reducible refine (CC.out _ (max_at Hm.out b12)).mono ?_)); rintro e W3 ⟨g0, cap0, rfl, L0', b3⟩; have L0 := Lib.hid L0'; clear L0'))
      have HLA := Lib.hid ((HL.out.below b2).below b3)
      have HBA := Lib.hid (b12.trans (b3.mono b12.size))
      go_loopw [12] (fun p wt => ∃ k : Nat, p = .int .i64 k ∧ k ≤ n ∧ Hid (LiesAt wt g0 0 xs) ∧ Hid (LiesAt wt bk o xs) ∧ Hid (Below w.heap.size w wt)) (fun p _ => n - (intOf p).toNat)
      case atStart => exact ⟨0, rfl, by omega, L0, HLA, HBA⟩
      case round =>
        obtain ⟨k2, rfl, hk2, N1, N2, NB⟩ := hrel
        by_cases hlt2 : k2 < n
        · obtain ⟨x, hxk⟩ : ∃ x, xs[k2]? = some x := ⟨xs[k2]'(by rw [Hn.out]; exact hlt2), List.getElem?_eq_getElem _⟩
          have q1 := lies_cell0 N1.out hxk
          have q2 := lies_cell N2.out hxk
          have q3 : (0 : Int) ≤ (k2 : Int) := by omega
          have q4 : (k2 : Int) < (n : Int) := by omega
          clear hxk
          go_wp2_with (fail)
          go_quiet (fail)
          go_wp2_with (fail)
          go_roundw
          case rel => exact ⟨k2 + 1, by go_num, by omega, Lib.hid (N1.out.drewN _), Lib.hid (N2.out.drewN _), Lib.hid (below_drewN NB.out _)⟩
          case measure => simp [intOf]; omega
        · go_wp2_with (first
            | (go_at_call 16; ((with_reducible refine (CK.out _ (max_at Hm.out NB.out)).mono ?_)); rintro e W4 ⟨rfl, ba⟩)
            | (go_at_call 17; ((with_reducible refine (RK.out _).mono ?_)); rintro e W5 ⟨rfl, bb⟩))
          have b15 := NB.out.trans (ba.mono NB.out.size)
          have b16 := b15.trans (bb.mono b15.size)
          go_loop [17] (fun p => p = .int .i64 0) (fun _ => 0)
          case atStart => exact rfl
          case round =>
            subst hrel
            go_wp2_with (fail)
            go_ret
            exact ⟨rfl, b16⟩

set_option maxHeartbeats 8000000 in
set_option maxRecDepth 1000000 in
theorem keys_row_yes_yes (xs : List ByteArray) (n bk o c : Nat) (key : ByteArray) (m : Int) (w : World) (hn : xs.length = n) (hn12 : n ≤ 12) (hn1 : 1 ≤ n) (hc : n ≤ c) (hL : LiesAt w bk o xs) (hxm : ∀ x ∈ xs, x.size ≤ 9223372036854775807) (hkey : key.size ≤ 300) (hm : w.cell? ⟨0, 0, none⟩ = some (.int .i64 m)) (hr : rowB (texts xs) = true) (hkr : rowB (pieces [] key.data.toList) = true) :
    Calls Tryd.prog 4 #[.slice (some ⟨bk, o, none⟩) n c, .string key] w fun e w' => e = .returned (.bool true) ∧ Below w.heap.size w w' := by
  have C0 := Lib.hid (awake_any m w hm)
  have Hm := Lib.hid hm
  have Hn := Lib.hid hn
  have Hxm := Lib.hid hxm
  have HL0 := Lib.hid hL
  have Hr := Lib.hid hr
  obtain ⟨ys, hys⟩ : ∃ ys, texts ys = pieces [] key.data.toList := ⟨pcs key, (pcs_pieces key).2 hkr⟩
  obtain ⟨ny, hny⟩ : ∃ ny, ys.length = ny := ⟨_, rfl⟩
  have hny8 : ny ≤ 8 := by
    have h := row_len hkr
    rw [← hys, List.length_map, hny] at h
    exact h
  have CK := Lib.hid (fun W (h : W.cell? ⟨0, 0, none⟩ = some (.int .i64 m)) => cut_has key m W (by omega) h ys ny hys hny hkr)
  have RK := Lib.hid (fun W => rcut_has key W (by omega) ys ny hys hny hkr)
  have Hny := Lib.hid hny
  clear hkr hys hny
  clear hm hn hxm hL hr
  go_enter Tryd.func4, Tryd.ntmps4
  go_wp2_with (go_at_call 7; (refine (C0.out).mono ?_); rintro e W1 ⟨rfl, b1⟩)
  have HL := Lib.hid (HL0.out.below b1)
  go_loop [5] (fun p => ∃ k : Nat, p = .int .i64 k ∧ k ≤ n ∧ Hid (SizesTo xs k)) (fun p => n - (intOf p).toNat)
  case atStart => exact ⟨0, rfl, by omega, Lib.hid (fun j x h => by omega)⟩
  case round =>
    obtain ⟨k, rfl, hk, hsz⟩ := hrel
    by_cases hlt : k < n
    · obtain ⟨x, hxk⟩ : ∃ x, xs[k]? = some x := ⟨xs[k]'(by rw [Hn.out]; exact hlt), List.getElem?_eq_getElem _⟩
      have hcell := lies_cell HL.out hxk
      have hxs : x.size ≤ 9223372036854775807 := Hxm.out x (List.mem_of_getElem? hxk)
      have Hxk := Lib.hid hxk
      clear hxk
      by_cases hbig : 100 < x.size
      · go_wp2_with (fail)
        go_ret
        exact ⟨rfl, b1⟩
      · go_wp2_with (fail)
        go_round
        case rel =>
          refine ⟨k + 1, by go_num, by omega, Lib.hid (fun j y hj hy => ?_)⟩
          by_cases e : j = k
          · subst e
            have := hy.symm.trans Hxk.out
            injection this with this
            subst this
            omega
          · exact hsz.out j y (by omega) hy
        case measure => simp [intOf]; omega
    · have Hx : Hid (∀ x ∈ xs, x.size ≤ 100) := Lib.hid (fun x hx => by
        obtain ⟨j, hj⟩ := List.getElem?_of_mem hx
        have hlj := (List.getElem?_eq_some_iff.1 hj).1
        exact hsz.out j x (by have := Hn.out; omega) hj)
      have Hjl : Hid ((Lib.join (texts xs) [47]).length ≤ 140737488355328) := Lib.hid (by
        have h := join_len (texts xs) 100 (fun y hy => by
          obtain ⟨x, h1, rfl⟩ := List.mem_map.1 hy
          have e : x.data.toList.length = x.size := Array.length_toList
          have := Hx.out x h1
          omega)
        rw [List.length_map, Hn.out] at h
        omega)
      have CA := Lib.hid (fun W (h : LiesAt W bk o xs) => key_any xs n bk o c W Hn.out (by omega) hc h (fun x hx => by have := Hx.out x hx; omega) Hjl.out)
      have CB := Lib.hid (fun W (h : LiesAt W bk o xs) => rkey_any xs n bk o c W Hn.out (by omega) h (fun x hx => by have := Hx.out x hx; omega))
      unfold RKeyIs at CB
      rw [Hr.out] at CA CB
      have CC := Lib.hid (fun W (h : W.cell? ⟨0, 0, none⟩ = some (.int .i64 m)) => cut_back xs n m W h Hn.out Hr.out Hx.out hn12)
      generalize keyT (texts xs) = kt at CA CB CC
      go_wp2_with (first
        | (go_at_call 14; ((with_reducible refine (CA.out _ HL.out).mono ?_)); rintro e W2 ⟨rfl, b2⟩; have b12 := b1.trans (b2.mono b1.size))
        | (go_at_call 15; ((with_reducible refine (CB.out _ (HL.out.below b2)).mono ?_)); rintro e w' ⟨rfl, rfl⟩)
        | (go_at_call 16; ((with_reducible refine (CC.out _ (max_at Hm.out b12)).mono ?_)); rintro e W3 ⟨g0, cap0, rfl, L0', b3⟩; have L0 := Lib.hid L0'; clear L0'))
      have HLA := Lib.hid ((HL.out.below b2).below b3)
      have HBA := Lib.hid (b12.trans (b3.mono b12.size))
      go_loopw [12] (fun p wt => ∃ k : Nat, p = .int .i64 k ∧ k ≤ n ∧ Hid (LiesAt wt g0 0 xs) ∧ Hid (LiesAt wt bk o xs) ∧ Hid (Below w.heap.size w wt)) (fun p _ => n - (intOf p).toNat)
      case atStart => exact ⟨0, rfl, by omega, L0, HLA, HBA⟩
      case round =>
        obtain ⟨k2, rfl, hk2, N1, N2, NB⟩ := hrel
        by_cases hlt2 : k2 < n
        · obtain ⟨x, hxk⟩ : ∃ x, xs[k2]? = some x := ⟨xs[k2]'(by rw [Hn.out]; exact hlt2), List.getElem?_eq_getElem _⟩
          have q1 := lies_cell0 N1.out hxk
          have q2 := lies_cell N2.out hxk
          have q3 : (0 : Int) ≤ (k2 : Int) := by omega
          have q4 : (k2 : Int) < (n : Int) := by omega
          clear hxk
          go_wp2_with (fail)
          go_quiet (fail)
          go_wp2_with (fail)
          go_roundw
          case rel => exact ⟨k2 + 1, by go_num, by omega, Lib.hid (N1.out.drewN _), Lib.hid (N2.out.drewN _), Lib.hid (below_drewN NB.out _)⟩
          case measure => simp [intOf]; omega
        · go_wp2_with (first
            | (go_at_call 16; ((with_reducible refine (CK.out _ (max_at Hm.out NB.out)).mono ?_)); rintro e W4 ⟨g1, cap1, rfl, L1', ba⟩; have L1 := Lib.hid L1'; clear L1')
            | (go_at_call 17; ((with_reducible refine (RK.out _).mono ?_)); rintro e W5 ⟨g2, cap2, rfl, L2', bb⟩; have L2 := Lib.hid L2'; clear L2'))
          have b15 := NB.out.trans (ba.mono NB.out.size)
          have b16 := b15.trans (bb.mono b15.size)
          have HL1 := Lib.hid (L1.out.below bb)
          have HB := Lib.hid (b16)
          go_loopw [17] (fun p wt => ∃ k : Nat, p = .int .i64 k ∧ k ≤ ny ∧ Hid (LiesAt wt g1 0 ys) ∧ Hid (LiesAt wt g2 0 ys) ∧ Hid (Below w.heap.size w wt)) (fun p _ => ny - (intOf p).toNat)
          case atStart => exact ⟨0, rfl, by omega, HL1, L2, HB⟩
          case round =>
            obtain ⟨k, rfl, hk, M1, M2, MB⟩ := hrel
            by_cases hlt3 : k < ny
            · obtain ⟨x, hxk⟩ : ∃ x, ys[k]? = some x := ⟨ys[k]'(by rw [Hny.out]; exact hlt3), List.getElem?_eq_getElem _⟩
              have q1 := lies_cell0 M1.out hxk
              have q2 := lies_cell0 M2.out hxk
              have q3 : (0 : Int) ≤ (k : Int) := by omega
              have q4 : (k : Int) < (ny : Int) := by omega
              clear hxk
              go_wp2_with (fail)
              go_quiet (fail)
              go_wp2_with (fail)
              go_roundw
              case rel => exact ⟨k + 1, by go_num, by omega, Lib.hid (M1.out.drewN _), Lib.hid (M2.out.drewN _), Lib.hid (below_drewN MB.out _)⟩
              case measure => simp [intOf]; omega
            · go_wp2_with (fail)
              go_ret
              exact ⟨rfl, MB.out⟩
end Go.Proofs.YtcnpgoblojmbmaaDoor
