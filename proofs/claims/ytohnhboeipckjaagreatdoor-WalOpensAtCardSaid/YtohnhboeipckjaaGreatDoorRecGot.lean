/-
  What the program's Get answers: the record at a place of bytes, or what is wrong with it.
  Conditions: the bytes lie in memory that was there; they are at most 2^40.
-/
import Derived.Test.YtohnhboeipckjaaGreatDoorRecGet
namespace Go.Proofs.YtohnhboeipckjaaGreatDoor
open Go.RowKit

/-- the payload in memory of its own -/
def GotIs (w : World) (m : List UInt8) (e : Ending) (w' : World) : Prop :=
  ∃ v, e = .returned (.tuple #[v, .int .i64 (getN m : Nat), .int .i64 (getE m : Nat)]) ∧ w'.ownsRow w.heap.size 5 1 v (getP m).length (cellsB (getP m)) ∧ Below w.heap.size w w'
theorem gotIs_no {w w' : World} {m : List UInt8} {n : Nat} (h : getE m = n) (hn : n ≠ 0) (hB : Below w.heap.size w w') : GotIs w m (.returned (.tuple #[.slice none 0 0, .int .i64 0, .int .i64 (n : Int)])) w' := by
  refine ⟨.slice none 0 0, ?_, ?_, hB⟩
  · rw [getN_no (by omega), h]; rfl
  · rw [getP_no (by omega)]; exact World.ownsRow_nil _ _ _ _

theorem own_base' {w : World} {base base' : Nat} {e : TypeId} {v : Value} {n : Nat} {xs : List Value} (h : w.ownsRow base e 1 v n xs) (hb : base' ≤ base) : w.ownsRow base' e 1 v n xs := by
  refine ⟨h.1, ?_⟩
  rcases h.2 with h1 | ⟨g, cap, cur, hv, hg, r⟩
  · exact .inl h1
  · exact .inr ⟨g, cap, cur, hv, by omega, r⟩

set_option maxHeartbeats 1000000 in
theorem get_arg (A : Option Addr) (n c : Nat) (i : Int) (w : World) (h : i < 0 ∨ (n : Int) < i) :
    Calls Tryz.prog 110 #[.slice A n c, .int .i64 i] w fun e w' => e = .returned (.tuple #[.slice none 0 0, .int .i64 0, .int .i64 1]) ∧ w = w' := by
  by_cases h0 : i < 0
  · have hd : decide (i < 0) = true := by simpa using h0
    clear h
    go_enter Tryz.func110, Tryz.ntmps110
    go_wp2
    go_ret3
    exact ⟨rfl, rfl⟩
  · have hd : decide (i < 0) = false := by simp; omega
    have h1 : (n : Int) < i := by omega
    clear h
    go_enter Tryz.func110, Tryz.ntmps110
    go_wp2
    go_ret3
    exact ⟨rfl, rfl⟩

set_option maxHeartbeats 2000000 in
set_option maxRecDepth 100000 in
theorem get_any (A : Option Addr) (l : List UInt8) (c i : Nat) (w : World) (hb : Byt w w.heap.size A l) (hi : i ≤ l.length) (hc : l.length ≤ c) (hl : l.length ≤ 1099511627776) :
    Calls Tryz.prog 110 #[.slice A l.length c, .int .i64 (i : Int)] w (GotIs w (l.drop i)) := by
  have c1 := run_cut_from (P := Tryz.prog) w 31 5 Tryz.underlying31 sizeOf5 A l.length c (i : Int) (by omega) (by omega)
  have hb2 := hb.drop (n := i) hc
  simp only [Int.toNat_natCast] at c1
  have hd : decide ((i : Int) < 0) = false := by simp
  have hd2 : decide ((l.length : Int) < (i : Int)) = false := by simp; omega
  have hm : (l.drop i).length = l.length - i := List.length_drop
  generalize (if c = i then A else A.map (·.add i)) = A2 at hb2 c1
  generalize l.drop i = m at *
  rw [← hm] at c1
  have hc2 : m.length ≤ c - i := by omega
  have hl2 : m.length ≤ 1099511627776 := by omega
  generalize c - i = c2 at *
  clear hb hm
  have HP := Lib.hid (pay_any A2 m c2 w hb2 hc2 hl2)
  by_cases hz : headE m = 0
  · obtain ⟨h9, hmax, _, _⟩ := headE_zero hz
    obtain ⟨b, o, rfl, hbl, _⟩ := hb2.get (show 0 < m.length by omega)
    have e : paySize m = .returned (.tuple #[.int .i64 (lenB m : Int), .int .i64 0]) := by unfold paySize; rw [hz, if_pos rfl]; rfl
    rw [e] at HP
    clear e
    have hsz := sizeI_nat hmax
    by_cases hsh : m.length < 13 + lenB m
    · have HN := Lib.hid (show getE m = 2 by unfold getE; rw [if_neg (by simpa using hz), if_pos hsh])
      clear hz hb2
      generalize lenB m = n at *
      go_enter Tryz.func110, Tryz.ntmps110
      go_wp2_with (first
        | (go_at_call 122; refine HP.out.mono ?_; rintro e W1 ⟨rfl, b1⟩)
        | (go_at_call 50; refine (size_any _ _).mono ?_; rw [hsz]; rintro e W2 ⟨rfl, rfl⟩))
      go_ret3
      exact gotIs_no (n := 2) HN.out (by decide) b1
    · have hcut : ∀ w, (Instr.slice 31 (.slice (some ⟨b, o, none⟩) m.length c2) (some (.int .i64 9)) (some (.int .i64 (9 + (lenB m : Int)))) none).run Tryz.prog w = .ok (.slice (some ⟨b, o + 9, none⟩) (lenB m) (c2 - 9)) w := fun w => by
        have h := run_cut_pq w b o m.length c2 9 (9 + (lenB m : Int)) (by omega) (by omega) (by omega)
        rw [show (9 + (lenB m : Int)).toNat - 9 = lenB m by omega] at h
        exact h
      have hpl : (payL m).length = lenB m := payL_len (by omega)
      have hbp : Byt w w.heap.size (some ⟨b, o + 9, none⟩) (payL m) := by
        have h := (hb2.drop (n := 9) (show m.length ≤ m.length by omega)).take (lenB m)
        by_cases h9e : m.length = 9
        · exact absurd h9e (by omega)
        · rw [if_neg h9e] at h
          exact h
      have HW : Hid (∀ W, Below w.heap.size w W → Calls Tryz.prog 124 #[.slice (some ⟨b, o, none⟩) m.length c2, .int .i64 (9 + (lenB m : Int))] W fun e w' => e = .returned (.int .u32 (valB ((m.drop (9 + lenB m)).take 4) : Nat)) ∧ W = w') := fun W h => by
        have h := wordAt_any (some ⟨b, o, none⟩) m c2 (9 + lenB m) W ((hb2.below h).more h.size) (by omega) hc2 hl2
        rw [show ((9 + lenB m : Nat) : Int) = 9 + (lenB m : Int) by omega] at h
        exact h
      have HF : Hid (∀ W, Below w.heap.size w W → Calls Tryz.prog 123 #[.slice (some ⟨b, o + 9, none⟩) (lenB m) (c2 - 9), .int .u32 (valB ((m.drop (9 + lenB m)).take 4) : Nat)] W fun e w' => e = .returned (.bool (fitB (payL m) (valB ((m.drop (9 + lenB m)).take 4)))) ∧ Below w.heap.size w w') := fun W h => by
        have hf := sumFits_any (some ⟨b, o + 9, none⟩) (payL m) (c2 - 9) (valB ((m.drop (9 + lenB m)).take 4)) W ((hbp.below h).more h.size) (by omega)
        rw [hpl] at hf
        exact hf.mono fun e w' ⟨he, h2⟩ => ⟨he, h.trans (h2.mono h.size)⟩
      have HC : Hid (∀ W, Below w.heap.size w W → Calls Tryz.prog 42 #[.slice (some ⟨b, o + 9, none⟩) (lenB m) (c2 - 9)] W fun e w' => ∃ v, e = .returned v ∧ w'.ownsRow W.heap.size 5 1 v (lenB m) (cellsB (payL m)) ∧ Below w.heap.size w w') := fun W h => by
        have hf := clone_anyS (some ⟨b, o + 9, none⟩) (payL m) (c2 - 9) W ((hbp.below h).more h.size) (by omega)
        rw [hpl] at hf
        exact hf.mono fun e w' ⟨v, he, ho, h2⟩ => ⟨v, he, ho, h.trans (h2.mono h.size)⟩
      have HZ := Lib.hid hz
      have HL := Lib.hid hpl
      clear hz hb2 hpl hbp
      cases hf : fitB (payL m) (valB ((m.drop (9 + lenB m)).take 4)) with
      | false =>
        rw [hf] at HF
        have HN := Lib.hid (show getE m = 5 by unfold getE; rw [if_neg (by simpa using HZ.out), if_neg hsh, if_pos (by simpa [fitB] using hf)])
        clear hf HC
        generalize valB ((m.drop (9 + lenB m)).take 4) = s at *
        generalize lenB m = n at *
        go_enter Tryz.func110, Tryz.ntmps110
        go_wp2_with (first
          | (go_at_call 122; refine HP.out.mono ?_; rintro e W1 ⟨rfl, b1⟩)
          | (go_at_call 50; refine (size_any _ _).mono ?_; rw [hsz]; rintro e W2 ⟨rfl, rfl⟩)
          | (go_at_call 124; (with_reducible refine (HW.out _ b1).mono ?_); rintro e W3 ⟨rfl, rfl⟩)
          | (go_at_call 123; (with_reducible refine (HF.out _ b1).mono ?_); rintro e W4 ⟨rfl, b4⟩))
        go_ret3
        exact gotIs_no (n := 5) HN.out (by decide) b4
      | true =>
        rw [hf] at HF
        have HN := Lib.hid (show getE m = 0 by unfold getE; rw [if_neg (by simpa using HZ.out), if_neg hsh, if_neg (by simpa [fitB] using hf)])
        clear hf
        have HQ := Lib.hid (getN_yes HN.out)
        generalize valB ((m.drop (9 + lenB m)).take 4) = s at *
        generalize hn : lenB m = n at *
        clear hn
        go_enter Tryz.func110, Tryz.ntmps110
        go_wp2_with (first
          | (go_at_call 122; refine HP.out.mono ?_; rintro e W1 ⟨rfl, b1⟩)
          | (go_at_call 50; refine (size_any _ _).mono ?_; rw [hsz]; rintro e W2 ⟨rfl, rfl⟩)
          | (go_at_call 124; (with_reducible refine (HW.out _ b1).mono ?_); rintro e W3 ⟨rfl, rfl⟩)
          | (go_at_call 123; (with_reducible refine (HF.out _ b1).mono ?_); rintro e W4 ⟨rfl, b4⟩)
          | (go_at_call 42; (with_reducible refine (HC.out _ b4).mono ?_); rintro e W5 ⟨v, rfl, hown, b5⟩))
        go_ret3
        refine ⟨v, ?_, ?_, b5⟩
        · rw [HQ.out, HN.out]; rfl
        · rw [getP_yes HN.out, HL.out]
          exact own_base' hown b4.size
  · have HN := Lib.hid (show getE m = headE m by unfold getE; rw [if_pos hz])
    have hle := headE_le m
    have hnz : 0 < headE m := by omega
    rw [paySize_no rfl hz] at HP
    generalize headE m = n at *
    clear hz hb2
    go_enter Tryz.func110, Tryz.ntmps110
    go_wp2_with (go_at_call 122; refine HP.out.mono ?_; rintro e W1 ⟨rfl, b1⟩)
    go_ret3
    exact gotIs_no HN.out (by omega) b1
end Go.Proofs.YtohnhboeipckjaaGreatDoor
