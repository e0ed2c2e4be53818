/-
  What the program's records hands over: the records of the whole part, one behind the other, each payload in memory of its own.
  Conditions: the bytes lie in memory that was there; they are at most 2^40.
-/
import Derived.Test.YtohnhboeipckjaaGreatDoorRange
import Derived.Test.YtohnhboeipckjaaGreatDoorRecGot
namespace Go.Proofs.YtohnhboeipckjaaGreatDoor
open Go.RowKit Go.Shelf
attribute [local go_sem] Oper.semAt_some

/-- an element that is handed over: where its form ends, and its payload -/
structure El where
  fin : Nat
  A : Option Addr
  c : Nat
  l : List UInt8
/-- its two values -/
def El.vals (x : El) : Array Value := #[.int .i64 (x.fin : Int), .slice x.A x.l.length x.c]
/-- its payload's value -/
def El.val (x : El) : Value := .slice x.A x.l.length x.c
/-- where the last one ends -/
def finOf (xs : List El) : Nat := match xs.getLast? with | none => 0 | some x => x.fin
theorem finOf_nil : finOf [] = 0 := rfl
theorem finOf_snoc (xs : List El) (x : El) : finOf (xs ++ [x]) = x.fin := by simp [finOf]
/-- the payload lies in memory of its own, from block B on -/
def Pay (W : World) (B : Nat) (x : El) : Prop := W.ownsRow B 5 1 x.val x.l.length (cellsB x.l)
/-- what is told of an element where it is handed over -/
def Gives (b : List UInt8) (B : Nat) (pre : List El) (x : El) (W : World) : Prop := Rds b ((pre ++ [x]).map El.l) x.fin ∧ Pay W B x
/-- what a round keeps: what lay below B, and the block Bb -/
def KeepB (B Bb : Nat) (W W' : World) : Prop := Below B W W' ∧ ∀ o, W.heap[Bb]? = some o → W'.heap[Bb]? = some o
theorem below_grown {w w' : World} (h : Below w.heap.size w w') : w.grownBy w' none := ⟨h.os, h.tape, h.output, h.size, fun k hk _ => h.block k hk⟩

set_option maxRecDepth 100000 in
set_option maxHeartbeats 2000000 in
theorem iter_in (n : Nat) (hn : 1 ≤ n) (l Bb n₀ : Nat) (A : Option Addr) (b : List UInt8) (c : Nat) (J : List El → World → Prop) (W0 : World) (hJ : AbidesFrom W0.heap.size J)
    (hY : ∀ pre x W1, J pre W1 → Gives b n₀ pre x W1 → YieldAt Fence.wide (n - 1) Tryz.prog l x.vals W1 fun e W' => e = .returned (.bool true) ∧ J (pre ++ [x]) W' ∧ KeepB n₀ Bb W1 W')
    (hbox : W0.heap[Bb]? = some (.cells #[.slice A b.length c] 31 (0, 0))) (hby : Byt W0 n₀ A b) (hn₀ : n₀ ≤ W0.heap.size) (hc : b.length ≤ c) (hlen : b.length ≤ 1099511627776) (h0 : J [] W0) :
    CallsIn Fence.wide n Tryz.prog 109 #[.func (.yield l) #[] #[], .pointer (some ⟨Bb, 0, none⟩)] W0 fun e W' => (∃ v, e = .returned v) ∧ ∃ xs, Whole b (xs.map El.l) (finOf xs) ∧ J xs W' := by
  refine callsIn_of_wp Tryz.func109 rfl trivial ?_ rfl
  simp only [Tryz.ntmps109, List.size_toArray, List.length_cons, List.length_nil, Nat.reduceAdd, Nat.reduceSub, Array.replicate_succ, Array.replicate_zero, List.push_toArray, List.append_toArray, List.nil_append, List.cons_append]
  gi_wp2
  gi_loopw [3] (fun p wr => ∃ (pre : List El) (k : Nat), p = .int .i64 k ∧ Rds b (pre.map El.l) k ∧ finOf pre = k ∧ J pre wr ∧ wr.heap[Bb]? = some (.cells #[.slice A b.length c] 31 (0, 0)) ∧ Byt wr n₀ A b ∧ n₀ ≤ wr.heap.size)
    (fun p _ => b.length + 1 - (intOf p).toNat)
  case atStart => exact ⟨[], 0, rfl, Rds.start _, rfl, h0, hbox, hby, hn₀⟩
  case round =>
    obtain ⟨pre, k, rfl, hrd, hfin, hJs, hbx, hbw, hnw⟩ := hrel
    have hkl := hrd.le
    have hcell : wr.cell? ⟨Bb, 0, none⟩ = some (.slice A b.length c) := Boxed.cell hbx
    have HG := Lib.hid (get_any A b c k wr (hbw.more hnw) hkl hc hlen)
    clear hbox hby h0
    by_cases hz : getE (b.drop k) = 0
    · have hnx := hrd.snoc hz
      have hN := getN_yes hz
      have hNl := getN_le hz
      rw [List.length_drop] at hNl
      unfold GotIs at HG
      rw [hz] at HG
      have hNp : 13 ≤ getN (b.drop k) := by omega
      generalize getN (b.drop k) = N at *
      generalize getP (b.drop k) = p at *
      clear hN hz
      have HX := Lib.hid hnx
      have HF := Lib.hid hfin
      have HB := Lib.hid hbw
      have HJ : Hid (∀ W1, Below wr.heap.size wr W1 → J pre W1) := fun W1 h => hJ pre wr W1 none hJs (below_grown h) (fun r e => by cases e)
      have HY : Hid (∀ A1 c1 W1, Below wr.heap.size wr W1 → W1.ownsRow wr.heap.size 5 1 (.slice A1 p.length c1) p.length (cellsB p) → YieldAt Fence.wide (n - 1) Tryz.prog l #[.int .i64 ((k : Int) + (N : Int)), .slice A1 p.length c1] W1 fun e W' =>
          e = .returned (.bool true) ∧ J (pre ++ [⟨k + N, A1, c1, p⟩]) W' ∧ KeepB n₀ Bb W1 W') := fun A1 c1 W1 h ho => by
        have h2 := hY pre ⟨k + N, A1, c1, p⟩ W1 (HJ.out W1 h) ⟨by simpa using HX.out, own_base' ho hnw⟩
        simp only [El.vals, Int.natCast_add] at h2
        exact h2
      clear hnx hfin hrd hbw hJs HF
      gi_wp2_with (refine ⟨trivial, ?_⟩; gi_at_call 110; refine (callsIn_wide.2 HG.out).mono ?_; rintro e W1 ⟨v, rfl, hown, b1⟩; obtain ⟨A1, c1, rfl, _⟩ := own_form hown; obtain ⟨fn, tmps, asg, bdy, hy, hR⟩ := HY.out A1 c1 W1 b1 hown; clear hown)
      refine hR.mono ?_
      rintro e W3 ⟨rfl, hJ3, hk3⟩
      have hb3 := hk3.2 _ ((b1.block Bb (Boxed.lt hbx)).trans hbx)
      have hbw3 := (HB.out.below (b1.mono hnw)).below hk3.1
      have hs3 : n₀ ≤ W3.heap.size := Nat.le_trans (Nat.le_trans hnw b1.size) hk3.1.size
      gi_wp2
      go_roundw
      case rel => exact ⟨pre ++ [⟨k + N, A1, c1, p⟩], k + N, by go_num, by simpa using HX.out, finOf_snoc _ _, hJ3, hb3, hbw3, hs3⟩
      case measure => simp [intOf]; omega
    · have hle := getE_le (b.drop k)
      have hN := getN_no hz
      have HW : Hid (Whole b (pre.map El.l) (finOf pre)) := by rw [hfin]; exact ⟨hrd, hz⟩
      unfold GotIs at HG
      rw [hN] at HG
      have hpos : 0 < getE (b.drop k) := by omega
      generalize getE (b.drop k) = e0 at *
      have HJ : Hid (∀ W1, Below wr.heap.size wr W1 → J pre W1) := fun W1 h => hJ pre wr W1 none hJs (below_grown h) (fun r e => by cases e)
      clear hfin hrd hbw hJs hz hN
      gi_wp2_with (refine ⟨trivial, ?_⟩; gi_at_call 110; refine (callsIn_wide.2 HG.out).mono ?_; rintro e W1 ⟨v, rfl, hown, b1⟩; clear hown)
      refine ⟨fun _ h => (by cases h), ?_⟩
      gi_wp2
      refine bodyPost_ret (results_none rfl _ _ _) rfl ?_
      exact ⟨⟨_, rfl⟩, pre, HW.out, HJ.out W1 b1⟩
end Go.Proofs.YtohnhboeipckjaaGreatDoor
