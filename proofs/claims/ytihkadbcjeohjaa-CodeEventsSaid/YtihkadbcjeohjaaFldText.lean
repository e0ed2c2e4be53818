/-
  What the reader's Text answers, and what the reader is then.
  Conditions: the reader is one of bytes, at most 2^40.
-/
import Derived.Test.YtihkadbcjeohjaaFldCount
namespace Go.Proofs.Ytihkadbcjeohjaa
open Go.RowKit

/-- the error of Text, and its text -/
def txtE (l : List UInt8) (pos : Nat) (most : Int) : Nat :=
  if numE l pos ≠ 0 then numE l pos else if most < numN l pos then 4 else if (l.length : Int) - pos - 8 < numN l pos then 2 else 0
def txtA (l : List UInt8) (pos er : Nat) (most : Int) : List UInt8 := if okB er (txtE l pos most) = true then (l.drop (pos + 8)).take (numN l pos) else []
theorem txtA_zero {l : List UInt8} {pos er e0 : Nat} {most : Int} (h : txtE l pos most = e0) (h0 : okB er e0 = false) : txtA l pos er most = [] := by
  unfold txtA; rw [h, h0]; rfl
theorem txtA_txt {l : List UInt8} {pos er : Nat} {most : Int} (h : txtE l pos most = 0) (h0 : okB er 0 = true) : txtA l pos er most = (l.drop (pos + 8)).take (numN l pos) := by
  unfold txtA; rw [h, h0]; rfl

/-- the text of b[q-n:q] -/
theorem cut_text (w : World) (g c q n : Nat) (A : Option Addr) (l : List UInt8) (hb : Byt w g A l) (hn : n ≤ q) (hq : q ≤ l.length) (hc : l.length ≤ c) :
    ∃ A2 c2, (∀ w, (Instr.slice 25 (.slice A l.length c) (some (.int .i64 ((q : Int) - (n : Int)))) (some (.int .i64 (q : Int))) none).run Try.prog w = .ok (.slice A2 n c2) w) ∧
      ∀ m, (convert 25 9 (.slice A2 n c2)).run Try.prog (w.drewN m) = .ok (.string ⟨((l.drop (q - n)).take n).toArray⟩) (w.drewN m) := by
  have ht' : Try.prog.underlying 25 = some (.slice (Try.prog.elem 25)) := by simp [Program.elem, Try.underlying25]
  have he : Try.prog.elem 25 = 5 := by simp [Program.elem, Try.underlying25]
  refine ⟨if c = q - n then A else A.map (·.add (q - n)), c - (q - n), fun w => ?_, fun m => ?_⟩
  · rw [run_slice_lh w 25 _ _ _ ht' .i64 .i64 _ _ (by omega) (by omega) (by omega), he, sizeOf5]
    simp only [Result.andThen, sliced, Nat.mul_one]
    rw [show ((q : Int) - (n : Int)).toNat = q - n by omega, show (q : Int).toNat = q by omega, show q - (q - n) = n by omega]
  · have hB : Byt (w.drewN m) g A l := hb
    have hT := ((hB.drop (n := q - n) (c := c) hc).take n).text (P := Try.prog) 25 5 9 Try.underlying25 Try.underlying5 Try.underlying9 (c - (q - n))
    rw [show ((l.drop (q - n)).take n).length = n by simp; omega] at hT
    exact hT

set_option maxHeartbeats 1000000 in
theorem rtext_any (g pos on er : Nat) (most : Int) (l : List UInt8) (w : World) (h : Rd w g l pos on er) :
    Calls Try.prog 75 #[.pointer (some ⟨g, 0, none⟩), .int .i64 most] w fun e w' =>
      e = .returned (.string ⟨(txtA l pos er most).toArray⟩) ∧ Rd w' g l (nxP pos er (8 + numN l pos) (txtE l pos most)) (nxO pos on er (txtE l pos most)) (nxE er (txtE l pos most)) ∧ w.grownBy w' (some g) := by
  have H1 := Lib.hid (next_any g pos on er l w h)
  have H2 : ∀ (m e0 : Nat), (er = 0 → e0 = 0 → pos + (8 + numN l pos) ≤ l.length) → Calls Try.prog 74 #[.pointer (some ⟨g, 0, none⟩), .int .i64 (8 + (numN l pos : Nat)), .int .i64 (e0 : Nat)] (w.drewN m) fun e w' =>
      e = .returned (.bool (okB er e0)) ∧ Rd w' g l (nxP pos er (8 + numN l pos) e0) (nxO pos on er e0) (nxE er e0) ∧ (w.drewN m).grownBy w' (some g) := fun m e0 hh => by
    have hq : (8 + (numN l pos : Int)).toNat = 8 + numN l pos := by omega
    have := take_any g pos on er e0 (8 + (numN l pos : Nat)) l (w.drewN m) (h.drewN m) (by omega) (by rw [hq]; exact hh)
    rw [hq] at this
    exact this
  have HD : Hid (txtE l pos most = if numE l pos ≠ 0 then numE l pos else if most < numN l pos then 4 else if (l.length : Int) - pos - 8 < numN l pos then 2 else 0) := rfl
  have H3 : ∀ (m k : Nat), pos + k = l.length → Calls Try.prog 83 #[.pointer (some ⟨g, 0, none⟩)] (w.drewN m) fun e w' => e = .returned (.int .i64 (k : Int)) ∧ ∃ n, w' = (w.drewN m).drewN n := fun m k hk => by
    obtain ⟨A, c, hc, hb, hby⟩ := h.box
    exact left_any g l.length c pos k A (w.drewN m) ((hb.drewN m).cell 0) ((hb.drewN m).cell 1) hk h.small
  have hsm := h.small
  have hN4 := numN_le l pos
  by_cases hE : numE l pos = 0
  · have hlen := numE_len hE
    obtain ⟨k, hk⟩ : ∃ k, pos + k = l.length := ⟨l.length - pos, by omega⟩
    have HL := Lib.hid (fun m => H3 m k hk)
    have hA0 := fun e0 (a : txtE l pos most = e0) (b : okB er e0 = false) => txtA_zero a b
    have hA1 := fun (a : txtE l pos most = 0) (b : okB er 0 = true) => txtA_txt (er := er) a b
    have HC : Hid (txtE l pos most = if most < numN l pos then 4 else if (k : Int) - 8 < numN l pos then 2 else 0) := by
      have := HD.out
      rw [if_neg (by simpa using hE), show ((l.length : Int) - pos - 8) = (k : Int) - 8 by omega] at this
      exact this
    have hk8 : 8 ≤ k := by omega
    have hk9 : k ≤ 1099511627776 := by omega
    have HA0 := Lib.hid hA0
    have HA1 := Lib.hid hA1
    have HT := Lib.hid H2
    have HLK := Lib.hid hk
    rw [hE] at H1
    obtain ⟨N, hN⟩ : ∃ N, N = numN l pos := ⟨_, rfl⟩
    rw [← hN] at H1 HC HA1 hN4 HT ⊢
    clear hN hE hk hA0 hA1 H2 H3 HD hlen
    by_cases hm : most < N
    · have hc := HC.out
      rw [if_pos hm] at hc
      have hz := HA0.out 4 hc (ok_no (by omega))
      have HH := Lib.hid (fun m => HT.out m 4 (fun _ x => absurd x (by omega)))
      rw [ok_no (by omega)] at HH
      rw [hc, hz]
      clear hc hz HC HA0 HA1 HT HL hsm h
      go_enter Try.func75, Try.ntmps75
      go_wp2_with (first
        | (go_at_call 73; refine H1.out.mono ?_; rintro e w' ⟨rfl, m, rfl⟩)
        | (go_at_call 74; refine (HH.out _).mono ?_; rintro e w' ⟨rfl, hR, hG⟩))
      go_ret
      exact ⟨rfl, hR, only_trans (only_drewN (World.grownBy.refl _ _) _) hG⟩
    · have hc := HC.out
      rw [if_neg hm] at hc
      clear HC
      by_cases hq : (k : Int) - 8 < N
      · rw [if_pos hq] at hc
        have hz := HA0.out 2 hc (ok_no (by omega))
        have HH := Lib.hid (fun m => HT.out m 2 (fun _ x => absurd x (by omega)))
        rw [ok_no (by omega)] at HH
        rw [hc, hz]
        clear hc hz HA0 HA1 HT hsm h
        go_enter Try.func75, Try.ntmps75
        go_wp2_with (first
          | (go_at_call 73; refine H1.out.mono ?_; rintro e w' ⟨rfl, m, rfl⟩)
          | (go_at_call 83; refine (HL.out _).mono ?_; rintro e w' ⟨rfl, m2, rfl⟩)
          | (go_at_call 74; refine (HH.out _).mono ?_; rintro e w' ⟨rfl, hR, hG⟩))
        go_ret
        exact ⟨rfl, hR, only_trans (only_drewN (World.grownBy.refl _ _) _) hG⟩
      · rw [if_neg hq] at hc
        have hfit : pos + (8 + N) ≤ l.length := by have := HLK.out; omega
        have HH := Lib.hid (fun m => HT.out m 0 (fun _ _ => hfit))
        cases hok : okB er 0 with
        | false =>
          have hz := HA0.out 0 hc hok
          rw [hok] at HH
          rw [hc, hz]
          clear hc hz hok HA0 HA1 HT hsm h hfit
          go_enter Try.func75, Try.ntmps75
          go_wp2_with (first
            | (go_at_call 73; refine H1.out.mono ?_; rintro e w' ⟨rfl, m, rfl⟩)
            | (go_at_call 83; refine (HL.out _).mono ?_; rintro e w' ⟨rfl, m2, rfl⟩)
            | (go_at_call 74; refine (HH.out _).mono ?_; rintro e w' ⟨rfl, hR, hG⟩))
          go_ret
          exact ⟨rfl, hR, only_trans (only_drewN (World.grownBy.refl _ _) _) hG⟩
        | true =>
          have hz := HA1.out hc hok
          obtain ⟨rfl, _⟩ := ok_of hok
          rw [hok] at HH
          rw [hc, hz]
          have hP : nxP pos 0 (8 + N) 0 = pos + (8 + N) := by simp [nxP]
          rw [hP] at HH ⊢
          obtain ⟨q, hq'⟩ : ∃ q, q = pos + (8 + N) := ⟨_, rfl⟩
          rw [← hq'] at HH hfit ⊢
          have hqN : N ≤ q := by omega
          have hqs : q ≤ 1099511627776 := by omega
          have HQ := Lib.hid hq'
          clear hc hz hok HA0 HA1 HT hP hq' h
          go_enter Try.func75, Try.ntmps75
          go_wp2_with (first
            | (go_at_call 73; refine H1.out.mono ?_; rintro e w' ⟨rfl, m, rfl⟩)
            | (go_at_call 83; refine (HL.out _).mono ?_; rintro e w' ⟨rfl, m2, rfl⟩)
            | (go_at_call 74; refine (HH.out _).mono ?_; rintro e w' ⟨rfl, hR, hG⟩))
          obtain ⟨A, c, hc, hb, hby⟩ := hR.box
          obtain ⟨A2, c2, hcut, hconv⟩ := cut_text w' g c q N A l hby hqN hfit hc
          have c0 : w'.cell? ⟨g, 0, none⟩ = some (.slice A l.length c) := hb.cell 0
          have c1 : w'.cell? ⟨g, 1, none⟩ = some (.int .i64 (q : Int)) := hb.cell 1
          go_quiet (fail)
          go_wp2
          go_ret
          refine ⟨?_, hR.drewN _, only_drewN (only_trans (only_drewN (World.grownBy.refl _ _) _) hG) _⟩
          rw [show q - N = pos + 8 by have := HQ.out; omega]
          rfl
  · have hc := HD.out
    rw [if_pos hE] at hc
    have hz := txtA_zero hc (er := er) (ok_no hE)
    have HH := Lib.hid (fun m => H2 m (numE l pos) (fun _ x => absurd x hE))
    rw [ok_no hE] at HH
    rw [hc, hz]
    clear hc hz HD H2 H3 h
    obtain ⟨N, hN⟩ : ∃ N, N = numN l pos := ⟨_, rfl⟩
    obtain ⟨E, hE'⟩ : ∃ E, E = numE l pos := ⟨_, rfl⟩
    rw [← hN] at H1 HH hN4 ⊢
    rw [← hE'] at H1 HH hE ⊢
    clear hN hE'
    have hb0 : ((E : Int) == 0) = false := by simpa using hE
    have hb1 : ((E : Int) != 0) = true := by simpa using hE
    go_enter Try.func75, Try.ntmps75
    go_wp2_with (first
      | (go_at_call 73; refine H1.out.mono ?_; rintro e w' ⟨rfl, m, rfl⟩)
      | (go_at_call 74; refine (HH.out _).mono ?_; rintro e w' ⟨rfl, hR, hG⟩))
    go_ret
    exact ⟨rfl, hR, only_trans (only_drewN (World.grownBy.refl _ _) _) hG⟩
end Go.Proofs.Ytihkadbcjeohjaa
