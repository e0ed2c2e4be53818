/-
  What the reader's Count and Text answer, and what the reader is then.
  Conditions: the reader is one of bytes, at most 2^40.
-/
import Derived.Test.YtihkadbcjeohjaaFldRead
namespace Go.Proofs.Ytihkadbcjeohjaa
open Go.RowKit

/-- the error of Count -/
def cntE (l : List UInt8) (pos : Nat) (most least : Int) : Nat :=
  if numE l pos ≠ 0 then numE l pos else if most < numN l pos then 4 else if ((l.length : Int) - pos - 8) / (if least < 1 then 1 else least) < numN l pos then 2 else 0
def cntA (l : List UInt8) (pos er : Nat) (most least : Int) : Nat := if okB er (cntE l pos most least) = true then numAt l pos else 0
theorem numN_of {l : List UInt8} {pos : Nat} (h : numE l pos = 0) : numN l pos = numAt l pos := by unfold numN; rw [if_pos h]
theorem numE_len {l : List UInt8} {pos : Nat} (h : numE l pos = 0) : pos + 8 ≤ l.length := by
  rcases numE_cases l pos with ⟨h1, _⟩ | ⟨h1, _⟩ | ⟨_, h2, _⟩ <;> omega

/-- a call that tells 0: the number's own error, or one of its own -/
theorem cntA_zero {l : List UInt8} {pos er e0 : Nat} {most least : Int} (h : cntE l pos most least = e0) (h0 : okB er e0 = false) : cntA l pos er most least = 0 := by
  unfold cntA; rw [h, h0]; rfl
theorem cntA_num {l : List UInt8} {pos er : Nat} {most least : Int} (h : cntE l pos most least = 0) (he : numE l pos = 0) (h0 : okB er 0 = true) : cntA l pos er most least = numN l pos := by
  unfold cntA; rw [h, h0, numN_of he]; rfl
theorem ok_no {er e0 : Nat} (h : e0 ≠ 0) : okB er e0 = false := by simp [okB, h]

set_option maxHeartbeats 1000000 in
theorem rcount_any (g pos on er : Nat) (most least : Int) (l : List UInt8) (w : World) (h : Rd w g l pos on er) (hl0 : -9223372036854775808 ≤ least) (hl1 : least ≤ 9223372036854775807) :
    Calls Try.prog 60 #[.pointer (some ⟨g, 0, none⟩), .int .i64 most, .int .i64 least] w fun e w' =>
      e = .returned (.int .i64 (cntA l pos er most least : Nat)) ∧ Rd w' g l (nxP pos er 8 (cntE l pos most least)) (nxO pos on er (cntE l pos most least)) (nxE er (cntE l pos most least)) ∧ w.grownBy w' (some g) := by
  have H1 := Lib.hid (next_any g pos on er l w h)
  have hle : ∀ e0 : Nat, er = 0 → e0 = 0 → (numE l pos ≠ 0 → e0 ≠ 0) → pos + 8 ≤ l.length := fun e0 _ he hh => by
    by_cases hz : numE l pos = 0
    · exact numE_len hz
    · exact absurd he (hh hz)
  have H2 : ∀ (m e0 : Nat), (numE l pos ≠ 0 → e0 ≠ 0) → Calls Try.prog 74 #[.pointer (some ⟨g, 0, none⟩), .int .i64 8, .int .i64 (e0 : Nat)] (w.drewN m) fun e w' =>
      e = .returned (.bool (okB er e0)) ∧ Rd w' g l (nxP pos er 8 e0) (nxO pos on er e0) (nxE er e0) ∧ (w.drewN m).grownBy w' (some g) := fun m e0 hh => take_any g pos on er e0 8 l (w.drewN m) (h.drewN m) (by omega) (fun a b => hle e0 a b hh)
  have HD : Hid (cntE l pos most least = if numE l pos ≠ 0 then numE l pos else if most < numN l pos then 4 else if ((l.length : Int) - pos - 8) / (if least < 1 then 1 else least) < numN l pos then 2 else 0) := rfl
  have H3 : ∀ (m k : Nat), pos + k = l.length → Calls Try.prog 83 #[.pointer (some ⟨g, 0, none⟩)] (w.drewN m) fun e w' => e = .returned (.int .i64 (k : Int)) ∧ ∃ n, w' = (w.drewN m).drewN n := fun m k hk => by
    obtain ⟨A, c, hc, hb, hby⟩ := h.box
    exact left_any g l.length c pos k A (w.drewN m) ((hb.drewN m).cell 0) ((hb.drewN m).cell 1) hk h.small
  have hsm := h.small
  have hN4 := numN_le l pos
  by_cases hE : numE l pos = 0
  · have hlen := numE_len hE
    obtain ⟨k, hk⟩ : ∃ k, pos + k = l.length := ⟨l.length - pos, by omega⟩
    have HL := Lib.hid (fun m => H3 m k hk)
    have hA0 := fun e0 (a : cntE l pos most least = e0) (b : okB er e0 = false) => cntA_zero a b
    have hA1 := fun (a : cntE l pos most least = 0) (b : okB er 0 = true) => cntA_num (er := er) a hE b
    have HC : Hid (cntE l pos most least = if most < numN l pos then 4 else if ((k : Int) - 8) / (if least < 1 then 1 else least) < numN l pos then 2 else 0) := by
      have := HD.out
      rw [if_neg (by simpa using hE), show ((l.length : Int) - pos - 8) = (k : Int) - 8 by omega] at this
      exact this
    have hk8 : 8 ≤ k := by omega
    have hk9 : k ≤ 1099511627776 := by omega
    have HA0 := Lib.hid hA0
    have HA1 := Lib.hid hA1
    have HT := Lib.hid (fun m e0 => H2 m e0 (fun x => absurd hE x))
    rw [hE] at H1
    obtain ⟨N, hN⟩ : ∃ N, N = numN l pos := ⟨_, rfl⟩
    rw [← hN] at H1 HC HA1 hN4
    clear hN hE hk hsm hA0 hA1 H2 H3 HD hle h hlen
    by_cases hm : most < N
    · have hc := HC.out
      rw [if_pos hm] at hc
      have hz := HA0.out 4 hc (ok_no (by omega))
      have HH := Lib.hid (fun m => HT.out m 4)
      rw [ok_no (by omega)] at HH
      rw [hc, hz]
      clear hc hz HC HA0 HA1 HT HL
      go_enter Try.func60, Try.ntmps60
      go_wp2_with (first
        | (go_at_call 73; refine H1.out.mono ?_; rintro e w' ⟨rfl, m, rfl⟩)
        | (go_at_call 74; refine (HH.out _).mono ?_; rintro e w' ⟨rfl, hR, hG⟩))
      go_ret
      exact ⟨rfl, hR, only_trans (only_drewN (World.grownBy.refl _ _) _) hG⟩
    · have hc := HC.out
      rw [if_neg hm] at hc
      have HC2 := Lib.hid hc
      clear hc HC
      by_cases hl : least < 1
      · have hc := HC2.out
        rw [if_pos hl] at hc
        rw [Int.ediv_one] at hc
        by_cases hq : (k : Int) - 8 < N
        · rw [if_pos hq] at hc
          have hz := HA0.out 2 hc (ok_no (by omega))
          have HH := Lib.hid (fun m => HT.out m 2)
          rw [ok_no (by omega)] at HH
          rw [hc, hz]
          clear hc hz HC2 HA0 HA1 HT
          go_enter Try.func60, Try.ntmps60
          go_wp2_with (first
            | (go_at_call 73; refine H1.out.mono ?_; rintro e w' ⟨rfl, m, rfl⟩)
            | (go_at_call 83; refine (HL.out _).mono ?_; rintro e w' ⟨rfl, m2, rfl⟩)
            | (go_at_call 74; refine (HH.out _).mono ?_; rintro e w' ⟨rfl, hR, hG⟩))
          go_ret
          exact ⟨rfl, hR, only_trans (only_drewN (World.grownBy.refl _ _) _) hG⟩
        · rw [if_neg hq] at hc
          cases hok : okB er 0 with
          | true =>
            have hz := HA1.out hc hok
            have HH := Lib.hid (fun m => HT.out m 0)
            rw [hok] at HH
            rw [hc, hz]
            clear hc hz hok HC2 HA0 HA1 HT
            go_enter Try.func60, Try.ntmps60
            go_wp2_with (first
              | (go_at_call 73; refine H1.out.mono ?_; rintro e w' ⟨rfl, m, rfl⟩)
              | (go_at_call 83; refine (HL.out _).mono ?_; rintro e w' ⟨rfl, m2, rfl⟩)
              | (go_at_call 74; refine (HH.out _).mono ?_; rintro e w' ⟨rfl, hR, hG⟩))
            go_ret
            exact ⟨rfl, hR, only_trans (only_drewN (World.grownBy.refl _ _) _) hG⟩
          | false =>
            have hz := HA0.out 0 hc hok
            have HH := Lib.hid (fun m => HT.out m 0)
            rw [hok] at HH
            rw [hc, hz]
            clear hc hz hok HC2 HA0 HA1 HT
            go_enter Try.func60, Try.ntmps60
            go_wp2_with (first
              | (go_at_call 73; refine H1.out.mono ?_; rintro e w' ⟨rfl, m, rfl⟩)
              | (go_at_call 83; refine (HL.out _).mono ?_; rintro e w' ⟨rfl, m2, rfl⟩)
              | (go_at_call 74; refine (HH.out _).mono ?_; rintro e w' ⟨rfl, hR, hG⟩))
            go_ret
            exact ⟨rfl, hR, only_trans (only_drewN (World.grownBy.refl _ _) _) hG⟩
      · have hc := HC2.out
        rw [if_neg hl] at hc
        by_cases hq : ((k : Int) - 8) / least < N
        · rw [if_pos hq] at hc
          have hz := HA0.out 2 hc (ok_no (by omega))
          have HH := Lib.hid (fun m => HT.out m 2)
          rw [ok_no (by omega)] at HH
          rw [hc, hz]
          clear hc hz HC2 HA0 HA1 HT
          go_enter Try.func60, Try.ntmps60
          go_wp2_with (first
            | (go_at_call 73; refine H1.out.mono ?_; rintro e w' ⟨rfl, m, rfl⟩)
            | (go_at_call 83; refine (HL.out _).mono ?_; rintro e w' ⟨rfl, m2, rfl⟩)
            | (go_at_call 74; refine (HH.out _).mono ?_; rintro e w' ⟨rfl, hR, hG⟩))
          go_ret
          exact ⟨rfl, hR, only_trans (only_drewN (World.grownBy.refl _ _) _) hG⟩
        · rw [if_neg hq] at hc
          cases hok : okB er 0 with
          | true =>
            have hz := HA1.out hc hok
            have HH := Lib.hid (fun m => HT.out m 0)
            rw [hok] at HH
            rw [hc, hz]
            clear hc hz hok HC2 HA0 HA1 HT
            go_enter Try.func60, Try.ntmps60
            go_wp2_with (first
              | (go_at_call 73; refine H1.out.mono ?_; rintro e w' ⟨rfl, m, rfl⟩)
              | (go_at_call 83; refine (HL.out _).mono ?_; rintro e w' ⟨rfl, m2, rfl⟩)
              | (go_at_call 74; refine (HH.out _).mono ?_; rintro e w' ⟨rfl, hR, hG⟩))
            go_ret
            exact ⟨rfl, hR, only_trans (only_drewN (World.grownBy.refl _ _) _) hG⟩
          | false =>
            have hz := HA0.out 0 hc hok
            have HH := Lib.hid (fun m => HT.out m 0)
            rw [hok] at HH
            rw [hc, hz]
            clear hc hz hok HC2 HA0 HA1 HT
            go_enter Try.func60, Try.ntmps60
            go_wp2_with (first
              | (go_at_call 73; refine H1.out.mono ?_; rintro e w' ⟨rfl, m, rfl⟩)
              | (go_at_call 83; refine (HL.out _).mono ?_; rintro e w' ⟨rfl, m2, rfl⟩)
              | (go_at_call 74; refine (HH.out _).mono ?_; rintro e w' ⟨rfl, hR, hG⟩))
            go_ret
            exact ⟨rfl, hR, only_trans (only_drewN (World.grownBy.refl _ _) _) hG⟩
  · have hc := HD.out
    rw [if_pos hE] at hc
    have hz := cntA_zero hc (er := er) (ok_no hE)
    have HH := Lib.hid (fun m => H2 m (numE l pos) (fun x => x))
    rw [ok_no hE] at HH
    rw [hc, hz]
    clear hc hz HD H2 H3 hle hN4 h
    obtain ⟨N, hN⟩ : ∃ N, N = numN l pos := ⟨_, rfl⟩
    obtain ⟨E, hE'⟩ : ∃ E, E = numE l pos := ⟨_, rfl⟩
    rw [← hN] at H1
    rw [← hE'] at H1 HH hE ⊢
    clear hN hE'
    have hb0 : ((E : Int) == 0) = false := by simpa using hE
    have hb1 : ((E : Int) != 0) = true := by simpa using hE
    go_enter Try.func60, Try.ntmps60
    go_wp2_with (first
      | (go_at_call 73; refine H1.out.mono ?_; rintro e w' ⟨rfl, m, rfl⟩)
      | (go_at_call 74; refine (HH.out _).mono ?_; rintro e w' ⟨rfl, hR, hG⟩))
    go_ret
    exact ⟨rfl, hR, only_trans (only_drewN (World.grownBy.refl _ _) _) hG⟩
end Go.Proofs.Ytihkadbcjeohjaa
