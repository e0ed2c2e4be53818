/-
  What the reader's Num, Flag, Count, Text and End answer, and what the reader is then.
  Conditions: the reader is one of bytes, at most 2^40.
-/
import Derived.Test.YtihkadbcjeohjaaFldNum
namespace Go.Proofs.Ytihkadbcjeohjaa
open Go.RowKit

/-- does a form count? -/
def okB (er e : Nat) : Bool := er == 0 && e == 0
/-- the reader behind a form of so many bytes, with its error -/
def nxP (pos er size e : Nat) : Nat := if er = 0 ∧ e = 0 then pos + size else pos
def nxO (pos on er e : Nat) : Nat := if er = 0 ∧ e ≠ 0 then pos else on
def nxE (er e : Nat) : Nat := if er = 0 then e else er

theorem Rd.drewN {w : World} {g : Nat} {l : List UInt8} {pos on er : Nat} (h : Rd w g l pos on er) (n : Nat) : Rd (w.drewN n) g l pos on er :=
  ⟨h.le, h.small, h.none, h.box⟩
theorem Rd.next {w w' : World} {g : Nat} {l : List UInt8} {pos on er pos' on' er' : Nat} {A : Option Addr} {c : Nat} (h : Rd w g l pos on er) (hc : l.length ≤ c) (hby : Byt w g A l) (hg : g < w.heap.size) (hb : Box w' g 110 (rdV (.slice A l.length c) pos' on' er'))
    (hw : w.grownBy w' (some g)) (hp : pos' ≤ l.length) (hn : er' = 0 → on' = 0) : Rd w' g l pos' on' er' :=
  ⟨hp, h.small, hn, A, c, hc, hb, hby.grown hw (Nat.le_refl _) (by omega)⟩

theorem take_any (g pos on er e0 : Nat) (s : Int) (l : List UInt8) (w : World) (h : Rd w g l pos on er) (hs0 : 0 ≤ s) (hs : er = 0 → e0 = 0 → pos + s.toNat ≤ l.length) :
    Calls Try.prog 74 #[.pointer (some ⟨g, 0, none⟩), .int .i64 s, .int .i64 (e0 : Int)] w fun e w' =>
      e = .returned (.bool (okB er e0)) ∧ Rd w' g l (nxP pos er s.toNat e0) (nxO pos on er e0) (nxE er e0) ∧ w.grownBy w' (some g) := by
  obtain ⟨A, c, hc, hb, hby⟩ := h.box
  by_cases her : er = 0
  · subst her
    obtain rfl := h.none rfl
    by_cases he : e0 = 0
    · subst he
      have hss := hs rfl rfl
      have hsm := h.small
      have hq : s = (s.toNat : Int) := by omega
      have hT := take_on g (.slice A l.length c) pos s.toNat w hb (by omega)
      rw [← hq] at hT
      refine hT.mono ?_
      rintro e w' ⟨rfl, h1, h2⟩
      exact ⟨rfl, h.next hc hby hb.lt h1 h2 hss (fun _ => rfl), h2⟩
    · refine (take_fail g (.slice A l.length c) pos e0 s w hb he).mono ?_
      rintro e w' ⟨rfl, h1, h2⟩
      have hk : okB 0 e0 = false := by simp [okB, he]
      have hP : nxP pos 0 s.toNat e0 = pos := by simp [nxP, he]
      have hO : nxO pos 0 0 e0 = pos := by simp [nxO, he]
      have hE : nxE 0 e0 = e0 := by simp [nxE]
      rw [hk, hP, hO, hE]
      exact ⟨rfl, h.next hc hby hb.lt h1 h2 h.le (fun e => absurd e he), h2⟩
  · refine (take_late g (.slice A l.length c) pos on er s e0 w hb her).mono ?_
    rintro e w' ⟨rfl, rfl⟩
    have hk : okB er e0 = false := by simp [okB, her]
    have hP : nxP pos er s.toNat e0 = pos := by simp [nxP, her]
    have hO : nxO pos on er e0 = on := by simp [nxO, her]
    have hE : nxE er e0 = er := by simp [nxE, her]
    rw [hk, hP, hO, hE]
    exact ⟨rfl, h, World.grownBy.refl _ _⟩

theorem ok_of {er e0 : Nat} (h : okB er e0 = true) : er = 0 ∧ e0 = 0 := by simpa [okB] using h

/-- the number that Num tells -/
def numA (l : List UInt8) (pos er : Nat) : Nat := if okB er (numE l pos) = true then numAt l pos else 0
theorem rnum_any (g pos on er : Nat) (l : List UInt8) (w : World) (h : Rd w g l pos on er) :
    Calls Try.prog 42 #[.pointer (some ⟨g, 0, none⟩)] w fun e w' =>
      e = .returned (.int .i64 (numA l pos er : Nat)) ∧ Rd w' g l (nxP pos er 8 (numE l pos)) (nxO pos on er (numE l pos)) (nxE er (numE l pos)) ∧ w.grownBy w' (some g) := by
  have H1 := Lib.hid (next_any g pos on er l w h)
  have hle : er = 0 → numE l pos = 0 → pos + 8 ≤ l.length := fun _ he => by
    rcases numE_cases l pos with ⟨h1, _⟩ | ⟨h1, _⟩ | ⟨_, h2, _⟩ <;> omega
  have H2 : ∀ m, Calls Try.prog 74 #[.pointer (some ⟨g, 0, none⟩), .int .i64 8, .int .i64 (numE l pos : Nat)] (w.drewN m) fun e w' =>
      e = .returned (.bool (okB er (numE l pos))) ∧ Rd w' g l (nxP pos er 8 (numE l pos)) (nxO pos on er (numE l pos)) (nxE er (numE l pos)) ∧ (w.drewN m).grownBy w' (some g) := fun m => take_any g pos on er (numE l pos) 8 l (w.drewN m) (h.drewN m) (by omega) hle
  have HH2 := Lib.hid H2
  have HA : Hid (numA l pos er = if okB er (numE l pos) = true then numAt l pos else 0) := rfl
  have HN : Hid (numN l pos = if numE l pos = 0 then numAt l pos else 0) := rfl
  have HK := fun h => @ok_of er (numE l pos) h
  have HKK := Lib.hid HK
  clear H2 hle h HK
  obtain ⟨E, hE⟩ : ∃ E, E = numE l pos := ⟨_, rfl⟩
  obtain ⟨N, hN⟩ : ∃ N, N = numN l pos := ⟨_, rfl⟩
  rw [← hE] at H1 HH2 HA HN HKK ⊢
  rw [← hN] at H1 HN
  clear hE hN
  cases hk : okB er E with
  | true =>
    rw [hk] at HH2 HA
    have HKQ := Lib.hid (HKK.out hk)
    clear hk HKK
    go_enter Try.func42, Try.ntmps42
    go_wp2_with (first
      | (go_at_call 73; refine H1.out.mono ?_; rintro e w' ⟨rfl, m, rfl⟩)
      | (go_at_call 74; refine (HH2.out _).mono ?_; rintro e w' ⟨rfl, hR, hG⟩))
    go_ret
    refine ⟨ret_int ?_, hR, only_trans (only_drewN (World.grownBy.refl _ _) _) hG⟩
    rw [HA.out, HN.out, if_pos HKQ.out.2, if_pos trivial]
  | false =>
    rw [hk] at HH2 HA
    clear hk HKK
    go_enter Try.func42, Try.ntmps42
    go_wp2_with (first
      | (go_at_call 73; refine H1.out.mono ?_; rintro e w' ⟨rfl, m, rfl⟩)
      | (go_at_call 74; refine (HH2.out _).mono ?_; rintro e w' ⟨rfl, hR, hG⟩))
    go_ret
    refine ⟨ret_int ?_, hR, only_trans (only_drewN (World.grownBy.refl _ _) _) hG⟩
    rw [HA.out, if_neg (by decide)]
    rfl

/-- the flag that Flag tells -/
def flagA (l : List UInt8) (pos er : Nat) : Bool := okB er (flagE l pos) && flagB l pos
theorem rflag_any (g pos on er : Nat) (l : List UInt8) (w : World) (h : Rd w g l pos on er) :
    Calls Try.prog 44 #[.pointer (some ⟨g, 0, none⟩)] w fun e w' =>
      e = .returned (.bool (flagA l pos er)) ∧ Rd w' g l (nxP pos er 1 (flagE l pos)) (nxO pos on er (flagE l pos)) (nxE er (flagE l pos)) ∧ w.grownBy w' (some g) := by
  have H1 := Lib.hid (flag_any g pos on er l w h)
  have hle : er = 0 → flagE l pos = 0 → pos + 1 ≤ l.length := fun _ he => by
    unfold flagE at he
    by_cases h8 : pos < l.length
    · omega
    · rw [dif_neg h8] at he; omega
  have H2 : ∀ m, Calls Try.prog 74 #[.pointer (some ⟨g, 0, none⟩), .int .i64 1, .int .i64 (flagE l pos : Nat)] (w.drewN m) fun e w' =>
      e = .returned (.bool (okB er (flagE l pos))) ∧ Rd w' g l (nxP pos er 1 (flagE l pos)) (nxO pos on er (flagE l pos)) (nxE er (flagE l pos)) ∧ (w.drewN m).grownBy w' (some g) := fun m => take_any g pos on er (flagE l pos) 1 l (w.drewN m) (h.drewN m) (by omega) hle
  have HH2 := Lib.hid H2
  have HA : Hid (flagA l pos er = (okB er (flagE l pos) && flagB l pos)) := rfl
  clear H2 hle h
  obtain ⟨E, hE⟩ : ∃ E, E = flagE l pos := ⟨_, rfl⟩
  obtain ⟨N, hN⟩ : ∃ N, N = flagB l pos := ⟨_, rfl⟩
  rw [← hE] at H1 HH2 HA ⊢
  rw [← hN] at H1 HA
  clear hE hN
  cases hk : okB er E with
  | true =>
    rw [hk] at HH2 HA
    clear hk
    go_enter Try.func44, Try.ntmps44
    go_wp2_with (first
      | (go_at_call 76; refine H1.out.mono ?_; rintro e w' ⟨rfl, m, rfl⟩)
      | (go_at_call 74; refine (HH2.out _).mono ?_; rintro e w' ⟨rfl, hR, hG⟩))
    go_ret
    refine ⟨ret_bool ?_, hR, only_trans (only_drewN (World.grownBy.refl _ _) _) hG⟩
    rw [HA.out]
    simp
  | false =>
    rw [hk] at HH2 HA
    clear hk
    go_enter Try.func44, Try.ntmps44
    go_wp2_with (first
      | (go_at_call 76; refine H1.out.mono ?_; rintro e w' ⟨rfl, m, rfl⟩)
      | (go_at_call 74; refine (HH2.out _).mono ?_; rintro e w' ⟨rfl, hR, hG⟩))
    go_ret
    refine ⟨ret_bool ?_, hR, only_trans (only_drewN (World.grownBy.refl _ _) _) hG⟩
    rw [HA.out]
    simp

/-- the error of End -/
def endE (l : List UInt8) (pos : Nat) : Nat := if pos < l.length then 3 else 0
theorem rend_any (g pos on er : Nat) (l : List UInt8) (w : World) (h : Rd w g l pos on er) :
    Calls Try.prog 62 #[.pointer (some ⟨g, 0, none⟩)] w fun e w' =>
      e = .returned (.bool (okB er (endE l pos))) ∧ Rd w' g l (nxP pos er 0 (endE l pos)) (nxO pos on er (endE l pos)) (nxE er (endE l pos)) ∧ w.grownBy w' (some g) := by
  obtain ⟨A, c, hc, hb, hby⟩ := h.box
  have hle := h.le
  have H1 := Lib.hid (left_any g l.length c pos (l.length - pos) A w (hb.cell 0) (hb.cell 1) (by omega) h.small)
  have H2 : ∀ m, Calls Try.prog 74 #[.pointer (some ⟨g, 0, none⟩), .int .i64 0, .int .i64 (endE l pos : Nat)] (w.drewN m) fun e w' =>
      e = .returned (.bool (okB er (endE l pos))) ∧ Rd w' g l (nxP pos er 0 (endE l pos)) (nxO pos on er (endE l pos)) (nxE er (endE l pos)) ∧ (w.drewN m).grownBy w' (some g) := fun m => take_any g pos on er (endE l pos) 0 l (w.drewN m) (h.drewN m) (by omega) (fun _ _ => h.le)
  have HH2 := Lib.hid H2
  clear H2
  by_cases h8 : pos < l.length
  · have hE : endE l pos = 3 := by unfold endE; rw [if_pos h8]
    rw [hE] at HH2 ⊢
    obtain ⟨k, hk⟩ : ∃ k, k = l.length - pos := ⟨_, rfl⟩
    rw [← hk] at H1
    have hk0 : 0 < k := by omega
    clear hk hE hb hby h hc hle h8
    go_enter Try.func62, Try.ntmps62
    go_wp2_with (first
      | (go_at_call 83; refine H1.out.mono ?_; rintro e w' ⟨rfl, m, rfl⟩)
      | (go_at_call 74; refine (HH2.out _).mono ?_; rintro e w' ⟨rfl, hR, hG⟩))
    go_ret
    exact ⟨rfl, hR, only_trans (only_drewN (World.grownBy.refl _ _) _) hG⟩
  · have hE : endE l pos = 0 := by unfold endE; rw [if_neg h8]
    rw [hE] at HH2 ⊢
    rw [show l.length - pos = 0 by omega] at H1
    clear hE hb hby h hc hle h8
    go_enter Try.func62, Try.ntmps62
    go_wp2_with (first
      | (go_at_call 83; refine H1.out.mono ?_; rintro e w' ⟨rfl, m, rfl⟩)
      | (go_at_call 74; refine (HH2.out _).mono ?_; rintro e w' ⟨rfl, hR, hG⟩))
    go_ret
    exact ⟨rfl, hR, only_trans (only_drewN (World.grownBy.refl _ _) _) hG⟩
end Go.Proofs.Ytihkadbcjeohjaa
