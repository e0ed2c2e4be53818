/-
  What the reader's nextNum and nextFlag answer: the number, the flag that is next, or its error.
  Conditions: the reader's cells are those of a place within the bytes; they are at most 2^40.
-/
import Derived.Test.YtihkadbcjeohjaaFldTake
import Derived.Laws.BitsAllLaws
import Derived.Lib.Hide
namespace Go.Proofs.Ytihkadbcjeohjaa
open Go.RowKit

theorem info5 : (Try.prog.info? 5).map (fun i => (i.zero, i.size, i.bytes)) = some (some (.int .u8 0), 1, 1) := by kernel_rfl
theorem info_parts {o : Option TypeInfo} {z : Option Value} {a b : Nat} (h : o.map (fun i => (i.zero, i.size, i.bytes)) = some (z, a, b)) : ∃ i, o = some i ∧ i.zero = z ∧ i.size = a ∧ i.bytes = b := by
  obtain ⟨i, h1, h2⟩ := Option.map_eq_some_iff.1 h
  injection h2 with h2 h3
  injection h3 with h3 h4
  exact ⟨i, h1, h2, h3, h4⟩
theorem sizeOf5 : ∀ w, (Go.sizeOf 5).run Try.prog w = .ok 1 w := fun w => by
  obtain ⟨i0, hi0, _, hz1, _⟩ := info_parts info5
  simp [Go.sizeOf, typeInfo, hi0, hz1]
/-- b[p:q] -/
theorem run_cut_both (w : World) (b o n c p q : Nat) (hp : p < q) (hq : q ≤ c) :
    (Instr.slice 25 (.slice (some ⟨b, o, none⟩) n c) (some (.int .i64 (p : Int))) (some (.int .i64 (q : Int))) none).run Try.prog w = .ok (.slice (some ⟨b, o + p, none⟩) (q - p) (c - p)) w := by
  have ht' : Try.prog.underlying 25 = some (.slice (Try.prog.elem 25)) := by simp [Program.elem, Try.underlying25]
  have he : Try.prog.elem 25 = 5 := by simp [Program.elem, Try.underlying25]
  rw [run_slice_lh w 25 _ _ _ ht' .i64 .i64 _ _ (by omega) (by omega) (by omega), he, sizeOf5]
  have h1 : ¬ c = p := by omega
  simp [Result.andThen, sliced, h1, Addr.add]

theorem step64 {v : Nat} (b : UInt8) (hv : v < 72057594037927936) : bits .or .u64 ((v : Int) * 256) (b.toNat : Int) = ((256 * v + b.toNat : Nat) : Int) := by
  have hb := UInt8.toNat_lt b
  have e := u64_or_nat (v * 256) b.toNat (by omega) (by omega)
  have h1 : v * 256 ||| b.toNat = 256 * v + b.toNat := by
    have := Nat.shiftLeft_add_eq_or_of_lt (i := 8) (b := b.toNat) (by simpa using hb) v
    rw [Nat.shiftLeft_eq] at this
    rw [Nat.mul_comm 256 v]
    exact this.symm
  rw [h1] at e
  simpa using e

theorem next_short (g n c pos k : Nat) (A : Option Addr) (w : World) (h0 : w.cell? ⟨g, 0, none⟩ = some (.slice A n c)) (h1 : w.cell? ⟨g, 1, none⟩ = some (.int .i64 (pos : Int)))
    (hk : pos + k = n) (hn : n ≤ 1099511627776) (h8 : k < 8) :
    Calls Try.prog 73 #[.pointer (some ⟨g, 0, none⟩)] w fun e w' => e = .returned (.tuple #[.int .i64 0, .int .i64 2]) ∧ ∃ m, w' = w.drewN m := by
  have H := Lib.hid (left_any g n c pos k A w h0 h1 hk hn)
  clear h0 h1 hk
  go_enter Try.func73, Try.ntmps73
  go_wp2_with (go_at_call 83; refine H.out.mono ?_; rintro e w' ⟨rfl, m, rfl⟩)
  go_ret2
  exact ⟨rfl, _, rfl⟩

set_option maxHeartbeats 1000000 in
theorem next_num (g c pos k b o : Nat) (l : List UInt8) (w : World) (h0 : w.cell? ⟨g, 0, none⟩ = some (.slice (some ⟨b, o, none⟩) l.length c)) (h1 : w.cell? ⟨g, 1, none⟩ = some (.int .i64 (pos : Int)))
    (hk : pos + k = l.length) (hc : l.length ≤ c) (hn : l.length ≤ 1099511627776) (h8 : 8 ≤ k) (hcell : ∀ j (h : j < l.length), w.cell? ⟨b, o + j, none⟩ = some (.int .u8 (l[j].toNat : Int))) :
    Calls Try.prog 73 #[.pointer (some ⟨g, 0, none⟩)] w fun e w' => e = .returned (.tuple #[.int .i64 (numN l pos : Nat), .int .i64 (numE l pos : Nat)]) ∧ ∃ m, w' = w.drewN m := by
  have H := Lib.hid (left_any g l.length c pos k (some ⟨b, o, none⟩) w h0 h1 hk hn)
  have HC := Lib.hid hcell
  have HK := Lib.hid hk
  have hcut : ∀ w, (Instr.slice 25 (.slice (some ⟨b, o, none⟩) l.length c) (some (.int .i64 (pos : Int))) (some (.int .i64 ((pos : Int) + 8))) none).run Try.prog w = .ok (.slice (some ⟨b, o + pos, none⟩) 8 (c - pos)) w := by
    intro w
    have := run_cut_both w b o l.length c pos (pos + 8) (by omega) (by omega)
    rw [show pos + 8 - pos = 8 by omega] at this
    exact this
  have hp : pos + 8 ≤ 1099511627776 := by omega
  have hd : decide ((k : Int) < 8) = false := by simp; omega
  clear hcell hk
  go_enter Try.func73, Try.ntmps73
  go_wp2_with (go_at_call 83; refine H.out.mono ?_; rintro e w' ⟨rfl, m, rfl⟩)
  go_quiet (fail)
  go_wp2
  clear H hcut
  rw [World.drewN_drewN]
  go_loop [4, 25] (fun v i => ∃ j : Nat, j ≤ 8 ∧ i = .int .i64 j ∧ v = .int .u64 (numV ((l.drop pos).take j) : Nat)) (fun _ i => 8 - (intOf i).toNat)
  case atStart => exact ⟨0, by omega, rfl, rfl⟩
  case round =>
    obtain ⟨j, hj, rfl, rfl⟩ := hrel
    by_cases h9 : j < 8
    · have hjl : pos + j < l.length := by have := HK.out; omega
      have hsn := numV_snoc ((l.drop pos).take j) l[pos + j]
      rw [← cut_snoc l pos j hjl] at hsn
      have HS := Lib.hid hsn
      clear hsn
      have hcl : w.cell? ⟨b, o + pos + j, none⟩ = some (.int .u8 (l[pos + j].toNat : Int)) := by rw [Nat.add_assoc]; exact HC.out (pos + j) hjl
      have hlt := numV_lt7 ((l.drop pos).take j) (by have := cut_len l pos j; omega)
      obtain ⟨x, hx⟩ : ∃ x, x = l[pos + j] := ⟨_, rfl⟩
      rw [← hx] at hcl HS
      obtain ⟨v, hv⟩ : ∃ v, v = numV ((l.drop pos).take j) := ⟨_, rfl⟩
      rw [← hv] at hlt HS ⊢
      clear hx hv
      have hst := step64 x hlt
      have hxl := UInt8.toNat_lt x
      go_wp2
      go_round
      case rel => exact ⟨j + 1, by omega, by go_num, by rw [HS.out]; go_num⟩
      case measure => simp [intOf]; omega
    · obtain rfl : j = 8 := by omega
      have hlt := numV_lt8 ((l.drop pos).take 8) (cut_len l pos 8)
      have hE : numE l pos = if 4611686018427387904 < numV ((l.drop pos).take 8) then 4 else 0 := by
        unfold numE numAt; rw [if_neg (by have := HK.out; omega)]
      have hN : numN l pos = if numE l pos = 0 then numV ((l.drop pos).take 8) else 0 := rfl
      obtain ⟨v, hv⟩ : ∃ v, v = numV ((l.drop pos).take 8) := ⟨_, rfl⟩
      rw [← hv] at hlt hE hN ⊢
      clear hv
      by_cases hbig : 4611686018427387904 < v
      · rw [if_pos hbig] at hE
        rw [hE] at hN
        have HE := Lib.hid hE
        have HN := Lib.hid hN
        clear hE hN
        go_wp2
        go_ret2
        rw [HE.out, HN.out]
        exact ⟨rfl, _, rfl⟩
      · rw [if_neg hbig] at hE
        rw [hE] at hN
        have HE := Lib.hid hE
        have HN := Lib.hid hN
        clear hE hN
        have hv63 : v ≤ 4611686018427387904 := by omega
        go_wp2
        go_ret2
        rw [HE.out, HN.out]
        exact ⟨rfl, _, rfl⟩

/-- a reader of bytes: where it is, and its first error -/
structure Rd (w : World) (g : Nat) (l : List UInt8) (pos on er : Nat) : Prop where
  le : pos ≤ l.length
  small : l.length ≤ 1099511627776
  none : er = 0 → on = 0
  box : ∃ A c, l.length ≤ c ∧ Box w g 110 (rdV (.slice A l.length c) pos on er) ∧ Byt w g A l

theorem next_any (g pos on er : Nat) (l : List UInt8) (w : World) (h : Rd w g l pos on er) :
    Calls Try.prog 73 #[.pointer (some ⟨g, 0, none⟩)] w fun e w' => e = .returned (.tuple #[.int .i64 (numN l pos : Nat), .int .i64 (numE l pos : Nat)]) ∧ ∃ m, w' = w.drewN m := by
  obtain ⟨A, c, hc, hb, hby⟩ := h.box
  have hle := h.le
  by_cases h8 : l.length < pos + 8
  · have hE : numE l pos = 2 := by unfold numE; rw [if_pos h8]
    have hN : numN l pos = 0 := by unfold numN; rw [hE, if_neg (by omega)]
    rw [hE, hN]
    exact next_short g l.length c pos (l.length - pos) A w (hb.cell 0) (hb.cell 1) (by omega) h.small (by omega)
  · obtain ⟨b, o, rfl, _, hcell⟩ := hby (by rintro rfl; simp at h8)
    exact next_num g c pos (l.length - pos) b o l w (hb.cell 0) (hb.cell 1) (by omega) hc h.small (by omega) hcell

/-- the flag at a place, and its error -/
def flagE (l : List UInt8) (p : Nat) : Nat := if h : p < l.length then (if l[p] = 0 ∨ l[p] = 1 then 0 else 3) else 2
def flagB (l : List UInt8) (p : Nat) : Bool := if h : p < l.length then l[p] == 1 else false
theorem flag_any (g pos on er : Nat) (l : List UInt8) (w : World) (h : Rd w g l pos on er) :
    Calls Try.prog 76 #[.pointer (some ⟨g, 0, none⟩)] w fun e w' => e = .returned (.tuple #[.bool (flagB l pos), .int .i64 (flagE l pos : Nat)]) ∧ ∃ m, w' = w.drewN m := by
  obtain ⟨A, c, hc, hb, hby⟩ := h.box
  have hle := h.le
  have hsm := h.small
  have h0 : w.cell? ⟨g, 0, none⟩ = some (.slice A l.length c) := hb.cell 0
  have h1 : w.cell? ⟨g, 1, none⟩ = some (.int .i64 (pos : Int)) := hb.cell 1
  by_cases h8 : pos < l.length
  · obtain ⟨k, hk⟩ : ∃ k, pos + k = l.length := ⟨l.length - pos, by omega⟩
    have H := Lib.hid (left_any g l.length c pos k A w h0 h1 hk hsm)
    have hE : flagE l pos = if l[pos] = 0 ∨ l[pos] = 1 then 0 else 3 := by unfold flagE; rw [dif_pos h8]
    have hB : flagB l pos = (l[pos] == 1) := by unfold flagB; rw [dif_pos h8]
    obtain ⟨b, o, rfl, _, hcl⟩ := hby.get h8
    have hk1 : ¬ k < 1 := by omega
    obtain ⟨n, hn⟩ : ∃ n, n = l.length := ⟨_, rfl⟩
    rw [← hn] at h0 h8 hsm
    obtain ⟨x, hx⟩ : ∃ x, x = l[pos] := ⟨_, rfl⟩
    rw [← hx] at hE hB hcl
    clear hx hk hn hb hby hc hle h
    have hxl := UInt8.toNat_lt x
    by_cases hx0 : x = 0
    · subst hx0
      rw [if_pos (.inl rfl)] at hE
      have HE := Lib.hid hE
      have HB := Lib.hid hB
      clear hE hB
      go_enter Try.func76, Try.ntmps76
      go_wp2_with (go_at_call 83; refine H.out.mono ?_; rintro e w' ⟨rfl, m, rfl⟩)
      go_quiet (fail)
      go_wp2
      go_ret2
      rw [HE.out, HB.out]
      exact ⟨rfl, _, rfl⟩
    · by_cases hx1 : x = 1
      · subst hx1
        rw [if_pos (.inr rfl)] at hE
        have HE := Lib.hid hE
        have HB := Lib.hid hB
        clear hE hB
        go_enter Try.func76, Try.ntmps76
        go_wp2_with (go_at_call 83; refine H.out.mono ?_; rintro e w' ⟨rfl, m, rfl⟩)
        go_quiet (fail)
        go_wp2
        go_ret2
        rw [HE.out, HB.out]
        exact ⟨rfl, _, rfl⟩
      · rw [if_neg (by rintro (h | h); exact hx0 h; exact hx1 h)] at hE
        have hB' : flagB l pos = false := by rw [hB]; simpa using hx1
        have HE := Lib.hid hE
        have HB := Lib.hid hB'
        have ht0 : ((x.toNat : Int) == 0) = false := by
          have : x.toNat ≠ 0 := fun e => hx0 (UInt8.toNat_inj.1 (by simpa using e))
          simpa using this
        have ht1 : ((x.toNat : Int) == 1) = false := by
          have : x.toNat ≠ 1 := fun e => hx1 (UInt8.toNat_inj.1 (by simpa using e))
          simpa using (by omega : ¬ (x.toNat : Int) = 1)
        clear hE hB hB' hx0 hx1
        go_enter Try.func76, Try.ntmps76
        go_wp2_with (go_at_call 83; refine H.out.mono ?_; rintro e w' ⟨rfl, m, rfl⟩)
        go_quiet (fail)
        go_wp2
        go_ret2
        rw [HE.out, HB.out]
        exact ⟨rfl, _, rfl⟩
  · have H := Lib.hid (left_any g l.length c pos 0 A w h0 h1 (by omega) hsm)
    have hE : flagE l pos = 2 := by unfold flagE; rw [dif_neg h8]
    have hB : flagB l pos = false := by unfold flagB; rw [dif_neg h8]
    rw [hE, hB]
    clear hE hB h0 h1 hb hby
    go_enter Try.func76, Try.ntmps76
    go_wp2_with (go_at_call 83; refine H.out.mono ?_; rintro e w' ⟨rfl, m, rfl⟩)
    go_ret2
    exact ⟨rfl, _, rfl⟩
end Go.Proofs.Ytihkadbcjeohjaa
