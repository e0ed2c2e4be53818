/-
  What container/heap's Remove does to a queue's heap: the entry at a place goes.
  Conditions: the queue is one, in its order; the place is one of its row's.
-/
import Derived.Test.YtkfkjpabollaoaaRdyDown
namespace Go.Proofs.Ytkfkjpabollaoaa
open Go.RowKit Go.Sort

/-- x has gone: the queue without it, and x itself as it was but for its place -/
def Gone (w : World) (g : Nat) (X : Nat → Prop) (bm : Nat) (d : List En) (x : En) (ms : List (Nat × Nat)) (cap age last : Nat) (w' : World) : Prop :=
  ∃ v' d', (x :: d').Perm d ∧ Heap d' d'.length ∧ Turned w g X bm v' d' ms cap age last w' ∧ ∃ k, Box w' x.b 60 (x.cells k)
theorem take_last {d : List En} {n : Nat} (hn : d.length = n + 1) : d = d.take n ++ [nth d n] := by
  rw [nth_get (by omega), List.take_append_getElem, List.take_of_length_le (by omega)]
section
variable {w : World} {g bm : Nat} {X : Nat → Prop} {d : List En} {ms : List (Nat × Nat)} {cap age last : Nat}
theorem pop_gone {w1 : World} {r c n : Nat} {d1 : List En} {x : En} (h : Raw w1 g X bm (.slice (some ⟨r, 0, none⟩) (n + 1) c) d1 ms cap age last) (hk : Keep X w w1) (hp : d1.Perm d) (hn : d.length = n + 1) (hh : Heap d1 n) (hx : nth d1 n = x) (hs : n ≤ 1099511627776) :
    Calls Try.prog 68 #[.pointer (some ⟨g, 3, none⟩)] w1 fun E w' => E = .returned (.iface 58 (ptr x.b)) ∧ Gone w g X bm d x ms cap age last w' := by
  have hn1 : d1.length = n + 1 := hp.length_eq.trans hn
  refine (hpop_any h hn1 hs).mono fun E w' ⟨hE, hT, hB⟩ => ?_
  rw [hx] at hE hB
  refine ⟨hE, _, d1.take n, ?_, ?_, ⟨hT.1, hk.trans hT.2⟩, n, hB⟩
  · rw [← hx]
    have := take_last hn1
    refine List.Perm.trans ?_ hp
    conv => rhs; rw [this]
    exact (List.perm_append_singleton _ _).symm
  · have htl : (d1.take n).length = n := by simp; omega
    rw [htl]
    exact hh.take (by omega)

set_option maxHeartbeats 4000000 in
set_option maxRecDepth 100000 in
theorem heaprem_any {r c i n : Nat} (h : Raw w g X bm (.slice (some ⟨r, 0, none⟩) (n + 1) c) d ms cap age last) (hn : d.length = n + 1) (ho : Heap d (n + 1)) (hi : i ≤ n) (hs : n ≤ 1000000000000) :
    Calls Try.prog 26 #[hpv g, .int .i64 (i : Int)] w fun E w' => E = .returned (.iface 58 (ptr (nth d i).b)) ∧ Gone w g X bm d (nth d i) ms cap age last w' := by
  have eL : ∀ args w, (callFunc 65 args).run Try.prog w = .ok (.enter 65 args) w := enters_of Try.func65 (by kernel_rfl) rfl
  have eS : ∀ args w, (callFunc 67 args).run Try.prog w = .ok (.enter 67 args) w := enters_of Try.func67 (by kernel_rfl) rfl
  have eP : ∀ args w, (callFunc 68 args).run Try.prog w = .ok (.enter 68 args) w := enters_of Try.func68 (by kernel_rfl) rfl
  have m1 := m_len g _ _ _ w h.v3
  have mp := fun w => m_pop g w
  by_cases hin : i = n
  · have zn : ((n : Int) != (i : Int)) = false := by simp [hin]
    have hp := pop_gone (w := w) (x := nth d i) h (Keep.refl _ _) (List.Perm.refl _) hn (ho.mono (by omega)) (by rw [hin]) (by omega)
    have HP := Lib.hid hp
    clear hp h ho hin hn
    unfold hpv
    go_enter Try.func26, Try.ntmps26
    go_wp2_with (first
      | (go_at_call 65; (with_reducible refine (hlen_any _ _ _ _).mono ?_); rintro e w1 ⟨rfl, rfl⟩)
      | (go_at_call 68; (with_reducible refine HP.out.mono ?_); rintro e w2 ⟨rfl, hg⟩))
    go_ret
    exact ⟨rfl, hg⟩
  · have hlt : i < n := by omega
    have zn : ((n : Int) != (i : Int)) = true := by simp; omega
    have h' := h
    rw [← hn] at h'
    have hsw := swap_any h' (i := i) (j := n) (by omega) (by omega) (by omega) (by omega)
    rw [hn] at hsw
    have m2 := m_swap g _ _ _ w h.v3
    have hD := DownAt.start ho (by omega) hlt
    have hl1 : (swp d i n).length = n + 1 := by rw [swp_len]; exact hn
    have hx1 : nth (swp d i n) n = nth d i := by rw [swp_nth (by omega) (by omega), if_pos rfl]
    have hp1 : (swp d i n).Perm d := swp_perm (by omega) (by omega)
    have hdn : ∀ w1, Raw w1 g X bm (.slice (some ⟨r, 0, none⟩) (n + 1) c) (swp d i n) ms cap age last → Calls Try.prog 31 #[hpv g, .int .i64 (i : Int), .int .i64 (n : Int)] w1 (DownEnd w1 g X bm (.slice (some ⟨r, 0, none⟩) (n + 1) c) (swp d i n) n i ms cap age last) := fun w1 hR => by
      have := down_any (d := swp d i n) (w := w1) (r := r) (c := c) (n := n) (i := i) (by rw [hl1]; exact hR) hlt (by omega) (by omega) hD
      rw [hl1] at this
      exact this
    have hup : ∀ w2 d2, d2.length = n + 1 → Raw w2 g X bm (.slice (some ⟨r, 0, none⟩) (n + 1) c) d2 ms cap age last → UpAt d2 n i → Calls Try.prog 25 #[hpv g, .int .i64 (i : Int)] w2 fun e' w' => e' = .returned (.tuple #[]) ∧ Mended w2 g X bm (.slice (some ⟨r, 0, none⟩) (n + 1) c) d2 n ms cap age last w' := fun w2 d2 hl hR hU => by
      have := up_any (d := d2) (w := w2) (r := r) (c := c) (n := n) (j := i) (by rw [hl]; exact hR) hlt (by omega) (by omega) hU
      rw [hl] at this
      exact this
    have hpop : ∀ w3 d3, d3.Perm d → nth d3 n = nth d i → Heap d3 n → Turned w g X bm (.slice (some ⟨r, 0, none⟩) (n + 1) c) d3 ms cap age last w3 → Calls Try.prog 68 #[.pointer (some ⟨g, 3, none⟩)] w3 fun E w' => E = .returned (.iface 58 (ptr (nth d i).b)) ∧ Gone w g X bm d (nth d i) ms cap age last w' :=
      fun w3 d3 hp hx hh hT => pop_gone (w := w) hT.1 hT.2 hp hn hh hx (by omega)
    have HS := Lib.hid hsw
    have HDN := Lib.hid hdn
    have HUP := Lib.hid hup
    have HPOP := Lib.hid hpop
    have HX := Lib.hid (And.intro hl1 (And.intro hx1 hp1))
    clear hsw hdn hup hpop hl1 hx1 hp1 hD h h' ho hn hin
    unfold hpv at HDN HUP
    unfold hpv
    go_enter Try.func26, Try.ntmps26
    go_wp2_with (first
      | (go_at_call 65; (with_reducible refine (hlen_any _ _ _ _).mono ?_); rintro e w1 ⟨rfl, rfl⟩)
      | (go_at_call 67; (with_reducible refine HS.out.mono ?_); rintro e w1 ⟨rfl, hR1, hK1⟩; have HR1 := Lib.hid hR1; have HK1 := Lib.hid hK1; clear hR1 hK1)
      | (go_at_call 31; refine (HDN.out _ HR1.out).mono ?_; rintro e w2 ⟨b, rfl, hD2⟩; have HD2 := Lib.hid hD2; clear hD2)
      | (go_at_call 25; obtain ⟨d2, hp2, hs2, ⟨hR2, hK2⟩, _, hu2⟩ := HD2.out; (with_reducible refine (HUP.out _ d2 (hp2.length_eq.trans HX.out.1) hR2 (hu2 (by cases b <;> simp_all))).mono ?_); rintro e w3 ⟨rfl, hM3⟩; obtain ⟨d3, hp3, hh3, hs3, ⟨hR3, hK3⟩⟩ := hM3; have HPP := Lib.hid (HPOP.out w3 d3 ((hp3.trans hp2).trans HX.out.2.2) ((hs3 n (Nat.le_refl _)).trans ((hs2 n (Nat.le_refl _)).trans HX.out.2.1)) hh3 ⟨hR3, (HK1.out.trans hK2).trans hK3⟩); clear hp2 hs2 hR2 hK2 hu2 hp3 hh3 hs3 hR3 hK3)
      | (go_at_call 68; (with_reducible refine HPP.out.mono ?_); rintro e w4 ⟨rfl, hg⟩)
      | (go_at_call 68; obtain ⟨d2, hp2, hs2, ⟨hR2, hK2⟩, hh2, _⟩ := HD2.out; have HPP := Lib.hid (HPOP.out w2 d2 (hp2.trans HX.out.2.2) ((hs2 n (Nat.le_refl _)).trans HX.out.2.1) (hh2 (by cases b <;> simp_all)) ⟨hR2, HK1.out.trans hK2⟩); (with_reducible refine HPP.out.mono ?_); rintro e w4 ⟨rfl, hg⟩))
    all_goals
      go_ret
      exact ⟨rfl, hg⟩
end
end Go.Proofs.Ytkfkjpabollaoaa
