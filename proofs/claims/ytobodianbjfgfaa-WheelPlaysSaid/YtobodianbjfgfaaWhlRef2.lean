/-
  What the document's Next and Find answer.
  Conditions: at most 300 timers.
-/
import Derived.Test.YtobodianbjfgfaaWhlRef
namespace Go.Proofs.Ytobodianbjfgfaa.Wh
open Go.RowKit

def tth (xs : List T) (k : Nat) : T := xs.getD k noT
theorem tth_get {xs : List T} {k : Nat} (h : k < xs.length) : tth xs k = xs[k] := by simp [tth, h]
/-- of the first i the one at k is due first, and is the first that is -/
structure FstIn (xs : List T) (i k : Nat) : Prop where
  lt : k < i
  ahead : ∀ j, j < k → (tth xs k).due < (tth xs j).due
  behind : ∀ j, k ≤ j → j < i → (tth xs k).due ≤ (tth xs j).due
theorem FstIn.one (xs : List T) : FstIn xs 1 0 := ⟨by omega, fun j h => absurd h (by omega), fun j h1 h2 => by obtain rfl : j = 0 := (by omega); exact Nat.le_refl _⟩
theorem FstIn.more {xs : List T} {i k : Nat} (h : FstIn xs i k) (hw : (tth xs i).due < (tth xs k).due) : FstIn xs (i + 1) i :=
  ⟨by omega, fun j hj => by
    by_cases hk : j < k
    · have := h.ahead j hk; omega
    · have := h.behind j (by omega) hj; omega, fun j h1 h2 => by obtain rfl : j = i := (by omega); exact Nat.le_refl _⟩
theorem FstIn.same {xs : List T} {i k : Nat} (h : FstIn xs i k) (hw : ¬ (tth xs i).due < (tth xs k).due) : FstIn xs (i + 1) k :=
  ⟨by have := h.lt; omega, h.ahead, fun j h1 h2 => by
    by_cases hj : j < i
    · exact h.behind j h1 hj
    · obtain rfl : j = i := by omega
      omega⟩
theorem rise_tth {xs : List T} (hr : xs.Pairwise fun x y => x.h < y.h) {i j : Nat} (hij : i < j) (hj : j < xs.length) : (tth xs i).h < (tth xs j).h := by
  rw [tth_get (by omega), tth_get hj]
  exact List.pairwise_iff_getElem.1 hr i j (by omega) hj hij
def FirstEnd (w : World) (xs : List T) (e : Ending) (w' : World) : Prop := ∃ k, FstIn xs xs.length k ∧ e = .returned (.int .i64 (k : Int)) ∧ ∃ q, w' = w.drewN q
theorem rnext_none (A : Option Addr) (c : Nat) (w : World) : Calls Try.prog 18 #[.slice A 0 c] w fun e w' => e = .returned (.int .i64 (-1)) ∧ w' = w := by
  go_enter Try.func18, Try.ntmps18
  go_wp2
  refine wp_loop_rounds 1 ?_
  rw [rounds_succ]
  go_wp2
  go_ret
  exact ⟨rfl, rfl⟩
theorem Tims.drewN {w : World} {B : Nat} {A : Option Addr} {fs : List T} (h : Tims w B A fs) (q : Nat) : Tims (w.drewN q) B A fs := h
theorem Tims.du {w : World} {B : Nat} {A : Option Addr} {fs : List T} (h : Tims w B A fs) {b o : Nat} (hA : A = some ⟨b, o, Option.none⟩) {k : Nat} (hk : k < fs.length) : w.cell? ⟨b, o + k * 3 + 2, Option.none⟩ = some (.int .i64 ((tth fs k).due : Int)) := by
  obtain ⟨b', o', e, _, _, _, h2⟩ := h.three hk
  rw [hA] at e
  injection e with e
  injection e with e1 e2
  subst e1 e2
  rw [tth_get hk]
  exact h2
theorem Tims.hd {w : World} {B : Nat} {A : Option Addr} {fs : List T} (h : Tims w B A fs) {b o : Nat} (hA : A = some ⟨b, o, Option.none⟩) {k : Nat} (hk : k < fs.length) : w.cell? ⟨b, o + k * 3, Option.none⟩ = some (.int .i64 ((tth fs k).h : Int)) := by
  obtain ⟨b', o', e, _, h0, _, _⟩ := h.three hk
  rw [hA] at e
  injection e with e
  injection e with e1 e2
  subst e1 e2
  rw [tth_get hk]
  exact h0
theorem Tims.idc {w : World} {B : Nat} {A : Option Addr} {fs : List T} (h : Tims w B A fs) {b o : Nat} (hA : A = some ⟨b, o, Option.none⟩) {k : Nat} (hk : k < fs.length) : w.cell? ⟨b, o + k * 3 + 1, Option.none⟩ = some (.int .i64 (tth fs k).id) := by
  obtain ⟨b', o', e, _, _, h1, _⟩ := h.three hk
  rw [hA] at e
  injection e with e
  injection e with e1 e2
  subst e1 e2
  rw [tth_get hk]
  exact h1
theorem Tims.at0 {w : World} {B : Nat} {A : Option Addr} {fs : List T} (h : Tims w B A fs) (hn : 0 < fs.length) : ∃ b o, A = some ⟨b, o, Option.none⟩ ∧ b < B := by
  obtain ⟨b', o', e, hb, _⟩ := h.three hn
  exact ⟨b', o', e, hb⟩
set_option maxHeartbeats 2000000 in
set_option maxRecDepth 100000 in
theorem rnext_some (A : Option Addr) (xs : List T) (c : Nat) (w : World) (h : Tims w w.heap.size A xs) (hn : xs.length ≤ 300) (hx : 0 < xs.length) :
    Calls Try.prog 18 #[.slice A xs.length c] w (FirstEnd w xs) := by
  obtain ⟨b, o, rfl, _⟩ := h.at0 hx
  have HF := Lib.hid h
  obtain ⟨n, hnn⟩ : ∃ n, n = xs.length := ⟨_, rfl⟩
  rw [← hnn] at hn hx ⊢
  have Hn := Lib.hid hnn
  clear h hnn
  go_enter Try.func18, Try.ntmps18
  go_wp2
  go_loopw [3, 4] (fun va vi wr => ∃ (i : Nat) (k : Int), vi = .int .i64 (i : Int) ∧ va = .int .i64 k ∧ i ≤ n ∧ Hid (∃ q, wr = w.drewN q) ∧ Hid ((i = 0 ∧ k = -1) ∨ ∃ m : Nat, k = (m : Int) ∧ FstIn xs i m)) (fun _ vi _ => n - (intOf vi).toNat)
  case atStart => exact ⟨0, -1, rfl, rfl, by omega, Lib.hid ⟨0, rfl⟩, Lib.hid (.inl ⟨rfl, rfl⟩)⟩
  case round =>
    obtain ⟨i, k, rfl, rfl, hi, HW, HK⟩ := hrel
    by_cases hlt : i < n
    · rcases HK.out with ⟨h0, h1⟩ | ⟨m, hm, hf⟩
      · subst h0 h1
        clear HK
        go_wp2
        go_quiet (fail)
        go_wp2
        go_roundw
        case rel => exact ⟨1, 0, by go_num, rfl, by omega, Lib.hid (by obtain ⟨q, hq⟩ := HW.out; exact ⟨q + nq, by rw [hq, World.drewN_drewN]⟩), Lib.hid (.inr ⟨0, rfl, FstIn.one xs⟩)⟩
        case measure => simp [intOf]; omega
      · subst hm
        have hml := hf.lt
        have hE : Tims wr w.heap.size (some ⟨b, o, none⟩) xs := by obtain ⟨q, hq⟩ := HW.out; rw [hq]; exact HF.out.drewN q
        have ci := hE.du rfl (k := i) (by rw [← Hn.out]; exact hlt)
        have cm := hE.du rfl (k := m) (by rw [← Hn.out]; omega)
        have hd : decide ((m : Int) < 0) = false := by simp
        have HFst := Lib.hid hf
        by_cases hw : (tth xs i).due < (tth xs m).due
        · have HMore := Lib.hid (hf.more hw)
          generalize (tth xs i).due = ti at ci hw
          generalize (tth xs m).due = tm at cm hw
          clear hf hE HK
          go_wp2
          go_quiet (fail)
          go_wp2
          go_roundw
          case rel => exact ⟨i + 1, (i : Int), by go_num, rfl, by omega, Lib.hid (by obtain ⟨q, hq⟩ := HW.out; exact ⟨q + nq, by rw [hq, World.drewN_drewN]⟩), Lib.hid (.inr ⟨i, rfl, HMore.out⟩)⟩
          case measure => simp [intOf]; omega
        · have HSame := Lib.hid (hf.same hw)
          generalize (tth xs i).due = ti at ci hw
          generalize (tth xs m).due = tm at cm hw
          clear hf hE HK
          go_wp2
          go_quiet (fail)
          go_wp2
          go_roundw
          case rel => exact ⟨i + 1, (m : Int), by go_num, rfl, by omega, Lib.hid (by obtain ⟨q, hq⟩ := HW.out; exact ⟨q + nq, by rw [hq, World.drewN_drewN]⟩), Lib.hid (.inr ⟨m, rfl, HSame.out⟩)⟩
          case measure => simp [intOf]; omega
    · obtain rfl : n = i := by omega
      have hend : ∃ m : Nat, k = (m : Int) ∧ FstIn xs n m := by
        rcases HK.out with ⟨h0, _⟩ | h1
        · omega
        · exact h1
      obtain ⟨m, rfl, hf⟩ := hend
      rw [Hn.out] at hf
      have HFst := Lib.hid hf
      clear hf HK
      go_wp2
      go_ret
      exact ⟨m, HFst.out, rfl, HW.out⟩
/-- where a handle stands -/
structure AtH (xs : List T) (x : Int) (k : Nat) : Prop where
  lt : k < xs.length
  eq : ((tth xs k).h : Int) = x
theorem rfind_loop (A : Option Addr) (xs : List T) (c : Nat) (x : Int) (w : World) (h : Tims w w.heap.size A xs) (hn : xs.length ≤ 300) :
    Calls Try.prog 10 #[.slice A xs.length c, .int .i64 x] w fun e w' => ((∃ k, AtH xs x k ∧ e = .returned (.int .i64 (k : Int))) ∨ ((∀ y ∈ xs, (y.h : Int) ≠ x) ∧ e = .returned (.int .i64 (-1)))) ∧ w' = w := by
  have HF := Lib.hid h
  obtain ⟨n, hnn⟩ : ∃ n, n = xs.length := ⟨_, rfl⟩
  rw [← hnn] at hn ⊢
  have Hn := Lib.hid hnn
  clear h hnn
  go_enter Try.func10, Try.ntmps10
  go_wp2
  go_loop [5] (fun vi => ∃ i : Nat, vi = .int .i64 (i : Int) ∧ i ≤ n ∧ Hid (∀ j, j < i → ((tth xs j).h : Int) ≠ x)) (fun vi => n - (intOf vi).toNat)
  case atStart => exact ⟨0, rfl, by omega, Lib.hid (fun j hj => absurd hj (by omega))⟩
  case round =>
    obtain ⟨i, rfl, hi, HK⟩ := hrel
    by_cases hlt : i < n
    · obtain ⟨b, o, rfl, _⟩ := HF.out.at0 (by rw [← Hn.out]; omega)
      have ci := HF.out.hd rfl (k := i) (by rw [← Hn.out]; exact hlt)
      by_cases he : ((tth xs i).h : Int) = x
      · have hb : (((tth xs i).h : Int) == x) = true := by rw [beq_iff_eq]; exact he
        have HA := Lib.hid (show AtH xs x i from ⟨by rw [← Hn.out]; exact hlt, he⟩)
        generalize (tth xs i).h = hh at ci hb
        clear he
        go_wp2
        go_ret
        exact ⟨.inl ⟨i, HA.out, rfl⟩, rfl⟩
      · have hb : (((tth xs i).h : Int) == x) = false := by rw [beq_eq_false_iff_ne]; exact he
        have HNX := Lib.hid (show ∀ j, j < i + 1 → ((tth xs j).h : Int) ≠ x from fun j hj => by
          by_cases h1 : j < i
          · exact HK.out j h1
          · obtain rfl : j = i := by omega
            exact he)
        generalize (tth xs i).h = hh at ci hb
        clear he
        go_wp2
        go_round
        case rel => exact ⟨i + 1, by go_num, by omega, HNX⟩
        case measure => simp [intOf]; omega
    · obtain rfl : n = i := by omega
      go_wp2
      go_ret
      refine ⟨.inr ⟨fun y hy => ?_, rfl⟩, rfl⟩
      obtain ⟨j, hj, rfl⟩ := List.mem_iff_getElem.1 hy
      rw [← tth_get hj]
      exact HK.out j (by rw [Hn.out]; exact hj)
theorem rfind_no (A : Option Addr) (xs : List T) (c : Nat) (x : Int) (w : World) (h : Tims w w.heap.size A xs) (hn : xs.length ≤ 300) (hx : ∀ y ∈ xs, (y.h : Int) ≠ x) :
    Calls Try.prog 10 #[.slice A xs.length c, .int .i64 x] w fun e w' => e = .returned (.int .i64 (-1)) ∧ w' = w :=
  (rfind_loop A xs c x w h hn).mono fun e w' ⟨h1, h2⟩ => by
    rcases h1 with ⟨k, hk, _⟩ | h1
    · exact absurd hk.eq (hx _ (by rw [tth_get hk.lt]; exact List.getElem_mem _))
    · exact ⟨h1.2, h2⟩
theorem rfind_yes (A : Option Addr) (xs : List T) (c : Nat) (k : Nat) (w : World) (h : Tims w w.heap.size A xs) (hn : xs.length ≤ 300) (hk : k < xs.length) (hr : xs.Pairwise fun x y => x.h < y.h) :
    Calls Try.prog 10 #[.slice A xs.length c, .int .i64 ((tth xs k).h : Int)] w fun e w' => e = .returned (.int .i64 (k : Int)) ∧ w' = w :=
  (rfind_loop A xs c _ w h hn).mono fun e w' ⟨h1, h2⟩ => by
    rcases h1 with ⟨m, hm, he⟩ | h1
    · have h3 := hm.eq
      have : m = k := by
        rcases Nat.lt_trichotomy m k with h4 | h4 | h4
        · have := rise_tth hr h4 hk; omega
        · exact h4
        · have := rise_tth hr h4 hm.lt; omega
      subst this
      exact ⟨he, h2⟩
    · exact absurd rfl (h1.1 _ (by rw [tth_get hk]; exact List.getElem_mem _))
end Go.Proofs.Ytobodianbjfgfaa.Wh
