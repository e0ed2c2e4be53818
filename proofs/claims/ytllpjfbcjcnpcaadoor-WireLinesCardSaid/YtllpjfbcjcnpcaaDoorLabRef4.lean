/-
  The document's own answer on the rune at a place, at a first byte from f0 to f4; and at every place.
  Conditions: the place lies in the text; the text is of moderate length.
-/
import Derived.Test.YtllpjfbcjcnpcaaDoorLabRef
namespace Go.Proofs.YtllpjfbcjcnpcaaDoor
open Go.RowKit

theorem fail_4 {l : List UInt8} (ha : 240 ≤ byt l 0) (hb : byt l 0 ≤ 244) {j : Nat} (h1 : 1 ≤ j) (h2 : j < 4) (h : byt l j / 64 ≠ 2) : dec l = (0, 0) := by
  unfold dec
  rcases d4_cases (byt l 0) (byt l 1) (byt l 2) (byt l 3) with ⟨p, e⟩ | ⟨p, q, r, e⟩ | ⟨p, q, r, s, t, e⟩ | ⟨p, q, r, s, t, u, e⟩ | ⟨p, e⟩
  · omega
  · omega
  · omega
  · rcases (by omega : j = 1 ∨ j = 2 ∨ j = 3) with rfl | rfl | rfl <;> omega
  · exact e
theorem end_4 {l : List UInt8} (ha : 240 ≤ byt l 0) (hb : byt l 0 ≤ 244) (hc : contTo l 4) {v : Int} (hv : v = vw l ((byt l 0 : Int) - 240) 4) :
    ((v < 65536 ∨ 1114111 < v ∨ (55296 ≤ v ∧ v ≤ 57343)) → dec l = (0, 0)) ∧ (¬ (v < 65536 ∨ 1114111 < v ∨ (55296 ≤ v ∧ v ≤ 57343)) → dec l = (v.toNat, 4)) := by
  have q1 := hc 1 (by omega) (by omega)
  have q2 := hc 2 (by omega) (by omega)
  have q3 := hc 3 (by omega) (by omega)
  have e1 : vw l ((byt l 0 : Int) - 240) 1 = (byt l 0 : Int) - 240 := rfl
  have e2 : vw l ((byt l 0 : Int) - 240) 2 = 64 * vw l ((byt l 0 : Int) - 240) 1 + byt l 1 - 128 := rfl
  have e3 : vw l ((byt l 0 : Int) - 240) 3 = 64 * vw l ((byt l 0 : Int) - 240) 2 + byt l 2 - 128 := rfl
  have e4 : vw l ((byt l 0 : Int) - 240) 4 = 64 * vw l ((byt l 0 : Int) - 240) 3 + byt l 3 - 128 := rfl
  unfold dec
  rcases d4_cases (byt l 0) (byt l 1) (byt l 2) (byt l 3) with ⟨p, e⟩ | ⟨p, q, r, e⟩ | ⟨p, q, r, s, t, e⟩ | ⟨p, q, r, s, t, u, e⟩ | ⟨p, e⟩
  · omega
  · omega
  · omega
  · refine ⟨fun h => by omega, fun h => ?_⟩
    rw [e]
    refine Prod.ext ?_ rfl
    simp only
    omega
  · refine ⟨fun _ => e, fun h => ?_⟩
    exfalso
    unfold d4 at e
    rw [if_neg (by omega), if_neg (by omega), if_neg (by omega), if_pos (by omega), if_pos (by omega)] at e
    have := (Prod.mk.inj e).2
    omega

set_option maxHeartbeats 4000000 in
set_option maxRecDepth 1000000 in
theorem at_4 (s : ByteArray) (i : Nat) (w : World) (hi : i < s.size) (hs : s.size ≤ 140737488355328) (ha : 240 ≤ (s[i]'hi).toNat) (hb : (s[i]'hi).toNat ≤ 244) :
    Calls Tryd.prog 35 #[.string s, .int .i64 i] w (AtIs s i w) := by
  have h0 : byt (s.data.toList.drop i) 0 = (s[i]'hi).toNat := byt_at s i 0 hi
  have hF : ∀ j, 1 ≤ j → j < 4 → byt (s.data.toList.drop i) j / 64 ≠ 2 → dec (s.data.toList.drop i) = (0, 0) := fun j h1 h2 h => fail_4 (by rw [h0]; exact ha) (by rw [h0]; exact hb) h1 h2 h
  have HF := Lib.hid hF
  have hE : contTo (s.data.toList.drop i) 4 → ∀ v : Int, v = vw (s.data.toList.drop i) (((s[i]'hi).toNat : Int) - 240) 4 → ((v < 65536 ∨ 1114111 < v ∨ (55296 ≤ v ∧ v ≤ 57343)) → dec (s.data.toList.drop i) = (0, 0)) ∧ (¬ (v < 65536 ∨ 1114111 < v ∨ (55296 ≤ v ∧ v ≤ 57343)) → dec (s.data.toList.drop i) = (v.toNat, 4)) := fun hc v hv => end_4 (by rw [h0]; exact ha) (by rw [h0]; exact hb) hc (by rw [h0]; exact hv)
  have HE := Lib.hid hE
  clear h0 hF hE
  by_cases hn : i + 4 ≤ s.size
  · have d1 : decide (((s[i]'hi).toNat : Int) < 128) = false := by simp; omega
    have d2 : decide ((s.size : Int) < (i : Int) + 4) = false := by simp; omega
    have d3 : decide (((s[i]'hi).toNat : Int) ≤ 223) = false := by simp; omega
    have d4 : decide (((s[i]'hi).toNat : Int) ≤ 239) = false := by simp; omega
    have d5 : decide (((s[i]'hi).toNat : Int) ≤ 244) = true := by simp; omega
    go_enter Tryd.func35, Tryd.ntmps35
    go_wp2
    go_loop [8, 10] (fun v k => ∃ j : Nat, 1 ≤ j ∧ j ≤ 4 ∧ k = .int .i64 j ∧ v = .int .i32 (vw (s.data.toList.drop i) (((s[i]'hi).toNat : Int) - 240) j) ∧ Hid (contTo (s.data.toList.drop i) j)) (fun _ k => 4 - (intOf k).toNat)
    case atStart => exact ⟨1, by omega, by omega, rfl, rfl, Lib.hid (fun _ _ _ => by omega)⟩
    case round =>
      obtain ⟨j, hj1, hj2, rfl, rfl, hc⟩ := hrel
      obtain ⟨v1, v2, v3⟩ := vw_bd (l := s.data.toList.drop i) (v0 := ((s[i]'hi).toNat : Int) - 240) (by omega) (by omega) hj1 (by omega) hc.out
      by_cases hlt : j < 4
      · have hij : i + j < s.size := by omega
        have v4 := v3 (by omega)
        have hbj : byt (s.data.toList.drop i) j = (s[i + j]'hij).toNat := byt_at s i j hij
        have hst := vw_step (s.data.toList.drop i) (((s[i]'hi).toNat : Int) - 240) hj1
        rw [hbj] at hst
        have Hbj := Lib.hid hbj
        have Hst := Lib.hid hst
        clear hbj hst v3
        generalize hvv : vw (s.data.toList.drop i) (((s[i]'hi).toNat : Int) - 240) j = v at *
        have Hvv := Lib.hid hvv
        clear hvv
        have hby := (s[i + j]'hij).toNat_lt
        by_cases hlo : (s[i + j]'hij).toNat < 128
        · go_wp2
          go_ret2
          exact atIs_of (HF.out j hj1 hlt (by rw [Hbj.out]; omega)) rfl rfl
        by_cases hhi : 191 < (s[i + j]'hij).toNat
        · go_wp2
          go_ret2
          exact atIs_of (HF.out j hj1 hlt (by rw [Hbj.out]; omega)) rfl rfl
        go_wp2
        go_round
        case rel => exact ⟨j + 1, by omega, by omega, by go_num, by rw [Hst.out], Lib.hid (contTo_next hc.out (by rw [Hbj.out]; omega))⟩
        case measure => simp [intOf]; omega
      · obtain rfl : j = 4 := by omega
        have HE2 := Lib.hid (HE.out hc.out _ rfl)
        clear v3
        generalize hvv : vw (s.data.toList.drop i) (((s[i]'hi).toNat : Int) - 240) 4 = v at *
        clear hvv
        go_wp2
        all_goals
          go_ret2
          first
            | exact atIs_of (HE2.out.1 (by omega)) rfl rfl
            | exact atIs_of (HE2.out.2 (by omega)) (by omega) rfl
  · have hz : byt (s.data.toList.drop i) 3 = 0 := by
      have : (s.data.toList.drop i)[3]? = none := List.getElem?_eq_none (by rw [List.length_drop, Array.length_toList]; show s.size - i ≤ 3; omega)
      unfold byt
      rw [List.getD_eq_getElem?_getD, this]
      rfl
    have Hd := Lib.hid (HF.out 3 (by omega) (by omega) (by rw [hz]; omega))
    clear hz
    go_enter Tryd.func35, Tryd.ntmps35
    go_wp2
    go_ret2
    exact atIs_of Hd.out rfl rfl

theorem at_any (s : ByteArray) (i : Nat) (w : World) (hi : i < s.size) (hs : s.size ≤ 140737488355328) :
    Calls Tryd.prog 35 #[.string s, .int .i64 i] w (AtIs s i w) := by
  by_cases h1 : (s[i]'hi).toNat < 128
  · exact at_low s i w hi h1
  by_cases h2 : (s[i]'hi).toNat < 194
  · exact at_none s i w hi (by omega) (.inl h2)
  by_cases h3 : (s[i]'hi).toNat ≤ 223
  · exact at_2 s i w hi hs (by omega) h3
  by_cases h4 : (s[i]'hi).toNat ≤ 239
  · exact at_3 s i w hi hs (by omega) h4
  by_cases h5 : (s[i]'hi).toNat ≤ 244
  · exact at_4 s i w hi hs (by omega) h5
  exact at_none s i w hi (by omega) (.inr (by omega))
end Go.Proofs.YtllpjfbcjcnpcaaDoor
