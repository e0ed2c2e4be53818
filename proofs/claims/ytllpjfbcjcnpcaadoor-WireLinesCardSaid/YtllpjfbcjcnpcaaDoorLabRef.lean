/-
  What the document's own answers of layer 2 (on single runes, and the rune at a place) are.
  Conditions: the place lies in the text; the text is of moderate length.
-/
import Derived.Test.YtllpjfbcjcnpcaaDoorLabCalls
namespace Go.Proofs.YtllpjfbcjcnpcaaDoor
open Go.RowKit

set_option maxHeartbeats 1000000 in
theorem rletter_any (r : Int) (w : World) : Calls Tryd.prog 37 #[.int .i32 r] w fun e w' => e = .returned (.bool (lettI r)) ∧ w = w' := by
  go_enter Tryd.func37, Tryd.ntmps37
  go_wp2
  all_goals
    go_ret
    refine ⟨ret_bool ?_, rfl⟩
    unfold lettI
    rw [Bool.eq_iff_iff]
    simp [*] <;> omega

set_option maxHeartbeats 1000000 in
theorem rmay_any (r : Int) (w : World) : Calls Tryd.prog 36 #[.int .i32 r] w fun e w' => e = .returned (.bool (fitI r)) ∧ w = w' := by
  go_enter Tryd.func36, Tryd.ntmps36
  go_wp2_with (first
    | (go_at_call 37; (with_reducible refine (rletter_any _ _).mono ?_); rintro e w' ⟨rfl, rfl⟩))
  all_goals
    go_ret
    refine ⟨ret_bool ?_, rfl⟩
    unfold fitI
    rw [Bool.eq_iff_iff]
    simp [*] <;> omega

theorem byt_at (s : ByteArray) (i k : Nat) (h : i + k < s.size) : byt (s.data.toList.drop i) k = (s[i + k]'h).toNat := by
  rw [byt_drop, byt_get (by rw [Array.length_toList]; exact h)]
  rfl
/-- the answer of At -/
def AtIs (s : ByteArray) (i : Nat) (w : World) (e : Ending) (w' : World) : Prop :=
  e = .returned (.tuple #[.int .i32 ((dec (s.data.toList.drop i)).1 : Int), .int .i64 ((dec (s.data.toList.drop i)).2 : Int)]) ∧ w = w'
theorem atIs_of {s : ByteArray} {i : Nat} {w : World} {a b : Int} {r k : Nat} (h : dec (s.data.toList.drop i) = (r, k)) (ha : a = r) (hb : b = k) : AtIs s i w (.returned (.tuple #[.int .i32 a, .int .i64 b])) w := by
  subst ha; subst hb
  unfold AtIs
  rw [h]
  exact ⟨rfl, rfl⟩

set_option maxHeartbeats 4000000 in
set_option maxRecDepth 1000000 in
theorem at_low (s : ByteArray) (i : Nat) (w : World) (hi : i < s.size) (ha : (s[i]'hi).toNat < 128) :
    Calls Tryd.prog 35 #[.string s, .int .i64 i] w (AtIs s i w) := by
  have hd : dec (s.data.toList.drop i) = ((s[i]'hi).toNat, 1) := by
    have h0 : byt (s.data.toList.drop i) 0 = (s[i]'hi).toNat := byt_at s i 0 hi
    unfold dec d4
    rw [h0, if_pos ha]
  have Hd := Lib.hid hd
  clear hd
  go_enter Tryd.func35, Tryd.ntmps35
  go_wp2
  go_ret2
  exact atIs_of Hd.out rfl rfl

set_option maxHeartbeats 4000000 in
set_option maxRecDepth 1000000 in
theorem at_none (s : ByteArray) (i : Nat) (w : World) (hi : i < s.size) (ha : 128 ≤ (s[i]'hi).toNat) (hb : (s[i]'hi).toNat < 194 ∨ 244 < (s[i]'hi).toNat) :
    Calls Tryd.prog 35 #[.string s, .int .i64 i] w (AtIs s i w) := by
  have hd : dec (s.data.toList.drop i) = (0, 0) := by
    have h0 := byt_at s i 0 hi
    have h1 := byt_lt (s.data.toList.drop i) 0
    have h0' : byt (s.data.toList.drop i) 0 = (s[i]'hi).toNat := h0
    rw [← h0'] at ha hb
    unfold dec
    rcases d4_cases (byt (s.data.toList.drop i) 0) (byt (s.data.toList.drop i) 1) (byt (s.data.toList.drop i) 2) (byt (s.data.toList.drop i) 3) with ⟨p, e⟩ | ⟨p, q, r, e⟩ | ⟨p, q, r, s, t, e⟩ | ⟨p, q, r, s, t, u, e⟩ | ⟨p, e⟩
    · omega
    · omega
    · omega
    · omega
    · exact e
  have Hd := Lib.hid hd
  clear hd
  rcases hb with hb | hb
  all_goals
    go_enter Tryd.func35, Tryd.ntmps35
    go_wp2
    go_ret2
    exact atIs_of Hd.out rfl rfl

/-- the number that the first j bytes tell -/
def vw (l : List UInt8) (v0 : Int) : Nat → Int
  | 0 => v0
  | 1 => v0
  | j + 2 => 64 * vw l v0 (j + 1) + byt l (j + 1) - 128
def contTo (l : List UInt8) (k : Nat) : Prop := ∀ j, 1 ≤ j → j < k → byt l j / 64 = 2
theorem vw_step (l : List UInt8) (v0 : Int) {j : Nat} (h : 1 ≤ j) : vw l v0 (j + 1) = 64 * vw l v0 j + byt l j - 128 := by
  obtain ⟨k, rfl⟩ : ∃ k, j = k + 1 := ⟨j - 1, by omega⟩
  rfl
theorem vw_bd {l : List UInt8} {v0 : Int} (h0 : 0 ≤ v0) (h1 : v0 ≤ 31) {j : Nat} (hj : 1 ≤ j) (hj4 : j ≤ 4) (hc : contTo l j) : 0 ≤ vw l v0 j ∧ vw l v0 j ≤ 8388607 ∧ (j ≤ 3 → vw l v0 j ≤ 131071) := by
  have e1 : vw l v0 1 = v0 := rfl
  have e2 : vw l v0 2 = 64 * vw l v0 1 + byt l 1 - 128 := rfl
  have e3 : vw l v0 3 = 64 * vw l v0 2 + byt l 2 - 128 := rfl
  have e4 : vw l v0 4 = 64 * vw l v0 3 + byt l 3 - 128 := rfl
  have q1 := hc 1; have q2 := hc 2; have q3 := hc 3
  rcases (by omega : j = 1 ∨ j = 2 ∨ j = 3 ∨ j = 4) with rfl | rfl | rfl | rfl <;> simp at q1 q2 q3 <;> omega
theorem contTo_next {l : List UInt8} {j : Nat} (hc : contTo l j) (h : byt l j / 64 = 2) : contTo l (j + 1) := fun k h1 h2 => by
  by_cases e : k = j
  · rw [e]; exact h
  · exact hc k h1 (by omega)


theorem fail_2 {l : List UInt8} (ha : 194 ≤ byt l 0) (hb : byt l 0 ≤ 223) {j : Nat} (h1 : 1 ≤ j) (h2 : j < 2) (h : byt l j / 64 ≠ 2) : dec l = (0, 0) := by
  unfold dec
  rcases d4_cases (byt l 0) (byt l 1) (byt l 2) (byt l 3) with ⟨p, e⟩ | ⟨p, q, r, e⟩ | ⟨p, q, r, s, t, e⟩ | ⟨p, q, r, s, t, u, e⟩ | ⟨p, e⟩
  · omega
  · rcases (by omega : j = 1) with rfl <;> omega
  · omega
  · omega
  · exact e
theorem end_2 {l : List UInt8} (ha : 194 ≤ byt l 0) (hb : byt l 0 ≤ 223) (hc : contTo l 2) {v : Int} (hv : v = vw l ((byt l 0 : Int) - 192) 2) :
    ((v < 128 ∨ 1114111 < v ∨ (55296 ≤ v ∧ v ≤ 57343)) → dec l = (0, 0)) ∧ (¬ (v < 128 ∨ 1114111 < v ∨ (55296 ≤ v ∧ v ≤ 57343)) → dec l = (v.toNat, 2)) := by
  have q1 := hc 1 (by omega) (by omega)
  have e1 : vw l ((byt l 0 : Int) - 192) 1 = (byt l 0 : Int) - 192 := rfl
  have e2 : vw l ((byt l 0 : Int) - 192) 2 = 64 * vw l ((byt l 0 : Int) - 192) 1 + byt l 1 - 128 := rfl
  unfold dec
  rcases d4_cases (byt l 0) (byt l 1) (byt l 2) (byt l 3) with ⟨p, e⟩ | ⟨p, q, r, e⟩ | ⟨p, q, r, s, t, e⟩ | ⟨p, q, r, s, t, u, e⟩ | ⟨p, e⟩
  · omega
  · refine ⟨fun h => by omega, fun h => ?_⟩
    rw [e]
    refine Prod.ext ?_ rfl
    simp only
    omega
  · omega
  · omega
  · refine ⟨fun _ => e, fun h => ?_⟩
    exfalso
    unfold d4 at e
    rw [if_neg (by omega), if_pos (by omega), if_pos (by omega)] at e
    have := (Prod.mk.inj e).2
    omega

set_option maxHeartbeats 4000000 in
set_option maxRecDepth 1000000 in
theorem at_2 (s : ByteArray) (i : Nat) (w : World) (hi : i < s.size) (hs : s.size ≤ 140737488355328) (ha : 194 ≤ (s[i]'hi).toNat) (hb : (s[i]'hi).toNat ≤ 223) :
    Calls Tryd.prog 35 #[.string s, .int .i64 i] w (AtIs s i w) := by
  have h0 : byt (s.data.toList.drop i) 0 = (s[i]'hi).toNat := byt_at s i 0 hi
  have hF : ∀ j, 1 ≤ j → j < 2 → byt (s.data.toList.drop i) j / 64 ≠ 2 → dec (s.data.toList.drop i) = (0, 0) := fun j h1 h2 h => fail_2 (by rw [h0]; exact ha) (by rw [h0]; exact hb) h1 h2 h
  have HF := Lib.hid hF
  have hE : contTo (s.data.toList.drop i) 2 → ∀ v : Int, v = vw (s.data.toList.drop i) (((s[i]'hi).toNat : Int) - 192) 2 → ((v < 128 ∨ 1114111 < v ∨ (55296 ≤ v ∧ v ≤ 57343)) → dec (s.data.toList.drop i) = (0, 0)) ∧ (¬ (v < 128 ∨ 1114111 < v ∨ (55296 ≤ v ∧ v ≤ 57343)) → dec (s.data.toList.drop i) = (v.toNat, 2)) := fun hc v hv => end_2 (by rw [h0]; exact ha) (by rw [h0]; exact hb) hc (by rw [h0]; exact hv)
  have HE := Lib.hid hE
  clear h0 hF hE
  by_cases hn : i + 2 ≤ s.size
  · have d1 : decide (((s[i]'hi).toNat : Int) < 128) = false := by simp; omega
    have d2 : decide ((s.size : Int) < (i : Int) + 2) = false := by simp; omega
    go_enter Tryd.func35, Tryd.ntmps35
    go_wp2
    go_loop [8, 10] (fun v k => ∃ j : Nat, 1 ≤ j ∧ j ≤ 2 ∧ k = .int .i64 j ∧ v = .int .i32 (vw (s.data.toList.drop i) (((s[i]'hi).toNat : Int) - 192) j) ∧ Hid (contTo (s.data.toList.drop i) j)) (fun _ k => 2 - (intOf k).toNat)
    case atStart => exact ⟨1, by omega, by omega, rfl, rfl, Lib.hid (fun _ _ _ => by omega)⟩
    case round =>
      obtain ⟨j, hj1, hj2, rfl, rfl, hc⟩ := hrel
      obtain ⟨v1, v2, v3⟩ := vw_bd (l := s.data.toList.drop i) (v0 := ((s[i]'hi).toNat : Int) - 192) (by omega) (by omega) hj1 (by omega) hc.out
      by_cases hlt : j < 2
      · have hij : i + j < s.size := by omega
        have v4 := v3 (by omega)
        have hbj : byt (s.data.toList.drop i) j = (s[i + j]'hij).toNat := byt_at s i j hij
        have hst := vw_step (s.data.toList.drop i) (((s[i]'hi).toNat : Int) - 192) hj1
        rw [hbj] at hst
        have Hbj := Lib.hid hbj
        have Hst := Lib.hid hst
        clear hbj hst v3
        generalize hvv : vw (s.data.toList.drop i) (((s[i]'hi).toNat : Int) - 192) j = v at *
        have Hvv := Lib.hid hvv
        clear hvv
        have hby := (s[i + j]'hij).toNat_lt
        by_cases hlo : (s[i + j]'hij).toNat < 128
        · go_wp2
          go_ret2
          exact atIs_of (HF.out j hj1 hlt (by rw [Hbj.out]; omega)) rfl rfl
        by_cases hhi : 191 < (s[i + j]'hij).toNat
        · go_wp2
          go_ret2
          exact atIs_of (HF.out j hj1 hlt (by rw [Hbj.out]; omega)) rfl rfl
        go_wp2
        go_round
        case rel => exact ⟨j + 1, by omega, by omega, by go_num, by rw [Hst.out], Lib.hid (contTo_next hc.out (by rw [Hbj.out]; omega))⟩
        case measure => simp [intOf]; omega
      · obtain rfl : j = 2 := by omega
        have HE2 := Lib.hid (HE.out hc.out _ rfl)
        clear v3
        generalize hvv : vw (s.data.toList.drop i) (((s[i]'hi).toNat : Int) - 192) 2 = v at *
        clear hvv
        go_wp2
        all_goals
          go_ret2
          first
            | exact atIs_of (HE2.out.1 (by omega)) rfl rfl
            | exact atIs_of (HE2.out.2 (by omega)) (by omega) rfl
  · have hz : byt (s.data.toList.drop i) 1 = 0 := by
      have : (s.data.toList.drop i)[1]? = none := List.getElem?_eq_none (by rw [List.length_drop, Array.length_toList]; show s.size - i ≤ 1; omega)
      unfold byt
      rw [List.getD_eq_getElem?_getD, this]
      rfl
    have Hd := Lib.hid (HF.out 1 (by omega) (by omega) (by rw [hz]; omega))
    clear hz
    go_enter Tryd.func35, Tryd.ntmps35
    go_wp2
    go_ret2
    exact atIs_of Hd.out rfl rfl

theorem fail_3 {l : List UInt8} (ha : 224 ≤ byt l 0) (hb : byt l 0 ≤ 239) {j : Nat} (h1 : 1 ≤ j) (h2 : j < 3) (h : byt l j / 64 ≠ 2) : dec l = (0, 0) := by
  unfold dec
  rcases d4_cases (byt l 0) (byt l 1) (byt l 2) (byt l 3) with ⟨p, e⟩ | ⟨p, q, r, e⟩ | ⟨p, q, r, s, t, e⟩ | ⟨p, q, r, s, t, u, e⟩ | ⟨p, e⟩
  · omega
  · omega
  · rcases (by omega : j = 1 ∨ j = 2) with rfl | rfl <;> omega
  · omega
  · exact e
theorem end_3 {l : List UInt8} (ha : 224 ≤ byt l 0) (hb : byt l 0 ≤ 239) (hc : contTo l 3) {v : Int} (hv : v = vw l ((byt l 0 : Int) - 224) 3) :
    ((v < 2048 ∨ 1114111 < v ∨ (55296 ≤ v ∧ v ≤ 57343)) → dec l = (0, 0)) ∧ (¬ (v < 2048 ∨ 1114111 < v ∨ (55296 ≤ v ∧ v ≤ 57343)) → dec l = (v.toNat, 3)) := by
  have q1 := hc 1 (by omega) (by omega)
  have q2 := hc 2 (by omega) (by omega)
  have e1 : vw l ((byt l 0 : Int) - 224) 1 = (byt l 0 : Int) - 224 := rfl
  have e2 : vw l ((byt l 0 : Int) - 224) 2 = 64 * vw l ((byt l 0 : Int) - 224) 1 + byt l 1 - 128 := rfl
  have e3 : vw l ((byt l 0 : Int) - 224) 3 = 64 * vw l ((byt l 0 : Int) - 224) 2 + byt l 2 - 128 := rfl
  unfold dec
  rcases d4_cases (byt l 0) (byt l 1) (byt l 2) (byt l 3) with ⟨p, e⟩ | ⟨p, q, r, e⟩ | ⟨p, q, r, s, t, e⟩ | ⟨p, q, r, s, t, u, e⟩ | ⟨p, e⟩
  · omega
  · omega
  · refine ⟨fun h => by omega, fun h => ?_⟩
    rw [e]
    refine Prod.ext ?_ rfl
    simp only
    omega
  · omega
  · refine ⟨fun _ => e, fun h => ?_⟩
    exfalso
    unfold d4 at e
    rw [if_neg (by omega), if_neg (by omega), if_pos (by omega), if_pos (by omega)] at e
    have := (Prod.mk.inj e).2
    omega

set_option maxHeartbeats 4000000 in
set_option maxRecDepth 1000000 in
theorem at_3 (s : ByteArray) (i : Nat) (w : World) (hi : i < s.size) (hs : s.size ≤ 140737488355328) (ha : 224 ≤ (s[i]'hi).toNat) (hb : (s[i]'hi).toNat ≤ 239) :
    Calls Tryd.prog 35 #[.string s, .int .i64 i] w (AtIs s i w) := by
  have h0 : byt (s.data.toList.drop i) 0 = (s[i]'hi).toNat := byt_at s i 0 hi
  have hF : ∀ j, 1 ≤ j → j < 3 → byt (s.data.toList.drop i) j / 64 ≠ 2 → dec (s.data.toList.drop i) = (0, 0) := fun j h1 h2 h => fail_3 (by rw [h0]; exact ha) (by rw [h0]; exact hb) h1 h2 h
  have HF := Lib.hid hF
  have hE : contTo (s.data.toList.drop i) 3 → ∀ v : Int, v = vw (s.data.toList.drop i) (((s[i]'hi).toNat : Int) - 224) 3 → ((v < 2048 ∨ 1114111 < v ∨ (55296 ≤ v ∧ v ≤ 57343)) → dec (s.data.toList.drop i) = (0, 0)) ∧ (¬ (v < 2048 ∨ 1114111 < v ∨ (55296 ≤ v ∧ v ≤ 57343)) → dec (s.data.toList.drop i) = (v.toNat, 3)) := fun hc v hv => end_3 (by rw [h0]; exact ha) (by rw [h0]; exact hb) hc (by rw [h0]; exact hv)
  have HE := Lib.hid hE
  clear h0 hF hE
  by_cases hn : i + 3 ≤ s.size
  · have d1 : decide (((s[i]'hi).toNat : Int) < 128) = false := by simp; omega
    have d2 : decide ((s.size : Int) < (i : Int) + 3) = false := by simp; omega
    have d3 : decide (((s[i]'hi).toNat : Int) ≤ 223) = false := by simp; omega
    go_enter Tryd.func35, Tryd.ntmps35
    go_wp2
    go_loop [8, 10] (fun v k => ∃ j : Nat, 1 ≤ j ∧ j ≤ 3 ∧ k = .int .i64 j ∧ v = .int .i32 (vw (s.data.toList.drop i) (((s[i]'hi).toNat : Int) - 224) j) ∧ Hid (contTo (s.data.toList.drop i) j)) (fun _ k => 3 - (intOf k).toNat)
    case atStart => exact ⟨1, by omega, by omega, rfl, rfl, Lib.hid (fun _ _ _ => by omega)⟩
    case round =>
      obtain ⟨j, hj1, hj2, rfl, rfl, hc⟩ := hrel
      obtain ⟨v1, v2, v3⟩ := vw_bd (l := s.data.toList.drop i) (v0 := ((s[i]'hi).toNat : Int) - 224) (by omega) (by omega) hj1 (by omega) hc.out
      by_cases hlt : j < 3
      · have hij : i + j < s.size := by omega
        have v4 := v3 (by omega)
        have hbj : byt (s.data.toList.drop i) j = (s[i + j]'hij).toNat := byt_at s i j hij
        have hst := vw_step (s.data.toList.drop i) (((s[i]'hi).toNat : Int) - 224) hj1
        rw [hbj] at hst
        have Hbj := Lib.hid hbj
        have Hst := Lib.hid hst
        clear hbj hst v3
        generalize hvv : vw (s.data.toList.drop i) (((s[i]'hi).toNat : Int) - 224) j = v at *
        have Hvv := Lib.hid hvv
        clear hvv
        have hby := (s[i + j]'hij).toNat_lt
        by_cases hlo : (s[i + j]'hij).toNat < 128
        · go_wp2
          go_ret2
          exact atIs_of (HF.out j hj1 hlt (by rw [Hbj.out]; omega)) rfl rfl
        by_cases hhi : 191 < (s[i + j]'hij).toNat
        · go_wp2
          go_ret2
          exact atIs_of (HF.out j hj1 hlt (by rw [Hbj.out]; omega)) rfl rfl
        go_wp2
        go_round
        case rel => exact ⟨j + 1, by omega, by omega, by go_num, by rw [Hst.out], Lib.hid (contTo_next hc.out (by rw [Hbj.out]; omega))⟩
        case measure => simp [intOf]; omega
      · obtain rfl : j = 3 := by omega
        have HE2 := Lib.hid (HE.out hc.out _ rfl)
        clear v3
        generalize hvv : vw (s.data.toList.drop i) (((s[i]'hi).toNat : Int) - 224) 3 = v at *
        clear hvv
        go_wp2
        all_goals
          go_ret2
          first
            | exact atIs_of (HE2.out.1 (by omega)) rfl rfl
            | exact atIs_of (HE2.out.2 (by omega)) (by omega) rfl
  · have hz : byt (s.data.toList.drop i) 2 = 0 := by
      have : (s.data.toList.drop i)[2]? = none := List.getElem?_eq_none (by rw [List.length_drop, Array.length_toList]; show s.size - i ≤ 2; omega)
      unfold byt
      rw [List.getD_eq_getElem?_getD, this]
      rfl
    have Hd := Lib.hid (HF.out 2 (by omega) (by omega) (by rw [hz]; omega))
    clear hz
    go_enter Tryd.func35, Tryd.ntmps35
    go_wp2
    go_ret2
    exact atIs_of Hd.out rfl rfl

end Go.Proofs.YtllpjfbcjcnpcaaDoor
