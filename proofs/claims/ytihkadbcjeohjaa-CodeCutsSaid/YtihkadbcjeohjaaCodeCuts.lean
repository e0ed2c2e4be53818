/-
  The statement CodeCutsSaid: for every input the law function CodeCuts returns true (a right event's form, cut off anywhere, is none's, nor is it with a byte behind), and the arguments read afterwards as before.
  Conditions: none.
-/
import Derived.Test.YtihkadbcjeohjaaCodAwake
import Derived.Test.YtihkadbcjeohjaaCodTEvent
import Derived.Test.YtihkadbcjeohjaaCodRGood
import Derived.Test.YtihkadbcjeohjaaCodPutE
import Derived.Test.YtihkadbcjeohjaaCodEvArg
import Derived.Test.YtihkadbcjeohjaaDefSmall
namespace Go.Proofs.Ytihkadbcjeohjaa.codeCuts
open Go.Proofs.Ytihkadbcjeohjaa.Co
open Go.ChangeShapes Go.WideShapes Go.ChangeAt Go.RowKit
open Go.Proofs.Ytihkadbcjeohjaa.El
open Go.Proofs.Ytihkadbcjeohjaa.Df
open Go.Proofs.Ytihkadbcjeohjaa.Bo (P Made ret_int ret_bool)
open Go.Proofs.Ytihkadbcjeohjaa.Sa (Sg Rp)

theorem u8_of {x : Int} (h : 0 ≤ x ∧ x < 256) : x = ((UInt8.ofNat x.toNat).toNat : Int) := by rw [UInt8.toNat_ofNat']; omega
set_option maxHeartbeats 16000000 in
set_option maxRecDepth 100000 in
theorem walk (v : Ev) (A : Option Addr) (n c : Nat) (a1 a2 : Int) (w : World) (hn : n = v.ss.length) (hz : v.nm.size ≤ 9223372036854775807 ∧ v.dn.size ≤ 9223372036854775807) (hb : n ≤ 9223372036854775807) (hc : n ≤ c) (hf : ∀ s ∈ v.ss, s.Fits) (hS : Df.Steps w w.heap.size A v.ss) (h1 : 0 ≤ a1 ∧ a1 ≤ 65535) (h2 : 0 ≤ a2 ∧ a2 < 256) :
    Calls Try.prog 6 #[.agg #[.int .i64 v.k, .int .i64 v.now, .int .i64 v.sg, .string v.nm, .int .i64 v.r.sg, .int .i64 v.r.sp, .bool v.r.un, .int .i64 v.r.tr, .bool v.r.good, .string v.dn, .int .i64 v.dl, .slice A n c], .int .u16 a1, .int .u8 a2] w fun e w' => e = .returned (.bool true) ∧ Below w.heap.size w w' := by
  have HW := Lib.hid ((Below.refl w.heap.size w).alloc (Nat.le_refl _) (.cells #[.int .i64 v.k, .int .i64 v.now, .int .i64 v.sg, .string v.nm, .int .i64 v.r.sg, .int .i64 v.r.sp, .bool v.r.un, .int .i64 v.r.tr, .bool v.r.good, .string v.dn, .int .i64 v.dl, .slice A n c] 51))
  have HX := Lib.hid (Box.new w 51 #[.int .i64 v.k, .int .i64 v.now, .int .i64 v.sg, .string v.nm, .int .i64 v.r.sg, .int .i64 v.r.sp, .bool v.r.un, .int .i64 v.r.tr, .bool v.r.good, .string v.dn, .int .i64 v.dl, .slice A n c])
  have HSm : Hid (∀ W, Below w.heap.size w W → Calls Try.prog 8 #[.agg #[.string v.dn, .int .i64 v.dl, .slice A n c]] W fun e w'' => e = .returned (.int .i64 (smallI v.dn v.ss)) ∧ Made W w'') := Lib.hid fun W h => small_any v.dn v.dl A c v.ss n W hn hb hz.2 hf (hS.on h)
  have HS := Lib.hid hS
  have HN := Lib.hid hn
  have HC := Lib.hid hc
  have hzn := hz.1
  clear hS hn hf hc hz hb
  by_cases q0 : smallI v.dn v.ss = 0
  rotate_left
  · have g0 : (smallI v.dn v.ss != 0) = true := by simpa using q0
    clear q0
    go_enter Try.func6, Try.ntmps6
    go_wp2_with fail
    generalize w.alloc (.cells #[.int .i64 v.k, .int .i64 v.now, .int .i64 v.sg, .string v.nm, .int .i64 v.r.sg, .int .i64 v.r.sp, .bool v.r.un, .int .i64 v.r.tr, .bool v.r.good, .string v.dn, .int .i64 v.dl, .slice A n c] 51) = W0 at *
    refine (awake_any _).mono ?_
    rintro e w1 ⟨rfl, b1⟩
    have HX1 := Lib.hid (HX.out.below b1 HX.out.lt)
    have HW1 := Lib.hid (HW.out.trans (b1.mono HW.out.size))
    clear b1
    obtain ⟨c0, c1, c2, c3, c4, c5, c6, c7, c8, c9, c10, c11⟩ := evc (v := v) HX1.out
    go_wp2_with fail
    refine (HSm.out _ HW1.out).mono ?_
    rintro e w2 ⟨rfl, hm⟩
    have HX2 := Lib.hid (Bo.Box.made HX1.out hm)
    have HW2 := Lib.hid (HW1.out.trans (hm.below.mono HW1.out.size))
    clear hm c0 c1 c2 c3 c4 c5 c6 c7 c8 c9 c10 c11 HX1 HW1
    obtain ⟨c0, c1, c2, c3, c4, c5, c6, c7, c8, c9, c10, c11⟩ := evc (v := v) HX2.out
    go_wp2
    go_ret
    exact ⟨rfl, HW2.out⟩
  obtain ⟨s40, snm, sst⟩ := small_yes q0
  rw [q0] at HSm
  have HM : Hid (Mod v.dn v.ss) := Lib.hid ⟨by omega, by omega, fun s hs => by have := sst s hs; omega⟩
  have HFi : Hid (∀ x ∈ v.ss, x.nm.size ≤ 256 ∧ x.pt.size ≤ 256) := Lib.hid fun s hs => by have := sst s hs; omega
  clear q0 sst s40
  by_cases q1 : 200 < v.nm.size
  · have g1 : decide (200 < (v.nm.size : Int)) = true := decide_eq_true (by omega)
    go_enter Try.func6, Try.ntmps6
    go_wp2_with fail
    generalize w.alloc (.cells #[.int .i64 v.k, .int .i64 v.now, .int .i64 v.sg, .string v.nm, .int .i64 v.r.sg, .int .i64 v.r.sp, .bool v.r.un, .int .i64 v.r.tr, .bool v.r.good, .string v.dn, .int .i64 v.dl, .slice A n c] 51) = W0 at *
    refine (awake_any _).mono ?_
    rintro e w1 ⟨rfl, b1⟩
    have HX1 := Lib.hid (HX.out.below b1 HX.out.lt)
    have HW1 := Lib.hid (HW.out.trans (b1.mono HW.out.size))
    clear b1
    obtain ⟨c0, c1, c2, c3, c4, c5, c6, c7, c8, c9, c10, c11⟩ := evc (v := v) HX1.out
    go_wp2_with fail
    refine (HSm.out _ HW1.out).mono ?_
    rintro e w2 ⟨rfl, hm⟩
    have HX2 := Lib.hid (Bo.Box.made HX1.out hm)
    have HW2 := Lib.hid (HW1.out.trans (hm.below.mono HW1.out.size))
    clear hm c0 c1 c2 c3 c4 c5 c6 c7 c8 c9 c10 c11 HX1 HW1
    obtain ⟨c0, c1, c2, c3, c4, c5, c6, c7, c8, c9, c10, c11⟩ := evc (v := v) HX2.out
    go_wp2
    go_ret
    exact ⟨rfl, HW2.out⟩
  have g1 : decide (200 < (v.nm.size : Int)) = false := decide_eq_false (by omega)
  have HIn : Hid (∀ W, Below w.heap.size w W → EvIn W v A n c) := Lib.hid fun W h => ⟨HN.out, HC.out, HM.out, by omega, HS.out.on h⟩
  have HFt : Hid v.Fits := Lib.hid ⟨by omega, by omega, HFi.out⟩
  have HRG : Hid (∀ W, Below w.heap.size w W → Calls Try.prog 23 #[.agg #[.int .i64 v.k, .int .i64 v.now, .int .i64 v.sg, .string v.nm, .int .i64 v.r.sg, .int .i64 v.r.sp, .bool v.r.un, .int .i64 v.r.tr, .bool v.r.good, .string v.dn, .int .i64 v.dl, .slice A n c]] W fun e w' => e = .returned (.bool (goodE v)) ∧ Below W.heap.size W w') := Lib.hid fun W h => rgoodE_any v A n c W (HIn.out W h)
  have HLr := Lib.hid (restF_len v HM.out (by omega))
  have HLe := Lib.hid (eventF_len v)
  clear q1
  cases hg : goodE v with
  | false =>
    rw [hg] at HRG
    clear hg
    go_enter Try.func6, Try.ntmps6
    go_wp2_with fail
    generalize w.alloc (.cells #[.int .i64 v.k, .int .i64 v.now, .int .i64 v.sg, .string v.nm, .int .i64 v.r.sg, .int .i64 v.r.sp, .bool v.r.un, .int .i64 v.r.tr, .bool v.r.good, .string v.dn, .int .i64 v.dl, .slice A n c] 51) = W0 at *
    refine (awake_any _).mono ?_
    rintro e w1 ⟨rfl, b1⟩
    have HX1 := Lib.hid (HX.out.below b1 HX.out.lt)
    have HW1 := Lib.hid (HW.out.trans (b1.mono HW.out.size))
    clear b1
    obtain ⟨c0, c1, c2, c3, c4, c5, c6, c7, c8, c9, c10, c11⟩ := evc (v := v) HX1.out
    go_wp2_with fail
    refine (HSm.out _ HW1.out).mono ?_
    rintro e w2 ⟨rfl, hm⟩
    have HX2 := Lib.hid (Bo.Box.made HX1.out hm)
    have HW2 := Lib.hid (HW1.out.trans (hm.below.mono HW1.out.size))
    clear hm c0 c1 c2 c3 c4 c5 c6 c7 c8 c9 c10 c11 HX1 HW1
    obtain ⟨c0, c1, c2, c3, c4, c5, c6, c7, c8, c9, c10, c11⟩ := evc (v := v) HX2.out
    go_wp2_with fail
    refine (HRG.out _ HW2.out).mono ?_
    rintro e w3 ⟨rfl, b3⟩
    have HW3 := Lib.hid (HW2.out.trans (b3.mono HW2.out.size))
    clear b3
    go_wp2
    go_ret
    exact ⟨rfl, HW3.out⟩
  | true =>
    rw [hg] at HRG
    have HPE : Hid (∀ W, Below w.heap.size w W → Calls Try.prog 24 #[.agg #[.int .i64 v.k, .int .i64 v.now, .int .i64 v.sg, .string v.nm, .int .i64 v.r.sg, .int .i64 v.r.sp, .bool v.r.un, .int .i64 v.r.tr, .bool v.r.good, .string v.dn, .int .i64 v.dl, .slice A n c]] W (PutTo W (eventF v))) := Lib.hid fun W h => putEvent_yes v A n c W (HIn.out W h) hg
    obtain ⟨L, hL⟩ : ∃ L, L = eventF v := ⟨_, rfl⟩
    have hL24 : 24 ≤ L.length ∧ L.length ≤ 4000000000 := by rw [hL]; have := HLe.out; have := HLr.out; omega
    have HCut : Hid (∀ k, k < L.length → (evA (L.take k)).2.2 ≠ 0) := Lib.hid fun k hk => by rw [hL] at hk ⊢; exact ev_cut hg HFt.out hk
    have HMore : Hid (∀ b, evA (L ++ [b]) = (ev0, L.length, 3)) := Lib.hid fun b => by rw [hL]; exact ev_more hg HFt.out b
    rw [← hL] at HPE
    clear hg hL
    obtain ⟨i0, hi0, hz0, hz1, hz2⟩ := info_parts info5
    go_enter Try.func6, Try.ntmps6
    go_wp2_with fail
    generalize w.alloc (.cells #[.int .i64 v.k, .int .i64 v.now, .int .i64 v.sg, .string v.nm, .int .i64 v.r.sg, .int .i64 v.r.sp, .bool v.r.un, .int .i64 v.r.tr, .bool v.r.good, .string v.dn, .int .i64 v.dl, .slice A n c] 51) = W0 at *
    refine (awake_any _).mono ?_
    rintro e w1 ⟨rfl, b1⟩
    have HX1 := Lib.hid (HX.out.below b1 HX.out.lt)
    have HW1 := Lib.hid (HW.out.trans (b1.mono HW.out.size))
    clear b1
    obtain ⟨c0, c1, c2, c3, c4, c5, c6, c7, c8, c9, c10, c11⟩ := evc (v := v) HX1.out
    go_wp2_with fail
    refine (HSm.out _ HW1.out).mono ?_
    rintro e w2 ⟨rfl, hm⟩
    have HX2 := Lib.hid (Bo.Box.made HX1.out hm)
    have HW2 := Lib.hid (HW1.out.trans (hm.below.mono HW1.out.size))
    clear hm c0 c1 c2 c3 c4 c5 c6 c7 c8 c9 c10 c11 HX1 HW1
    obtain ⟨c0, c1, c2, c3, c4, c5, c6, c7, c8, c9, c10, c11⟩ := evc (v := v) HX2.out
    go_wp2_with fail
    refine (HRG.out _ HW2.out).mono ?_
    rintro e w3 ⟨rfl, b3⟩
    have HX3 := Lib.hid (HX2.out.below b3 HX2.out.lt)
    have HW3 := Lib.hid (HW2.out.trans (b3.mono HW2.out.size))
    clear b3 c0 c1 c2 c3 c4 c5 c6 c7 c8 c9 c10 c11 HX2 HW2
    obtain ⟨c0, c1, c2, c3, c4, c5, c6, c7, c8, c9, c10, c11⟩ := evc (v := v) HX3.out
    go_wp2_with fail
    refine (HPE.out _ HW3.out).mono ?_
    rintro e w4 ⟨A2, cb, rfl, hc2, hy, b4⟩
    have HY := Lib.hid hy
    have HW4 := Lib.hid (HW3.out.trans (b4.mono HW3.out.size))
    clear b4 hy c0 c1 c2 c3 c4 c5 c6 c7 c8 c9 c10 c11 HX3 HW3
    obtain ⟨N, hN⟩ : ∃ N, N = L.length := ⟨_, rfl⟩
    rw [← hN]
    have hN24 : 24 ≤ N ∧ N ≤ 4000000000 := by rw [hN]; exact hL24
    rw [← hN] at hc2
    have HNL := Lib.hid hN
    clear hN hL24
    obtain ⟨m1, hm1⟩ : ∃ m : Nat, a1 = (m : Int) := ⟨a1.toNat, by omega⟩
    subst hm1
    obtain ⟨k, hk⟩ : ∃ k, k = m1 % N := ⟨_, rfl⟩
    have hkN : k < N := by rw [hk]; exact Nat.mod_lt _ (by omega)
    have hrem : (m1 : Int).tmod (N : Int) = (k : Int) := by rw [hk]; rfl
    have hrem2 : (m1 : Int) % (N : Int) = (k : Int) := by rw [hk]; rfl
    have hw64 : IntKind.i64.wrap (m1 : Int) = (m1 : Int) := by rw [IntKind.wrap_i64]; omega
    have hcut := fun W => run_cut_to (P := Try.prog) W 25 5 Try.underlying25 sizeOf5 A2 N cb (k : Int) (by omega) (by omega)
    simp only [Int.toNat_natCast] at hcut
    have hN0 : ((N : Int) == 0) = false := beq_false_of_ne (by omega)
    clear hk
    go_wp2_with fail
    have HT1 := Lib.hid (takeEvent_any A2 (L.take k) cb w4 (HY.out.take k) (by rw [List.length_take]; have := HNL.out; omega))
    rw [show (L.take k).length = k by rw [List.length_take]; have := HNL.out; omega] at HT1
    refine HT1.out.mono ?_
    rintro e w5 ⟨A3, n3, c3, rfl, -, -, -, b5⟩
    have HER := Lib.hid (HCut.out k (by have := HNL.out; omega))
    obtain ⟨er, her⟩ : ∃ er, er = (evA (L.take k)).2.2 := ⟨_, rfl⟩
    obtain ⟨ea, hea⟩ : ∃ er, er = (evA (L.take k)).2.1 := ⟨_, rfl⟩
    obtain ⟨x1, hx1⟩ : ∃ x, x = (evA (L.take k)).1 := ⟨_, rfl⟩
    rw [← her, ← hea, ← hx1]
    rw [← her] at HER
    have ger : ((er : Int) != 0) = true := by have := HER.out; simpa using this
    have ger2 : ((er : Int) == 0) = false := by have := HER.out; simpa using this
    have HW5 := Lib.hid (HW4.out.trans (b5.mono HW4.out.size))
    have HY5 := Lib.hid ((HY.out.below b5).more b5.size)
    clear b5 her hea hx1 HT1 hcut hrem hrem2 hw64
    obtain ⟨b, hbb⟩ : ∃ b : UInt8, b = UInt8.ofNat a2.toNat := ⟨_, rfl⟩
    have ha2 : a2 = (b.toNat : Int) := by rw [hbb]; exact u8_of h2
    clear hbb
    subst ha2
    go_upto_region 9 with fail
    have HW6 := Lib.hid (HW5.out.alloc HW5.out.size (.cells #[.int .i64 x1.k, .int .i64 x1.now, .int .i64 x1.sg, .string x1.nm, .int .i64 x1.r.sg, .int .i64 x1.r.sp, .bool x1.r.un, .int .i64 x1.r.tr, .bool x1.r.good, .string x1.dn, .int .i64 x1.dl, .slice A3 n3 c3] 51))
    have HY6 := Lib.hid ((HY5.out.below ((Below.refl _ w5).alloc (Nat.le_refl _) (.cells #[.int .i64 x1.k, .int .i64 x1.now, .int .i64 x1.sg, .string x1.nm, .int .i64 x1.r.sg, .int .i64 x1.r.sp, .bool x1.r.un, .int .i64 x1.r.tr, .bool x1.r.good, .string x1.dn, .int .i64 x1.dl, .slice A3 n3 c3] 51))).more (by simp : w5.heap.size ≤ (w5.alloc (.cells #[.int .i64 x1.k, .int .i64 x1.now, .int .i64 x1.sg, .string x1.nm, .int .i64 x1.r.sg, .int .i64 x1.r.sp, .bool x1.r.un, .int .i64 x1.r.tr, .bool x1.r.good, .string x1.dn, .int .i64 x1.dl, .slice A3 n3 c3] 51)).heap.size))
    clear HW5 HY5
    generalize w5.alloc (.cells #[.int .i64 x1.k, .int .i64 x1.now, .int .i64 x1.sg, .string x1.nm, .int .i64 x1.r.sg, .int .i64 x1.r.sp, .bool x1.r.un, .int .i64 x1.r.tr, .bool x1.r.good, .string x1.dn, .int .i64 x1.dl, .slice A3 n3 c3] 51) = W6 at *
    have hMr := HMore.out b
    have HMr := Lib.hid hMr
    clear hMr
    go_wp2_with (first
      | (at_builtin; refine wpList_append_byt _ rfl (.tmp 57) (.tmp 58) 25 rfl W6.heap.size 5 i0 _ Try.underlying25 hi0 hz0 hz1 hz2 rfl _ 0 [] rfl (World.ownsRow_lit W6 #[] 0 (Nat.le_refl _) (by decide) rfl) W6.heap.size A2 N cb L rfl HNL.out (HY6.out.below ((Below.refl _ _).alloc (Nat.le_refl _) _)) (by have := HNL.out; omega) (by simp) ?_; intro v1 w7 hown1 hg1 hat1; rw [Nat.zero_add, List.nil_append] at hown1; obtain ⟨A7, c7, rfl, hc7⟩ := own_form hown1; have HO1 := Lib.hid hown1; have HG1 := Lib.hid (((Below.refl _ W6).alloc (Nat.le_refl _) _).grown hg1 (by simp) fun k hk => ((World.ownsRow_lit (base := W6.heap.size) (e := 5) (size := 1) W6 #[] 0 (Nat.le_refl _) (by decide) rfl).lt k hk).1); clear hown1 hg1 hat1 hc7)
      | (at_builtin; refine wpList_append_byt _ rfl (.tmp 59) (.tmp 61) 25 rfl W6.heap.size 5 i0 _ Try.underlying25 hi0 hz0 hz1 hz2 rfl _ L.length (cellsB L) rfl (HO1.out.alloc _) (w7.heap.size + 1) _ _ _ [b] rfl rfl (Byt.one w7 5 _ b rfl) (by have := HNL.out; simp; omega) (by have := HG1.out.size; simp; omega) ?_; intro v2 w8 hown2 hg2 hat2; rw [← cellsB_app] at hown2; obtain ⟨A4, c4, rfl, hc4⟩ := own_form hown2; have HO2 := Lib.hid hown2; have HG2 := Lib.hid ((HG1.out.alloc HG1.out.size _).grown hg2 (by have := HG1.out.size; simp; omega) (fun k hk => (HO1.out.lt k hk).1)); clear hown2 hg2 hat2 hc4))
    have HT2 := Lib.hid (takeEvent_any A4 (L ++ [b]) c4 w8 (Byt.own (by have h := HO2.out; rw [show L.length + [b].length = (L ++ [b]).length by simp] at h; exact h)) (by have := HNL.out; simp; omega))
    rw [HMr.out, show (L ++ [b]).length = L.length + 1 by simp] at HT2
    refine HT2.out.mono ?_
    rintro e w9 ⟨A5, n5, c5, rfl, -, -, -, b9⟩
    have HW9 := Lib.hid ((HW6.out.trans (HG2.out.mono HW6.out.size)).trans (b9.mono (by have := HG2.out.size; have := HW6.out.size; omega)))
    rw [← HNL.out]
    have gN : ((N : Int) == (N : Int)) = true := by simp
    clear b9 HT2
    go_wp2
    go_ret
    exact ⟨rfl, HW9.out.alloc HW9.out.size _⟩

set_option maxRecDepth 100000 in
theorem lifted (os : Os) (started : os.Started) (H : Type) (enc : TypeId × Value → H) :
    ReturnsInHanded {} Try.checked os 6 .any (Rows.codeCutsSpec.pre6 enc Try.prog Try.f6 Rows.codeCutsRow.domain false) (Rows.codeCutsSpec.post enc Try.prog Try.f6 false true false false) := by
  refine returnsInHanded_of_change_sized (C := Try.checked) own started (by kernel_rfl) Try.func6
    (ChangeSpec.witness6 (enc := enc) (C := Try.checked) false ⟨#[], #[.agg #[.int .i64 0, .int .i64 0, .int .i64 0, .string ⟨#[]⟩, .int .i64 0, .int .i64 0, .bool false, .int .i64 0, .bool false, .string ⟨#[]⟩, .int .i64 0, .slice none 0 0], .int .u16 0, .int .u8 0], []⟩ 8 (by kernel_rfl) (by kernel_rfl) (by kernel_rfl) (by kernel_rfl)) ?_
  intro W base args ds gs before hval0 hW _ _ _
  have hval : ∀ (j : Nat) t v, Try.f6.params[j]? = some t → args[j]? = some v → Value.okWide Try.prog W .any base t v := hval0
  have hW' := hW
  obtain ⟨p, q, hA0, hV, rfl, _, _⟩ := hW
  have hA : DataW.TrodAll enc Try.prog W 0 (fun _ => true) true Try.f6.params.toList args.toList ds p := hA0
  rw [Try.params6] at hA hval
  obtain ⟨rfl, rfl⟩ := trodVars_none hV
  obtain ⟨v0, vs0, d0, ds0, p0, q0, hargs, rfl, rfl, h0, r0⟩ := trodAll_cons hA
  obtain ⟨v1, vs1, d1, ds1, p1, q1, rfl, rfl, rfl, h1, r1⟩ := trodAll_cons r0
  obtain ⟨v2, vs2, d2, ds2, p2, q2, rfl, rfl, rfl, h2, r2⟩ := trodAll_cons r1
  obtain ⟨rfl, rfl, rfl⟩ := trodAll_nil r2
  obtain rfl : args = #[v0, v1, v2] := by cases args; simp_all
  obtain ⟨x0, A0, c0, y0, z0, n0, cc0, f0, e0⟩ := arg_ev (hval 0 51 v0 rfl rfl) h0
  obtain ⟨a1, rfl, rfl, rfl, w1⟩ := open_int Try.underlying62 (hval 1 62 v1 rfl rfl) h1
  obtain ⟨a2, rfl, rfl, rfl, w2⟩ := open_int Try.underlying5 (hval 2 5 v2 rfl rfl) h2
  clear hA0 hval0
  simp only [List.append_nil] at hW'
  have hlt0 : ∀ x ∈ p0, x.block < W.heap.size := fun x hx => by simpa using hW'.lt x (by simp [hx])
  subst y0
  refine (walk x0 A0 x0.ss.length c0 a1 a2 W rfl z0 n0 cc0 f0 e0 (u16_wf w1) (byte_wf w2)).mono fun e W' ⟨he, bel⟩ => ?_
  subst he
  exact ⟨_, rfl, _, _, _, [], _, [], hW', trodAll_mk1 (shut_bool Try.underlying4 _), (trodAll_cons_mk (Below.trod laidOut (by kernel_rfl) (of_decide_eq_true (by kernel_rfl)) h0 bel hlt0) (trodAll_cons_mk (shut_int Try.underlying62 w1) (trodAll_cons_mk (shut_int Try.underlying5 w2) trodAll_mk0))), rfl, bel.frame _, fun h => by cases h⟩

/-- the statement -/
theorem proved : Rows.CodeCutsSaid :=
  OpenClaim.holds_of_wide 6 Try.f6 rfl rfl rfl rfl rfl rfl rfl ⟨rfl, rfl, rfl, rfl, rfl⟩ rfl rfl rfl rfl rfl (by kernel_rfl) Try.func6 (by kernel_rfl)
    (of_decide_eq_true (by kernel_rfl)) (by unfold Func.isWrapper; first | (rw [if_pos (by decide +kernel)]; kernel_rfl) | (rw [if_neg (by decide +kernel)]; exact ⟨rfl, rfl⟩))
    (fun os started H enc _ => lifted os started H enc)
#print axioms proved

end Go.Proofs.Ytihkadbcjeohjaa.codeCuts
