/-
  What the statements' awake answers: true.
  Conditions: the library's table of powers of ten holds what its text lays.
-/
import Derived.Test.YtohnhboeipckjaaGreatDoorWalLog
import Derived.Test.YtohnhboeipckjaaGreatDoorRecAwake
import Derived.Lib.SlBytesConst
namespace Go.Proofs.YtohnhboeipckjaaGreatDoor
open Go.RowKit

theorem Sto.plusW {W : World} {g : Nat} {X : Nat → Prop} {st : St} (h : Sto W g X st) (o : Obj) : Sto (W.alloc o) g (fun i => X i ∨ i = W.heap.size) st :=
  (h.wide ((Below.refl _ W).alloc (Nat.le_refl _) o)).less (fun i hi => hi.imp id (fun e => by subst e; simp))
theorem Ints.oneW (w : World) (X : Nat → Prop) (t : TypeId) (x : Int) (hX : X w.heap.size) (h1 : -9223372036854775808 ≤ x) (h2 : x ≤ 9223372036854775807) : Ints (w.alloc (.cells #[.int .i64 x] t)) X (some ⟨w.heap.size, 0, none⟩) [x] :=
  ⟨fun _ => ⟨w.heap.size, 0, rfl, hX, by simp, fun k hk => by
    have h : k = 0 := by simp at hk; omega
    subst h
    rw [cell_of_row _ _ _ _ _ _ (heap_alloc_new w _)]
    simp⟩, fun y hy => by simp at hy; subst hy; exact ⟨h1, h2⟩⟩
theorem ok1 : okN 1 := ⟨by omega, by omega⟩
theorem name12 : segL 12 = [115, 49, 50] := by
  unfold segL
  rw [Lib.decDigits_two (by omega) (by omega)]
  rfl
theorem num12 : numL [115, 49, 50] = 12 := by rw [← name12]; exact num_seg ⟨by omega, by omega⟩
/-- an empty store -/
theorem least_none : Least [] 1 := .inr ⟨rfl, fun _ _ => rfl⟩
theorem run_none : Run [] 1 [] := ⟨fun k h => by simp at h, fun k h => by simp at h, fun _ => rfl⟩
theorem fewer_none {fs : List Fl} (h : Fewer [] fs) : fs = [] := List.eq_nil_of_length_eq_zero (by have := h.many; simpa using this)
theorem runC_nil : runC [] = [] := rfl
/-- an append to an empty log -/
theorem app_first (size : Nat) (h1 : 1 ≤ size) (b : List UInt8) : appS size 1 [] b = [⟨segL 1, putL b, 0, false⟩] ∧ lastS size 1 [] = 1 := by
  have hz : lenF (segL 1) [] = 0 := rfl
  have hl : lastS size 1 [] = 1 := by unfold lastS; rw [hz, if_neg (by omega)]
  refine ⟨?_, hl⟩
  unfold appS rollS
  rw [hl, hz, if_neg (by omega)]
  rfl
theorem sync_first (P : List UInt8) (s : Nat) (y : Bool) : syncF (segL 1) [⟨segL 1, P, s, y⟩] = [⟨segL 1, P, P.length, true⟩] := by
  unfold syncF
  rw [show lookBy Fl.name (segL 1) [⟨segL 1, P, s, y⟩] = some ⟨segL 1, P, s, y⟩ by simp [lookBy]]
  simp [putBy, List.lt_irrefl]
theorem app_second {size : Nat} {P : List UInt8} (h : P.length < size) (s : Nat) (y : Bool) (b : List UInt8) : appS size 1 [⟨segL 1, P, s, y⟩] b = [⟨segL 1, P ++ putL b, s, y⟩] ∧ lastS size 1 [⟨segL 1, P, s, y⟩] = 1 := by
  have hk : lookBy Fl.name (segL 1) [⟨segL 1, P, s, y⟩] = some ⟨segL 1, P, s, y⟩ := by simp [lookBy]
  have hz : lenF (segL 1) [⟨segL 1, P, s, y⟩] = P.length := by unfold lenF conF; rw [hk]; rfl
  have hl : lastS size 1 [⟨segL 1, P, s, y⟩] = 1 := by unfold lastS; rw [hz, if_neg (by omega)]
  refine ⟨?_, hl⟩
  unfold appS rollS appF
  rw [hl, hz, if_neg (by omega), hk]
  simp [putBy, List.lt_irrefl]
theorem boot_first {P Q : List UInt8} (hP : P.length = 14) (hQ : Q.length = 14) : St.boot ⟨[⟨segL 1, P ++ Q, 14, true⟩], 1000, 0, true⟩ [3] = (⟨[⟨segL 1, (P ++ Q).take 17, 17, true⟩], 1000, 0, false⟩, 0) := by
  have hl : leftF ⟨segL 1, P ++ Q, 14, true⟩ 3 = 17 := by
    show 14 + min (3 : Int).toNat ((P ++ Q).length - 14) = 17
    rw [List.length_append, hP, hQ]
    rfl
  simp [St.boot, bootF, keptF, hl, sureF]
/-- one file -/
theorem one_run {P : List UInt8} {s : Nat} {y : Bool} : Run [⟨segL 1, P, s, y⟩] 1 [P] ∧ Least [⟨segL 1, P, s, y⟩] 1 := by
  have hk : lookBy Fl.name (segL 1) [⟨segL 1, P, s, y⟩] = some ⟨segL 1, P, s, y⟩ := by simp [lookBy]
  refine ⟨⟨fun k hk => ?_, fun k hk' => ?_, fun h2 => ?_⟩, .inl ⟨ok1, by rw [hk]; rfl, fun n hn _ => hn.1⟩⟩
  · have : k = 0 := by simp at hk; omega
    subst this
    exact ok1
  · have : k = 0 := by simp at hk'; omega
    subst this
    unfold conF
    rw [hk]
    rfl
  · have hne : segL 1 ≠ segL (1 + [P].length) := fun e => by
      have := seg_inj ok1 h2 e
      simp at this
    simp only [lookBy, List.find?_cons, List.find?_nil]
    rw [decide_eq_false hne]
/-- cut off in the second record -/
theorem cut_first : runC [(putL [97] ++ putL [98]).take 17] = [[[97]]] := by
  have hcat : putL [97] ++ putL [98] = catL [[97], [98]] := by rw [catL_cons, catL_cons, catL_nil, List.append_nil]
  have h1 : catL [[97]] = putL [97] := by rw [catL_cons, catL_nil, List.append_nil]
  have hl1 : (putL [97]).length = 14 := putL_len _
  have hl2 : (putL [98]).length = 14 := putL_len _
  have hw := (whole_cut (ls := [[97], [98]]) (by simp) (j := 1) (k := 17) (by simp) (by
    show (catL [[97]]).length ≤ 17
    rw [h1, hl1]; omega) (by rw [← hcat, List.length_append, hl1, hl2]; omega) (.inr (by
    show 17 < (catL [[97], [98]]).length
    rw [← hcat, List.length_append, hl1, hl2]; omega))).1
  rw [← hcat] at hw
  obtain ⟨e1, e2⟩ := all_eq hw
  rw [runC, e1, e2]
  show [[97]] :: (if (catL [[97]]).length = ((putL [97] ++ putL [98]).take 17).length then runC [] else []) = _
  rw [h1, hl1, List.length_take, List.length_append, hl1, hl2]
  rfl

set_option maxRecDepth 100000 in
set_option maxHeartbeats 4000000 in
theorem walAwake_any (w : World) (hT : Lib.TabIs Tryz.prog w "internal/strconv.uint64pow10" .u64 Lib.pow10Tab) :
    Calls Tryz.prog 8 #[] w fun e w' => e = .returned (.bool true) ∧ Below w.heap.size w w' := by
  have HN := Lib.hid (new_any 1000 w (by omega) (by omega))
  have hcv := fun (W : World) (C : Array Value) (n c : Nat) => Lib.run_convert_bytes_const (P := Tryz.prog) W 31 5 C n c Tryz.underlying31 Tryz.underlying5
  have HT := Lib.hid (Tab.of hT)
  clear hT
  go_enter Tryz.func8, Tryz.ntmps8
  go_wp2_with fail
  refine HN.out.mono ?_
  rintro e W1 ⟨rfl, hS1, hb1⟩
  obtain ⟨X0, hX0⟩ : ∃ X0 : Nat → Prop, X0 = fun i => i < w.heap.size := ⟨_, rfl⟩
  rw [← hX0] at hS1 HT
  obtain ⟨g, hg⟩ : ∃ g, g = w.heap.size + 1 := ⟨_, rfl⟩
  rw [← hg] at hS1 ⊢
  have HK1 : Hid (Keep X0 w W1) := Lib.hid (by rw [hX0]; exact Keep.of_below hb1)
  have HX := Lib.hid hX0
  have hw01 := hb1.size
  have HO := Lib.hid (open_any g X0 ⟨[], 1000, 0, false⟩ 100 1 [] W1 hS1 (HT.out.on HK1.out (fun _ h => h)) ⟨rfl, rfl⟩ least_none run_none (by omega) (by omega))
  clear hX0 hg HN hS1 hb1
  go_wp2_with fail
  refine HO.out.mono ?_
  rintro e W2 ⟨gl, v2, xs2, X2, fs2, rfl, hgl, hL2, hR2, _, _, hF2, hXX2, hK2⟩
  have hfs2 := fewer_none hF2
  subst hfs2
  have hL2' : Lg W2 gl g X2 ⟨[], 1000, 0, false⟩ 100 1 := hL2
  have HXX : Hid (∀ i, X0 i → X2 i ∧ i ≠ gl) := Lib.hid fun i hi => ⟨hXX2 i hi, fun e => by
    rw [HX.out] at hi
    have hi : i < w.heap.size := hi
    omega⟩
  have HK2 : Hid (Keep X0 w W2) := Lib.hid (HK1.out.trans hK2)
  have HL2 := Lib.hid hL2'
  obtain ⟨A2, c2, rfl, _⟩ := own_form hR2.own
  clear HO hL2 hL2' hR2 hF2 hXX2 hK2
  go_wp2_with fail
  have b3 := (Below.refl W2.heap.size W2).alloc (Nat.le_refl _) (.cells #[.int .u8 97] 5 (1, 2))
  have hl97 : (putL [97]).length = 14 := putL_len _
  have hl98 : (putL [98]).length = 14 := putL_len _
  have HKT : ∀ W, Keep X0 w W → Tab W (fun i => X2 i ∧ i ≠ gl) := fun W hk => HT.out.on hk HXX.out
  refine (wappend_any gl g X2 _ 100 1 _ [97] 1 1 _ (HL2.out.below b3) (HKT _ (HK2.out.trans (Keep.of_below b3))) ⟨rfl, rfl⟩ ok1 (by omega) (by omega) ((Byt.lit W2 5 (1, 2) [97]).more (by simp)) rfl (by simp) (by simp [usedF]) (by simp)).mono ?_
  rintro e W3 ⟨rfl, hL3, hK3⟩
  rw [(app_first 100 (by omega) [97]).1, (app_first 100 (by omega) [97]).2] at hL3
  have HL3 := Lib.hid hL3
  have HK3 : Hid (Keep X0 w W3) := Lib.hid ((HK2.out.trans (Keep.of_below b3)).trans (hK3.mono HXX.out))
  clear hL3 hK3 b3 HL2
  go_wp2_with fail
  refine (wsync_any gl g X2 _ 100 1 W3 HL3.out ((HKT _ HK3.out).more (fun i hi => hi.1)) ⟨rfl, rfl⟩ ok1).mono ?_
  rintro e W4 ⟨rfl, hL4, hK4⟩
  simp only [St.with] at hL4
  rw [sync_first, hl97] at hL4
  have HL4 := Lib.hid hL4
  have HK4 : Hid (Keep X0 w W4) := Lib.hid (HK3.out.trans (hK4.mono fun i hi => (HXX.out i hi).1))
  clear hL4 hK4 HL3
  go_wp2_with fail
  have b5 := (Below.refl W4.heap.size W4).alloc (Nat.le_refl _) (.cells #[.int .u8 98] 5 (1, 2))
  refine (wappend_any gl g X2 _ 100 1 _ [98] 1 1 _ (HL4.out.below b5) (HKT _ (HK4.out.trans (Keep.of_below b5))) ⟨rfl, rfl⟩ ok1 (by omega) (by omega) ((Byt.lit W4 5 (1, 2) [98]).more (by simp)) rfl (by simp) (by simp [usedF, hl97]) (by simp)).mono ?_
  rintro e W5 ⟨rfl, hL5, hK5⟩
  simp only [St.with] at hL5
  rw [(app_second (by rw [hl97]; omega) 14 true [98]).1, (app_second (by rw [hl97]; omega) 14 true [98]).2] at hL5
  have HL5 := Lib.hid hL5
  have HK5 : Hid (Keep X0 w W5) := Lib.hid ((HK4.out.trans (Keep.of_below b5)).trans (hK5.mono HXX.out))
  clear hL5 hK5 b5 HL4
  go_wp2_with fail
  refine (crash_any g X2 _ W5 HL5.out.sto).mono ?_
  rintro e W6 ⟨rfl, hS6, hK6⟩
  have HK6 : Hid (Keep X0 w W6) := Lib.hid (HK5.out.trans (hK6.mono fun i hi => (HXX.out i hi).1))
  have HS6 := Lib.hid hS6
  clear hS6 hK6 HL5
  go_wp2_with fail
  have b7 := (Below.refl W6.heap.size W6).alloc (Nat.le_refl _) (.cells #[.int .i64 3] 3)
  refine (boot_any g _ _ _ _ [3] 1 (HS6.out.plusW (.cells #[.int .i64 3] 3)) (Ints.oneW W6 _ 3 3 (.inr rfl) (by omega) (by omega)) (by simp)).mono ?_
  intro e W7 hD
  obtain ⟨rfl, hS7, hK7⟩ := done_up hD (boot_first hl97 hl98) (z := 0) rfl
  have HK7 : Hid (Keep X0 w W7) := Lib.hid ((HK6.out.trans (Keep.of_below b7)).trans (hK7.mono fun i hi => .inl (HXX.out i hi).1))
  have HO := Lib.hid (open_any g _ _ 100 1 [(putL [97] ++ putL [98]).take 17] W7 hS7 (HT.out.on HK7.out (fun i hi => .inl (HXX.out i hi).1)) ⟨rfl, rfl⟩ one_run.2 one_run.1 (by omega) (by omega))
  clear hD hS7 hK7 HS6 b7
  go_wp2_with fail
  refine HO.out.mono ?_
  rintro e W8 ⟨gl8, v8, xs8, X8, fs8, rfl, _, _, hR8, hE8, _, _, hXX8, hK8⟩
  rw [cut_first] at hE8
  obtain ⟨x8, rfl, hx8⟩ : ∃ x, xs8 = [x] ∧ x.l = [97] := by
    match xs8, hE8 with
    | [x], h => exact ⟨x, rfl, by simpa using h⟩
    | [], h => simp at h
    | _ :: _ :: _, h => simp at h
  have HK8 : Hid (Keep X0 w W8) := Lib.hid (HK7.out.trans (hK8.mono fun i hi => .inl (HXX.out i hi).1))
  obtain ⟨A8, c8, rfl, _⟩ := own_form hR8.own
  have hsl := hR8.sls rfl
  simp only [List.map_cons, List.map_nil, hx8] at hsl
  obtain ⟨q, o, A9, c9, rfl, hc9, hby9⟩ := hsl 0 (by simp)
  simp only [List.getElem_cons_zero, List.length_cons, List.length_nil, Nat.zero_add, Nat.add_zero] at hc9 hby9
  have htx := hby9.text (P := Tryz.prog) 31 5 9 Tryz.underlying31 Tryz.underlying5 Tryz.underlying9 c9
  simp only [List.length_cons, List.length_nil, Nat.zero_add] at htx ⊢
  have HNM := Lib.hid (name_ok (n := 12) X0 W8 (HT.out.on HK8.out (fun _ h => h)) ⟨by omega, by omega⟩)
  rw [name12] at HNM
  have HNU := fun W => Lib.hid (number_any ⟨#[115, 49, 50]⟩ W (by decide))
  simp only [num12] at HNU
  clear HO hR8 hE8 hx8 hK8 hsl hby9 hXX8 hcv HKT hl97 hl98
  go_wp2_with (first
    | (go_at_call 18; refine HNM.out.mono ?_; rintro e W9 ⟨rfl, b9⟩)
    | (go_at_call 22; refine (HNU _).out.mono ?_; rintro e W10 ⟨rfl, b10⟩))
  go_ret
  refine ⟨rfl, ((HK8.out.trans (Keep.of_below b9)).trans (Keep.of_below b10)).below (Nat.le_refl _) fun i hi => ?_⟩
  rw [HX.out]
  exact hi
end Go.Proofs.YtohnhboeipckjaaGreatDoor
