/-
  What checkStep answers: what is wrong with a step behind others.
  Conditions: the steps ahead lie in memory; texts have at most 2^45 bytes.
-/
import Derived.Test.YteejocnogpaifaaGreatDoorMrg2
import Derived.Test.YteejocnogpaifaaGreatDoorMrg1
namespace Go.Proofs.YteejocnogpaifaaGreatDoor.Df
open Go.RowKit
open Go.Proofs.YteejocnogpaifaaGreatDoor.El
open Go.Proofs.YteejocnogpaifaaGreatDoor.Bo (P Made ret_int ret_bool)

theorem like_any (x : Stp) (b : Nat) (t : ByteArray) (w : World) (h : w.cell? ⟨b, 0, none⟩ = some (.string t)) :
    Calls Tryz.prog 117 #[.agg #[.string x.nm, .string x.pt, .int .i64 x.tm, .int .i64 x.t.r, .int .i64 x.t.b, .int .i64 x.t.f, .int .i64 x.t.c, .int .i64 x.u.r, .int .i64 x.u.b, .int .i64 x.u.f, .int .i64 x.u.c, .int .i64 x.pr], .pointer (some ⟨b, 0, none⟩)] w fun e w' => e = .returned (.bool (decide (x.nm = t))) ∧ Below w.heap.size w w' := by
  have hb : b < w.heap.size := World.block_lt_of_cell? _ _ h
  have h' : (w.alloc (.cells x.arr 54)).cell? ⟨b, 0, none⟩ = some (.string t) := by
    rw [World.cell?_alloc_past _ _ _ hb]; exact h
  have HB := Lib.hid ((Below.refl w.heap.size w).alloc (Nat.le_refl _) (.cells x.arr 54))
  unfold Stp.arr at h' HB
  go_enter Tryz.func117, Tryz.ntmps117
  go_wp2
  go_ret
  exact ⟨ret_bool (bytes_beq _ _), HB.out⟩
theorem any_hit {ss : List Stp} {i k : Nat} {x : Stp} {t : ByteArray} (hx : ss[k]? = some x) (hk : k < i) (h : x.nm = t) : (ss.take i).any (fun x => decide (x.nm = t)) = true := by
  rw [List.any_eq_true]
  exact ⟨x, List.mem_of_getElem? (i := k) (by rw [List.getElem?_take, if_pos hk]; exact hx), decide_eq_true h⟩
theorem any_miss {ss : List Stp} {i : Nat} {t : ByteArray} (h : ∀ j x, j < i → ss[j]? = some x → x.nm ≠ t) : (ss.take i).any (fun x => decide (x.nm = t)) = false := by
  rw [List.any_eq_false]
  intro x hx
  obtain ⟨j, hj⟩ := List.mem_iff_getElem?.1 hx
  have hl := at_lt hj
  rw [List.length_take] at hl
  rw [List.getElem?_take, if_pos (by omega)] at hj
  simpa using h j x (by omega) hj
set_option maxHeartbeats 2000000 in
set_option maxRecDepth 100000 in
theorem index_any (A : Option Addr) (c i b : Nat) (ss : List Stp) (t : ByteArray) (w : World) (hi : i ≤ ss.length) (hi' : i ≤ 9223372036854775807) (hS : Steps w w.heap.size A ss) (hs : w.cell? ⟨b, 0, none⟩ = some (.string t)) :
    Calls Tryz.prog 127 #[.slice A i c, .func (.func 117) #[] #[.pointer (some ⟨b, 0, none⟩)]] w fun e w' => ∃ r : Int, e = .returned (.int .i64 r) ∧ decide (0 ≤ r) = (ss.take i).any (fun x => decide (x.nm = t)) ∧ Below w.heap.size w w' := by
  have hbl : b < w.heap.size := World.block_lt_of_cell? _ _ hs
  have eg : ∀ args w, (callFunc 117 args).run Tryz.prog w = .ok (.enter 117 args) w := enters_of Tryz.func117 (by kernel_rfl) rfl
  have HR := Lib.hid hS
  have HS := Lib.hid hs
  have HI := Lib.hid hi
  clear hS hs hi
  go_enter Tryz.func127, Tryz.ntmps127
  go_wp2
  go_loopw [8] (fun vi wr => ∃ k : Nat, vi = .int .i64 (k : Int) ∧ k ≤ i ∧ Below w.heap.size w wr ∧ Hid (∀ j x, j < k → ss[j]? = some x → x.nm ≠ t)) (fun vi _ => i - (intOf vi).toNat)
  case atStart => exact ⟨0, rfl, Nat.zero_le _, Below.refl _ _, Lib.hid fun j y hj => absurd hj (by omega)⟩
  case round =>
    obtain ⟨k, rfl, hk, hbw, HN⟩ := hrel
    by_cases hkn : k < i
    · obtain ⟨x, hx⟩ : ∃ x, ss[k]? = some x := ⟨_, List.getElem?_eq_getElem (by have := HI.out; omega)⟩
      obtain ⟨sb, so, rfl, _⟩ := HR.out.at_ hx
      have HRr := Lib.hid (HR.out.below hbw)
      have c0 : (wr).cell? ⟨sb, so + k * 12, none⟩ = some (.string x.nm) := HRr.out.get hx 0 rfl
      have c1 : (wr).cell? ⟨sb, so + k * 12 + 1, none⟩ = some (.string x.pt) := HRr.out.get hx 1 rfl
      have c2 : (wr).cell? ⟨sb, so + k * 12 + 2, none⟩ = some (.int .i64 x.tm) := HRr.out.get hx 2 rfl
      have c3 : (wr).cell? ⟨sb, so + k * 12 + 3, none⟩ = some (.int .i64 x.t.r) := HRr.out.get hx 3 rfl
      have c4 : (wr).cell? ⟨sb, so + k * 12 + 4, none⟩ = some (.int .i64 x.t.b) := HRr.out.get hx 4 rfl
      have c5 : (wr).cell? ⟨sb, so + k * 12 + 5, none⟩ = some (.int .i64 x.t.f) := HRr.out.get hx 5 rfl
      have c6 : (wr).cell? ⟨sb, so + k * 12 + 6, none⟩ = some (.int .i64 x.t.c) := HRr.out.get hx 6 rfl
      have c7 : (wr).cell? ⟨sb, so + k * 12 + 7, none⟩ = some (.int .i64 x.u.r) := HRr.out.get hx 7 rfl
      have c8 : (wr).cell? ⟨sb, so + k * 12 + 8, none⟩ = some (.int .i64 x.u.b) := HRr.out.get hx 8 rfl
      have c9 : (wr).cell? ⟨sb, so + k * 12 + 9, none⟩ = some (.int .i64 x.u.f) := HRr.out.get hx 9 rfl
      have c10 : (wr).cell? ⟨sb, so + k * 12 + 10, none⟩ = some (.int .i64 x.u.c) := HRr.out.get hx 10 rfl
      have c11 : (wr).cell? ⟨sb, so + k * 12 + 11, none⟩ = some (.int .i64 x.pr) := HRr.out.get hx 11 rfl
      have hcb : wr.cell? ⟨b, 0, none⟩ = some (.string t) := (hbw.cell (p := ⟨b, 0, none⟩) hbl).trans HS.out
      have hlk := like_any x b t wr hcb
      by_cases he : x.nm = t
      · rw [decide_eq_true he] at hlk
        have HL := Lib.hid hlk
        have HF := Lib.hid (any_hit hx hkn he)
        have HB := Lib.hid hbw
        clear hlk he hx hbw hcb
        go_wp2_with (go_at_call 117; refine HL.out.mono ?_; rintro e w1 ⟨rfl, hb1⟩)
        go_ret
        exact ⟨_, rfl, by rw [HF.out]; simp, HB.out.trans (hb1.mono HB.out.size)⟩
      · rw [decide_eq_false he] at hlk
        have HL := Lib.hid hlk
        have HB := Lib.hid hbw
        have HNx : Hid (∀ j y, j < k + 1 → ss[j]? = some y → y.nm ≠ t) := Lib.hid fun j y hj hy => by
          by_cases e : j = k
          · subst e
            rw [hx] at hy
            injection hy with hy
            subst hy
            exact he
          · exact HN.out j y (by omega) hy
        clear hlk he hx hbw hcb
        go_wp2_with (go_at_call 117; refine HL.out.mono ?_; rintro e w1 ⟨rfl, hb1⟩)
        go_roundw
        case rel => exact ⟨k + 1, by go_num, by omega, HB.out.trans (hb1.mono HB.out.size), HNx⟩
        case measure => simp only [intOf]; omega
    · have HF := Lib.hid (any_miss (i := i) (fun j x hj => HN.out j x (by omega)))
      have HB := Lib.hid hbw
      go_wp2
      go_ret
      exact ⟨_, rfl, by rw [HF.out]; rfl, HB.out⟩
set_option maxHeartbeats 1000000 in
theorem contains_any (A : Option Addr) (c i b : Nat) (ss : List Stp) (t : ByteArray) (w : World) (hi : i ≤ ss.length) (hi' : i ≤ 9223372036854775807) (hS : Steps w w.heap.size A ss) (hs : w.cell? ⟨b, 0, none⟩ = some (.string t)) :
    Calls Tryz.prog 116 #[.slice A i c, .func (.func 117) #[] #[.pointer (some ⟨b, 0, none⟩)]] w fun e w' => e = .returned (.bool ((ss.take i).any (fun x => decide (x.nm = t)))) ∧ Below w.heap.size w w' := by
  have HI := Lib.hid (index_any A c i b ss t w hi hi' hS hs)
  clear hS hs hi
  go_enter Tryz.func116, Tryz.ntmps116
  go_wp2_with (go_at_call 127; (with_reducible refine HI.out.mono ?_); rintro e w1 ⟨r, rfl, hr, hb⟩; have HR := Lib.hid hr; clear hr)
  go_ret
  exact ⟨ret_bool HR.out, hb⟩
/-- a step's own cells -/
theorem scells {w : World} {g : Nat} {s : Stp} (h : Box w g 54 s.arr) : w.cell? ⟨g, 0, none⟩ = some (.string s.nm) ∧ w.cell? ⟨g, 1, none⟩ = some (.string s.pt) ∧ w.cell? ⟨g, 2, none⟩ = some (.int .i64 s.tm) ∧ w.cell? ⟨g, 3, none⟩ = some (.int .i64 s.t.r) ∧ w.cell? ⟨g, 4, none⟩ = some (.int .i64 s.t.b) ∧ w.cell? ⟨g, 5, none⟩ = some (.int .i64 s.t.f) ∧ w.cell? ⟨g, 6, none⟩ = some (.int .i64 s.t.c) ∧ w.cell? ⟨g, 7, none⟩ = some (.int .i64 s.u.r) ∧ w.cell? ⟨g, 8, none⟩ = some (.int .i64 s.u.b) ∧ w.cell? ⟨g, 9, none⟩ = some (.int .i64 s.u.f) ∧ w.cell? ⟨g, 10, none⟩ = some (.int .i64 s.u.c) ∧ w.cell? ⟨g, 11, none⟩ = some (.int .i64 s.pr) :=
  ⟨h.cell 0, h.cell 1, h.cell 2, h.cell 3, h.cell 4, h.cell 5, h.cell 6, h.cell 7, h.cell 8, h.cell 9, h.cell 10, h.cell 11⟩
/-- a step that a call has laid, behind whatever has been made since -/
theorem sbox {w w' : World} {s : Stp} (h : Below (w.heap.size + 1) (w.alloc (.cells s.arr 54)) w') : Box w' w.heap.size 54 s.arr := (Box.new w 54 s.arr).below h (by omega)
set_option maxHeartbeats 4000000 in
set_option maxRecDepth 100000 in
theorem cstep_any (s : Stp) (A : Option Addr) (c i : Nat) (ss : List Stp) (w : World) (hi : i ≤ ss.length) (hi' : i ≤ 9223372036854775807) (hS : Steps w w.heap.size A ss) (hz : s.nm.size ≤ 35184372088832 ∧ s.pt.size ≤ 35184372088832) :
    Calls Tryz.prog 94 #[.agg #[.string s.nm, .string s.pt, .int .i64 s.tm, .int .i64 s.t.r, .int .i64 s.t.b, .int .i64 s.t.f, .int .i64 s.t.c, .int .i64 s.u.r, .int .i64 s.u.b, .int .i64 s.u.f, .int .i64 s.u.c, .int .i64 s.pr], .slice A i c] w fun e w' => e = .returned (.int .i64 (stepE ss i s)) ∧ Below w.heap.size w w' := by
  have hwb : Hid (Below w.heap.size w (w.alloc (.cells s.arr 54))) := Lib.hid ((Below.refl w.heap.size w).alloc (Nat.le_refl _) _)
  have hz0 : (w.alloc (.cells s.arr 54)).heap.size = w.heap.size + 1 := by simp
  have HG1 := Lib.hid (fun w => good_any s.nm w hz.1)
  have HG2 := Lib.hid (fun w => good_any s.pt w hz.2)
  have HC : Hid (∀ u, Below (w.heap.size + 1) (w.alloc (.cells s.arr 54)) u → Calls Tryz.prog 116 #[.slice A i c, .func (.func 117) #[] #[.pointer (some ⟨w.heap.size, 0, none⟩)]] u fun e w' => e = .returned (.bool ((ss.take i).any (fun x => decide (x.nm = s.nm)))) ∧ Below u.heap.size u w') :=
    Lib.hid fun u hu => contains_any A c i w.heap.size ss s.nm u hi hi' (hS.on (hwb.out.trans (hu.mono (by omega)))) ((sbox hu).cell 0)
  have HT := Lib.hid (Bo.tgood_any s.tm)
  have HP1 := Lib.hid (Bo.good_is s.t rfl)
  have HP2 := Lib.hid (Bo.good_is s.u rfl)
  have HB := Lib.hid (Below.refl (w.heap.size + 1) (w.alloc (.cells s.arr 54)))
  have hmf : ∀ (fn : Fn) (first cap : Array Value) (w : World), (Instr.makeFunc fn first cap).run Tryz.prog w = .ok (.func fn first cap) w := fun _ _ _ _ => rfl
  clear hS hz hi
  obtain ⟨ev, hev⟩ : ∃ ev, ev = stepE ss i s := ⟨_, rfl⟩
  rw [← hev]
  unfold Stp.arr at hwb HC HB hz0
  unfold stepE at hev
  cases n1 : nameB s.nm.data.toList with
  | false =>
    rw [n1] at HG1 hev
    rw [if_pos (.inl rfl)] at hev
    subst hev
    clear n1
    go_enter Tryz.func94, Tryz.ntmps94
    go_wp2_with (first
      | (go_at_call 72; (with_reducible refine (HG1.out _).mono ?_); rintro e w1 ⟨rfl, hb⟩; have hbn := HB.out.trans (hb.mono (by have := HB.out.size; omega)); clear hb; have HB := Lib.hid hbn; obtain ⟨c0, c1, c2, c3, c4, c5, c6, c7, c8, c9, c10, c11⟩ := scells (sbox (s := s) HB.out); clear hbn)
      | (go_at_call 72; (with_reducible refine (HG2.out _).mono ?_); rintro e w2 ⟨rfl, hb⟩; have hbn := HB.out.trans (hb.mono (by have := HB.out.size; omega)); clear hb; have HB := Lib.hid hbn; obtain ⟨c0, c1, c2, c3, c4, c5, c6, c7, c8, c9, c10, c11⟩ := scells (sbox (s := s) HB.out); clear hbn)
      | (go_at_call 116; (with_reducible refine (HC.out _ HB.out).mono ?_); rintro e w3 ⟨rfl, hb⟩; have hbn := HB.out.trans (hb.mono (by have := HB.out.size; omega)); clear hb; have HB := Lib.hid hbn; obtain ⟨c0, c1, c2, c3, c4, c5, c6, c7, c8, c9, c10, c11⟩ := scells (sbox (s := s) HB.out); clear hbn)
      | (go_at_call 36; (with_reducible refine (HT.out _).mono ?_); rintro e w4 ⟨rfl, rfl⟩)
      | (go_at_call 118; (with_reducible refine (HP1.out _).mono ?_); rintro e w5 ⟨rfl, hm⟩; have hbn := HB.out.trans (hm.below.mono (by have := HB.out.size; omega)); clear hm; have HB := Lib.hid hbn; obtain ⟨c0, c1, c2, c3, c4, c5, c6, c7, c8, c9, c10, c11⟩ := scells (sbox (s := s) HB.out); clear hbn)
      | (go_at_call 118; (with_reducible refine (HP2.out _).mono ?_); rintro e w6 ⟨rfl, hm⟩; have hbn := HB.out.trans (hm.below.mono (by have := HB.out.size; omega)); clear hm; have HB := Lib.hid hbn; obtain ⟨c0, c1, c2, c3, c4, c5, c6, c7, c8, c9, c10, c11⟩ := scells (sbox (s := s) HB.out); clear hbn))
    go_ret
    exact ⟨rfl, hwb.out.trans (HB.out.mono (by omega))⟩
  | true =>
    rw [n1] at HG1 hev
    cases n2 : nameB s.pt.data.toList with
    | false =>
      rw [n2] at HG2 hev
      rw [if_pos (.inr rfl)] at hev
      subst hev
      clear n1 n2
      go_enter Tryz.func94, Tryz.ntmps94
      go_wp2_with (first
        | (go_at_call 72; (with_reducible refine (HG1.out _).mono ?_); rintro e w1 ⟨rfl, hb⟩; have hbn := HB.out.trans (hb.mono (by have := HB.out.size; omega)); clear hb; have HB := Lib.hid hbn; obtain ⟨c0, c1, c2, c3, c4, c5, c6, c7, c8, c9, c10, c11⟩ := scells (sbox (s := s) HB.out); clear hbn)
        | (go_at_call 72; (with_reducible refine (HG2.out _).mono ?_); rintro e w2 ⟨rfl, hb⟩; have hbn := HB.out.trans (hb.mono (by have := HB.out.size; omega)); clear hb; have HB := Lib.hid hbn; obtain ⟨c0, c1, c2, c3, c4, c5, c6, c7, c8, c9, c10, c11⟩ := scells (sbox (s := s) HB.out); clear hbn)
        | (go_at_call 116; (with_reducible refine (HC.out _ HB.out).mono ?_); rintro e w3 ⟨rfl, hb⟩; have hbn := HB.out.trans (hb.mono (by have := HB.out.size; omega)); clear hb; have HB := Lib.hid hbn; obtain ⟨c0, c1, c2, c3, c4, c5, c6, c7, c8, c9, c10, c11⟩ := scells (sbox (s := s) HB.out); clear hbn)
        | (go_at_call 36; (with_reducible refine (HT.out _).mono ?_); rintro e w4 ⟨rfl, rfl⟩)
        | (go_at_call 118; (with_reducible refine (HP1.out _).mono ?_); rintro e w5 ⟨rfl, hm⟩; have hbn := HB.out.trans (hm.below.mono (by have := HB.out.size; omega)); clear hm; have HB := Lib.hid hbn; obtain ⟨c0, c1, c2, c3, c4, c5, c6, c7, c8, c9, c10, c11⟩ := scells (sbox (s := s) HB.out); clear hbn)
        | (go_at_call 118; (with_reducible refine (HP2.out _).mono ?_); rintro e w6 ⟨rfl, hm⟩; have hbn := HB.out.trans (hm.below.mono (by have := HB.out.size; omega)); clear hm; have HB := Lib.hid hbn; obtain ⟨c0, c1, c2, c3, c4, c5, c6, c7, c8, c9, c10, c11⟩ := scells (sbox (s := s) HB.out); clear hbn))
      go_ret
      exact ⟨rfl, hwb.out.trans (HB.out.mono (by omega))⟩
    | true =>
      rw [n2] at HG2 hev
      rw [if_neg (by simp)] at hev
      cases n3 : (ss.take i).any (fun x => decide (x.nm = s.nm)) with
      | true =>
        rw [n3] at HC hev
        rw [if_pos rfl] at hev
        subst hev
        clear n1 n2 n3
        go_enter Tryz.func94, Tryz.ntmps94
        go_wp2_with (first
          | (go_at_call 72; (with_reducible refine (HG1.out _).mono ?_); rintro e w1 ⟨rfl, hb⟩; have hbn := HB.out.trans (hb.mono (by have := HB.out.size; omega)); clear hb; have HB := Lib.hid hbn; obtain ⟨c0, c1, c2, c3, c4, c5, c6, c7, c8, c9, c10, c11⟩ := scells (sbox (s := s) HB.out); clear hbn)
          | (go_at_call 72; (with_reducible refine (HG2.out _).mono ?_); rintro e w2 ⟨rfl, hb⟩; have hbn := HB.out.trans (hb.mono (by have := HB.out.size; omega)); clear hb; have HB := Lib.hid hbn; obtain ⟨c0, c1, c2, c3, c4, c5, c6, c7, c8, c9, c10, c11⟩ := scells (sbox (s := s) HB.out); clear hbn)
          | (go_at_call 116; (with_reducible refine (HC.out _ HB.out).mono ?_); rintro e w3 ⟨rfl, hb⟩; have hbn := HB.out.trans (hb.mono (by have := HB.out.size; omega)); clear hb; have HB := Lib.hid hbn; obtain ⟨c0, c1, c2, c3, c4, c5, c6, c7, c8, c9, c10, c11⟩ := scells (sbox (s := s) HB.out); clear hbn)
          | (go_at_call 36; (with_reducible refine (HT.out _).mono ?_); rintro e w4 ⟨rfl, rfl⟩)
          | (go_at_call 118; (with_reducible refine (HP1.out _).mono ?_); rintro e w5 ⟨rfl, hm⟩; have hbn := HB.out.trans (hm.below.mono (by have := HB.out.size; omega)); clear hm; have HB := Lib.hid hbn; obtain ⟨c0, c1, c2, c3, c4, c5, c6, c7, c8, c9, c10, c11⟩ := scells (sbox (s := s) HB.out); clear hbn)
          | (go_at_call 118; (with_reducible refine (HP2.out _).mono ?_); rintro e w6 ⟨rfl, hm⟩; have hbn := HB.out.trans (hm.below.mono (by have := HB.out.size; omega)); clear hm; have HB := Lib.hid hbn; obtain ⟨c0, c1, c2, c3, c4, c5, c6, c7, c8, c9, c10, c11⟩ := scells (sbox (s := s) HB.out); clear hbn))
        go_ret
        exact ⟨rfl, hwb.out.trans (HB.out.mono (by omega))⟩
      | false =>
        rw [n3] at HC hev
        rw [if_neg (by simp)] at hev
        by_cases h4 : s.tm < 1 ∨ 1099511627776 < s.tm ∨ s.pr < 0 ∨ 255 < s.pr
        · rw [if_pos h4] at hev
          subst hev
          clear n1 n2 n3
          by_cases t1 : s.tm < 1
          · clear h4
            go_enter Tryz.func94, Tryz.ntmps94
            go_wp2_with (first
              | (go_at_call 72; (with_reducible refine (HG1.out _).mono ?_); rintro e w1 ⟨rfl, hb⟩; have hbn := HB.out.trans (hb.mono (by have := HB.out.size; omega)); clear hb; have HB := Lib.hid hbn; obtain ⟨c0, c1, c2, c3, c4, c5, c6, c7, c8, c9, c10, c11⟩ := scells (sbox (s := s) HB.out); clear hbn)
              | (go_at_call 72; (with_reducible refine (HG2.out _).mono ?_); rintro e w2 ⟨rfl, hb⟩; have hbn := HB.out.trans (hb.mono (by have := HB.out.size; omega)); clear hb; have HB := Lib.hid hbn; obtain ⟨c0, c1, c2, c3, c4, c5, c6, c7, c8, c9, c10, c11⟩ := scells (sbox (s := s) HB.out); clear hbn)
              | (go_at_call 116; (with_reducible refine (HC.out _ HB.out).mono ?_); rintro e w3 ⟨rfl, hb⟩; have hbn := HB.out.trans (hb.mono (by have := HB.out.size; omega)); clear hb; have HB := Lib.hid hbn; obtain ⟨c0, c1, c2, c3, c4, c5, c6, c7, c8, c9, c10, c11⟩ := scells (sbox (s := s) HB.out); clear hbn)
              | (go_at_call 36; (with_reducible refine (HT.out _).mono ?_); rintro e w4 ⟨rfl, rfl⟩)
              | (go_at_call 118; (with_reducible refine (HP1.out _).mono ?_); rintro e w5 ⟨rfl, hm⟩; have hbn := HB.out.trans (hm.below.mono (by have := HB.out.size; omega)); clear hm; have HB := Lib.hid hbn; obtain ⟨c0, c1, c2, c3, c4, c5, c6, c7, c8, c9, c10, c11⟩ := scells (sbox (s := s) HB.out); clear hbn)
              | (go_at_call 118; (with_reducible refine (HP2.out _).mono ?_); rintro e w6 ⟨rfl, hm⟩; have hbn := HB.out.trans (hm.below.mono (by have := HB.out.size; omega)); clear hm; have HB := Lib.hid hbn; obtain ⟨c0, c1, c2, c3, c4, c5, c6, c7, c8, c9, c10, c11⟩ := scells (sbox (s := s) HB.out); clear hbn))
            go_ret
            exact ⟨rfl, hwb.out.trans (HB.out.mono (by omega))⟩
          · by_cases t2 : 1099511627776 < s.tm
            · have hg : Bo.goodN s.tm = false := by unfold Bo.goodN; exact decide_eq_false (by omega)
              rw [hg] at HT
              clear h4 hg
              go_enter Tryz.func94, Tryz.ntmps94
              go_wp2_with (first
                | (go_at_call 72; (with_reducible refine (HG1.out _).mono ?_); rintro e w1 ⟨rfl, hb⟩; have hbn := HB.out.trans (hb.mono (by have := HB.out.size; omega)); clear hb; have HB := Lib.hid hbn; obtain ⟨c0, c1, c2, c3, c4, c5, c6, c7, c8, c9, c10, c11⟩ := scells (sbox (s := s) HB.out); clear hbn)
                | (go_at_call 72; (with_reducible refine (HG2.out _).mono ?_); rintro e w2 ⟨rfl, hb⟩; have hbn := HB.out.trans (hb.mono (by have := HB.out.size; omega)); clear hb; have HB := Lib.hid hbn; obtain ⟨c0, c1, c2, c3, c4, c5, c6, c7, c8, c9, c10, c11⟩ := scells (sbox (s := s) HB.out); clear hbn)
                | (go_at_call 116; (with_reducible refine (HC.out _ HB.out).mono ?_); rintro e w3 ⟨rfl, hb⟩; have hbn := HB.out.trans (hb.mono (by have := HB.out.size; omega)); clear hb; have HB := Lib.hid hbn; obtain ⟨c0, c1, c2, c3, c4, c5, c6, c7, c8, c9, c10, c11⟩ := scells (sbox (s := s) HB.out); clear hbn)
                | (go_at_call 36; (with_reducible refine (HT.out _).mono ?_); rintro e w4 ⟨rfl, rfl⟩)
                | (go_at_call 118; (with_reducible refine (HP1.out _).mono ?_); rintro e w5 ⟨rfl, hm⟩; have hbn := HB.out.trans (hm.below.mono (by have := HB.out.size; omega)); clear hm; have HB := Lib.hid hbn; obtain ⟨c0, c1, c2, c3, c4, c5, c6, c7, c8, c9, c10, c11⟩ := scells (sbox (s := s) HB.out); clear hbn)
                | (go_at_call 118; (with_reducible refine (HP2.out _).mono ?_); rintro e w6 ⟨rfl, hm⟩; have hbn := HB.out.trans (hm.below.mono (by have := HB.out.size; omega)); clear hm; have HB := Lib.hid hbn; obtain ⟨c0, c1, c2, c3, c4, c5, c6, c7, c8, c9, c10, c11⟩ := scells (sbox (s := s) HB.out); clear hbn))
              go_ret
              exact ⟨rfl, hwb.out.trans (HB.out.mono (by omega))⟩
            · have hg : Bo.goodN s.tm = true := by unfold Bo.goodN; exact decide_eq_true (by omega)
              rw [hg] at HT
              clear hg
              by_cases t3 : s.pr < 0
              · clear h4
                go_enter Tryz.func94, Tryz.ntmps94
                go_wp2_with (first
                  | (go_at_call 72; (with_reducible refine (HG1.out _).mono ?_); rintro e w1 ⟨rfl, hb⟩; have hbn := HB.out.trans (hb.mono (by have := HB.out.size; omega)); clear hb; have HB := Lib.hid hbn; obtain ⟨c0, c1, c2, c3, c4, c5, c6, c7, c8, c9, c10, c11⟩ := scells (sbox (s := s) HB.out); clear hbn)
                  | (go_at_call 72; (with_reducible refine (HG2.out _).mono ?_); rintro e w2 ⟨rfl, hb⟩; have hbn := HB.out.trans (hb.mono (by have := HB.out.size; omega)); clear hb; have HB := Lib.hid hbn; obtain ⟨c0, c1, c2, c3, c4, c5, c6, c7, c8, c9, c10, c11⟩ := scells (sbox (s := s) HB.out); clear hbn)
                  | (go_at_call 116; (with_reducible refine (HC.out _ HB.out).mono ?_); rintro e w3 ⟨rfl, hb⟩; have hbn := HB.out.trans (hb.mono (by have := HB.out.size; omega)); clear hb; have HB := Lib.hid hbn; obtain ⟨c0, c1, c2, c3, c4, c5, c6, c7, c8, c9, c10, c11⟩ := scells (sbox (s := s) HB.out); clear hbn)
                  | (go_at_call 36; (with_reducible refine (HT.out _).mono ?_); rintro e w4 ⟨rfl, rfl⟩)
                  | (go_at_call 118; (with_reducible refine (HP1.out _).mono ?_); rintro e w5 ⟨rfl, hm⟩; have hbn := HB.out.trans (hm.below.mono (by have := HB.out.size; omega)); clear hm; have HB := Lib.hid hbn; obtain ⟨c0, c1, c2, c3, c4, c5, c6, c7, c8, c9, c10, c11⟩ := scells (sbox (s := s) HB.out); clear hbn)
                  | (go_at_call 118; (with_reducible refine (HP2.out _).mono ?_); rintro e w6 ⟨rfl, hm⟩; have hbn := HB.out.trans (hm.below.mono (by have := HB.out.size; omega)); clear hm; have HB := Lib.hid hbn; obtain ⟨c0, c1, c2, c3, c4, c5, c6, c7, c8, c9, c10, c11⟩ := scells (sbox (s := s) HB.out); clear hbn))
                go_ret
                exact ⟨rfl, hwb.out.trans (HB.out.mono (by omega))⟩
              · have t4 : 255 < s.pr := by omega
                clear h4
                go_enter Tryz.func94, Tryz.ntmps94
                go_wp2_with (first
                  | (go_at_call 72; (with_reducible refine (HG1.out _).mono ?_); rintro e w1 ⟨rfl, hb⟩; have hbn := HB.out.trans (hb.mono (by have := HB.out.size; omega)); clear hb; have HB := Lib.hid hbn; obtain ⟨c0, c1, c2, c3, c4, c5, c6, c7, c8, c9, c10, c11⟩ := scells (sbox (s := s) HB.out); clear hbn)
                  | (go_at_call 72; (with_reducible refine (HG2.out _).mono ?_); rintro e w2 ⟨rfl, hb⟩; have hbn := HB.out.trans (hb.mono (by have := HB.out.size; omega)); clear hb; have HB := Lib.hid hbn; obtain ⟨c0, c1, c2, c3, c4, c5, c6, c7, c8, c9, c10, c11⟩ := scells (sbox (s := s) HB.out); clear hbn)
                  | (go_at_call 116; (with_reducible refine (HC.out _ HB.out).mono ?_); rintro e w3 ⟨rfl, hb⟩; have hbn := HB.out.trans (hb.mono (by have := HB.out.size; omega)); clear hb; have HB := Lib.hid hbn; obtain ⟨c0, c1, c2, c3, c4, c5, c6, c7, c8, c9, c10, c11⟩ := scells (sbox (s := s) HB.out); clear hbn)
                  | (go_at_call 36; (with_reducible refine (HT.out _).mono ?_); rintro e w4 ⟨rfl, rfl⟩)
                  | (go_at_call 118; (with_reducible refine (HP1.out _).mono ?_); rintro e w5 ⟨rfl, hm⟩; have hbn := HB.out.trans (hm.below.mono (by have := HB.out.size; omega)); clear hm; have HB := Lib.hid hbn; obtain ⟨c0, c1, c2, c3, c4, c5, c6, c7, c8, c9, c10, c11⟩ := scells (sbox (s := s) HB.out); clear hbn)
                  | (go_at_call 118; (with_reducible refine (HP2.out _).mono ?_); rintro e w6 ⟨rfl, hm⟩; have hbn := HB.out.trans (hm.below.mono (by have := HB.out.size; omega)); clear hm; have HB := Lib.hid hbn; obtain ⟨c0, c1, c2, c3, c4, c5, c6, c7, c8, c9, c10, c11⟩ := scells (sbox (s := s) HB.out); clear hbn))
                go_ret
                exact ⟨rfl, hwb.out.trans (HB.out.mono (by omega))⟩
        · rw [if_neg h4] at hev
          have t1 : ¬ s.tm < 1 := by omega
          have t3 : ¬ s.pr < 0 := by omega
          have t4 : ¬ 255 < s.pr := by omega
          have hg : Bo.goodN s.tm = true := by unfold Bo.goodN; exact decide_eq_true (by omega)
          rw [hg] at HT
          clear n1 n2 n3 h4 hg
          cases p1 : s.t.goodB with
          | false =>
            rw [p1] at HP1
            rw [if_pos (.inl (of_decide_eq_false p1))] at hev
            subst hev
            clear p1
            go_enter Tryz.func94, Tryz.ntmps94
            go_wp2_with (first
              | (go_at_call 72; (with_reducible refine (HG1.out _).mono ?_); rintro e w1 ⟨rfl, hb⟩; have hbn := HB.out.trans (hb.mono (by have := HB.out.size; omega)); clear hb; have HB := Lib.hid hbn; obtain ⟨c0, c1, c2, c3, c4, c5, c6, c7, c8, c9, c10, c11⟩ := scells (sbox (s := s) HB.out); clear hbn)
              | (go_at_call 72; (with_reducible refine (HG2.out _).mono ?_); rintro e w2 ⟨rfl, hb⟩; have hbn := HB.out.trans (hb.mono (by have := HB.out.size; omega)); clear hb; have HB := Lib.hid hbn; obtain ⟨c0, c1, c2, c3, c4, c5, c6, c7, c8, c9, c10, c11⟩ := scells (sbox (s := s) HB.out); clear hbn)
              | (go_at_call 116; (with_reducible refine (HC.out _ HB.out).mono ?_); rintro e w3 ⟨rfl, hb⟩; have hbn := HB.out.trans (hb.mono (by have := HB.out.size; omega)); clear hb; have HB := Lib.hid hbn; obtain ⟨c0, c1, c2, c3, c4, c5, c6, c7, c8, c9, c10, c11⟩ := scells (sbox (s := s) HB.out); clear hbn)
              | (go_at_call 36; (with_reducible refine (HT.out _).mono ?_); rintro e w4 ⟨rfl, rfl⟩)
              | (go_at_call 118; (with_reducible refine (HP1.out _).mono ?_); rintro e w5 ⟨rfl, hm⟩; have hbn := HB.out.trans (hm.below.mono (by have := HB.out.size; omega)); clear hm; have HB := Lib.hid hbn; obtain ⟨c0, c1, c2, c3, c4, c5, c6, c7, c8, c9, c10, c11⟩ := scells (sbox (s := s) HB.out); clear hbn)
              | (go_at_call 118; (with_reducible refine (HP2.out _).mono ?_); rintro e w6 ⟨rfl, hm⟩; have hbn := HB.out.trans (hm.below.mono (by have := HB.out.size; omega)); clear hm; have HB := Lib.hid hbn; obtain ⟨c0, c1, c2, c3, c4, c5, c6, c7, c8, c9, c10, c11⟩ := scells (sbox (s := s) HB.out); clear hbn))
            go_ret
            exact ⟨rfl, hwb.out.trans (HB.out.mono (by omega))⟩
          | true =>
            rw [p1] at HP1
            cases p2 : s.u.goodB with
            | false =>
              rw [p2] at HP2
              rw [if_pos (.inr (of_decide_eq_false p2))] at hev
              subst hev
              clear p1 p2
              go_enter Tryz.func94, Tryz.ntmps94
              go_wp2_with (first
                | (go_at_call 72; (with_reducible refine (HG1.out _).mono ?_); rintro e w1 ⟨rfl, hb⟩; have hbn := HB.out.trans (hb.mono (by have := HB.out.size; omega)); clear hb; have HB := Lib.hid hbn; obtain ⟨c0, c1, c2, c3, c4, c5, c6, c7, c8, c9, c10, c11⟩ := scells (sbox (s := s) HB.out); clear hbn)
                | (go_at_call 72; (with_reducible refine (HG2.out _).mono ?_); rintro e w2 ⟨rfl, hb⟩; have hbn := HB.out.trans (hb.mono (by have := HB.out.size; omega)); clear hb; have HB := Lib.hid hbn; obtain ⟨c0, c1, c2, c3, c4, c5, c6, c7, c8, c9, c10, c11⟩ := scells (sbox (s := s) HB.out); clear hbn)
                | (go_at_call 116; (with_reducible refine (HC.out _ HB.out).mono ?_); rintro e w3 ⟨rfl, hb⟩; have hbn := HB.out.trans (hb.mono (by have := HB.out.size; omega)); clear hb; have HB := Lib.hid hbn; obtain ⟨c0, c1, c2, c3, c4, c5, c6, c7, c8, c9, c10, c11⟩ := scells (sbox (s := s) HB.out); clear hbn)
                | (go_at_call 36; (with_reducible refine (HT.out _).mono ?_); rintro e w4 ⟨rfl, rfl⟩)
                | (go_at_call 118; (with_reducible refine (HP1.out _).mono ?_); rintro e w5 ⟨rfl, hm⟩; have hbn := HB.out.trans (hm.below.mono (by have := HB.out.size; omega)); clear hm; have HB := Lib.hid hbn; obtain ⟨c0, c1, c2, c3, c4, c5, c6, c7, c8, c9, c10, c11⟩ := scells (sbox (s := s) HB.out); clear hbn)
                | (go_at_call 118; (with_reducible refine (HP2.out _).mono ?_); rintro e w6 ⟨rfl, hm⟩; have hbn := HB.out.trans (hm.below.mono (by have := HB.out.size; omega)); clear hm; have HB := Lib.hid hbn; obtain ⟨c0, c1, c2, c3, c4, c5, c6, c7, c8, c9, c10, c11⟩ := scells (sbox (s := s) HB.out); clear hbn))
              go_ret
              exact ⟨rfl, hwb.out.trans (HB.out.mono (by omega))⟩
            | true =>
              rw [p2] at HP2
              have g1 : s.t.Good := of_decide_eq_true p1
              have g2 : s.u.Good := of_decide_eq_true p2
              rw [if_neg (by rintro (h | h) <;> exact h ‹_›)] at hev
              subst hev
              clear p1 p2 g1 g2
              go_enter Tryz.func94, Tryz.ntmps94
              go_wp2_with (first
                | (go_at_call 72; (with_reducible refine (HG1.out _).mono ?_); rintro e w1 ⟨rfl, hb⟩; have hbn := HB.out.trans (hb.mono (by have := HB.out.size; omega)); clear hb; have HB := Lib.hid hbn; obtain ⟨c0, c1, c2, c3, c4, c5, c6, c7, c8, c9, c10, c11⟩ := scells (sbox (s := s) HB.out); clear hbn)
                | (go_at_call 72; (with_reducible refine (HG2.out _).mono ?_); rintro e w2 ⟨rfl, hb⟩; have hbn := HB.out.trans (hb.mono (by have := HB.out.size; omega)); clear hb; have HB := Lib.hid hbn; obtain ⟨c0, c1, c2, c3, c4, c5, c6, c7, c8, c9, c10, c11⟩ := scells (sbox (s := s) HB.out); clear hbn)
                | (go_at_call 116; (with_reducible refine (HC.out _ HB.out).mono ?_); rintro e w3 ⟨rfl, hb⟩; have hbn := HB.out.trans (hb.mono (by have := HB.out.size; omega)); clear hb; have HB := Lib.hid hbn; obtain ⟨c0, c1, c2, c3, c4, c5, c6, c7, c8, c9, c10, c11⟩ := scells (sbox (s := s) HB.out); clear hbn)
                | (go_at_call 36; (with_reducible refine (HT.out _).mono ?_); rintro e w4 ⟨rfl, rfl⟩)
                | (go_at_call 118; (with_reducible refine (HP1.out _).mono ?_); rintro e w5 ⟨rfl, hm⟩; have hbn := HB.out.trans (hm.below.mono (by have := HB.out.size; omega)); clear hm; have HB := Lib.hid hbn; obtain ⟨c0, c1, c2, c3, c4, c5, c6, c7, c8, c9, c10, c11⟩ := scells (sbox (s := s) HB.out); clear hbn)
                | (go_at_call 118; (with_reducible refine (HP2.out _).mono ?_); rintro e w6 ⟨rfl, hm⟩; have hbn := HB.out.trans (hm.below.mono (by have := HB.out.size; omega)); clear hm; have HB := Lib.hid hbn; obtain ⟨c0, c1, c2, c3, c4, c5, c6, c7, c8, c9, c10, c11⟩ := scells (sbox (s := s) HB.out); clear hbn))
              go_ret
              exact ⟨rfl, hwb.out.trans (HB.out.mono (by omega))⟩
end Go.Proofs.YteejocnogpaifaaGreatDoor.Df
