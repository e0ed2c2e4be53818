/-
  The statement SagaStaysCardSaid: for every input the law function SagaStays returns true (what is over stays as it is, what is parked changes by an operator alone, tries never pass the plan's, a command's key is that of its step and direction), and the arguments read afterwards as before.
  Conditions: none beyond the statement's own (the listed tables of the library hold what its text lays).
-/
import Derived.Test.YtkmldgcnbjjbcaaDoorSagLaw
import Derived.Test.YtkmldgcnbjjbcaaDoorSagArgs
import Derived.Test.YtkmldgcnbjjbcaaDoorSagDo
import Derived.Test.YtkmldgcnbjjbcaaDoorSagStayMath
import Derived.Test.YtkmldgcnbjjbcaaDoorDefRKey
import Derived.Shelf.SlSortCmp.QuietGrown
import Derived.StillTailTactics
import Derived.Deep.DeepCutAuto
namespace Go.Proofs.YtkmldgcnbjjbcaaDoor.sagaStays
open Go.Proofs.YtkmldgcnbjjbcaaDoor.Sa Go.Proofs.YtkmldgcnbjjbcaaDoor.Df Go.Proofs.YtkmldgcnbjjbcaaDoor.El
open Go.Proofs.YtkmldgcnbjjbcaaDoor.Bo (P Made ret_int ret_bool)
open Go.ChangeShapes Go.WideShapes Go.ChangeAt Go.RowKit Go.Sort
open Go.ChangeMaps (open_string shut_string)

section
variable {B n g : Nat} {W0 W : World} {o : Obj} {cs : Array Value} {t : TypeId}
theorem below_is (h : (fun u => Below W0.heap.size W0 u) W) : Below W0.heap.size W0 W := h
theorem slot_new (_h : (fun u => Below W0.heap.size W0 u) (W.alloc (.cells cs t))) (hs : cs.size = n) : Slot (W.alloc (.cells cs t)) W.heap.size t n := Box.slot (Box.new W t cs) hs
theorem slot_more (_h : (fun u => Below W0.heap.size W0 u) (W.alloc o)) (h : Slot W g t n) : Slot (W.alloc o) g t n := slot_on h (al1 W o)
/-- where a round stands: the definition, the saga now, the saga as it was, its command -/
structure Sr (w u : World) (g gw gc : Nat) (nm : ByteArray) (dl : Int) (A : Option Addr) (n c : Nat) (x y : Sg) (C : Cm) : Prop where
  aw : Aw w u w.heap.size g nm dl A n c y
  was : Box u gw 53 x.arr
  k : Box u gc 56 C.arr
end
section
variable {w u u' : World} {g gw gc : Nat} {nm : ByteArray} {dl : Int} {A : Option Addr} {n c : Nat} {x y : Sg} {C : Cm}
theorem Sr.on (h : Sr w u g gw gc nm dl A n c x y C) (hb : Below u.heap.size u u') : Sr w u' g gw gc nm dl A n c x y C := ⟨h.aw.on hb, h.was.below hb h.was.lt, h.k.below hb h.k.lt⟩
theorem neq_is {b : Bool} (h : (!eqG y x) = b) (W : World) : (binOp .neq 53 (.agg #[.int .i64 y.id, .string y.dn, .int .i64 y.st, .int .i64 y.ph, .int .i64 y.sp, .int .i64 y.tr, .bool y.out, .int .i64 y.at_, .int .i64 y.sk]) (.agg #[.int .i64 x.id, .string x.dn, .int .i64 x.st, .int .i64 x.ph, .int .i64 x.sp, .int .i64 x.tr, .bool x.out, .int .i64 x.at_, .int .i64 x.sk])).run Tryd.prog W = .ok (.bool b) W := by
  have e := neq_saga y x W
  rw [h] at e
  exact e
end
set_option maxHeartbeats 16000000 in
set_option maxRecDepth 100000 in
theorem walk (nm : ByteArray) (dl : Int) (A : Option Addr) (c : Nat) (ss : List Stp) (now : Int) (LA : Option Addr) (lc : Nat) (l : List Ac) (w : World) (hT : Tab w) (hnz : nm.size ≤ 140737488355328) (hl : ss.length ≤ 9223372036854775807) (hc : ss.length ≤ c) (hf : ∀ s ∈ ss, s.Fits ∧ Big s) (he : Df.Steps w w.heap.size A ss)
    (hml : l.length ≤ 9223372036854775807) (hle : Els Ac.cells 7 w w.heap.size LA l) :
    Calls Tryd.prog 7 #[.agg #[.string nm, .int .i64 dl, .slice A ss.length c], .int .i64 now, .slice LA l.length lc] w fun e w' => e = .returned (.bool true) ∧ Below w.heap.size w w' := by
  obtain ⟨n, hn⟩ : ∃ n, n = ss.length := ⟨_, rfl⟩
  obtain ⟨m, hm⟩ : ∃ m, m = l.length := ⟨_, rfl⟩
  rw [← hn] at hl hc ⊢
  rw [← hm] at hml ⊢
  have HL := Lib.hid hle
  have HM := Lib.hid hm
  have HA : Hid (∀ w', Below w.heap.size w w' → Calls Tryd.prog 24 #[] w' fun e w'' => e = .returned (.bool true) ∧ Below w'.heap.size w' w'') := Lib.hid fun w' h => awake_any w' (tab_below hT h)
  have HSm : Hid (∀ w', Below w.heap.size w w' → Calls Tryd.prog 11 #[.agg #[.string nm, .int .i64 dl, .slice A n c]] w' fun e w'' => e = .returned (.int .i64 (smallI nm ss)) ∧ Below w'.heap.size w' w'') := Lib.hid fun w' h => (small_any nm dl A c ss n w' hn hl (by omega) (fun s hs => (hf s hs).1) (he.on h)).mono fun e w'' ⟨h1, h2⟩ => ⟨h1, h2.below⟩
  have hck : ∀ W, Below w.heap.size w W → Calls Tryd.prog 13 #[.agg #[.string nm, .int .i64 dl, .slice A n c]] W (ChkPost nm dl ss W) := fun W hW => rcheck_any nm dl A c ss n W hn hl (he.on hW) hnz (fun s hs => (hf s hs).2)
  obtain ⟨hC1, hC0⟩ := chk_ok hck
  clear hle hm
  by_cases hr : RightD nm dl ss
  · have HC := Lib.hid (hC1 hr)
    by_cases hq : smallI nm ss = 0
    · rw [hq] at HSm
      by_cases h60 : m ≤ 60
      · have t1 : decide ((60 : Int) < (m : Int)) = false := decide_eq_false (by omega)
        have t2 : decide (60 < m) = false := decide_eq_false (by omega)
        obtain ⟨s40, snm, sst⟩ := small_yes hq
        have hd : Dn w nm A n c ss := ⟨hn, by omega, hc, he, by omega, fun s hs => by have := sst s hs; omega, hT⟩
        have HDn := Lib.hid hd
        have HB : Hid (∀ W, Calls Tryd.prog 25 #[.agg #[.string nm, .int .i64 dl, .slice A n c], .int .i64 7, .int .i64 now] W fun e w' => e = .returned (.agg #[.int .i64 7, .string nm, .int .i64 (ofT now), .int .i64 0, .int .i64 0, .int .i64 0, .bool false, .int .i64 (ofT now), .int .i64 0]) ∧ Made W w') := Lib.hid fun W => begin_any nm dl A n c 7 now W
        have HX0 : Hid (Row7 nm dl ss 7 ⟨7, nm, ofT now, 0, 0, 0, false, ofT now, 0⟩) := Lib.hid (row_begin hr (by decide))
        generalize ofT now = t0 at *
        have HNZ := Lib.hid (show ∀ s ∈ ss, s.nm.size ≤ 1000000 from fun s hs => by have := sst s hs; omega)
        have HN := Lib.hid hn
        clear hT hnz hl hc hf he hck hC1 hC0 hr hq s40 snm sst hd hn
        go_enter Tryd.func7, Tryd.ntmps7
        go_wp2_with (first
          | (go_at_call 24; (with_reducible refine (HA.out _ (al1 w _)).mono ?_); rintro e w1 ⟨rfl, hb⟩; have H1 := Lib.hid (ld_start hb); clear hb; obtain ⟨d0, d1, d2⟩ := H1.out.cd)
          | (go_at_call 13; (with_reducible refine (HC.out _ H1.out.b).mono ?_); rintro e w2 ⟨k, rfl, hb⟩; have H2 := Lib.hid (H1.out.on hb); clear hb; obtain ⟨d0, d1, d2⟩ := H2.out.cd)
          | (go_at_call 11; (with_reducible refine (HSm.out _ H2.out.b).mono ?_); rintro e w3 ⟨rfl, hb⟩; have H3 := Lib.hid (H2.out.on hb); clear hb; obtain ⟨d0, d1, d2⟩ := H3.out.cd)
          | (go_at_call 25; (with_reducible refine (HB.out _).mono ?_); rintro e w4 ⟨rfl, hm⟩; have H4 := Lib.hid (H3.out.on hm.below); clear hm; obtain ⟨d0, d1, d2⟩ := H4.out.cd))
        have H5 := Lib.hid (Ld.aw (s := ⟨7, nm, t0, 0, 0, 0, false, t0, 0⟩) H4.out (Below.refl _ _))
        dsimp only at H5
        clear d0 d1 d2 HA HSm HC HB H1 H2 H3 H4
        generalize w4.heap.size = g at *
        generalize w4.alloc _ = W5 at *
        go_loopw [10] (fun vi wr => ∃ (k : Nat) (x : Sg), vi = .int .i64 (k : Int) ∧ k ≤ m ∧ Hid (Aw w wr w.heap.size g nm dl A n c x) ∧ Hid (Row7 nm dl ss 7 x)) (fun vi _ => m - (intOf vi).toNat)
        case atStart => exact ⟨0, _, rfl, Nat.zero_le _, H5, HX0⟩
        case round =>
          clear H5 HX0
          obtain ⟨k, x, rfl, hk, HW, HX⟩ := hrel
          by_cases hkm : k < m
          · obtain ⟨a, ha⟩ : ∃ a, l[k]? = some a := ⟨l[k]'(by have := HM.out; omega), List.getElem?_eq_getElem _⟩
            obtain ⟨b, o, hLA, hbw, hac⟩ := HL.out k a ha
            subst hLA
            have hbl := fun (o : Obj) => bel_al HW.out.bel o
            have hgl := HW.out.s.lt
            have hbr : b < wr.heap.size := Nat.lt_of_lt_of_le hbw HW.out.bel.size
            obtain ⟨d0, d1, d2⟩ := HW.out.cd
            obtain ⟨x0, x1, x2, x3, x4, x5, x6, x7, x8⟩ := HW.out.cs
            have HD := Lib.hid (fun W (hW : Below w.heap.size w W) => do_any nm dl A n c ss x a W (HDn.out.on hW) (by have := HX.out.tr; omega) (by have := HX.out.id; omega))
            have HXn := Lib.hid (HX.out.does a)
            have HOv : Hid (3 ≤ x.ph → (doA nm dl ss x a).1 = x) := Lib.hid fun h => over_stays h
            have HPk : Hid (x.ph = 2 → a.k < 9 → (doA nm dl ss x a).1 = x) := Lib.hid fun h h' => parked_stays HX.out.live.good h h'
            have HEm : Hid ((0 ≤ a.k ∧ a.k ≤ 2) → (doA nm dl ss x a).2.2 = 0 → (doA nm dl ss x a).2.1 = emitC ss x ∧ (doA nm dl ss x a).1.out = true) := Lib.hid fun h h' => emit_tells h h'
            generalize doA nm dl ss x a = Y at *
            obtain ⟨y, C, er⟩ := Y
            dsimp only at HD HXn HOv HPk HEm
            go_upto_region 11 with (fail)
            have HW1 := Lib.hid (And.intro (HW.out.on (al1 wr (.cells #[.int .i64 x.id, .string x.dn, .int .i64 x.st, .int .i64 x.ph, .int .i64 x.sp, .int .i64 x.tr, .bool x.out, .int .i64 x.at_, .int .i64 x.sk] 53))) (Box.new wr 53 #[.int .i64 x.id, .string x.dn, .int .i64 x.st, .int .i64 x.ph, .int .i64 x.sp, .int .i64 x.tr, .bool x.out, .int .i64 x.at_, .int .i64 x.sk]))
            have HWn := Lib.hid (show wr.heap.size ≠ g ∧ w.heap.size ≤ wr.heap.size from ⟨by omega, HW.out.bel.size⟩)
            clear x0 x1 x2 x3 x4 x5 x6 x7 x8 d0 d1 d2 hbl hgl HW hbr
            generalize wr.alloc _ = W0 at *
            generalize wr.heap.size = gw at *
            have hwW := HW1.out.1.bel
            have hwB : w.heap.size ≤ W0.heap.size := hwW.size
            have hgw : gw < W0.heap.size := HW1.out.2.lt
            have hgl : g < W0.heap.size := HW1.out.1.s.lt
            have hwl : w.heap.size < W0.heap.size := HW1.out.1.d.lt
            go_cut [12, 13, 14] (fun v12 v13 v14 wc => ∃ gt gc : Nat, v12 = .pointer (some ⟨gt, 0, none⟩) ∧ v13 = .pointer (some ⟨gc, 0, none⟩) ∧ v14 = .int .i64 er ∧ Hid ((Aw w wc w.heap.size g nm dl A n c x ∧ Box wc gw 53 x.arr) ∧ (Box wc gt 53 y.arr ∧ Box wc gc 56 C.arr) ∧ W0.heap.size ≤ gt ∧ W0.heap.size ≤ gc))
            case first => as_aux_lemma =>
              have u0 : ∀ u, Below W0.heap.size W0 u → u.cell? ⟨w.heap.size, 0, none⟩ = some (.string nm) := fun u H => (H.cell (p := ⟨w.heap.size, 0, none⟩) hwl).trans (HW1.out.1.d.cell 0)
              have u1 : ∀ u, Below W0.heap.size W0 u → u.cell? ⟨w.heap.size, 1, none⟩ = some (.int .i64 dl) := fun u H => (H.cell (p := ⟨w.heap.size, 1, none⟩) hwl).trans (HW1.out.1.d.cell 1)
              have u2 : ∀ u, Below W0.heap.size W0 u → u.cell? ⟨w.heap.size, 2, none⟩ = some (.slice A n c) := fun u H => (H.cell (p := ⟨w.heap.size, 2, none⟩) hwl).trans (HW1.out.1.d.cell 2)
              have s0 : ∀ u, Below W0.heap.size W0 u → u.cell? ⟨g, 0, none⟩ = some (.int .i64 x.id) := fun u H => (H.cell (p := ⟨g, 0, none⟩) hgl).trans (HW1.out.1.s.cell 0)
              have s1 : ∀ u, Below W0.heap.size W0 u → u.cell? ⟨g, 1, none⟩ = some (.string x.dn) := fun u H => (H.cell (p := ⟨g, 1, none⟩) hgl).trans (HW1.out.1.s.cell 1)
              have s2 : ∀ u, Below W0.heap.size W0 u → u.cell? ⟨g, 2, none⟩ = some (.int .i64 x.st) := fun u H => (H.cell (p := ⟨g, 2, none⟩) hgl).trans (HW1.out.1.s.cell 2)
              have s3 : ∀ u, Below W0.heap.size W0 u → u.cell? ⟨g, 3, none⟩ = some (.int .i64 x.ph) := fun u H => (H.cell (p := ⟨g, 3, none⟩) hgl).trans (HW1.out.1.s.cell 3)
              have s4 : ∀ u, Below W0.heap.size W0 u → u.cell? ⟨g, 4, none⟩ = some (.int .i64 x.sp) := fun u H => (H.cell (p := ⟨g, 4, none⟩) hgl).trans (HW1.out.1.s.cell 4)
              have s5 : ∀ u, Below W0.heap.size W0 u → u.cell? ⟨g, 5, none⟩ = some (.int .i64 x.tr) := fun u H => (H.cell (p := ⟨g, 5, none⟩) hgl).trans (HW1.out.1.s.cell 5)
              have s6 : ∀ u, Below W0.heap.size W0 u → u.cell? ⟨g, 6, none⟩ = some (.bool x.out) := fun u H => (H.cell (p := ⟨g, 6, none⟩) hgl).trans (HW1.out.1.s.cell 6)
              have s7 : ∀ u, Below W0.heap.size W0 u → u.cell? ⟨g, 7, none⟩ = some (.int .i64 x.at_) := fun u H => (H.cell (p := ⟨g, 7, none⟩) hgl).trans (HW1.out.1.s.cell 7)
              have s8 : ∀ u, Below W0.heap.size W0 u → u.cell? ⟨g, 8, none⟩ = some (.int .i64 x.sk) := fun u H => (H.cell (p := ⟨g, 8, none⟩) hgl).trans (HW1.out.1.s.cell 8)
              have a0 : ∀ u, Below W0.heap.size W0 u → u.cell? ⟨b, o + k * 7, none⟩ = some (.int .i64 a.k) := fun u H => ((hwW.trans (H.mono hwB)).cell (p := ⟨b, o + k * 7, none⟩) hbw).trans (hac 0 _ rfl)
              have a1 : ∀ u, Below W0.heap.size W0 u → u.cell? ⟨b, o + k * 7 + 1, none⟩ = some (.int .i64 a.now) := fun u H => ((hwW.trans (H.mono hwB)).cell (p := ⟨b, o + k * 7 + 1, none⟩) hbw).trans (hac 1 _ rfl)
              have a2 : ∀ u, Below W0.heap.size W0 u → u.cell? ⟨b, o + k * 7 + 2, none⟩ = some (.int .i64 a.r.sg) := fun u H => ((hwW.trans (H.mono hwB)).cell (p := ⟨b, o + k * 7 + 2, none⟩) hbw).trans (hac 2 _ rfl)
              have a3 : ∀ u, Below W0.heap.size W0 u → u.cell? ⟨b, o + k * 7 + 3, none⟩ = some (.int .i64 a.r.sp) := fun u H => ((hwW.trans (H.mono hwB)).cell (p := ⟨b, o + k * 7 + 3, none⟩) hbw).trans (hac 3 _ rfl)
              have a4 : ∀ u, Below W0.heap.size W0 u → u.cell? ⟨b, o + k * 7 + 4, none⟩ = some (.bool a.r.un) := fun u H => ((hwW.trans (H.mono hwB)).cell (p := ⟨b, o + k * 7 + 4, none⟩) hbw).trans (hac 4 _ rfl)
              have a5 : ∀ u, Below W0.heap.size W0 u → u.cell? ⟨b, o + k * 7 + 5, none⟩ = some (.int .i64 a.r.tr) := fun u H => ((hwW.trans (H.mono hwB)).cell (p := ⟨b, o + k * 7 + 5, none⟩) hbw).trans (hac 5 _ rfl)
              have a6 : ∀ u, Below W0.heap.size W0 u → u.cell? ⟨b, o + k * 7 + 6, none⟩ = some (.bool a.r.good) := fun u H => ((hwW.trans (H.mono hwB)).cell (p := ⟨b, o + k * 7 + 6, none⟩) hbw).trans (hac 6 _ rfl)
              have bd0 : Hid (Below W0.heap.size W0 W0.drew) := Lib.hid (Below.drew (Below.refl _ _))
              refine wp_region_held_drew (S := fun u => Below W0.heap.size W0 u) (by kernel_rfl) bd0.out (fun hHeld => ?_)
              generalize W0.drew = V0 at *
              refine wpAnyH_take (i := 0) (oi := ⟨some 45, _, _, _, _, _⟩) (v := ?_) rfl (by kernel_rfl) (by kernel_rfl) (by kernel_rfl) (fun _ _ _ h => h) (Or.inl ⟨by rfl, ?_⟩) (by assumption) ?_
              rotate_left
              · (intro u hu; (try dsimp only at hu); go_simp; (try with_reducible rfl))
              (try simp only [Act.put, List.setIfInBounds_toArray, List.set_cons_zero, List.set_cons_succ])
              refine wpAnyH_take (i := 1) (oi := ⟨some 46, _, _, _, _, _⟩) (v := ?_) rfl (by kernel_rfl) (by kernel_rfl) (by kernel_rfl) (fun _ _ _ h => h) (Or.inl ⟨by rfl, ?_⟩) (by assumption) ?_
              rotate_left
              · (intro u hu; (try dsimp only at hu); go_simp; (try with_reducible rfl))
              (try simp only [Act.put, List.setIfInBounds_toArray, List.set_cons_zero, List.set_cons_succ])
              refine wpAnyH_take (i := 2) (oi := ⟨some 47, _, _, _, _, _⟩) (v := ?_) rfl (by kernel_rfl) (by kernel_rfl) (by kernel_rfl) (fun _ _ _ h => h) (Or.inl ⟨by rfl, ?_⟩) (by assumption) ?_
              rotate_left
              · (intro u hu; (try dsimp only at hu); go_simp; (try with_reducible rfl))
              (try simp only [Act.put, List.setIfInBounds_toArray, List.set_cons_zero, List.set_cons_succ])
              refine wpAnyH_take (i := 3) (oi := ⟨some 48, _, _, _, _, _⟩) (v := ?_) rfl (by kernel_rfl) (by kernel_rfl) (by kernel_rfl) (fun _ _ _ h => h) (Or.inl ⟨by rfl, ?_⟩) (by assumption) ?_
              rotate_left
              · (intro u hu; (try dsimp only at hu); go_simp; (try with_reducible rfl))
              (try simp only [Act.put, List.setIfInBounds_toArray, List.set_cons_zero, List.set_cons_succ])
              refine wpAnyH_take (i := 4) (oi := ⟨some 49, _, _, _, _, _⟩) (v := ?_) rfl (by kernel_rfl) (by kernel_rfl) (by kernel_rfl) (fun _ _ _ h => h) (Or.inl ⟨by rfl, ?_⟩) (by assumption) ?_
              rotate_left
              · (intro u hu; (try dsimp only at hu); go_simp; (try with_reducible rfl))
              (try simp only [Act.put, List.setIfInBounds_toArray, List.set_cons_zero, List.set_cons_succ])
              refine wpAnyH_take (i := 5) (oi := ⟨some 50, _, _, _, _, _⟩) (v := ?_) rfl (by kernel_rfl) (by kernel_rfl) (by kernel_rfl) (fun _ _ _ h => h) (Or.inl ⟨by rfl, ?_⟩) (by assumption) ?_
              rotate_left
              · (intro u hu; (try dsimp only at hu); go_simp; (try with_reducible rfl))
              (try simp only [Act.put, List.setIfInBounds_toArray, List.set_cons_zero, List.set_cons_succ])
              refine wpAnyH_ready (rs := [6, 11, 12]) (by decide +kernel) (by simp) ?_
              refine AllReadyH.cons (o := ⟨some 51, _, _, _, _, _⟩) rfl (fun K hK => ?_) (AllReadyH.cons (o := ⟨some 12, _, _, _, _, _⟩) rfl (fun K hK => ?_) (AllReadyH.cons (o := ⟨some 13, _, _, _, _, _⟩) rfl (fun K hK => ?_) AllReadyH.nil))
              · as_aux_lemma =>
                  go_simp
                  (with_reducible refine (HD.out _ (hwW.trans (bd0.out.mono hwB))).mono ?_)
                  rintro e v1 ⟨rfl, hb⟩
                  have bd1 := Lib.hid (bd0.out.trans (hb.mono bd0.out.size))
                  have hs1 := hb.size
                  clear hb
                  go_wp2_with fail
                  refine hK.out _ _ ?_ (fun hHeld => ?_)
                  · exact bd1.out
                  clear hK K
                  (try simp only [Act.put, List.setIfInBounds_toArray, List.set_cons_zero, List.set_cons_succ])
                  refine wpAnyH_take (i := 7) (oi := ⟨some 44, _, _, _, _, _⟩) (v := ?_) rfl (by kernel_rfl) (by kernel_rfl) (by kernel_rfl) (fun _ _ _ h => h) (Or.inl ⟨by rfl, ?_⟩) (by assumption) ?_
                  rotate_left
                  · (intro u hu; (try dsimp only at hu); go_simp; (try with_reducible rfl))
                  (try simp only [Act.put, List.setIfInBounds_toArray, List.set_cons_zero, List.set_cons_succ])
                  refine wpAnyH_take (i := 8) (oi := ⟨some 52, _, _, _, _, _⟩) (v := ?_) rfl (by kernel_rfl) (by kernel_rfl) (by kernel_rfl) (fun _ _ _ h => h) (Or.inl ⟨by rfl, ?_⟩) (by assumption) ?_
                  rotate_left
                  · (intro u hu; (try dsimp only at hu); go_simp; (try with_reducible rfl))
                  (try simp only [Act.put, List.setIfInBounds_toArray, List.set_cons_zero, List.set_cons_succ])
                  refine wpAnyH_take (i := 9) (oi := ⟨some 53, _, _, _, _, _⟩) (v := ?_) rfl (by kernel_rfl) (by kernel_rfl) (by kernel_rfl) (fun _ _ _ h => h) (Or.inl ⟨by rfl, ?_⟩) (by assumption) ?_
                  rotate_left
                  · (intro u hu; (try dsimp only at hu); go_simp; (try with_reducible rfl))
                  (try simp only [Act.put, List.setIfInBounds_toArray, List.set_cons_zero, List.set_cons_succ])
                  refine wpAnyH_take (i := 10) (oi := ⟨some 54, _, _, _, _, _⟩) (v := ?_) rfl (by kernel_rfl) (by kernel_rfl) (by kernel_rfl) (fun _ _ _ h => h) (Or.inl ⟨by rfl, ?_⟩) (by assumption) ?_
                  rotate_left
                  · (intro u hu; (try dsimp only at hu); go_simp; (try with_reducible rfl))
                  (try simp only [Act.put, List.setIfInBounds_toArray, List.set_cons_zero, List.set_cons_succ])
                  refine wpAnyH_ready (rs := [11, 12]) (by decide +kernel) (by simp) ?_
                  refine AllReadyH.cons (o := ⟨some 12, _, _, _, _, _⟩) rfl (fun K hK => ?_) (AllReadyH.cons (o := ⟨some 13, _, _, _, _, _⟩) rfl (fun K hK => ?_) AllReadyH.nil)
                  · as_aux_lemma =>
                      go_simp
                      refine hK.out _ _ ?_ (fun hHeld => ?_)
                      · exact bd1.out.alloc bd1.out.size _
                      clear hK K
                      (try simp only [Act.put, List.setIfInBounds_toArray, List.set_cons_zero, List.set_cons_succ])
                      have bd2 := Lib.hid (below_is hHeld)
                      have es1 := bd1.out.size
                      have q2 : Hid (Slot _ _ 53 9) := Lib.hid (slot_new hHeld rfl)
                      generalize v1.alloc _ = V2 at *
                      have ls1 := q2.out.lt
                      refine wpAnyH_ready (rs := [12]) (by decide +kernel) (by simp) ?_
                      refine AllReadyH.cons (o := ⟨some 13, _, _, _, _, _⟩) rfl (fun K hK => ?_) AllReadyH.nil
                      · as_aux_lemma =>
                          go_simp
                          refine hK.out _ _ ?_ (fun hHeld => ?_)
                          · exact bd2.out.alloc bd2.out.size _
                          clear hK K
                          (try simp only [Act.put, List.setIfInBounds_toArray, List.set_cons_zero, List.set_cons_succ])
                          have bd3 := Lib.hid (below_is hHeld)
                          have es2 := bd2.out.size
                          have k3 : Hid (Slot _ _ 56 6) := Lib.hid (slot_new hHeld rfl)
                          have q3 := Lib.hid (slot_more hHeld q2.out)
                          generalize V2.alloc _ = V3 at *
                          have ls2 := k3.out.lt
                          refine wpAnyH_ready (rs := [13]) (by decide +kernel) (by simp) ?_
                          refine AllReadyH.cons (o := ⟨none, _, _, _, _, _⟩) rfl (fun K hK => ?_) AllReadyH.nil
                          rw [if_pos (by rfl)]
                          have BE := row_end bd3.out (show W0.heap.size ≤ v1.heap.size by omega) (y).arr
                          have BF := row_end BE (show W0.heap.size ≤ V2.heap.size by omega) (C).arr
                          obtain ⟨cs, hcs, hsz⟩ := q3.out
                          refine oper_store_row 53 _ _ rfl (v1.heap.size) 53 cs (y).arr rfl rfl hcs (sizeG _) hsz (oneG _) ?_
                          refine hK.out _ _ ?_ (fun hHeld => ?_)
                          · exact BE
                          clear hK K hcs hsz
                          (try simp only [Act.put])
                          refine wpAnyH_ready (rs := [14]) (by decide +kernel) (by simp) ?_
                          refine AllReadyH.cons (o := ⟨none, _, _, _, _, _⟩) rfl (fun K hK => ?_) AllReadyH.nil
                          rw [if_pos (by rfl)]
                          have hk2 := slot_rowfar k3.out (show V2.heap.size ≠ v1.heap.size by omega) (y).arr
                          obtain ⟨cs, hcs, hsz⟩ := hk2
                          refine oper_store_row 56 _ _ rfl (V2.heap.size) 56 cs (C).arr rfl rfl hcs (sizeC _) hsz (oneC _) ?_
                          refine hK.out _ _ ?_ (fun hHeld => ?_)
                          · exact BF
                          clear hK K hcs hsz
                          (try simp only [Act.put])
                          refine wpAnyH_take (i := 15) (oi := ⟨some 14, _, _, _, _, _⟩) (v := ?_) rfl (by kernel_rfl) (by kernel_rfl) (by kernel_rfl) (fun _ _ _ h => h) (Or.inl ⟨by rfl, ?_⟩) (by assumption) ?_
                          rotate_left
                          · (intro u hu; (try dsimp only at hu); go_simp; (try with_reducible rfl))
                          (try simp only [Act.put, List.setIfInBounds_toArray, List.set_cons_zero, List.set_cons_succ])
                          refine wpAnyH_done (by kernel_rfl) ?_ _
                          go_wp2
                          go_meet
                          exact ⟨_, _, rfl, rfl, rfl, Lib.hid ⟨⟨HW1.out.1.on BF, HW1.out.2.below BF HW1.out.2.lt⟩, ⟨box_far (q3.out.row _) (show v1.heap.size ≠ V2.heap.size by omega) _, (slot_rowfar k3.out (show V2.heap.size ≠ v1.heap.size by omega) _).row _⟩, by omega, by omega⟩⟩
                  · as_aux_lemma =>
                      go_simp
                      refine hK.out _ _ ?_ (fun hHeld => ?_)
                      · exact bd1.out.alloc bd1.out.size _
                      clear hK K
                      (try simp only [Act.put, List.setIfInBounds_toArray, List.set_cons_zero, List.set_cons_succ])
                      have bd2 := Lib.hid (below_is hHeld)
                      have es1 := bd1.out.size
                      have k2 : Hid (Slot _ _ 56 6) := Lib.hid (slot_new hHeld rfl)
                      generalize v1.alloc _ = V2 at *
                      have ls1 := k2.out.lt
                      refine wpAnyH_ready (rs := [11]) (by decide +kernel) (by simp) ?_
                      refine AllReadyH.cons (o := ⟨some 12, _, _, _, _, _⟩) rfl (fun K hK => ?_) AllReadyH.nil
                      · as_aux_lemma =>
                          go_simp
                          refine hK.out _ _ ?_ (fun hHeld => ?_)
                          · exact bd2.out.alloc bd2.out.size _
                          clear hK K
                          (try simp only [Act.put, List.setIfInBounds_toArray, List.set_cons_zero, List.set_cons_succ])
                          have bd3 := Lib.hid (below_is hHeld)
                          have es2 := bd2.out.size
                          have q3 : Hid (Slot _ _ 53 9) := Lib.hid (slot_new hHeld rfl)
                          have k3 := Lib.hid (slot_more hHeld k2.out)
                          generalize V2.alloc _ = V3 at *
                          have ls2 := q3.out.lt
                          refine wpAnyH_ready (rs := [13]) (by decide +kernel) (by simp) ?_
                          refine AllReadyH.cons (o := ⟨none, _, _, _, _, _⟩) rfl (fun K hK => ?_) AllReadyH.nil
                          rw [if_pos (by rfl)]
                          have BE := row_end bd3.out (show W0.heap.size ≤ V2.heap.size by omega) (y).arr
                          have BF := row_end BE (show W0.heap.size ≤ v1.heap.size by omega) (C).arr
                          obtain ⟨cs, hcs, hsz⟩ := q3.out
                          refine oper_store_row 53 _ _ rfl (V2.heap.size) 53 cs (y).arr rfl rfl hcs (sizeG _) hsz (oneG _) ?_
                          refine hK.out _ _ ?_ (fun hHeld => ?_)
                          · exact BE
                          clear hK K hcs hsz
                          (try simp only [Act.put])
                          refine wpAnyH_ready (rs := [14]) (by decide +kernel) (by simp) ?_
                          refine AllReadyH.cons (o := ⟨none, _, _, _, _, _⟩) rfl (fun K hK => ?_) AllReadyH.nil
                          rw [if_pos (by rfl)]
                          have hk2 := slot_rowfar k3.out (show v1.heap.size ≠ V2.heap.size by omega) (y).arr
                          obtain ⟨cs, hcs, hsz⟩ := hk2
                          refine oper_store_row 56 _ _ rfl (v1.heap.size) 56 cs (C).arr rfl rfl hcs (sizeC _) hsz (oneC _) ?_
                          refine hK.out _ _ ?_ (fun hHeld => ?_)
                          · exact BF
                          clear hK K hcs hsz
                          (try simp only [Act.put])
                          refine wpAnyH_take (i := 15) (oi := ⟨some 14, _, _, _, _, _⟩) (v := ?_) rfl (by kernel_rfl) (by kernel_rfl) (by kernel_rfl) (fun _ _ _ h => h) (Or.inl ⟨by rfl, ?_⟩) (by assumption) ?_
                          rotate_left
                          · (intro u hu; (try dsimp only at hu); go_simp; (try with_reducible rfl))
                          (try simp only [Act.put, List.setIfInBounds_toArray, List.set_cons_zero, List.set_cons_succ])
                          refine wpAnyH_done (by kernel_rfl) ?_ _
                          go_wp2
                          go_meet
                          exact ⟨_, _, rfl, rfl, rfl, Lib.hid ⟨⟨HW1.out.1.on BF, HW1.out.2.below BF HW1.out.2.lt⟩, ⟨box_far (q3.out.row _) (show V2.heap.size ≠ v1.heap.size by omega) _, (slot_rowfar k3.out (show v1.heap.size ≠ V2.heap.size by omega) _).row _⟩, by omega, by omega⟩⟩
              · as_aux_lemma =>
                  go_simp
                  refine hK.out _ _ ?_ (fun hHeld => ?_)
                  · exact bd0.out.alloc bd0.out.size _
                  clear hK K
                  (try simp only [Act.put, List.setIfInBounds_toArray, List.set_cons_zero, List.set_cons_succ])
                  have bd1 := Lib.hid (below_is hHeld)
                  have es0 := bd0.out.size
                  have q1 : Hid (Slot _ _ 53 9) := Lib.hid (slot_new hHeld rfl)
                  generalize V0.alloc _ = V1 at *
                  have ls0 := q1.out.lt
                  refine wpAnyH_ready (rs := [6, 12]) (by decide +kernel) (by simp) ?_
                  refine AllReadyH.cons (o := ⟨some 51, _, _, _, _, _⟩) rfl (fun K hK => ?_) (AllReadyH.cons (o := ⟨some 13, _, _, _, _, _⟩) rfl (fun K hK => ?_) AllReadyH.nil)
                  · as_aux_lemma =>
                      go_simp
                      (with_reducible refine (HD.out _ (hwW.trans (bd1.out.mono hwB))).mono ?_)
                      rintro e v1 ⟨rfl, hb⟩
                      have bd2 := Lib.hid (bd1.out.trans (hb.mono bd1.out.size))
                      have q2 := Lib.hid (slot_on q1.out hb)
                      have hs2 := hb.size
                      clear hb
                      go_wp2_with fail
                      refine hK.out _ _ ?_ (fun hHeld => ?_)
                      · exact bd2.out
                      clear hK K
                      (try simp only [Act.put, List.setIfInBounds_toArray, List.set_cons_zero, List.set_cons_succ])
                      refine wpAnyH_take (i := 7) (oi := ⟨some 44, _, _, _, _, _⟩) (v := ?_) rfl (by kernel_rfl) (by kernel_rfl) (by kernel_rfl) (fun _ _ _ h => h) (Or.inl ⟨by rfl, ?_⟩) (by assumption) ?_
                      rotate_left
                      · (intro u hu; (try dsimp only at hu); go_simp; (try with_reducible rfl))
                      (try simp only [Act.put, List.setIfInBounds_toArray, List.set_cons_zero, List.set_cons_succ])
                      refine wpAnyH_take (i := 8) (oi := ⟨some 52, _, _, _, _, _⟩) (v := ?_) rfl (by kernel_rfl) (by kernel_rfl) (by kernel_rfl) (fun _ _ _ h => h) (Or.inl ⟨by rfl, ?_⟩) (by assumption) ?_
                      rotate_left
                      · (intro u hu; (try dsimp only at hu); go_simp; (try with_reducible rfl))
                      (try simp only [Act.put, List.setIfInBounds_toArray, List.set_cons_zero, List.set_cons_succ])
                      refine wpAnyH_take (i := 9) (oi := ⟨some 53, _, _, _, _, _⟩) (v := ?_) rfl (by kernel_rfl) (by kernel_rfl) (by kernel_rfl) (fun _ _ _ h => h) (Or.inl ⟨by rfl, ?_⟩) (by assumption) ?_
                      rotate_left
                      · (intro u hu; (try dsimp only at hu); go_simp; (try with_reducible rfl))
                      (try simp only [Act.put, List.setIfInBounds_toArray, List.set_cons_zero, List.set_cons_succ])
                      refine wpAnyH_take (i := 10) (oi := ⟨some 54, _, _, _, _, _⟩) (v := ?_) rfl (by kernel_rfl) (by kernel_rfl) (by kernel_rfl) (fun _ _ _ h => h) (Or.inl ⟨by rfl, ?_⟩) (by assumption) ?_
                      rotate_left
                      · (intro u hu; (try dsimp only at hu); go_simp; (try with_reducible rfl))
                      (try simp only [Act.put, List.setIfInBounds_toArray, List.set_cons_zero, List.set_cons_succ])
                      refine wpAnyH_ready (rs := [12]) (by decide +kernel) (by simp) ?_
                      refine AllReadyH.cons (o := ⟨some 13, _, _, _, _, _⟩) rfl (fun K hK => ?_) AllReadyH.nil
                      · as_aux_lemma =>
                          go_simp
                          refine hK.out _ _ ?_ (fun hHeld => ?_)
                          · exact bd2.out.alloc bd2.out.size _
                          clear hK K
                          (try simp only [Act.put, List.setIfInBounds_toArray, List.set_cons_zero, List.set_cons_succ])
                          have bd3 := Lib.hid (below_is hHeld)
                          have es2 := bd2.out.size
                          have k3 : Hid (Slot _ _ 56 6) := Lib.hid (slot_new hHeld rfl)
                          have q3 := Lib.hid (slot_more hHeld q2.out)
                          generalize v1.alloc _ = V3 at *
                          have ls2 := k3.out.lt
                          refine wpAnyH_ready (rs := [13]) (by decide +kernel) (by simp) ?_
                          refine AllReadyH.cons (o := ⟨none, _, _, _, _, _⟩) rfl (fun K hK => ?_) AllReadyH.nil
                          rw [if_pos (by rfl)]
                          have BE := row_end bd3.out (show W0.heap.size ≤ V0.heap.size by omega) (y).arr
                          have BF := row_end BE (show W0.heap.size ≤ v1.heap.size by omega) (C).arr
                          obtain ⟨cs, hcs, hsz⟩ := q3.out
                          refine oper_store_row 53 _ _ rfl (V0.heap.size) 53 cs (y).arr rfl rfl hcs (sizeG _) hsz (oneG _) ?_
                          refine hK.out _ _ ?_ (fun hHeld => ?_)
                          · exact BE
                          clear hK K hcs hsz
                          (try simp only [Act.put])
                          refine wpAnyH_ready (rs := [14]) (by decide +kernel) (by simp) ?_
                          refine AllReadyH.cons (o := ⟨none, _, _, _, _, _⟩) rfl (fun K hK => ?_) AllReadyH.nil
                          rw [if_pos (by rfl)]
                          have hk2 := slot_rowfar k3.out (show v1.heap.size ≠ V0.heap.size by omega) (y).arr
                          obtain ⟨cs, hcs, hsz⟩ := hk2
                          refine oper_store_row 56 _ _ rfl (v1.heap.size) 56 cs (C).arr rfl rfl hcs (sizeC _) hsz (oneC _) ?_
                          refine hK.out _ _ ?_ (fun hHeld => ?_)
                          · exact BF
                          clear hK K hcs hsz
                          (try simp only [Act.put])
                          refine wpAnyH_take (i := 15) (oi := ⟨some 14, _, _, _, _, _⟩) (v := ?_) rfl (by kernel_rfl) (by kernel_rfl) (by kernel_rfl) (fun _ _ _ h => h) (Or.inl ⟨by rfl, ?_⟩) (by assumption) ?_
                          rotate_left
                          · (intro u hu; (try dsimp only at hu); go_simp; (try with_reducible rfl))
                          (try simp only [Act.put, List.setIfInBounds_toArray, List.set_cons_zero, List.set_cons_succ])
                          refine wpAnyH_done (by kernel_rfl) ?_ _
                          go_wp2
                          go_meet
                          exact ⟨_, _, rfl, rfl, rfl, Lib.hid ⟨⟨HW1.out.1.on BF, HW1.out.2.below BF HW1.out.2.lt⟩, ⟨box_far (q3.out.row _) (show V0.heap.size ≠ v1.heap.size by omega) _, (slot_rowfar k3.out (show v1.heap.size ≠ V0.heap.size by omega) _).row _⟩, by omega, by omega⟩⟩
                  · as_aux_lemma =>
                      go_simp
                      refine hK.out _ _ ?_ (fun hHeld => ?_)
                      · exact bd1.out.alloc bd1.out.size _
                      clear hK K
                      (try simp only [Act.put, List.setIfInBounds_toArray, List.set_cons_zero, List.set_cons_succ])
                      have bd2 := Lib.hid (below_is hHeld)
                      have es1 := bd1.out.size
                      have k2 : Hid (Slot _ _ 56 6) := Lib.hid (slot_new hHeld rfl)
                      have q2 := Lib.hid (slot_more hHeld q1.out)
                      generalize V1.alloc _ = V2 at *
                      have ls1 := k2.out.lt
                      refine wpAnyH_ready (rs := [6]) (by decide +kernel) (by simp) ?_
                      refine AllReadyH.cons (o := ⟨some 51, _, _, _, _, _⟩) rfl (fun K hK => ?_) AllReadyH.nil
                      · as_aux_lemma =>
                          go_simp
                          (with_reducible refine (HD.out _ (hwW.trans (bd2.out.mono hwB))).mono ?_)
                          rintro e v1 ⟨rfl, hb⟩
                          have bd3 := Lib.hid (bd2.out.trans (hb.mono bd2.out.size))
                          have q3 := Lib.hid (slot_on q2.out hb)
                          have k3 := Lib.hid (slot_on k2.out hb)
                          have hs3 := hb.size
                          clear hb
                          go_wp2_with fail
                          refine hK.out _ _ ?_ (fun hHeld => ?_)
                          · exact bd3.out
                          clear hK K
                          (try simp only [Act.put, List.setIfInBounds_toArray, List.set_cons_zero, List.set_cons_succ])
                          refine wpAnyH_take (i := 7) (oi := ⟨some 44, _, _, _, _, _⟩) (v := ?_) rfl (by kernel_rfl) (by kernel_rfl) (by kernel_rfl) (fun _ _ _ h => h) (Or.inl ⟨by rfl, ?_⟩) (by assumption) ?_
                          rotate_left
                          · (intro u hu; (try dsimp only at hu); go_simp; (try with_reducible rfl))
                          (try simp only [Act.put, List.setIfInBounds_toArray, List.set_cons_zero, List.set_cons_succ])
                          refine wpAnyH_take (i := 8) (oi := ⟨some 52, _, _, _, _, _⟩) (v := ?_) rfl (by kernel_rfl) (by kernel_rfl) (by kernel_rfl) (fun _ _ _ h => h) (Or.inl ⟨by rfl, ?_⟩) (by assumption) ?_
                          rotate_left
                          · (intro u hu; (try dsimp only at hu); go_simp; (try with_reducible rfl))
                          (try simp only [Act.put, List.setIfInBounds_toArray, List.set_cons_zero, List.set_cons_succ])
                          refine wpAnyH_take (i := 9) (oi := ⟨some 53, _, _, _, _, _⟩) (v := ?_) rfl (by kernel_rfl) (by kernel_rfl) (by kernel_rfl) (fun _ _ _ h => h) (Or.inl ⟨by rfl, ?_⟩) (by assumption) ?_
                          rotate_left
                          · (intro u hu; (try dsimp only at hu); go_simp; (try with_reducible rfl))
                          (try simp only [Act.put, List.setIfInBounds_toArray, List.set_cons_zero, List.set_cons_succ])
                          refine wpAnyH_take (i := 10) (oi := ⟨some 54, _, _, _, _, _⟩) (v := ?_) rfl (by kernel_rfl) (by kernel_rfl) (by kernel_rfl) (fun _ _ _ h => h) (Or.inl ⟨by rfl, ?_⟩) (by assumption) ?_
                          rotate_left
                          · (intro u hu; (try dsimp only at hu); go_simp; (try with_reducible rfl))
                          (try simp only [Act.put, List.setIfInBounds_toArray, List.set_cons_zero, List.set_cons_succ])
                          refine wpAnyH_ready (rs := [13]) (by decide +kernel) (by simp) ?_
                          refine AllReadyH.cons (o := ⟨none, _, _, _, _, _⟩) rfl (fun K hK => ?_) AllReadyH.nil
                          rw [if_pos (by rfl)]
                          have BE := row_end bd3.out (show W0.heap.size ≤ V0.heap.size by omega) (y).arr
                          have BF := row_end BE (show W0.heap.size ≤ V1.heap.size by omega) (C).arr
                          obtain ⟨cs, hcs, hsz⟩ := q3.out
                          refine oper_store_row 53 _ _ rfl (V0.heap.size) 53 cs (y).arr rfl rfl hcs (sizeG _) hsz (oneG _) ?_
                          refine hK.out _ _ ?_ (fun hHeld => ?_)
                          · exact BE
                          clear hK K hcs hsz
                          (try simp only [Act.put])
                          refine wpAnyH_ready (rs := [14]) (by decide +kernel) (by simp) ?_
                          refine AllReadyH.cons (o := ⟨none, _, _, _, _, _⟩) rfl (fun K hK => ?_) AllReadyH.nil
                          rw [if_pos (by rfl)]
                          have hk2 := slot_rowfar k3.out (show V1.heap.size ≠ V0.heap.size by omega) (y).arr
                          obtain ⟨cs, hcs, hsz⟩ := hk2
                          refine oper_store_row 56 _ _ rfl (V1.heap.size) 56 cs (C).arr rfl rfl hcs (sizeC _) hsz (oneC _) ?_
                          refine hK.out _ _ ?_ (fun hHeld => ?_)
                          · exact BF
                          clear hK K hcs hsz
                          (try simp only [Act.put])
                          refine wpAnyH_take (i := 15) (oi := ⟨some 14, _, _, _, _, _⟩) (v := ?_) rfl (by kernel_rfl) (by kernel_rfl) (by kernel_rfl) (fun _ _ _ h => h) (Or.inl ⟨by rfl, ?_⟩) (by assumption) ?_
                          rotate_left
                          · (intro u hu; (try dsimp only at hu); go_simp; (try with_reducible rfl))
                          (try simp only [Act.put, List.setIfInBounds_toArray, List.set_cons_zero, List.set_cons_succ])
                          refine wpAnyH_done (by kernel_rfl) ?_ _
                          go_wp2
                          go_meet
                          exact ⟨_, _, rfl, rfl, rfl, Lib.hid ⟨⟨HW1.out.1.on BF, HW1.out.2.below BF HW1.out.2.lt⟩, ⟨box_far (q3.out.row _) (show V0.heap.size ≠ V1.heap.size by omega) _, (slot_rowfar k3.out (show V1.heap.size ≠ V0.heap.size by omega) _).row _⟩, by omega, by omega⟩⟩
              · as_aux_lemma =>
                  go_simp
                  refine hK.out _ _ ?_ (fun hHeld => ?_)
                  · exact bd0.out.alloc bd0.out.size _
                  clear hK K
                  (try simp only [Act.put, List.setIfInBounds_toArray, List.set_cons_zero, List.set_cons_succ])
                  have bd1 := Lib.hid (below_is hHeld)
                  have es0 := bd0.out.size
                  have k1 : Hid (Slot _ _ 56 6) := Lib.hid (slot_new hHeld rfl)
                  generalize V0.alloc _ = V1 at *
                  have ls0 := k1.out.lt
                  refine wpAnyH_ready (rs := [6, 11]) (by decide +kernel) (by simp) ?_
                  refine AllReadyH.cons (o := ⟨some 51, _, _, _, _, _⟩) rfl (fun K hK => ?_) (AllReadyH.cons (o := ⟨some 12, _, _, _, _, _⟩) rfl (fun K hK => ?_) AllReadyH.nil)
                  · as_aux_lemma =>
                      go_simp
                      (with_reducible refine (HD.out _ (hwW.trans (bd1.out.mono hwB))).mono ?_)
                      rintro e v1 ⟨rfl, hb⟩
                      have bd2 := Lib.hid (bd1.out.trans (hb.mono bd1.out.size))
                      have k2 := Lib.hid (slot_on k1.out hb)
                      have hs2 := hb.size
                      clear hb
                      go_wp2_with fail
                      refine hK.out _ _ ?_ (fun hHeld => ?_)
                      · exact bd2.out
                      clear hK K
                      (try simp only [Act.put, List.setIfInBounds_toArray, List.set_cons_zero, List.set_cons_succ])
                      refine wpAnyH_take (i := 7) (oi := ⟨some 44, _, _, _, _, _⟩) (v := ?_) rfl (by kernel_rfl) (by kernel_rfl) (by kernel_rfl) (fun _ _ _ h => h) (Or.inl ⟨by rfl, ?_⟩) (by assumption) ?_
                      rotate_left
                      · (intro u hu; (try dsimp only at hu); go_simp; (try with_reducible rfl))
                      (try simp only [Act.put, List.setIfInBounds_toArray, List.set_cons_zero, List.set_cons_succ])
                      refine wpAnyH_take (i := 8) (oi := ⟨some 52, _, _, _, _, _⟩) (v := ?_) rfl (by kernel_rfl) (by kernel_rfl) (by kernel_rfl) (fun _ _ _ h => h) (Or.inl ⟨by rfl, ?_⟩) (by assumption) ?_
                      rotate_left
                      · (intro u hu; (try dsimp only at hu); go_simp; (try with_reducible rfl))
                      (try simp only [Act.put, List.setIfInBounds_toArray, List.set_cons_zero, List.set_cons_succ])
                      refine wpAnyH_take (i := 9) (oi := ⟨some 53, _, _, _, _, _⟩) (v := ?_) rfl (by kernel_rfl) (by kernel_rfl) (by kernel_rfl) (fun _ _ _ h => h) (Or.inl ⟨by rfl, ?_⟩) (by assumption) ?_
                      rotate_left
                      · (intro u hu; (try dsimp only at hu); go_simp; (try with_reducible rfl))
                      (try simp only [Act.put, List.setIfInBounds_toArray, List.set_cons_zero, List.set_cons_succ])
                      refine wpAnyH_take (i := 10) (oi := ⟨some 54, _, _, _, _, _⟩) (v := ?_) rfl (by kernel_rfl) (by kernel_rfl) (by kernel_rfl) (fun _ _ _ h => h) (Or.inl ⟨by rfl, ?_⟩) (by assumption) ?_
                      rotate_left
                      · (intro u hu; (try dsimp only at hu); go_simp; (try with_reducible rfl))
                      (try simp only [Act.put, List.setIfInBounds_toArray, List.set_cons_zero, List.set_cons_succ])
                      refine wpAnyH_ready (rs := [11]) (by decide +kernel) (by simp) ?_
                      refine AllReadyH.cons (o := ⟨some 12, _, _, _, _, _⟩) rfl (fun K hK => ?_) AllReadyH.nil
                      · as_aux_lemma =>
                          go_simp
                          refine hK.out _ _ ?_ (fun hHeld => ?_)
                          · exact bd2.out.alloc bd2.out.size _
                          clear hK K
                          (try simp only [Act.put, List.setIfInBounds_toArray, List.set_cons_zero, List.set_cons_succ])
                          have bd3 := Lib.hid (below_is hHeld)
                          have es2 := bd2.out.size
                          have q3 : Hid (Slot _ _ 53 9) := Lib.hid (slot_new hHeld rfl)
                          have k3 := Lib.hid (slot_more hHeld k2.out)
                          generalize v1.alloc _ = V3 at *
                          have ls2 := q3.out.lt
                          refine wpAnyH_ready (rs := [13]) (by decide +kernel) (by simp) ?_
                          refine AllReadyH.cons (o := ⟨none, _, _, _, _, _⟩) rfl (fun K hK => ?_) AllReadyH.nil
                          rw [if_pos (by rfl)]
                          have BE := row_end bd3.out (show W0.heap.size ≤ v1.heap.size by omega) (y).arr
                          have BF := row_end BE (show W0.heap.size ≤ V0.heap.size by omega) (C).arr
                          obtain ⟨cs, hcs, hsz⟩ := q3.out
                          refine oper_store_row 53 _ _ rfl (v1.heap.size) 53 cs (y).arr rfl rfl hcs (sizeG _) hsz (oneG _) ?_
                          refine hK.out _ _ ?_ (fun hHeld => ?_)
                          · exact BE
                          clear hK K hcs hsz
                          (try simp only [Act.put])
                          refine wpAnyH_ready (rs := [14]) (by decide +kernel) (by simp) ?_
                          refine AllReadyH.cons (o := ⟨none, _, _, _, _, _⟩) rfl (fun K hK => ?_) AllReadyH.nil
                          rw [if_pos (by rfl)]
                          have hk2 := slot_rowfar k3.out (show V0.heap.size ≠ v1.heap.size by omega) (y).arr
                          obtain ⟨cs, hcs, hsz⟩ := hk2
                          refine oper_store_row 56 _ _ rfl (V0.heap.size) 56 cs (C).arr rfl rfl hcs (sizeC _) hsz (oneC _) ?_
                          refine hK.out _ _ ?_ (fun hHeld => ?_)
                          · exact BF
                          clear hK K hcs hsz
                          (try simp only [Act.put])
                          refine wpAnyH_take (i := 15) (oi := ⟨some 14, _, _, _, _, _⟩) (v := ?_) rfl (by kernel_rfl) (by kernel_rfl) (by kernel_rfl) (fun _ _ _ h => h) (Or.inl ⟨by rfl, ?_⟩) (by assumption) ?_
                          rotate_left
                          · (intro u hu; (try dsimp only at hu); go_simp; (try with_reducible rfl))
                          (try simp only [Act.put, List.setIfInBounds_toArray, List.set_cons_zero, List.set_cons_succ])
                          refine wpAnyH_done (by kernel_rfl) ?_ _
                          go_wp2
                          go_meet
                          exact ⟨_, _, rfl, rfl, rfl, Lib.hid ⟨⟨HW1.out.1.on BF, HW1.out.2.below BF HW1.out.2.lt⟩, ⟨box_far (q3.out.row _) (show v1.heap.size ≠ V0.heap.size by omega) _, (slot_rowfar k3.out (show V0.heap.size ≠ v1.heap.size by omega) _).row _⟩, by omega, by omega⟩⟩
                  · as_aux_lemma =>
                      go_simp
                      refine hK.out _ _ ?_ (fun hHeld => ?_)
                      · exact bd1.out.alloc bd1.out.size _
                      clear hK K
                      (try simp only [Act.put, List.setIfInBounds_toArray, List.set_cons_zero, List.set_cons_succ])
                      have bd2 := Lib.hid (below_is hHeld)
                      have es1 := bd1.out.size
                      have q2 : Hid (Slot _ _ 53 9) := Lib.hid (slot_new hHeld rfl)
                      have k2 := Lib.hid (slot_more hHeld k1.out)
                      generalize V1.alloc _ = V2 at *
                      have ls1 := q2.out.lt
                      refine wpAnyH_ready (rs := [6]) (by decide +kernel) (by simp) ?_
                      refine AllReadyH.cons (o := ⟨some 51, _, _, _, _, _⟩) rfl (fun K hK => ?_) AllReadyH.nil
                      · as_aux_lemma =>
                          go_simp
                          (with_reducible refine (HD.out _ (hwW.trans (bd2.out.mono hwB))).mono ?_)
                          rintro e v1 ⟨rfl, hb⟩
                          have bd3 := Lib.hid (bd2.out.trans (hb.mono bd2.out.size))
                          have q3 := Lib.hid (slot_on q2.out hb)
                          have k3 := Lib.hid (slot_on k2.out hb)
                          have hs3 := hb.size
                          clear hb
                          go_wp2_with fail
                          refine hK.out _ _ ?_ (fun hHeld => ?_)
                          · exact bd3.out
                          clear hK K
                          (try simp only [Act.put, List.setIfInBounds_toArray, List.set_cons_zero, List.set_cons_succ])
                          refine wpAnyH_take (i := 7) (oi := ⟨some 44, _, _, _, _, _⟩) (v := ?_) rfl (by kernel_rfl) (by kernel_rfl) (by kernel_rfl) (fun _ _ _ h => h) (Or.inl ⟨by rfl, ?_⟩) (by assumption) ?_
                          rotate_left
                          · (intro u hu; (try dsimp only at hu); go_simp; (try with_reducible rfl))
                          (try simp only [Act.put, List.setIfInBounds_toArray, List.set_cons_zero, List.set_cons_succ])
                          refine wpAnyH_take (i := 8) (oi := ⟨some 52, _, _, _, _, _⟩) (v := ?_) rfl (by kernel_rfl) (by kernel_rfl) (by kernel_rfl) (fun _ _ _ h => h) (Or.inl ⟨by rfl, ?_⟩) (by assumption) ?_
                          rotate_left
                          · (intro u hu; (try dsimp only at hu); go_simp; (try with_reducible rfl))
                          (try simp only [Act.put, List.setIfInBounds_toArray, List.set_cons_zero, List.set_cons_succ])
                          refine wpAnyH_take (i := 9) (oi := ⟨some 53, _, _, _, _, _⟩) (v := ?_) rfl (by kernel_rfl) (by kernel_rfl) (by kernel_rfl) (fun _ _ _ h => h) (Or.inl ⟨by rfl, ?_⟩) (by assumption) ?_
                          rotate_left
                          · (intro u hu; (try dsimp only at hu); go_simp; (try with_reducible rfl))
                          (try simp only [Act.put, List.setIfInBounds_toArray, List.set_cons_zero, List.set_cons_succ])
                          refine wpAnyH_take (i := 10) (oi := ⟨some 54, _, _, _, _, _⟩) (v := ?_) rfl (by kernel_rfl) (by kernel_rfl) (by kernel_rfl) (fun _ _ _ h => h) (Or.inl ⟨by rfl, ?_⟩) (by assumption) ?_
                          rotate_left
                          · (intro u hu; (try dsimp only at hu); go_simp; (try with_reducible rfl))
                          (try simp only [Act.put, List.setIfInBounds_toArray, List.set_cons_zero, List.set_cons_succ])
                          refine wpAnyH_ready (rs := [13]) (by decide +kernel) (by simp) ?_
                          refine AllReadyH.cons (o := ⟨none, _, _, _, _, _⟩) rfl (fun K hK => ?_) AllReadyH.nil
                          rw [if_pos (by rfl)]
                          have BE := row_end bd3.out (show W0.heap.size ≤ V1.heap.size by omega) (y).arr
                          have BF := row_end BE (show W0.heap.size ≤ V0.heap.size by omega) (C).arr
                          obtain ⟨cs, hcs, hsz⟩ := q3.out
                          refine oper_store_row 53 _ _ rfl (V1.heap.size) 53 cs (y).arr rfl rfl hcs (sizeG _) hsz (oneG _) ?_
                          refine hK.out _ _ ?_ (fun hHeld => ?_)
                          · exact BE
                          clear hK K hcs hsz
                          (try simp only [Act.put])
                          refine wpAnyH_ready (rs := [14]) (by decide +kernel) (by simp) ?_
                          refine AllReadyH.cons (o := ⟨none, _, _, _, _, _⟩) rfl (fun K hK => ?_) AllReadyH.nil
                          rw [if_pos (by rfl)]
                          have hk2 := slot_rowfar k3.out (show V0.heap.size ≠ V1.heap.size by omega) (y).arr
                          obtain ⟨cs, hcs, hsz⟩ := hk2
                          refine oper_store_row 56 _ _ rfl (V0.heap.size) 56 cs (C).arr rfl rfl hcs (sizeC _) hsz (oneC _) ?_
                          refine hK.out _ _ ?_ (fun hHeld => ?_)
                          · exact BF
                          clear hK K hcs hsz
                          (try simp only [Act.put])
                          refine wpAnyH_take (i := 15) (oi := ⟨some 14, _, _, _, _, _⟩) (v := ?_) rfl (by kernel_rfl) (by kernel_rfl) (by kernel_rfl) (fun _ _ _ h => h) (Or.inl ⟨by rfl, ?_⟩) (by assumption) ?_
                          rotate_left
                          · (intro u hu; (try dsimp only at hu); go_simp; (try with_reducible rfl))
                          (try simp only [Act.put, List.setIfInBounds_toArray, List.set_cons_zero, List.set_cons_succ])
                          refine wpAnyH_done (by kernel_rfl) ?_ _
                          go_wp2
                          go_meet
                          exact ⟨_, _, rfl, rfl, rfl, Lib.hid ⟨⟨HW1.out.1.on BF, HW1.out.2.below BF HW1.out.2.lt⟩, ⟨box_far (q3.out.row _) (show V1.heap.size ≠ V0.heap.size by omega) _, (slot_rowfar k3.out (show V0.heap.size ≠ V1.heap.size by omega) _).row _⟩, by omega, by omega⟩⟩
            case rest =>
              obtain ⟨gt, gc, rfl, rfl, rfl, HS⟩ := hcut
              obtain ⟨k1, k2, k3, k4⟩ := HS.out
              have HWc := Lib.hid k1.1
              have HWas := Lib.hid k1.2
              have HTb := Lib.hid k2.1
              have HKb := Lib.hid k2.2
              have hng : gw ≠ g := HWn.out.1
              have hgt : gt ≠ g := by omega
              have hgc : gc ≠ g := by omega
              clear k1 k2 k3 k4 HS HD hwW hwB hgw hgl hwl HW1 HWn
              obtain ⟨x0, x1, x2, x3, x4, x5, x6, x7, x8⟩ := sgcells HTb.out
              go_upto_region 13 with (obtain ⟨cs, hcs, hsz⟩ := (Box.slot HWc.out.s rfl : Slot _ _ _ 9); refine wpList_store_row rfl 53 _ _ rfl (g) 53 cs (y).arr rfl rfl hcs (sizeG _) hsz (oneG _) ?_)
              have HR : Hid (Sr w (wc.setRow g y.arr) g gw gc nm dl A n c x y C) := Lib.hid ⟨HWc.out.set y, box_far HWas.out hng _, box_far HKb.out hgc _⟩
              clear x0 x1 x2 x3 x4 x5 x6 x7 x8 HWc HWas HTb HKb hng hgt hgc
              generalize wc.setRow g y.arr = W3 at *
              have c0 := (HR.out.aw.bel.cell (p := ⟨b, o + k * 7 + 0, none⟩) hbw).trans (hac 0 _ rfl)
              simp only [Nat.add_zero] at c0
              obtain ⟨d0, d1, d2⟩ := HR.out.aw.cd
              obtain ⟨y0, y1, y2, y3, y4, y5, y6, y7, y8⟩ := HR.out.aw.cs
              obtain ⟨x0, x1, x2, x3, x4, x5, x6, x7, x8⟩ := sgcells HR.out.was
              have hgd := guard_saga
              (try simp only [Act.put])
              go_cut [80] (fun v wx => v = .bool false ∧ Hid (Sr w wx g gw gc nm dl A n c x y C))
              case first => as_aux_lemma =>
                cases hov : overB x with
                | true =>
                  have e : y = x := HOv.out (of_decide_eq_true hov).1
                  have p2 : (x.ph == 2) = false := by have := (of_decide_eq_true hov).1; simp only [beq_eq_false_iff_ne, ne_eq]; omega
                  have hne := neq_is (y := y) (x := x) (b := false) (by rw [e, eqG_self]; rfl)
                  have HO := Lib.hid (fun W => over_any x W)
                  rw [hov] at HO
                  clear hov e HOv HPk
                  go_wp2_with (go_at_call 27; (with_reducible refine (HO.out _).mono ?_); rintro e w5 ⟨rfl, hm⟩; have HR5 := Lib.hid (HR.out.on hm.below); clear hm; obtain ⟨d0, d1, d2⟩ := HR5.out.aw.cd; obtain ⟨y0, y1, y2, y3, y4, y5, y6, y7, y8⟩ := HR5.out.aw.cs; obtain ⟨x0, x1, x2, x3, x4, x5, x6, x7, x8⟩ := sgcells HR5.out.was)
                  go_meet
                  exact ⟨rfl, HR5⟩
                | false =>
                  have HO := Lib.hid (fun W => over_any x W)
                  rw [hov] at HO
                  by_cases h2 : x.ph = 2
                  · have p2 : (x.ph == 2) = true := by simp [h2]
                    by_cases h9 : a.k < 9
                    · have p9 : decide (a.k < 9) = true := decide_eq_true h9
                      have e : y = x := HPk.out h2 h9
                      have hne := neq_is (y := y) (x := x) (b := false) (by rw [e, eqG_self]; rfl)
                      clear hov e HOv HPk h2 h9
                      go_wp2_with (go_at_call 27; (with_reducible refine (HO.out _).mono ?_); rintro e w5 ⟨rfl, hm⟩; have HR5 := Lib.hid (HR.out.on hm.below); have c0 := (HR5.out.aw.bel.cell (p := ⟨b, o + k * 7 + 0, none⟩) hbw).trans (hac 0 _ rfl); simp only [Nat.add_zero] at c0; clear hm; obtain ⟨d0, d1, d2⟩ := HR5.out.aw.cd; obtain ⟨y0, y1, y2, y3, y4, y5, y6, y7, y8⟩ := HR5.out.aw.cs; obtain ⟨x0, x1, x2, x3, x4, x5, x6, x7, x8⟩ := sgcells HR5.out.was)
                      go_meet
                      exact ⟨rfl, HR5⟩
                    · have p9 : decide (a.k < 9) = false := decide_eq_false h9
                      clear hov HOv HPk h2 h9
                      go_wp2_with (go_at_call 27; (with_reducible refine (HO.out _).mono ?_); rintro e w5 ⟨rfl, hm⟩; have HR5 := Lib.hid (HR.out.on hm.below); have c0 := (HR5.out.aw.bel.cell (p := ⟨b, o + k * 7 + 0, none⟩) hbw).trans (hac 0 _ rfl); simp only [Nat.add_zero] at c0; clear hm; obtain ⟨d0, d1, d2⟩ := HR5.out.aw.cd; obtain ⟨y0, y1, y2, y3, y4, y5, y6, y7, y8⟩ := HR5.out.aw.cs; obtain ⟨x0, x1, x2, x3, x4, x5, x6, x7, x8⟩ := sgcells HR5.out.was)
                      go_meet
                      exact ⟨rfl, HR5⟩
                  · have p2 : (x.ph == 2) = false := by simpa using h2
                    clear hov HOv HPk h2
                    go_wp2_with (go_at_call 27; (with_reducible refine (HO.out _).mono ?_); rintro e w5 ⟨rfl, hm⟩; have HR5 := Lib.hid (HR.out.on hm.below); have c0 := (HR5.out.aw.bel.cell (p := ⟨b, o + k * 7 + 0, none⟩) hbw).trans (hac 0 _ rfl); simp only [Nat.add_zero] at c0; clear hm; obtain ⟨d0, d1, d2⟩ := HR5.out.aw.cd; obtain ⟨y0, y1, y2, y3, y4, y5, y6, y7, y8⟩ := HR5.out.aw.cs; obtain ⟨x0, x1, x2, x3, x4, x5, x6, x7, x8⟩ := sgcells HR5.out.was)
                    go_meet
                    exact ⟨rfl, HR5⟩
              case rest =>
                obtain ⟨rfl, HR6⟩ := hcut
                clear HR c0 d0 d1 d2 y0 y1 y2 y3 y4 y5 y6 y7 y8 x0 x1 x2 x3 x4 x5 x6 x7 x8 hgd HOv HPk
                have hsp := HXn.out.live.good.fld.sp
                have hpg := good_plan HXn.out.live.good
                have HTr := Lib.hid HXn.out.tries
                have HP := Lib.hid (fun W (hW : Below w.heap.size w W) => rplan_any nm dl A n c ss y W HN.out (HDn.out.mem.on hW) hsp.1 (by have := HN.out; omega))
                have HOy := Lib.hid (fun W => over_any y W)
                have hr0 : 0 ≤ (planOf ss y).r ∧ (planOf ss y).r ≤ 1000 := ⟨hpg.1, hpg.2.1⟩
                have ytr := HXn.out.tr
                generalize planOf ss y = p at HTr HP hr0
                clear hpg hsp
                go_upto_region 15 with (fail)
                go_cut [93] (fun v wx => v = .bool false ∧ Hid (Sr w wx g gw gc nm dl A n c x y C))
                case first => as_aux_lemma =>
                  have HQ : Hid (∀ q os, Below w.heap.size w (grow (wc.drewN q) os)) := Lib.hid fun q os => HR6.out.aw.bel.trans ((grown_below wc q os).mono HR6.out.aw.bel.size)
                  have hwr : IntKind.i64.wrap (p.r + 1) = p.r + 1 := by rw [IntKind.wrap_i64]; omega
                  have hfp := field_plan
                  have mixed : Tryd.prog.follows .mixedOrders = true := by kernel_rfl
                  obtain ⟨d0, d1, d2⟩ := dall HR6.out.aw.d
                  obtain ⟨y0, y1, y2, y3, y4, y5, y6, y7, y8⟩ := sall HR6.out.aw.s
                  by_cases hb : p.r + 1 < y.tr
                  · have gb : decide (p.r + 1 < y.tr) = true := decide_eq_true hb
                    rw [HTr.out hb] at HOy
                    clear HTr
                    go_quiet_grown (first
                      | (go_at_call 28; with_reducible exact Calls.grown_of (HP.out _ (HQ.out _ _)))
                      | (go_at_call 27; with_reducible exact Calls.grown_of (HOy.out _)))
                    go_wp2
                    go_meet
                    exact ⟨rfl, Lib.hid (HR6.out.on (grown_below wc _ _))⟩
                  · have gb : decide (p.r + 1 < y.tr) = false := decide_eq_false hb
                    clear HTr HOy
                    go_quiet_grown (first
                      | (go_at_call 28; with_reducible exact Calls.grown_of (HP.out _ (HQ.out _ _))))
                    go_wp2
                    go_meet
                    exact ⟨rfl, Lib.hid (HR6.out.on (grown_below wc _ _))⟩
                case rest =>
                  obtain ⟨rfl, HR7⟩ := hcut
                  clear HR6 HTr HP HOy hr0 ytr
                  have c0 := (HR7.out.aw.bel.cell (p := ⟨b, o + k * 7 + 0, none⟩) hbw).trans (hac 0 _ rfl)
                  simp only [Nat.add_zero] at c0
                  obtain ⟨pb, hpb⟩ : ∃ pb, pb = decide ((0 ≤ a.k ∧ a.k ≤ 2) ∧ er = 0) := ⟨_, rfl⟩
                  have HPB := Lib.hid hpb
                  clear hpb
                  go_upto_region 17 with (fail)
                  go_cut [111] (fun v wx => v = .bool pb ∧ wx = wc)
                  case first => as_aux_lemma =>
                    by_cases k2 : a.k ≤ 2
                    · have g2 : decide (a.k ≤ 2) = true := decide_eq_true k2
                      by_cases k0 : 0 ≤ a.k
                      · have g0 : decide (0 ≤ a.k) = true := decide_eq_true k0
                        by_cases he : er = 0
                        · have ge : (er == 0) = true := by simp [he]
                          have hp : pb = true := by rw [HPB.out]; exact decide_eq_true ⟨⟨k0, k2⟩, he⟩
                          subst hp
                          clear k0 k2 he
                          go_wp2
                          go_meet
                          exact ⟨rfl, rfl⟩
                        · have ge : (er == 0) = false := by simp [he]
                          have hp : pb = false := by rw [HPB.out]; exact decide_eq_false fun h => he h.2
                          subst hp
                          clear k0 k2 he
                          go_wp2
                          go_meet
                          exact ⟨rfl, rfl⟩
                      · have g0 : decide (0 ≤ a.k) = false := decide_eq_false k0
                        have hp : pb = false := by rw [HPB.out]; exact decide_eq_false fun h => k0 h.1.1
                        subst hp
                        clear k0 k2
                        go_wp2
                        go_meet
                        exact ⟨rfl, rfl⟩
                    · have g2 : decide (a.k ≤ 2) = false := decide_eq_false k2
                      have hp : pb = false := by rw [HPB.out]; exact decide_eq_false fun h => k2 h.1.2
                      subst hp
                      clear k2
                      go_wp2
                      go_meet
                      exact ⟨rfl, rfl⟩
                  case rest =>
                    obtain ⟨rfl, rfl⟩ := hcut
                    cases pb with
                    | false =>
                      clear HPB HEm c0
                      go_wp2
                      go_roundw
                      case rel => exact ⟨k + 1, y, by go_num, by omega, Lib.hid HR7.out.aw, HXn⟩
                      case measure => simp only [intOf]; omega
                    | true =>
                      have hpb := of_decide_eq_true HPB.out.symm
                      obtain ⟨hC, hO⟩ := HEm.out hpb.1 hpb.2
                      have hid : x.id = 7 := HX.out.id
                      have xtr := HX.out.tr
                      obtain ⟨T, hT⟩ : ∃ T : ByteArray, T = ⟨(keyL 7 x.sp ss (x.ph == 1)).toArray⟩ := ⟨_, rfl⟩
                      have hCk : C.key = T := by
                        rw [hC, hT]
                        show keyS x ss = _
                        unfold keyS
                        rw [hid, show decide (x.ph = 1) = (x.ph == 1) from rfl]
                      have hCt : C.tr = x.tr + 1 := by rw [hC]; rfl
                      have hwb := HR7.out.aw.bel
                      have hwz := hwb.size
                      have HKy := Lib.hid (fun W (hW : Below wc.heap.size wc W) => (rkey_any 7 nm dl A c ss n x.sp (x.ph == 1) W HN.out HNZ.out (HDn.out.mem.on (hwb.trans (hW.mono hwz))) (by decide)).mono fun e w' (h : _ ∧ _) => And.intro h.1 (hW.trans (h.2.mono hW.size)))
                      rw [← hT] at HKy
                      have ek : (T.toList == T.toList) = true := by simp
                      have en : (T.toList != T.toList) = false := by simp
                      have et : (x.tr + 1 == x.tr + 1) = true := by simp
                      have et' : (x.tr + 1 != x.tr + 1) = false := by simp
                      have hwr : IntKind.i64.wrap (x.tr + 1) = x.tr + 1 := by rw [IntKind.wrap_i64]; omega
                      have hwl := HR7.out.aw.d.lt
                      have hgl := HR7.out.aw.s.lt
                      have hgwl := HR7.out.was.lt
                      have hgcl := HR7.out.k.lt
                      have z0 : ∀ u, Below wc.heap.size wc u → u.cell? ⟨w.heap.size, 0, none⟩ = some (.string nm) := fun u H => (H.cell (p := ⟨w.heap.size, 0, none⟩) hwl).trans (HR7.out.aw.d.cell 0)
                      have z1 : ∀ u, Below wc.heap.size wc u → u.cell? ⟨w.heap.size, 1, none⟩ = some (.int .i64 dl) := fun u H => (H.cell (p := ⟨w.heap.size, 1, none⟩) hwl).trans (HR7.out.aw.d.cell 1)
                      have z2 : ∀ u, Below wc.heap.size wc u → u.cell? ⟨w.heap.size, 2, none⟩ = some (.slice A n c) := fun u H => (H.cell (p := ⟨w.heap.size, 2, none⟩) hwl).trans (HR7.out.aw.d.cell 2)
                      have z3 : ∀ u, Below wc.heap.size wc u → u.cell? ⟨gw, 3, none⟩ = some (.int .i64 x.ph) := fun u H => (H.cell (p := ⟨gw, 3, none⟩) hgwl).trans (HR7.out.was.cell 3)
                      have z4 : ∀ u, Below wc.heap.size wc u → u.cell? ⟨gw, 4, none⟩ = some (.int .i64 x.sp) := fun u H => (H.cell (p := ⟨gw, 4, none⟩) hgwl).trans (HR7.out.was.cell 4)
                      have z5 : ∀ u, Below wc.heap.size wc u → u.cell? ⟨gw, 5, none⟩ = some (.int .i64 x.tr) := fun u H => (H.cell (p := ⟨gw, 5, none⟩) hgwl).trans (HR7.out.was.cell 5)
                      have z6 : ∀ u, Below wc.heap.size wc u → u.cell? ⟨gc, 3, none⟩ = some (.int .i64 (x.tr + 1)) := fun u H => (H.cell (p := ⟨gc, 3, none⟩) hgcl).trans ((HR7.out.k.cell 3).trans (by show some (Value.int .i64 C.tr) = _; rw [hCt]))
                      have z7 : ∀ u, Below wc.heap.size wc u → u.cell? ⟨gc, 5, none⟩ = some (.string T) := fun u H => (H.cell (p := ⟨gc, 5, none⟩) hgcl).trans ((HR7.out.k.cell 5).trans (by show some (Value.string C.key) = _; rw [hCk]))
                      have z8 : ∀ u, Below wc.heap.size wc u → u.cell? ⟨g, 6, none⟩ = some (.bool true) := fun u H => (H.cell (p := ⟨g, 6, none⟩) hgl).trans ((HR7.out.aw.s.cell 6).trans (by show some (Value.bool y.out) = _; rw [hO]))
                      clear hwb hwz hT hCk hCt hC hO hid hpb HPB HEm c0 xtr
                      go_upto_region 18 with (fail)
                      go_region_held3 (fun u => Below wc.heap.size wc u) (first | exact Below.refl _ _ | exact Below.drew (Below.refl _ _) | assumption)
                        (first
                          | (go_at_call 21; (with_reducible refine (HKy.out _ ?_).mono ?_); (first | assumption | exact Below.drew (Below.refl _ _)); rintro e w' ⟨rfl, hw'⟩))
                      all_goals
                        go_wp2
                        go_roundw
                        case rel => exact ⟨k + 1, y, by go_num, by omega, Lib.hid (HR7.out.aw.on hw'), HXn⟩
                        case measure => simp only [intOf]; omega
          · have hkm' : k = m := by omega
            have HW' := Lib.hid HW.out.bel
            clear HW HX hk hkm
            go_wp2
            go_ret
            exact ⟨rfl, HW'.out⟩
      · have t1 : decide ((60 : Int) < (m : Int)) = true := decide_eq_true (by omega)
        have t2 : decide (60 < m) = true := decide_eq_true (by omega)
        clear hT hnz hl hc hf he hck hC1 hC0 hr hq hn
        go_enter Tryd.func7, Tryd.ntmps7
        go_wp2_with (first
          | (go_at_call 24; (with_reducible refine (HA.out _ (al1 w _)).mono ?_); rintro e w1 ⟨rfl, hb⟩; have H1 := Lib.hid (ld_start hb); clear hb; obtain ⟨d0, d1, d2⟩ := H1.out.cd)
          | (go_at_call 13; (with_reducible refine (HC.out _ H1.out.b).mono ?_); rintro e w2 ⟨k, rfl, hb⟩; have H2 := Lib.hid (H1.out.on hb); clear hb; obtain ⟨d0, d1, d2⟩ := H2.out.cd)
          | (go_at_call 11; (with_reducible refine (HSm.out _ H2.out.b).mono ?_); rintro e w3 ⟨rfl, hb⟩; have H3 := Lib.hid (H2.out.on hb); clear hb; obtain ⟨d0, d1, d2⟩ := H3.out.cd))
        go_ret
        exact ⟨rfl, H3.out.b⟩
    · have g0 : (smallI nm ss != 0) = true := by simpa using hq
      clear hT hnz hl hc hf he hck hC1 hC0 hr hq hn
      go_enter Tryd.func7, Tryd.ntmps7
      go_wp2_with (first
        | (go_at_call 24; (with_reducible refine (HA.out _ (al1 w _)).mono ?_); rintro e w1 ⟨rfl, hb⟩; have H1 := Lib.hid (ld_start hb); clear hb; obtain ⟨d0, d1, d2⟩ := H1.out.cd)
        | (go_at_call 13; (with_reducible refine (HC.out _ H1.out.b).mono ?_); rintro e w2 ⟨k, rfl, hb⟩; have H2 := Lib.hid (H1.out.on hb); clear hb; obtain ⟨d0, d1, d2⟩ := H2.out.cd)
        | (go_at_call 11; (with_reducible refine (HSm.out _ H2.out.b).mono ?_); rintro e w3 ⟨rfl, hb⟩; have H3 := Lib.hid (H2.out.on hb); clear hb; obtain ⟨d0, d1, d2⟩ := H3.out.cd))
      go_ret
      exact ⟨rfl, H3.out.b⟩
  · have HC := Lib.hid (hC0 hr)
    clear hT hnz hl hc hf he hck hC1 hC0 hr hn
    generalize smallI nm ss = q at *
    go_enter Tryd.func7, Tryd.ntmps7
    go_wp2_with (first
      | (go_at_call 24; (with_reducible refine (HA.out _ (al1 w _)).mono ?_); rintro e w1 ⟨rfl, hb⟩; have H1 := Lib.hid (ld_start hb); clear hb; obtain ⟨d0, d1, d2⟩ := H1.out.cd)
      | (go_at_call 13; (with_reducible refine (HC.out _ H1.out.b).mono ?_); rintro e w2 ⟨k, ev, rfl, hev, hb⟩; have H2 := Lib.hid (H1.out.on hb); clear hb; obtain ⟨d0, d1, d2⟩ := H2.out.cd)
      | (go_at_call 11; (with_reducible refine (HSm.out _ H2.out.b).mono ?_); rintro e w3 ⟨rfl, hb⟩; have H3 := Lib.hid (H2.out.on hb); clear hb; obtain ⟨d0, d1, d2⟩ := H3.out.cd))
    all_goals
      go_ret
      exact ⟨rfl, H3.out.b⟩


theorem tab_of_laid {W : World} (h : laidMetH Tryd.prog Rows.sagaStaysRow.laid W) : Tab W := by
  rw [MakeChecks.laidMetH_plain _ _ _ (by kernel_rfl)] at h
  have h2 := laidMet.tail (laidMet.tail h)
  have e : (Rows.laid_internal_strconv_uint64pow10 : DataW Unit) = Lib.tabData .u64 Lib.pow10Tab := by kernel_rfl
  rw [show (Rows.laid_internal_strconv_uint64pow10 : DataW Unit) = Lib.tabData .u64 Lib.pow10Tab from e] at h2
  exact Lib.tabIs_of_head (g := 1) (t := 140) (e := 132) (n := 20) (by kernel_rfl) (by kernel_rfl) Tryd.underlying140 Tryd.underlying132 (by kernel_rfl) (by kernel_rfl) h2
set_option maxRecDepth 100000 in
theorem lifted (os : Os) (started : os.Started) (H : Type) (enc : TypeId × Value → H) :
    ReturnsInHanded {} Tryd.checked os 7 .any (fun w args => (Rows.sagaStaysSpec.pre enc Tryd.prog Tryd.f7 Rows.sagaStaysRow.domain false w args ∧ laidMetH Tryd.prog Rows.sagaStaysRow.laid w) ∧ sizedMet enc Tryd.prog Tryd.f7 (OpenSpec.ofChange Rows.sagaStaysSpec) false w args)
      (Rows.sagaStaysSpec.post enc Tryd.prog Tryd.f7 false true false false) := by
  refine returns_both (C := Tryd.checked) (X := fun w _ => laidMetH Tryd.prog Rows.sagaStaysRow.laid w) (fun _ _ _ hh h => h.of_heap hh) own started (by kernel_rfl) Tryd.func7
    (ChangeSpec.witness_shaped (enc := enc) (C := Tryd.checked) (os := os) (X := fun w _ => laidMetH Tryd.prog Rows.sagaStaysRow.laid w) false (World.laidAll Tryd.prog os Rows.sagaStaysRow.laid) #[.agg #[.string ⟨#[]⟩, .int .i64 0, .slice none 0 0], .int .i64 0, .slice none 0 0] 8 (World.laidAll_os _ _ _)
      (World.shaped_of_ZipB (by kernel_rfl) (by kernel_rfl)) (by kernel_rfl) (by kernel_rfl) (by kernel_rfl)
      (by rw [MakeChecks.laidMetH_plain _ _ _ (by kernel_rfl)]; exact laidMet_laidAll _ (by kernel_rfl) (by kernel_rfl))) ?_
  intro W base args ds gs before hval0 hW hreach0 hlaid _
  have hT : Tab W := tab_of_laid hlaid
  have hval : ∀ (j : Nat) t v, Tryd.f7.params[j]? = some t → args[j]? = some v → Value.okWide Tryd.prog W .any base t v := hval0
  have hW' := hW
  obtain ⟨p, q, hA0, hV, rfl, _, _⟩ := hW
  have hreach : (DataW.weightsEach Tryd.prog (Tryd.f7.params.toList ++ Rows.sagaStaysSpec.plain.varTypes Tryd.prog) (ds ++ gs)).all (· ≤ reachBytes) = true := hreach0
  have hA : DataW.TrodAll enc Tryd.prog W 0 (fun _ => true) true Tryd.f7.params.toList args.toList ds p := hA0
  rw [Tryd.params7] at hA hval hreach
  obtain ⟨rfl, rfl⟩ := trodVars_none hV
  obtain ⟨v0, vs0, d0, ds0, p0, q0, hargs, rfl, rfl, h0, r0⟩ := trodAll_cons hA
  obtain ⟨v1, vs1, d1, ds1, p1, q1, rfl, rfl, rfl, h1, r1⟩ := trodAll_cons r0
  obtain ⟨v2, vs2, d2, ds2, p2, q2, rfl, rfl, rfl, h2, r2⟩ := trodAll_cons r1
  obtain ⟨rfl, rfl, rfl⟩ := trodAll_nil r2
  obtain rfl : args = #[v0, v1, v2] := by cases args; simp_all
  obtain ⟨nm0, dl0, A0, c0, ss0, y0, z0, n0, cc0, f0, e0⟩ := arg_dn (hval 0 24 v0 rfl rfl) h0 (fun m hm => by have := List.all_eq_true.1 hreach m (DataW.weights_mem_each (j := 0) rfl rfl m hm); simpa using this)
  subst y0
  obtain ⟨a1, rfl, rfl, rfl, w1⟩ := open_int Tryd.underlying3 (hval 1 3 v1 rfl rfl) h1
  obtain ⟨A2, c2, l2, y2, n2, cc2, e2⟩ := arg_acts (hval 2 51 v2 rfl rfl) h2
  subst y2
  clear hA0 hval0
  simp only [List.append_nil] at hW'
  have hlt0 : ∀ x ∈ p0, x.block < W.heap.size := fun x hx => by simpa using hW'.lt x (by simp [hx])
  have hlt2 : ∀ x ∈ p2, x.block < W.heap.size := fun x hx => by simpa using hW'.lt x (by simp [hx])
  refine (walk nm0 dl0 A0 c0 ss0 a1 A2 c2 l2 W hT z0 n0 cc0 f0 e0 n2 e2).mono fun e W' ⟨he, bel⟩ => ?_
  subst he
  exact ⟨_, rfl, _, _, _, [], _, [], hW', trodAll_mk1 (shut_bool Tryd.underlying4 _), (trodAll_cons_mk (Below.trod laidOut (by kernel_rfl) (of_decide_eq_true (by kernel_rfl)) h0 bel hlt0) (trodAll_cons_mk (shut_int Tryd.underlying3 w1) (trodAll_cons_mk (Below.trod laidOut (by kernel_rfl) (of_decide_eq_true (by kernel_rfl)) h2 bel hlt2) trodAll_mk0))), rfl, bel.frame _, fun h => by cases h⟩

theorem over : Rows.sagaStaysRow.holds Tryd.pinned (OpenSpec.ofChange Rows.sagaStaysSpec) :=
  OpenClaim.holds_of_wide 7 Tryd.f7 rfl rfl rfl rfl rfl rfl rfl ⟨rfl, rfl, rfl, rfl, rfl⟩ rfl rfl rfl rfl rfl (by kernel_rfl) Tryd.func7 (by kernel_rfl)
    (of_decide_eq_true (by kernel_rfl)) (by unfold Func.isWrapper; first | (rw [if_pos (by decide +kernel)]; kernel_rfl) | (rw [if_neg (by decide +kernel)]; exact ⟨rfl, rfl⟩))
    (fun os started H enc _ => lifted os started H enc)

/-- the statement -/
theorem proved : Rows.SagaStaysCardSaid :=
  Claim7.holds_tied_plain_at .later [] [.data, .data, .data] true Rows.sagaStaysCard.stood.harness false over (fun _ h => by cases h) (by kernel_rfl) (fun _ h => by cases h) sagaStays_row_tie rfl ⟨rfl, rfl⟩ (by kernel_rfl) rfl
    (fun f fn hf hfn => by
      obtain rfl : f = 7 := Option.some.inj ((show Tryd.prog.funcNamed Rows.sagaStaysRow.func = some 7 by kernel_rfl).symm.trans hf) |>.symm
      obtain rfl : fn = Tryd.f7 := (Option.some.inj (Tryd.func7.symm.trans hfn)).symm
      exact ⟨by kernel_rfl, fun j t ht => by
        rw [Tryd.params7] at ht
        have hm : t ∈ [24, 3, 51] := by simpa using Array.mem_of_getElem? ht
        have hall : ([24, 3, 51].all fun u => !Tryd.prog.wantsStandIn u) = true := by kernel_rfl
        exact (show Tryd.prog.wantsStandIn t = false by simpa using List.all_eq_true.1 hall t hm)⟩)
    (by kernel_rfl)
#print axioms proved
end Go.Proofs.YtkmldgcnbjjbcaaDoor.sagaStays
