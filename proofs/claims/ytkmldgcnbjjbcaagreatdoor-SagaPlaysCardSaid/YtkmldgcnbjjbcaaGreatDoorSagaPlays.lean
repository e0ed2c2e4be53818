/-
  The statement SagaPlaysCardSaid: for every input the law function SagaPlays returns true (whatever is done with a saga from its beginning on, it is as the document says, and right), and the arguments read afterwards as before.
  Conditions: none beyond the statement's own (the listed tables of the library hold what its text lays).
-/
import Derived.Test.YtkmldgcnbjjbcaaGreatDoorSagLaw
import Derived.Test.YtkmldgcnbjjbcaaGreatDoorSagArgs
import Derived.Test.YtkmldgcnbjjbcaaGreatDoorSagTells
import Derived.Deep.DeepCutAuto
namespace Go.Proofs.YtkmldgcnbjjbcaaGreatDoor.Sa
open Go.Proofs.YtkmldgcnbjjbcaaGreatDoor.Bo (P left wait)
open Go.Proofs.YtkmldgcnbjjbcaaGreatDoor.Df

section
variable {nm : ByteArray} {dl now : Int} {ss : List Stp} {s : Sg}
theorem id_ahead {l : Int} : (aheadS s l now).id = s.id := by unfold aheadS; split <;> rfl
theorem id_done {n : Nat} : (doneS n s now).id = s.id := by
  unfold doneS
  repeat' split
  all_goals first | rfl | exact id_ahead
theorem id_fail : (failS ss s now).id = s.id := by
  unfold failS
  repeat' split
  all_goals first | rfl | exact id_ahead
theorem id_doA {a : Ac} : (doA nm dl ss s a).1.id = s.id := by
  unfold doA
  split
  · unfold emitA
    repeat' split
    all_goals rfl
  · split
    · unfold replyA
      repeat' split
      all_goals first | rfl | exact id_done | exact id_fail
    · split
      · unfold numA lateA expireA cancelA retryA skipA abandonA
        repeat' split
        all_goals first | rfl | exact id_fail | exact id_ahead | exact id_done
      · rfl
theorem tr_ahead {l : Int} (h : 0 ≤ s.tr ∧ s.tr ≤ 1001) : 0 ≤ (aheadS s l now).tr ∧ (aheadS s l now).tr ≤ 1001 := by
  unfold aheadS
  split
  · exact h
  · exact ⟨Int.le_refl _, by show (0 : Int) ≤ 1001; decide⟩
theorem tr_done {n : Nat} (h : 0 ≤ s.tr ∧ s.tr ≤ 1001) : 0 ≤ (doneS n s now).tr ∧ (doneS n s now).tr ≤ 1001 := by
  unfold doneS
  repeat' split
  · exact h
  · exact ⟨Int.le_refl _, by show (0 : Int) ≤ 1001; decide⟩
  · exact tr_ahead h
  · exact tr_ahead h
theorem tr_fail (h : 0 ≤ s.tr ∧ s.tr ≤ 1001) : 0 ≤ (failS ss s now).tr ∧ (failS ss s now).tr ≤ 1001 := by
  unfold failS
  repeat' split
  · exact h
  · exact tr_ahead h
  · exact h
theorem tr_skip (h : 0 ≤ s.tr ∧ s.tr ≤ 1001) : 0 ≤ (skipS s).tr ∧ (skipS s).tr ≤ 1001 := h
theorem tr_doA {a : Ac} (hg : GoodS nm dl ss s) (h : 0 ≤ s.tr ∧ s.tr ≤ 1001) : 0 ≤ (doA nm dl ss s a).1.tr ∧ (doA nm dl ss s a).1.tr ≤ 1001 := by
  unfold doA
  split
  · unfold emitA
    split
    · exact h
    · split
      · exact h
      · next hm =>
        have hm' : mayC dl ss s a.now = true := by simpa using hm
        have hm2 := of_decide_eq_true hm'
        have hp := good_plan hg
        have hr := hp.2.1
        exact ⟨by show 0 ≤ s.tr + 1; omega, by show s.tr + 1 ≤ 1001; omega⟩
  · split
    · unfold replyA
      repeat' split
      all_goals first | exact h | exact tr_done h | exact tr_fail h
    · split
      · unfold numA lateA expireA cancelA retryA skipA abandonA
        repeat' split
        all_goals first | exact h | exact tr_fail h | exact tr_ahead h | exact tr_done (tr_skip h) | exact ⟨Int.le_refl _, by show (0 : Int) ≤ 1001; decide⟩
      · exact h
/-- a saga that a row of acts has come to -/
structure Row7 (nm : ByteArray) (dl : Int) (ss : List Stp) (id : Int) (s : Sg) : Prop where
  live : Live nm dl ss s
  id : s.id = id
  tr : 0 ≤ s.tr ∧ s.tr ≤ 1001
theorem row_begin (h : RightD nm dl ss) {id t : Int} (hi : 0 ≤ id) : Row7 nm dl ss id (beginS nm id t) := ⟨live_begin h hi, rfl, Int.le_refl _, by show (0 : Int) ≤ 1001; decide⟩
theorem Row7.does {id : Int} (h : Row7 nm dl ss id s) (a : Ac) : Row7 nm dl ss id (doA nm dl ss s a).1 := ⟨(live_doA h.live).1, id_doA.trans h.id, tr_doA h.live.good h.tr⟩
/-- its tries never pass the plan's -/
theorem Row7.tries {id : Int} (h : Row7 nm dl ss id s) : (planOf ss s).r + 1 < s.tr → overB s = true := by
  intro ht
  unfold overB
  rw [decide_eq_true_eq]
  rcases h.live.good.tries with h1 | h1 | h1
  · omega
  · omega
  · exact h1.1
/-- a command's key, try, and what is out behind it -/
theorem emit_tells {a : Ac} (hk : 0 ≤ a.k ∧ a.k ≤ 2) (he : (doA nm dl ss s a).2.2 = 0) : (doA nm dl ss s a).2.1 = emitC ss s ∧ (doA nm dl ss s a).1.out = true := by
  unfold doA at *
  rw [if_pos hk] at *
  unfold emitA at *
  split at he
  · next h => exact absurd he h
  · next h =>
    split at he
    · cases he
    · next hm =>
      rw [if_neg h, if_neg hm]
      exact ⟨rfl, rfl⟩
end
end Go.Proofs.YtkmldgcnbjjbcaaGreatDoor.Sa
namespace Go.Proofs.YtkmldgcnbjjbcaaGreatDoor.sagaPlays
open Go.Proofs.YtkmldgcnbjjbcaaGreatDoor.Sa Go.Proofs.YtkmldgcnbjjbcaaGreatDoor.Df Go.Proofs.YtkmldgcnbjjbcaaGreatDoor.El
open Go.Proofs.YtkmldgcnbjjbcaaGreatDoor.Bo (P Made ret_int ret_bool)
open Go.ChangeShapes Go.WideShapes Go.ChangeAt Go.RowKit Go.Sort
open Go.ChangeMaps (open_string shut_string)

/-- where the two rows stand: the definition, the program's saga, the document's -/
structure Ax (w u : World) (g g2 : Nat) (nm : ByteArray) (dl : Int) (A : Option Addr) (n c : Nat) (x : Sg) : Prop where
  aw : Aw w u w.heap.size g nm dl A n c x
  x : Box u g2 26 x.arr
  ne : g2 ≠ g ∧ w.heap.size < g ∧ w.heap.size < g2
section
variable {w u u' : World} {g g2 : Nat} {nm : ByteArray} {dl : Int} {A : Option Addr} {n c : Nat} {x y : Sg} {C : Cm}
theorem Ax.on (h : Ax w u g g2 nm dl A n c x) (hb : Below u.heap.size u u') : Ax w u' g g2 nm dl A n c x := ⟨h.aw.on hb, h.x.below hb h.x.lt, h.ne⟩
theorem Ax.both (h : Ax w u g g2 nm dl A n c x) (y : Sg) : Ax w ((u.setRow g y.arr).setRow g2 y.arr) g g2 nm dl A n c y :=
  ⟨⟨row_end (row_end h.aw.bel h.aw.ne.2 _) (by have := h.ne; omega) _, box_far (box_far h.aw.d h.aw.ne.1 _) (by have := h.ne; omega) _, box_far (box_row h.aw.s _) (fun e => h.ne.1 e.symm) _, h.aw.ne⟩, box_row (box_far h.x h.ne.1 y.arr) y.arr, h.ne⟩
theorem neq_is {b : Bool} (h : (!eqG y x) = b) (W : World) : (binOp .neq 26 (.agg #[.int .i64 y.id, .string y.dn, .int .i64 y.st, .int .i64 y.ph, .int .i64 y.sp, .int .i64 y.tr, .bool y.out, .int .i64 y.at_, .int .i64 y.sk]) (.agg #[.int .i64 x.id, .string x.dn, .int .i64 x.st, .int .i64 x.ph, .int .i64 x.sp, .int .i64 x.tr, .bool x.out, .int .i64 x.at_, .int .i64 x.sk])).run Tryz.prog W = .ok (.bool b) W := by
  have e := neq_saga y x W
  rw [h] at e
  exact e
theorem neqC_is (C : Cm) (W : World) : (binOp .neq 34 (.agg #[.int .i64 C.sg, .int .i64 C.sp, .bool C.un, .int .i64 C.tr, .string C.pt, .string C.key]) (.agg #[.int .i64 C.sg, .int .i64 C.sp, .bool C.un, .int .i64 C.tr, .string C.pt, .string C.key])).run Tryz.prog W = .ok (.bool false) W := by
  have e := neq_cmd C C W
  rw [eqC_self] at e
  exact e
end
section
variable {B n g : Nat} {W0 W : World} {o : Obj} {cs : Array Value} {t : TypeId}
theorem below_is (h : (fun u => Below W0.heap.size W0 u) W) : Below W0.heap.size W0 W := h
theorem slot_new (_h : (fun u => Below W0.heap.size W0 u) (W.alloc (.cells cs t))) (hs : cs.size = n) : Slot (W.alloc (.cells cs t)) W.heap.size t n := Box.slot (Box.new W t cs) hs
theorem slot_more (_h : (fun u => Below W0.heap.size W0 u) (W.alloc o)) (h : Slot W g t n) : Slot (W.alloc o) g t n := slot_on h (al1 W o)
end
set_option maxHeartbeats 16000000 in
set_option maxRecDepth 100000 in
theorem walk (nm : ByteArray) (dl : Int) (A : Option Addr) (c : Nat) (ss : List Stp) (id now : Int) (LA : Option Addr) (lc : Nat) (l : List Ac) (w : World) (hT : Tab w) (hnz : nm.size ≤ 140737488355328) (hl : ss.length ≤ 9223372036854775807) (hc : ss.length ≤ c) (hf : ∀ s ∈ ss, s.Fits ∧ Big s) (he : Df.Steps w w.heap.size A ss)
    (hml : l.length ≤ 9223372036854775807) (hle : Els Ac.cells 7 w w.heap.size LA l) (hid : id ≤ 9223372036854775807) :
    Calls Tryz.prog 4 #[.agg #[.string nm, .int .i64 dl, .slice A ss.length c], .int .i64 id, .int .i64 now, .slice LA l.length lc] w fun e w' => e = .returned (.bool true) ∧ Below w.heap.size w w' := by
  obtain ⟨n, hn⟩ : ∃ n, n = ss.length := ⟨_, rfl⟩
  obtain ⟨m, hm⟩ : ∃ m, m = l.length := ⟨_, rfl⟩
  rw [← hn] at hl hc ⊢
  rw [← hm] at hml ⊢
  have HL := Lib.hid hle
  have HM := Lib.hid hm
  have HA : Hid (∀ w', Below w.heap.size w w' → Calls Tryz.prog 5 #[] w' fun e w'' => e = .returned (.bool true) ∧ Below w'.heap.size w' w'') := Lib.hid fun w' h => awake_any w' (tab_below hT h)
  have HSm : Hid (∀ w', Below w.heap.size w w' → Calls Tryz.prog 6 #[.agg #[.string nm, .int .i64 dl, .slice A n c]] w' fun e w'' => e = .returned (.int .i64 (smallI nm ss)) ∧ Below w'.heap.size w' w'') := Lib.hid fun w' h => (small_any nm dl A c ss n w' hn hl (by omega) (fun s hs => (hf s hs).1) (he.on h)).mono fun e w'' ⟨h1, h2⟩ => ⟨h1, h2.below⟩
  have hck : ∀ W, Below w.heap.size w W → Calls Tryz.prog 15 #[.agg #[.string nm, .int .i64 dl, .slice A n c]] W (ChkPost nm dl ss W) := fun W hW => rcheck_any nm dl A c ss n W hn hl (he.on hW) hnz (fun s hs => (hf s hs).2)
  obtain ⟨hC1, hC0⟩ := chk_ok hck
  clear hle hm
  by_cases hr : RightD nm dl ss
  · have HC := Lib.hid (hC1 hr)
    by_cases hq : smallI nm ss = 0
    · rw [hq] at HSm
      by_cases h60 : m ≤ 60
      · have t1 : decide ((60 : Int) < (m : Int)) = false := decide_eq_false (by omega)
        have t2 : decide (60 < m) = false := decide_eq_false (by omega)
        by_cases hi : 0 ≤ id
        · have t3 : decide (id < 0) = false := decide_eq_false (by omega)
          obtain ⟨s40, snm, sst⟩ := small_yes hq
          have hd : Dn w nm A n c ss := ⟨hn, by omega, hc, he, by omega, fun s hs => by have := sst s hs; omega, hT⟩
          have HDn := Lib.hid hd
          have HB : Hid (∀ W, Calls Tryz.prog 16 #[.agg #[.string nm, .int .i64 dl, .slice A n c], .int .i64 id, .int .i64 now] W fun e w' => e = .returned (.agg #[.int .i64 id, .string nm, .int .i64 (ofT now), .int .i64 0, .int .i64 0, .int .i64 0, .bool false, .int .i64 (ofT now), .int .i64 0]) ∧ Made W w') := Lib.hid fun W => begin_any nm dl A n c id now W
          have HX0 : Hid (Row7 nm dl ss id ⟨id, nm, ofT now, 0, 0, 0, false, ofT now, 0⟩) := Lib.hid (row_begin hr hi)
          generalize ofT now = t0 at *
          have HRG : Hid (∀ W, Below w.heap.size w W → Calls Tryz.prog 10 #[.agg #[.string nm, .int .i64 dl, .slice A n c], .agg #[.int .i64 id, .string nm, .int .i64 t0, .int .i64 0, .int .i64 0, .int .i64 0, .bool false, .int .i64 t0, .int .i64 0]] W fun e w' => e = .returned (.bool true) ∧ Below W.heap.size W w') := Lib.hid fun W hW => by
            have h := Go.Proofs.YtkmldgcnbjjbcaaGreatDoor.Sa.rgood_any nm dl A n c ss ⟨id, nm, t0, 0, 0, 0, false, t0, 0⟩ W (hd.on hW)
            rw [goodB_yes HX0.out.live.good] at h
            exact h
          have ei : (id != id) = false := by simp
          have HID := Lib.hid hid
          clear hT hnz hl hc hf he hck hC1 hC0 hr hq s40 snm sst hd hn hi hid
          go_enter Tryz.func4, Tryz.ntmps4
          go_upto_region 8 with (first
            | (go_at_call 5; (with_reducible refine (HA.out _ (al1 w _)).mono ?_); rintro e w1 ⟨rfl, hb⟩; have H1 := Lib.hid (ld_start hb); clear hb; obtain ⟨d0, d1, d2⟩ := H1.out.cd)
            | (go_at_call 15; (with_reducible refine (HC.out _ H1.out.b).mono ?_); rintro e w2 ⟨k, rfl, hb⟩; have H2 := Lib.hid (H1.out.on hb); clear hb; obtain ⟨d0, d1, d2⟩ := H2.out.cd)
            | (go_at_call 6; (with_reducible refine (HSm.out _ H2.out.b).mono ?_); rintro e w3 ⟨rfl, hb⟩; have H3 := Lib.hid (H2.out.on hb); clear hb; obtain ⟨d0, d1, d2⟩ := H3.out.cd)
            | (go_at_call 16; (with_reducible refine (HB.out _).mono ?_); rintro e w4 ⟨rfl, hm⟩; have H4 := Lib.hid (H3.out.on hm.below); clear hm; obtain ⟨d0, d1, d2⟩ := H4.out.cd))
          have H5 : Hid (Ax w ((w4.alloc (.cells #[.int .i64 id, .string nm, .int .i64 t0, .int .i64 0, .int .i64 0, .int .i64 0, .bool false, .int .i64 t0, .int .i64 0] 26)).alloc (.cells #[.int .i64 id, .string nm, .int .i64 t0, .int .i64 0, .int .i64 0, .int .i64 0, .bool false, .int .i64 t0, .int .i64 0] 26)) w4.heap.size (w4.heap.size + 1) nm dl A n c ⟨id, nm, t0, 0, 0, 0, false, t0, 0⟩) := Lib.hid
            ⟨(Ld.aw (s := ⟨id, nm, t0, 0, 0, 0, false, t0, 0⟩) H4.out (Below.refl _ _)).on (al1 _ _), box_new2 w4 _ 26 _, by have := H4.out.d.lt; omega⟩
          clear d0 d1 d2 HA HSm HC HB H1 H2 H3 H4
          generalize (w4.alloc _).alloc _ = W5 at *
          generalize hg2 : w4.heap.size + 1 = g2 at *
          generalize w4.heap.size = g at *
          clear hg2
          obtain ⟨d0, d1, d2⟩ := H5.out.aw.cd
          obtain ⟨x0, x1, x2, x3, x4, x5, x6, x7, x8⟩ := H5.out.aw.cs
          go_wp2_with (go_at_call 10; (with_reducible refine (HRG.out _ H5.out.aw.bel).mono ?_); rintro e W6 ⟨rfl, hb⟩; have H6 := Lib.hid (H5.out.on hb); clear hb; obtain ⟨d0, d1, d2⟩ := H6.out.aw.cd; obtain ⟨x0, x1, x2, x3, x4, x5, x6, x7, x8⟩ := H6.out.aw.cs)
          clear d0 d1 d2 x0 x1 x2 x3 x4 x5 x6 x7 x8 HRG H5 ei
          go_loopw [13] (fun vi wr => ∃ (k : Nat) (x : Sg), vi = .int .i64 (k : Int) ∧ k ≤ m ∧ Hid (Ax w wr g g2 nm dl A n c x) ∧ Hid (Row7 nm dl ss id x)) (fun vi _ => m - (intOf vi).toNat)
          case atStart => exact ⟨0, _, rfl, Nat.zero_le _, H6, HX0⟩
          case round =>
            clear H6 HX0
            obtain ⟨k, x, rfl, hk, HW, HX⟩ := hrel
            by_cases hkm : k < m
            · obtain ⟨a, ha⟩ : ∃ a, l[k]? = some a := ⟨l[k]'(by have := HM.out; omega), List.getElem?_eq_getElem _⟩
              obtain ⟨b, o, hLA, hbw, hac⟩ := HL.out k a ha
              subst hLA
              have HD := Lib.hid (fun W (hW : Below w.heap.size w W) => do_any nm dl A n c ss x a W (HDn.out.on hW) (by have := HX.out.tr; omega) (by have := HX.out.id; have := HID.out; omega))
              have HTl := Lib.hid (fun W (hW : Below w.heap.size w W) => tells_any nm dl A n c ss x a W (HDn.out.on hW) (by have := HX.out.tr; omega) (by have := HX.out.id; have := HID.out; omega))
              have HXn := Lib.hid (HX.out.does a)
              have HEr : Hid ((doA nm dl ss x a).2.2 ≠ 0 → (doA nm dl ss x a).1 = x) := Lib.hid (live_doA HX.out.live).2
              generalize doA nm dl ss x a = Y at *
              obtain ⟨y, C, er⟩ := Y
              dsimp only at HD HTl HXn HEr
              have HGy := Lib.hid (fun W (hW : Below w.heap.size w W) => Go.Proofs.YtkmldgcnbjjbcaaGreatDoor.Sa.good_any nm dl A n c ss y W (HDn.out.on hW))
              rw [goodB_yes HXn.out.live.good] at HGy
              go_upto_region 13 with (fail)
              have hwW := HW.out.aw.bel
              have hwB := hwW.size
              have hgl := HW.out.aw.s.lt
              have hxl := HW.out.x.lt
              have hwl := HW.out.aw.d.lt
              go_cut [14, 15, 16] (fun v1 v2 v3 wc => ∃ gt gc : Nat, v1 = .pointer (some ⟨gt, 0, none⟩) ∧ v2 = .pointer (some ⟨gc, 0, none⟩) ∧ v3 = .int .i64 er ∧ Hid (Ax w wc g g2 nm dl A n c x ∧ Box wc gt 26 y.arr ∧ Box wc gc 34 C.arr ∧ (g < gt ∧ g2 < gt) ∧ (g < gc ∧ g2 < gc)))
              case first => as_aux_lemma =>
                have u0 : ∀ u, Below wr.heap.size wr u → u.cell? ⟨w.heap.size, 0, none⟩ = some (.string nm) := fun u H => (H.cell (p := ⟨w.heap.size, 0, none⟩) hwl).trans (HW.out.aw.d.cell 0)
                have u1 : ∀ u, Below wr.heap.size wr u → u.cell? ⟨w.heap.size, 1, none⟩ = some (.int .i64 dl) := fun u H => (H.cell (p := ⟨w.heap.size, 1, none⟩) hwl).trans (HW.out.aw.d.cell 1)
                have u2 : ∀ u, Below wr.heap.size wr u → u.cell? ⟨w.heap.size, 2, none⟩ = some (.slice A n c) := fun u H => (H.cell (p := ⟨w.heap.size, 2, none⟩) hwl).trans (HW.out.aw.d.cell 2)
                have s0 : ∀ u, Below wr.heap.size wr u → u.cell? ⟨g, 0, none⟩ = some (.int .i64 x.id) := fun u H => (H.cell (p := ⟨g, 0, none⟩) hgl).trans (HW.out.aw.s.cell 0)
                have s1 : ∀ u, Below wr.heap.size wr u → u.cell? ⟨g, 1, none⟩ = some (.string x.dn) := fun u H => (H.cell (p := ⟨g, 1, none⟩) hgl).trans (HW.out.aw.s.cell 1)
                have s2 : ∀ u, Below wr.heap.size wr u → u.cell? ⟨g, 2, none⟩ = some (.int .i64 x.st) := fun u H => (H.cell (p := ⟨g, 2, none⟩) hgl).trans (HW.out.aw.s.cell 2)
                have s3 : ∀ u, Below wr.heap.size wr u → u.cell? ⟨g, 3, none⟩ = some (.int .i64 x.ph) := fun u H => (H.cell (p := ⟨g, 3, none⟩) hgl).trans (HW.out.aw.s.cell 3)
                have s4 : ∀ u, Below wr.heap.size wr u → u.cell? ⟨g, 4, none⟩ = some (.int .i64 x.sp) := fun u H => (H.cell (p := ⟨g, 4, none⟩) hgl).trans (HW.out.aw.s.cell 4)
                have s5 : ∀ u, Below wr.heap.size wr u → u.cell? ⟨g, 5, none⟩ = some (.int .i64 x.tr) := fun u H => (H.cell (p := ⟨g, 5, none⟩) hgl).trans (HW.out.aw.s.cell 5)
                have s6 : ∀ u, Below wr.heap.size wr u → u.cell? ⟨g, 6, none⟩ = some (.bool x.out) := fun u H => (H.cell (p := ⟨g, 6, none⟩) hgl).trans (HW.out.aw.s.cell 6)
                have s7 : ∀ u, Below wr.heap.size wr u → u.cell? ⟨g, 7, none⟩ = some (.int .i64 x.at_) := fun u H => (H.cell (p := ⟨g, 7, none⟩) hgl).trans (HW.out.aw.s.cell 7)
                have s8 : ∀ u, Below wr.heap.size wr u → u.cell? ⟨g, 8, none⟩ = some (.int .i64 x.sk) := fun u H => (H.cell (p := ⟨g, 8, none⟩) hgl).trans (HW.out.aw.s.cell 8)
                have a0 : ∀ u, Below wr.heap.size wr u → u.cell? ⟨b, o + k * 7, none⟩ = some (.int .i64 a.k) := fun u H => ((hwW.trans (H.mono hwB)).cell (p := ⟨b, o + k * 7, none⟩) hbw).trans (hac 0 _ rfl)
                have a1 : ∀ u, Below wr.heap.size wr u → u.cell? ⟨b, o + k * 7 + 1, none⟩ = some (.int .i64 a.now) := fun u H => ((hwW.trans (H.mono hwB)).cell (p := ⟨b, o + k * 7 + 1, none⟩) hbw).trans (hac 1 _ rfl)
                have a2 : ∀ u, Below wr.heap.size wr u → u.cell? ⟨b, o + k * 7 + 2, none⟩ = some (.int .i64 a.r.sg) := fun u H => ((hwW.trans (H.mono hwB)).cell (p := ⟨b, o + k * 7 + 2, none⟩) hbw).trans (hac 2 _ rfl)
                have a3 : ∀ u, Below wr.heap.size wr u → u.cell? ⟨b, o + k * 7 + 3, none⟩ = some (.int .i64 a.r.sp) := fun u H => ((hwW.trans (H.mono hwB)).cell (p := ⟨b, o + k * 7 + 3, none⟩) hbw).trans (hac 3 _ rfl)
                have a4 : ∀ u, Below wr.heap.size wr u → u.cell? ⟨b, o + k * 7 + 4, none⟩ = some (.bool a.r.un) := fun u H => ((hwW.trans (H.mono hwB)).cell (p := ⟨b, o + k * 7 + 4, none⟩) hbw).trans (hac 4 _ rfl)
                have a5 : ∀ u, Below wr.heap.size wr u → u.cell? ⟨b, o + k * 7 + 5, none⟩ = some (.int .i64 a.r.tr) := fun u H => ((hwW.trans (H.mono hwB)).cell (p := ⟨b, o + k * 7 + 5, none⟩) hbw).trans (hac 5 _ rfl)
                have a6 : ∀ u, Below wr.heap.size wr u → u.cell? ⟨b, o + k * 7 + 6, none⟩ = some (.bool a.r.good) := fun u H => ((hwW.trans (H.mono hwB)).cell (p := ⟨b, o + k * 7 + 6, none⟩) hbw).trans (hac 6 _ rfl)
                have bd0 : Hid (Below wr.heap.size wr wr.drew) := Lib.hid (Below.drew (Below.refl _ _))
                refine wp_region_held_drew (S := fun u => Below wr.heap.size wr u) (by kernel_rfl) bd0.out (fun hHeld => ?_)
                generalize wr.drew = V0 at *
                refine wpAnyH_take (i := 0) (oi := ⟨some 84, _, _, _, _, _⟩) (v := ?_) rfl (by kernel_rfl) (by kernel_rfl) (by kernel_rfl) (fun _ _ _ h => h) (Or.inl ⟨by rfl, ?_⟩) (by assumption) ?_
                rotate_left
                · (intro u hu; (try dsimp only at hu); go_simp; (try with_reducible rfl))
                (try simp only [Act.put, List.setIfInBounds_toArray, List.set_cons_zero, List.set_cons_succ])
                refine wpAnyH_take (i := 1) (oi := ⟨some 85, _, _, _, _, _⟩) (v := ?_) rfl (by kernel_rfl) (by kernel_rfl) (by kernel_rfl) (fun _ _ _ h => h) (Or.inl ⟨by rfl, ?_⟩) (by assumption) ?_
                rotate_left
                · (intro u hu; (try dsimp only at hu); go_simp; (try with_reducible rfl))
                (try simp only [Act.put, List.setIfInBounds_toArray, List.set_cons_zero, List.set_cons_succ])
                refine wpAnyH_take (i := 2) (oi := ⟨some 86, _, _, _, _, _⟩) (v := ?_) rfl (by kernel_rfl) (by kernel_rfl) (by kernel_rfl) (fun _ _ _ h => h) (Or.inl ⟨by rfl, ?_⟩) (by assumption) ?_
                rotate_left
                · (intro u hu; (try dsimp only at hu); go_simp; (try with_reducible rfl))
                (try simp only [Act.put, List.setIfInBounds_toArray, List.set_cons_zero, List.set_cons_succ])
                refine wpAnyH_take (i := 3) (oi := ⟨some 87, _, _, _, _, _⟩) (v := ?_) rfl (by kernel_rfl) (by kernel_rfl) (by kernel_rfl) (fun _ _ _ h => h) (Or.inl ⟨by rfl, ?_⟩) (by assumption) ?_
                rotate_left
                · (intro u hu; (try dsimp only at hu); go_simp; (try with_reducible rfl))
                (try simp only [Act.put, List.setIfInBounds_toArray, List.set_cons_zero, List.set_cons_succ])
                refine wpAnyH_take (i := 4) (oi := ⟨some 88, _, _, _, _, _⟩) (v := ?_) rfl (by kernel_rfl) (by kernel_rfl) (by kernel_rfl) (fun _ _ _ h => h) (Or.inl ⟨by rfl, ?_⟩) (by assumption) ?_
                rotate_left
                · (intro u hu; (try dsimp only at hu); go_simp; (try with_reducible rfl))
                (try simp only [Act.put, List.setIfInBounds_toArray, List.set_cons_zero, List.set_cons_succ])
                refine wpAnyH_take (i := 5) (oi := ⟨some 89, _, _, _, _, _⟩) (v := ?_) rfl (by kernel_rfl) (by kernel_rfl) (by kernel_rfl) (fun _ _ _ h => h) (Or.inl ⟨by rfl, ?_⟩) (by assumption) ?_
                rotate_left
                · (intro u hu; (try dsimp only at hu); go_simp; (try with_reducible rfl))
                (try simp only [Act.put, List.setIfInBounds_toArray, List.set_cons_zero, List.set_cons_succ])
                refine wpAnyH_ready (rs := [6, 11, 12]) (by decide +kernel) (by simp) ?_
                refine AllReadyH.cons (o := ⟨some 90, _, _, _, _, _⟩) rfl (fun K hK => ?_) (AllReadyH.cons (o := ⟨some 14, _, _, _, _, _⟩) rfl (fun K hK => ?_) (AllReadyH.cons (o := ⟨some 15, _, _, _, _, _⟩) rfl (fun K hK => ?_) AllReadyH.nil))
                · as_aux_lemma =>
                    go_simp
                    (with_reducible refine (HD.out _ (hwW.trans (bd0.out.mono hwB))).mono ?_)
                    rintro e v1 ⟨rfl, hb⟩
                    have bd1 := Lib.hid (bd0.out.trans (hb.mono bd0.out.size))
                    have hs1 := hb.size
                    clear hb
                    go_wp2_with fail
                    refine hK.out _ _ ?_ (fun hHeld => ?_)
                    · exact bd1.out
                    clear hK K
                    (try simp only [Act.put, List.setIfInBounds_toArray, List.set_cons_zero, List.set_cons_succ])
                    refine wpAnyH_take (i := 7) (oi := ⟨some 83, _, _, _, _, _⟩) (v := ?_) rfl (by kernel_rfl) (by kernel_rfl) (by kernel_rfl) (fun _ _ _ h => h) (Or.inl ⟨by rfl, ?_⟩) (by assumption) ?_
                    rotate_left
                    · (intro u hu; (try dsimp only at hu); go_simp; (try with_reducible rfl))
                    (try simp only [Act.put, List.setIfInBounds_toArray, List.set_cons_zero, List.set_cons_succ])
                    refine wpAnyH_take (i := 8) (oi := ⟨some 91, _, _, _, _, _⟩) (v := ?_) rfl (by kernel_rfl) (by kernel_rfl) (by kernel_rfl) (fun _ _ _ h => h) (Or.inl ⟨by rfl, ?_⟩) (by assumption) ?_
                    rotate_left
                    · (intro u hu; (try dsimp only at hu); go_simp; (try with_reducible rfl))
                    (try simp only [Act.put, List.setIfInBounds_toArray, List.set_cons_zero, List.set_cons_succ])
                    refine wpAnyH_take (i := 9) (oi := ⟨some 92, _, _, _, _, _⟩) (v := ?_) rfl (by kernel_rfl) (by kernel_rfl) (by kernel_rfl) (fun _ _ _ h => h) (Or.inl ⟨by rfl, ?_⟩) (by assumption) ?_
                    rotate_left
                    · (intro u hu; (try dsimp only at hu); go_simp; (try with_reducible rfl))
                    (try simp only [Act.put, List.setIfInBounds_toArray, List.set_cons_zero, List.set_cons_succ])
                    refine wpAnyH_take (i := 10) (oi := ⟨some 93, _, _, _, _, _⟩) (v := ?_) rfl (by kernel_rfl) (by kernel_rfl) (by kernel_rfl) (fun _ _ _ h => h) (Or.inl ⟨by rfl, ?_⟩) (by assumption) ?_
                    rotate_left
                    · (intro u hu; (try dsimp only at hu); go_simp; (try with_reducible rfl))
                    (try simp only [Act.put, List.setIfInBounds_toArray, List.set_cons_zero, List.set_cons_succ])
                    refine wpAnyH_ready (rs := [11, 12]) (by decide +kernel) (by simp) ?_
                    refine AllReadyH.cons (o := ⟨some 14, _, _, _, _, _⟩) rfl (fun K hK => ?_) (AllReadyH.cons (o := ⟨some 15, _, _, _, _, _⟩) rfl (fun K hK => ?_) AllReadyH.nil)
                    · as_aux_lemma =>
                        go_simp
                        refine hK.out _ _ ?_ (fun hHeld => ?_)
                        · exact bd1.out.alloc bd1.out.size _
                        clear hK K
                        (try simp only [Act.put, List.setIfInBounds_toArray, List.set_cons_zero, List.set_cons_succ])
                        have bd2 := Lib.hid (below_is hHeld)
                        have es1 := bd1.out.size
                        have q2 : Hid (Slot _ _ 26 9) := Lib.hid (slot_new hHeld rfl)
                        generalize v1.alloc _ = V2 at *
                        have ls1 := q2.out.lt
                        refine wpAnyH_ready (rs := [12]) (by decide +kernel) (by simp) ?_
                        refine AllReadyH.cons (o := ⟨some 15, _, _, _, _, _⟩) rfl (fun K hK => ?_) AllReadyH.nil
                        · as_aux_lemma =>
                            go_simp
                            refine hK.out _ _ ?_ (fun hHeld => ?_)
                            · exact bd2.out.alloc bd2.out.size _
                            clear hK K
                            (try simp only [Act.put, List.setIfInBounds_toArray, List.set_cons_zero, List.set_cons_succ])
                            have bd3 := Lib.hid (below_is hHeld)
                            have es2 := bd2.out.size
                            have k3 : Hid (Slot _ _ 34 6) := Lib.hid (slot_new hHeld rfl)
                            have q3 := Lib.hid (slot_more hHeld q2.out)
                            generalize V2.alloc _ = V3 at *
                            have ls2 := k3.out.lt
                            refine wpAnyH_ready (rs := [13]) (by decide +kernel) (by simp) ?_
                            refine AllReadyH.cons (o := ⟨none, _, _, _, _, _⟩) rfl (fun K hK => ?_) AllReadyH.nil
                            rw [if_pos (by rfl)]
                            have BE := row_end bd3.out (show wr.heap.size ≤ v1.heap.size by omega) (y).arr
                            have BF := row_end BE (show wr.heap.size ≤ V2.heap.size by omega) (C).arr
                            obtain ⟨cs, hcs, hsz⟩ := q3.out
                            refine oper_store_row 26 _ _ rfl (v1.heap.size) 26 cs (y).arr rfl rfl hcs (sizeG _) hsz (oneG _) ?_
                            refine hK.out _ _ ?_ (fun hHeld => ?_)
                            · exact BE
                            clear hK K hcs hsz
                            (try simp only [Act.put])
                            refine wpAnyH_ready (rs := [14]) (by decide +kernel) (by simp) ?_
                            refine AllReadyH.cons (o := ⟨none, _, _, _, _, _⟩) rfl (fun K hK => ?_) AllReadyH.nil
                            rw [if_pos (by rfl)]
                            have hk2 := slot_rowfar k3.out (show V2.heap.size ≠ v1.heap.size by omega) (y).arr
                            obtain ⟨cs, hcs, hsz⟩ := hk2
                            refine oper_store_row 34 _ _ rfl (V2.heap.size) 34 cs (C).arr rfl rfl hcs (sizeC _) hsz (oneC _) ?_
                            refine hK.out _ _ ?_ (fun hHeld => ?_)
                            · exact BF
                            clear hK K hcs hsz
                            (try simp only [Act.put])
                            refine wpAnyH_take (i := 15) (oi := ⟨some 16, _, _, _, _, _⟩) (v := ?_) rfl (by kernel_rfl) (by kernel_rfl) (by kernel_rfl) (fun _ _ _ h => h) (Or.inl ⟨by rfl, ?_⟩) (by assumption) ?_
                            rotate_left
                            · (intro u hu; (try dsimp only at hu); go_simp; (try with_reducible rfl))
                            (try simp only [Act.put, List.setIfInBounds_toArray, List.set_cons_zero, List.set_cons_succ])
                            refine wpAnyH_done (by kernel_rfl) ?_ _
                            go_wp2
                            go_meet
                            exact ⟨_, _, rfl, rfl, rfl, Lib.hid ⟨HW.out.on BF, box_far (q3.out.row _) (show v1.heap.size ≠ V2.heap.size by omega) _, (slot_rowfar k3.out (show V2.heap.size ≠ v1.heap.size by omega) _).row _, by omega, by omega⟩⟩
                    · as_aux_lemma =>
                        go_simp
                        refine hK.out _ _ ?_ (fun hHeld => ?_)
                        · exact bd1.out.alloc bd1.out.size _
                        clear hK K
                        (try simp only [Act.put, List.setIfInBounds_toArray, List.set_cons_zero, List.set_cons_succ])
                        have bd2 := Lib.hid (below_is hHeld)
                        have es1 := bd1.out.size
                        have k2 : Hid (Slot _ _ 34 6) := Lib.hid (slot_new hHeld rfl)
                        generalize v1.alloc _ = V2 at *
                        have ls1 := k2.out.lt
                        refine wpAnyH_ready (rs := [11]) (by decide +kernel) (by simp) ?_
                        refine AllReadyH.cons (o := ⟨some 14, _, _, _, _, _⟩) rfl (fun K hK => ?_) AllReadyH.nil
                        · as_aux_lemma =>
                            go_simp
                            refine hK.out _ _ ?_ (fun hHeld => ?_)
                            · exact bd2.out.alloc bd2.out.size _
                            clear hK K
                            (try simp only [Act.put, List.setIfInBounds_toArray, List.set_cons_zero, List.set_cons_succ])
                            have bd3 := Lib.hid (below_is hHeld)
                            have es2 := bd2.out.size
                            have q3 : Hid (Slot _ _ 26 9) := Lib.hid (slot_new hHeld rfl)
                            have k3 := Lib.hid (slot_more hHeld k2.out)
                            generalize V2.alloc _ = V3 at *
                            have ls2 := q3.out.lt
                            refine wpAnyH_ready (rs := [13]) (by decide +kernel) (by simp) ?_
                            refine AllReadyH.cons (o := ⟨none, _, _, _, _, _⟩) rfl (fun K hK => ?_) AllReadyH.nil
                            rw [if_pos (by rfl)]
                            have BE := row_end bd3.out (show wr.heap.size ≤ V2.heap.size by omega) (y).arr
                            have BF := row_end BE (show wr.heap.size ≤ v1.heap.size by omega) (C).arr
                            obtain ⟨cs, hcs, hsz⟩ := q3.out
                            refine oper_store_row 26 _ _ rfl (V2.heap.size) 26 cs (y).arr rfl rfl hcs (sizeG _) hsz (oneG _) ?_
                            refine hK.out _ _ ?_ (fun hHeld => ?_)
                            · exact BE
                            clear hK K hcs hsz
                            (try simp only [Act.put])
                            refine wpAnyH_ready (rs := [14]) (by decide +kernel) (by simp) ?_
                            refine AllReadyH.cons (o := ⟨none, _, _, _, _, _⟩) rfl (fun K hK => ?_) AllReadyH.nil
                            rw [if_pos (by rfl)]
                            have hk2 := slot_rowfar k3.out (show v1.heap.size ≠ V2.heap.size by omega) (y).arr
                            obtain ⟨cs, hcs, hsz⟩ := hk2
                            refine oper_store_row 34 _ _ rfl (v1.heap.size) 34 cs (C).arr rfl rfl hcs (sizeC _) hsz (oneC _) ?_
                            refine hK.out _ _ ?_ (fun hHeld => ?_)
                            · exact BF
                            clear hK K hcs hsz
                            (try simp only [Act.put])
                            refine wpAnyH_take (i := 15) (oi := ⟨some 16, _, _, _, _, _⟩) (v := ?_) rfl (by kernel_rfl) (by kernel_rfl) (by kernel_rfl) (fun _ _ _ h => h) (Or.inl ⟨by rfl, ?_⟩) (by assumption) ?_
                            rotate_left
                            · (intro u hu; (try dsimp only at hu); go_simp; (try with_reducible rfl))
                            (try simp only [Act.put, List.setIfInBounds_toArray, List.set_cons_zero, List.set_cons_succ])
                            refine wpAnyH_done (by kernel_rfl) ?_ _
                            go_wp2
                            go_meet
                            exact ⟨_, _, rfl, rfl, rfl, Lib.hid ⟨HW.out.on BF, box_far (q3.out.row _) (show V2.heap.size ≠ v1.heap.size by omega) _, (slot_rowfar k3.out (show v1.heap.size ≠ V2.heap.size by omega) _).row _, by omega, by omega⟩⟩
                · as_aux_lemma =>
                    go_simp
                    refine hK.out _ _ ?_ (fun hHeld => ?_)
                    · exact bd0.out.alloc bd0.out.size _
                    clear hK K
                    (try simp only [Act.put, List.setIfInBounds_toArray, List.set_cons_zero, List.set_cons_succ])
                    have bd1 := Lib.hid (below_is hHeld)
                    have es0 := bd0.out.size
                    have q1 : Hid (Slot _ _ 26 9) := Lib.hid (slot_new hHeld rfl)
                    generalize V0.alloc _ = V1 at *
                    have ls0 := q1.out.lt
                    refine wpAnyH_ready (rs := [6, 12]) (by decide +kernel) (by simp) ?_
                    refine AllReadyH.cons (o := ⟨some 90, _, _, _, _, _⟩) rfl (fun K hK => ?_) (AllReadyH.cons (o := ⟨some 15, _, _, _, _, _⟩) rfl (fun K hK => ?_) AllReadyH.nil)
                    · as_aux_lemma =>
                        go_simp
                        (with_reducible refine (HD.out _ (hwW.trans (bd1.out.mono hwB))).mono ?_)
                        rintro e v1 ⟨rfl, hb⟩
                        have bd2 := Lib.hid (bd1.out.trans (hb.mono bd1.out.size))
                        have q2 := Lib.hid (slot_on q1.out hb)
                        have hs2 := hb.size
                        clear hb
                        go_wp2_with fail
                        refine hK.out _ _ ?_ (fun hHeld => ?_)
                        · exact bd2.out
                        clear hK K
                        (try simp only [Act.put, List.setIfInBounds_toArray, List.set_cons_zero, List.set_cons_succ])
                        refine wpAnyH_take (i := 7) (oi := ⟨some 83, _, _, _, _, _⟩) (v := ?_) rfl (by kernel_rfl) (by kernel_rfl) (by kernel_rfl) (fun _ _ _ h => h) (Or.inl ⟨by rfl, ?_⟩) (by assumption) ?_
                        rotate_left
                        · (intro u hu; (try dsimp only at hu); go_simp; (try with_reducible rfl))
                        (try simp only [Act.put, List.setIfInBounds_toArray, List.set_cons_zero, List.set_cons_succ])
                        refine wpAnyH_take (i := 8) (oi := ⟨some 91, _, _, _, _, _⟩) (v := ?_) rfl (by kernel_rfl) (by kernel_rfl) (by kernel_rfl) (fun _ _ _ h => h) (Or.inl ⟨by rfl, ?_⟩) (by assumption) ?_
                        rotate_left
                        · (intro u hu; (try dsimp only at hu); go_simp; (try with_reducible rfl))
                        (try simp only [Act.put, List.setIfInBounds_toArray, List.set_cons_zero, List.set_cons_succ])
                        refine wpAnyH_take (i := 9) (oi := ⟨some 92, _, _, _, _, _⟩) (v := ?_) rfl (by kernel_rfl) (by kernel_rfl) (by kernel_rfl) (fun _ _ _ h => h) (Or.inl ⟨by rfl, ?_⟩) (by assumption) ?_
                        rotate_left
                        · (intro u hu; (try dsimp only at hu); go_simp; (try with_reducible rfl))
                        (try simp only [Act.put, List.setIfInBounds_toArray, List.set_cons_zero, List.set_cons_succ])
                        refine wpAnyH_take (i := 10) (oi := ⟨some 93, _, _, _, _, _⟩) (v := ?_) rfl (by kernel_rfl) (by kernel_rfl) (by kernel_rfl) (fun _ _ _ h => h) (Or.inl ⟨by rfl, ?_⟩) (by assumption) ?_
                        rotate_left
                        · (intro u hu; (try dsimp only at hu); go_simp; (try with_reducible rfl))
                        (try simp only [Act.put, List.setIfInBounds_toArray, List.set_cons_zero, List.set_cons_succ])
                        refine wpAnyH_ready (rs := [12]) (by decide +kernel) (by simp) ?_
                        refine AllReadyH.cons (o := ⟨some 15, _, _, _, _, _⟩) rfl (fun K hK => ?_) AllReadyH.nil
                        · as_aux_lemma =>
                            go_simp
                            refine hK.out _ _ ?_ (fun hHeld => ?_)
                            · exact bd2.out.alloc bd2.out.size _
                            clear hK K
                            (try simp only [Act.put, List.setIfInBounds_toArray, List.set_cons_zero, List.set_cons_succ])
                            have bd3 := Lib.hid (below_is hHeld)
                            have es2 := bd2.out.size
                            have k3 : Hid (Slot _ _ 34 6) := Lib.hid (slot_new hHeld rfl)
                            have q3 := Lib.hid (slot_more hHeld q2.out)
                            generalize v1.alloc _ = V3 at *
                            have ls2 := k3.out.lt
                            refine wpAnyH_ready (rs := [13]) (by decide +kernel) (by simp) ?_
                            refine AllReadyH.cons (o := ⟨none, _, _, _, _, _⟩) rfl (fun K hK => ?_) AllReadyH.nil
                            rw [if_pos (by rfl)]
                            have BE := row_end bd3.out (show wr.heap.size ≤ V0.heap.size by omega) (y).arr
                            have BF := row_end BE (show wr.heap.size ≤ v1.heap.size by omega) (C).arr
                            obtain ⟨cs, hcs, hsz⟩ := q3.out
                            refine oper_store_row 26 _ _ rfl (V0.heap.size) 26 cs (y).arr rfl rfl hcs (sizeG _) hsz (oneG _) ?_
                            refine hK.out _ _ ?_ (fun hHeld => ?_)
                            · exact BE
                            clear hK K hcs hsz
                            (try simp only [Act.put])
                            refine wpAnyH_ready (rs := [14]) (by decide +kernel) (by simp) ?_
                            refine AllReadyH.cons (o := ⟨none, _, _, _, _, _⟩) rfl (fun K hK => ?_) AllReadyH.nil
                            rw [if_pos (by rfl)]
                            have hk2 := slot_rowfar k3.out (show v1.heap.size ≠ V0.heap.size by omega) (y).arr
                            obtain ⟨cs, hcs, hsz⟩ := hk2
                            refine oper_store_row 34 _ _ rfl (v1.heap.size) 34 cs (C).arr rfl rfl hcs (sizeC _) hsz (oneC _) ?_
                            refine hK.out _ _ ?_ (fun hHeld => ?_)
                            · exact BF
                            clear hK K hcs hsz
                            (try simp only [Act.put])
                            refine wpAnyH_take (i := 15) (oi := ⟨some 16, _, _, _, _, _⟩) (v := ?_) rfl (by kernel_rfl) (by kernel_rfl) (by kernel_rfl) (fun _ _ _ h => h) (Or.inl ⟨by rfl, ?_⟩) (by assumption) ?_
                            rotate_left
                            · (intro u hu; (try dsimp only at hu); go_simp; (try with_reducible rfl))
                            (try simp only [Act.put, List.setIfInBounds_toArray, List.set_cons_zero, List.set_cons_succ])
                            refine wpAnyH_done (by kernel_rfl) ?_ _
                            go_wp2
                            go_meet
                            exact ⟨_, _, rfl, rfl, rfl, Lib.hid ⟨HW.out.on BF, box_far (q3.out.row _) (show V0.heap.size ≠ v1.heap.size by omega) _, (slot_rowfar k3.out (show v1.heap.size ≠ V0.heap.size by omega) _).row _, by omega, by omega⟩⟩
                    · as_aux_lemma =>
                        go_simp
                        refine hK.out _ _ ?_ (fun hHeld => ?_)
                        · exact bd1.out.alloc bd1.out.size _
                        clear hK K
                        (try simp only [Act.put, List.setIfInBounds_toArray, List.set_cons_zero, List.set_cons_succ])
                        have bd2 := Lib.hid (below_is hHeld)
                        have es1 := bd1.out.size
                        have k2 : Hid (Slot _ _ 34 6) := Lib.hid (slot_new hHeld rfl)
                        have q2 := Lib.hid (slot_more hHeld q1.out)
                        generalize V1.alloc _ = V2 at *
                        have ls1 := k2.out.lt
                        refine wpAnyH_ready (rs := [6]) (by decide +kernel) (by simp) ?_
                        refine AllReadyH.cons (o := ⟨some 90, _, _, _, _, _⟩) rfl (fun K hK => ?_) AllReadyH.nil
                        · as_aux_lemma =>
                            go_simp
                            (with_reducible refine (HD.out _ (hwW.trans (bd2.out.mono hwB))).mono ?_)
                            rintro e v1 ⟨rfl, hb⟩
                            have bd3 := Lib.hid (bd2.out.trans (hb.mono bd2.out.size))
                            have q3 := Lib.hid (slot_on q2.out hb)
                            have k3 := Lib.hid (slot_on k2.out hb)
                            have hs3 := hb.size
                            clear hb
                            go_wp2_with fail
                            refine hK.out _ _ ?_ (fun hHeld => ?_)
                            · exact bd3.out
                            clear hK K
                            (try simp only [Act.put, List.setIfInBounds_toArray, List.set_cons_zero, List.set_cons_succ])
                            refine wpAnyH_take (i := 7) (oi := ⟨some 83, _, _, _, _, _⟩) (v := ?_) rfl (by kernel_rfl) (by kernel_rfl) (by kernel_rfl) (fun _ _ _ h => h) (Or.inl ⟨by rfl, ?_⟩) (by assumption) ?_
                            rotate_left
                            · (intro u hu; (try dsimp only at hu); go_simp; (try with_reducible rfl))
                            (try simp only [Act.put, List.setIfInBounds_toArray, List.set_cons_zero, List.set_cons_succ])
                            refine wpAnyH_take (i := 8) (oi := ⟨some 91, _, _, _, _, _⟩) (v := ?_) rfl (by kernel_rfl) (by kernel_rfl) (by kernel_rfl) (fun _ _ _ h => h) (Or.inl ⟨by rfl, ?_⟩) (by assumption) ?_
                            rotate_left
                            · (intro u hu; (try dsimp only at hu); go_simp; (try with_reducible rfl))
                            (try simp only [Act.put, List.setIfInBounds_toArray, List.set_cons_zero, List.set_cons_succ])
                            refine wpAnyH_take (i := 9) (oi := ⟨some 92, _, _, _, _, _⟩) (v := ?_) rfl (by kernel_rfl) (by kernel_rfl) (by kernel_rfl) (fun _ _ _ h => h) (Or.inl ⟨by rfl, ?_⟩) (by assumption) ?_
                            rotate_left
                            · (intro u hu; (try dsimp only at hu); go_simp; (try with_reducible rfl))
                            (try simp only [Act.put, List.setIfInBounds_toArray, List.set_cons_zero, List.set_cons_succ])
                            refine wpAnyH_take (i := 10) (oi := ⟨some 93, _, _, _, _, _⟩) (v := ?_) rfl (by kernel_rfl) (by kernel_rfl) (by kernel_rfl) (fun _ _ _ h => h) (Or.inl ⟨by rfl, ?_⟩) (by assumption) ?_
                            rotate_left
                            · (intro u hu; (try dsimp only at hu); go_simp; (try with_reducible rfl))
                            (try simp only [Act.put, List.setIfInBounds_toArray, List.set_cons_zero, List.set_cons_succ])
                            refine wpAnyH_ready (rs := [13]) (by decide +kernel) (by simp) ?_
                            refine AllReadyH.cons (o := ⟨none, _, _, _, _, _⟩) rfl (fun K hK => ?_) AllReadyH.nil
                            rw [if_pos (by rfl)]
                            have BE := row_end bd3.out (show wr.heap.size ≤ V0.heap.size by omega) (y).arr
                            have BF := row_end BE (show wr.heap.size ≤ V1.heap.size by omega) (C).arr
                            obtain ⟨cs, hcs, hsz⟩ := q3.out
                            refine oper_store_row 26 _ _ rfl (V0.heap.size) 26 cs (y).arr rfl rfl hcs (sizeG _) hsz (oneG _) ?_
                            refine hK.out _ _ ?_ (fun hHeld => ?_)
                            · exact BE
                            clear hK K hcs hsz
                            (try simp only [Act.put])
                            refine wpAnyH_ready (rs := [14]) (by decide +kernel) (by simp) ?_
                            refine AllReadyH.cons (o := ⟨none, _, _, _, _, _⟩) rfl (fun K hK => ?_) AllReadyH.nil
                            rw [if_pos (by rfl)]
                            have hk2 := slot_rowfar k3.out (show V1.heap.size ≠ V0.heap.size by omega) (y).arr
                            obtain ⟨cs, hcs, hsz⟩ := hk2
                            refine oper_store_row 34 _ _ rfl (V1.heap.size) 34 cs (C).arr rfl rfl hcs (sizeC _) hsz (oneC _) ?_
                            refine hK.out _ _ ?_ (fun hHeld => ?_)
                            · exact BF
                            clear hK K hcs hsz
                            (try simp only [Act.put])
                            refine wpAnyH_take (i := 15) (oi := ⟨some 16, _, _, _, _, _⟩) (v := ?_) rfl (by kernel_rfl) (by kernel_rfl) (by kernel_rfl) (fun _ _ _ h => h) (Or.inl ⟨by rfl, ?_⟩) (by assumption) ?_
                            rotate_left
                            · (intro u hu; (try dsimp only at hu); go_simp; (try with_reducible rfl))
                            (try simp only [Act.put, List.setIfInBounds_toArray, List.set_cons_zero, List.set_cons_succ])
                            refine wpAnyH_done (by kernel_rfl) ?_ _
                            go_wp2
                            go_meet
                            exact ⟨_, _, rfl, rfl, rfl, Lib.hid ⟨HW.out.on BF, box_far (q3.out.row _) (show V0.heap.size ≠ V1.heap.size by omega) _, (slot_rowfar k3.out (show V1.heap.size ≠ V0.heap.size by omega) _).row _, by omega, by omega⟩⟩
                · as_aux_lemma =>
                    go_simp
                    refine hK.out _ _ ?_ (fun hHeld => ?_)
                    · exact bd0.out.alloc bd0.out.size _
                    clear hK K
                    (try simp only [Act.put, List.setIfInBounds_toArray, List.set_cons_zero, List.set_cons_succ])
                    have bd1 := Lib.hid (below_is hHeld)
                    have es0 := bd0.out.size
                    have k1 : Hid (Slot _ _ 34 6) := Lib.hid (slot_new hHeld rfl)
                    generalize V0.alloc _ = V1 at *
                    have ls0 := k1.out.lt
                    refine wpAnyH_ready (rs := [6, 11]) (by decide +kernel) (by simp) ?_
                    refine AllReadyH.cons (o := ⟨some 90, _, _, _, _, _⟩) rfl (fun K hK => ?_) (AllReadyH.cons (o := ⟨some 14, _, _, _, _, _⟩) rfl (fun K hK => ?_) AllReadyH.nil)
                    · as_aux_lemma =>
                        go_simp
                        (with_reducible refine (HD.out _ (hwW.trans (bd1.out.mono hwB))).mono ?_)
                        rintro e v1 ⟨rfl, hb⟩
                        have bd2 := Lib.hid (bd1.out.trans (hb.mono bd1.out.size))
                        have k2 := Lib.hid (slot_on k1.out hb)
                        have hs2 := hb.size
                        clear hb
                        go_wp2_with fail
                        refine hK.out _ _ ?_ (fun hHeld => ?_)
                        · exact bd2.out
                        clear hK K
                        (try simp only [Act.put, List.setIfInBounds_toArray, List.set_cons_zero, List.set_cons_succ])
                        refine wpAnyH_take (i := 7) (oi := ⟨some 83, _, _, _, _, _⟩) (v := ?_) rfl (by kernel_rfl) (by kernel_rfl) (by kernel_rfl) (fun _ _ _ h => h) (Or.inl ⟨by rfl, ?_⟩) (by assumption) ?_
                        rotate_left
                        · (intro u hu; (try dsimp only at hu); go_simp; (try with_reducible rfl))
                        (try simp only [Act.put, List.setIfInBounds_toArray, List.set_cons_zero, List.set_cons_succ])
                        refine wpAnyH_take (i := 8) (oi := ⟨some 91, _, _, _, _, _⟩) (v := ?_) rfl (by kernel_rfl) (by kernel_rfl) (by kernel_rfl) (fun _ _ _ h => h) (Or.inl ⟨by rfl, ?_⟩) (by assumption) ?_
                        rotate_left
                        · (intro u hu; (try dsimp only at hu); go_simp; (try with_reducible rfl))
                        (try simp only [Act.put, List.setIfInBounds_toArray, List.set_cons_zero, List.set_cons_succ])
                        refine wpAnyH_take (i := 9) (oi := ⟨some 92, _, _, _, _, _⟩) (v := ?_) rfl (by kernel_rfl) (by kernel_rfl) (by kernel_rfl) (fun _ _ _ h => h) (Or.inl ⟨by rfl, ?_⟩) (by assumption) ?_
                        rotate_left
                        · (intro u hu; (try dsimp only at hu); go_simp; (try with_reducible rfl))
                        (try simp only [Act.put, List.setIfInBounds_toArray, List.set_cons_zero, List.set_cons_succ])
                        refine wpAnyH_take (i := 10) (oi := ⟨some 93, _, _, _, _, _⟩) (v := ?_) rfl (by kernel_rfl) (by kernel_rfl) (by kernel_rfl) (fun _ _ _ h => h) (Or.inl ⟨by rfl, ?_⟩) (by assumption) ?_
                        rotate_left
                        · (intro u hu; (try dsimp only at hu); go_simp; (try with_reducible rfl))
                        (try simp only [Act.put, List.setIfInBounds_toArray, List.set_cons_zero, List.set_cons_succ])
                        refine wpAnyH_ready (rs := [11]) (by decide +kernel) (by simp) ?_
                        refine AllReadyH.cons (o := ⟨some 14, _, _, _, _, _⟩) rfl (fun K hK => ?_) AllReadyH.nil
                        · as_aux_lemma =>
                            go_simp
                            refine hK.out _ _ ?_ (fun hHeld => ?_)
                            · exact bd2.out.alloc bd2.out.size _
                            clear hK K
                            (try simp only [Act.put, List.setIfInBounds_toArray, List.set_cons_zero, List.set_cons_succ])
                            have bd3 := Lib.hid (below_is hHeld)
                            have es2 := bd2.out.size
                            have q3 : Hid (Slot _ _ 26 9) := Lib.hid (slot_new hHeld rfl)
                            have k3 := Lib.hid (slot_more hHeld k2.out)
                            generalize v1.alloc _ = V3 at *
                            have ls2 := q3.out.lt
                            refine wpAnyH_ready (rs := [13]) (by decide +kernel) (by simp) ?_
                            refine AllReadyH.cons (o := ⟨none, _, _, _, _, _⟩) rfl (fun K hK => ?_) AllReadyH.nil
                            rw [if_pos (by rfl)]
                            have BE := row_end bd3.out (show wr.heap.size ≤ v1.heap.size by omega) (y).arr
                            have BF := row_end BE (show wr.heap.size ≤ V0.heap.size by omega) (C).arr
                            obtain ⟨cs, hcs, hsz⟩ := q3.out
                            refine oper_store_row 26 _ _ rfl (v1.heap.size) 26 cs (y).arr rfl rfl hcs (sizeG _) hsz (oneG _) ?_
                            refine hK.out _ _ ?_ (fun hHeld => ?_)
                            · exact BE
                            clear hK K hcs hsz
                            (try simp only [Act.put])
                            refine wpAnyH_ready (rs := [14]) (by decide +kernel) (by simp) ?_
                            refine AllReadyH.cons (o := ⟨none, _, _, _, _, _⟩) rfl (fun K hK => ?_) AllReadyH.nil
                            rw [if_pos (by rfl)]
                            have hk2 := slot_rowfar k3.out (show V0.heap.size ≠ v1.heap.size by omega) (y).arr
                            obtain ⟨cs, hcs, hsz⟩ := hk2
                            refine oper_store_row 34 _ _ rfl (V0.heap.size) 34 cs (C).arr rfl rfl hcs (sizeC _) hsz (oneC _) ?_
                            refine hK.out _ _ ?_ (fun hHeld => ?_)
                            · exact BF
                            clear hK K hcs hsz
                            (try simp only [Act.put])
                            refine wpAnyH_take (i := 15) (oi := ⟨some 16, _, _, _, _, _⟩) (v := ?_) rfl (by kernel_rfl) (by kernel_rfl) (by kernel_rfl) (fun _ _ _ h => h) (Or.inl ⟨by rfl, ?_⟩) (by assumption) ?_
                            rotate_left
                            · (intro u hu; (try dsimp only at hu); go_simp; (try with_reducible rfl))
                            (try simp only [Act.put, List.setIfInBounds_toArray, List.set_cons_zero, List.set_cons_succ])
                            refine wpAnyH_done (by kernel_rfl) ?_ _
                            go_wp2
                            go_meet
                            exact ⟨_, _, rfl, rfl, rfl, Lib.hid ⟨HW.out.on BF, box_far (q3.out.row _) (show v1.heap.size ≠ V0.heap.size by omega) _, (slot_rowfar k3.out (show V0.heap.size ≠ v1.heap.size by omega) _).row _, by omega, by omega⟩⟩
                    · as_aux_lemma =>
                        go_simp
                        refine hK.out _ _ ?_ (fun hHeld => ?_)
                        · exact bd1.out.alloc bd1.out.size _
                        clear hK K
                        (try simp only [Act.put, List.setIfInBounds_toArray, List.set_cons_zero, List.set_cons_succ])
                        have bd2 := Lib.hid (below_is hHeld)
                        have es1 := bd1.out.size
                        have q2 : Hid (Slot _ _ 26 9) := Lib.hid (slot_new hHeld rfl)
                        have k2 := Lib.hid (slot_more hHeld k1.out)
                        generalize V1.alloc _ = V2 at *
                        have ls1 := q2.out.lt
                        refine wpAnyH_ready (rs := [6]) (by decide +kernel) (by simp) ?_
                        refine AllReadyH.cons (o := ⟨some 90, _, _, _, _, _⟩) rfl (fun K hK => ?_) AllReadyH.nil
                        · as_aux_lemma =>
                            go_simp
                            (with_reducible refine (HD.out _ (hwW.trans (bd2.out.mono hwB))).mono ?_)
                            rintro e v1 ⟨rfl, hb⟩
                            have bd3 := Lib.hid (bd2.out.trans (hb.mono bd2.out.size))
                            have q3 := Lib.hid (slot_on q2.out hb)
                            have k3 := Lib.hid (slot_on k2.out hb)
                            have hs3 := hb.size
                            clear hb
                            go_wp2_with fail
                            refine hK.out _ _ ?_ (fun hHeld => ?_)
                            · exact bd3.out
                            clear hK K
                            (try simp only [Act.put, List.setIfInBounds_toArray, List.set_cons_zero, List.set_cons_succ])
                            refine wpAnyH_take (i := 7) (oi := ⟨some 83, _, _, _, _, _⟩) (v := ?_) rfl (by kernel_rfl) (by kernel_rfl) (by kernel_rfl) (fun _ _ _ h => h) (Or.inl ⟨by rfl, ?_⟩) (by assumption) ?_
                            rotate_left
                            · (intro u hu; (try dsimp only at hu); go_simp; (try with_reducible rfl))
                            (try simp only [Act.put, List.setIfInBounds_toArray, List.set_cons_zero, List.set_cons_succ])
                            refine wpAnyH_take (i := 8) (oi := ⟨some 91, _, _, _, _, _⟩) (v := ?_) rfl (by kernel_rfl) (by kernel_rfl) (by kernel_rfl) (fun _ _ _ h => h) (Or.inl ⟨by rfl, ?_⟩) (by assumption) ?_
                            rotate_left
                            · (intro u hu; (try dsimp only at hu); go_simp; (try with_reducible rfl))
                            (try simp only [Act.put, List.setIfInBounds_toArray, List.set_cons_zero, List.set_cons_succ])
                            refine wpAnyH_take (i := 9) (oi := ⟨some 92, _, _, _, _, _⟩) (v := ?_) rfl (by kernel_rfl) (by kernel_rfl) (by kernel_rfl) (fun _ _ _ h => h) (Or.inl ⟨by rfl, ?_⟩) (by assumption) ?_
                            rotate_left
                            · (intro u hu; (try dsimp only at hu); go_simp; (try with_reducible rfl))
                            (try simp only [Act.put, List.setIfInBounds_toArray, List.set_cons_zero, List.set_cons_succ])
                            refine wpAnyH_take (i := 10) (oi := ⟨some 93, _, _, _, _, _⟩) (v := ?_) rfl (by kernel_rfl) (by kernel_rfl) (by kernel_rfl) (fun _ _ _ h => h) (Or.inl ⟨by rfl, ?_⟩) (by assumption) ?_
                            rotate_left
                            · (intro u hu; (try dsimp only at hu); go_simp; (try with_reducible rfl))
                            (try simp only [Act.put, List.setIfInBounds_toArray, List.set_cons_zero, List.set_cons_succ])
                            refine wpAnyH_ready (rs := [13]) (by decide +kernel) (by simp) ?_
                            refine AllReadyH.cons (o := ⟨none, _, _, _, _, _⟩) rfl (fun K hK => ?_) AllReadyH.nil
                            rw [if_pos (by rfl)]
                            have BE := row_end bd3.out (show wr.heap.size ≤ V1.heap.size by omega) (y).arr
                            have BF := row_end BE (show wr.heap.size ≤ V0.heap.size by omega) (C).arr
                            obtain ⟨cs, hcs, hsz⟩ := q3.out
                            refine oper_store_row 26 _ _ rfl (V1.heap.size) 26 cs (y).arr rfl rfl hcs (sizeG _) hsz (oneG _) ?_
                            refine hK.out _ _ ?_ (fun hHeld => ?_)
                            · exact BE
                            clear hK K hcs hsz
                            (try simp only [Act.put])
                            refine wpAnyH_ready (rs := [14]) (by decide +kernel) (by simp) ?_
                            refine AllReadyH.cons (o := ⟨none, _, _, _, _, _⟩) rfl (fun K hK => ?_) AllReadyH.nil
                            rw [if_pos (by rfl)]
                            have hk2 := slot_rowfar k3.out (show V0.heap.size ≠ V1.heap.size by omega) (y).arr
                            obtain ⟨cs, hcs, hsz⟩ := hk2
                            refine oper_store_row 34 _ _ rfl (V0.heap.size) 34 cs (C).arr rfl rfl hcs (sizeC _) hsz (oneC _) ?_
                            refine hK.out _ _ ?_ (fun hHeld => ?_)
                            · exact BF
                            clear hK K hcs hsz
                            (try simp only [Act.put])
                            refine wpAnyH_take (i := 15) (oi := ⟨some 16, _, _, _, _, _⟩) (v := ?_) rfl (by kernel_rfl) (by kernel_rfl) (by kernel_rfl) (fun _ _ _ h => h) (Or.inl ⟨by rfl, ?_⟩) (by assumption) ?_
                            rotate_left
                            · (intro u hu; (try dsimp only at hu); go_simp; (try with_reducible rfl))
                            (try simp only [Act.put, List.setIfInBounds_toArray, List.set_cons_zero, List.set_cons_succ])
                            refine wpAnyH_done (by kernel_rfl) ?_ _
                            go_wp2
                            go_meet
                            exact ⟨_, _, rfl, rfl, rfl, Lib.hid ⟨HW.out.on BF, box_far (q3.out.row _) (show V1.heap.size ≠ V0.heap.size by omega) _, (slot_rowfar k3.out (show V0.heap.size ≠ V1.heap.size by omega) _).row _, by omega, by omega⟩⟩
              case rest =>
                obtain ⟨gt, gc, rfl, rfl, rfl, HS⟩ := hcut
                obtain ⟨hax, hbt, hbc, hg1, hg2⟩ := HS.out
                have H7 := Lib.hid hax
                have H8 := Lib.hid (And.intro hbt hbc)
                clear hwW hwB hgl hxl hwl HW HS hax hbt hbc HD
                go_upto_region 14 with (fail)
                have hwW := H7.out.aw.bel
                have hwB := hwW.size
                have hgl := H7.out.aw.s.lt
                have hxl := H7.out.x.lt
                have hwl := H7.out.aw.d.lt
                go_cut [17, 18, 19] (fun v1 v2 v3 wx => ∃ ht hc : Nat, v1 = .pointer (some ⟨ht, 0, none⟩) ∧ v2 = .pointer (some ⟨hc, 0, none⟩) ∧ v3 = .int .i64 er ∧ Hid (Ax w wx g g2 nm dl A n c x ∧ (Box wx gt 26 y.arr ∧ Box wx gc 34 C.arr) ∧ Box wx ht 26 y.arr ∧ Box wx hc 34 C.arr ∧ (g < ht ∧ g2 < ht)))
                case first => as_aux_lemma =>
                  have u0 : ∀ u, Below wc.heap.size wc u → u.cell? ⟨w.heap.size, 0, none⟩ = some (.string nm) := fun u H => (H.cell (p := ⟨w.heap.size, 0, none⟩) hwl).trans (H7.out.aw.d.cell 0)
                  have u1 : ∀ u, Below wc.heap.size wc u → u.cell? ⟨w.heap.size, 1, none⟩ = some (.int .i64 dl) := fun u H => (H.cell (p := ⟨w.heap.size, 1, none⟩) hwl).trans (H7.out.aw.d.cell 1)
                  have u2 : ∀ u, Below wc.heap.size wc u → u.cell? ⟨w.heap.size, 2, none⟩ = some (.slice A n c) := fun u H => (H.cell (p := ⟨w.heap.size, 2, none⟩) hwl).trans (H7.out.aw.d.cell 2)
                  have s0 : ∀ u, Below wc.heap.size wc u → u.cell? ⟨g2, 0, none⟩ = some (.int .i64 x.id) := fun u H => (H.cell (p := ⟨g2, 0, none⟩) hxl).trans (H7.out.x.cell 0)
                  have s1 : ∀ u, Below wc.heap.size wc u → u.cell? ⟨g2, 1, none⟩ = some (.string x.dn) := fun u H => (H.cell (p := ⟨g2, 1, none⟩) hxl).trans (H7.out.x.cell 1)
                  have s2 : ∀ u, Below wc.heap.size wc u → u.cell? ⟨g2, 2, none⟩ = some (.int .i64 x.st) := fun u H => (H.cell (p := ⟨g2, 2, none⟩) hxl).trans (H7.out.x.cell 2)
                  have s3 : ∀ u, Below wc.heap.size wc u → u.cell? ⟨g2, 3, none⟩ = some (.int .i64 x.ph) := fun u H => (H.cell (p := ⟨g2, 3, none⟩) hxl).trans (H7.out.x.cell 3)
                  have s4 : ∀ u, Below wc.heap.size wc u → u.cell? ⟨g2, 4, none⟩ = some (.int .i64 x.sp) := fun u H => (H.cell (p := ⟨g2, 4, none⟩) hxl).trans (H7.out.x.cell 4)
                  have s5 : ∀ u, Below wc.heap.size wc u → u.cell? ⟨g2, 5, none⟩ = some (.int .i64 x.tr) := fun u H => (H.cell (p := ⟨g2, 5, none⟩) hxl).trans (H7.out.x.cell 5)
                  have s6 : ∀ u, Below wc.heap.size wc u → u.cell? ⟨g2, 6, none⟩ = some (.bool x.out) := fun u H => (H.cell (p := ⟨g2, 6, none⟩) hxl).trans (H7.out.x.cell 6)
                  have s7 : ∀ u, Below wc.heap.size wc u → u.cell? ⟨g2, 7, none⟩ = some (.int .i64 x.at_) := fun u H => (H.cell (p := ⟨g2, 7, none⟩) hxl).trans (H7.out.x.cell 7)
                  have s8 : ∀ u, Below wc.heap.size wc u → u.cell? ⟨g2, 8, none⟩ = some (.int .i64 x.sk) := fun u H => (H.cell (p := ⟨g2, 8, none⟩) hxl).trans (H7.out.x.cell 8)
                  have a0 : ∀ u, Below wc.heap.size wc u → u.cell? ⟨b, o + k * 7, none⟩ = some (.int .i64 a.k) := fun u H => ((hwW.trans (H.mono hwB)).cell (p := ⟨b, o + k * 7, none⟩) hbw).trans (hac 0 _ rfl)
                  have a1 : ∀ u, Below wc.heap.size wc u → u.cell? ⟨b, o + k * 7 + 1, none⟩ = some (.int .i64 a.now) := fun u H => ((hwW.trans (H.mono hwB)).cell (p := ⟨b, o + k * 7 + 1, none⟩) hbw).trans (hac 1 _ rfl)
                  have a2 : ∀ u, Below wc.heap.size wc u → u.cell? ⟨b, o + k * 7 + 2, none⟩ = some (.int .i64 a.r.sg) := fun u H => ((hwW.trans (H.mono hwB)).cell (p := ⟨b, o + k * 7 + 2, none⟩) hbw).trans (hac 2 _ rfl)
                  have a3 : ∀ u, Below wc.heap.size wc u → u.cell? ⟨b, o + k * 7 + 3, none⟩ = some (.int .i64 a.r.sp) := fun u H => ((hwW.trans (H.mono hwB)).cell (p := ⟨b, o + k * 7 + 3, none⟩) hbw).trans (hac 3 _ rfl)
                  have a4 : ∀ u, Below wc.heap.size wc u → u.cell? ⟨b, o + k * 7 + 4, none⟩ = some (.bool a.r.un) := fun u H => ((hwW.trans (H.mono hwB)).cell (p := ⟨b, o + k * 7 + 4, none⟩) hbw).trans (hac 4 _ rfl)
                  have a5 : ∀ u, Below wc.heap.size wc u → u.cell? ⟨b, o + k * 7 + 5, none⟩ = some (.int .i64 a.r.tr) := fun u H => ((hwW.trans (H.mono hwB)).cell (p := ⟨b, o + k * 7 + 5, none⟩) hbw).trans (hac 5 _ rfl)
                  have a6 : ∀ u, Below wc.heap.size wc u → u.cell? ⟨b, o + k * 7 + 6, none⟩ = some (.bool a.r.good) := fun u H => ((hwW.trans (H.mono hwB)).cell (p := ⟨b, o + k * 7 + 6, none⟩) hbw).trans (hac 6 _ rfl)
                  have bd0 : Hid (Below wc.heap.size wc wc.drew) := Lib.hid (Below.drew (Below.refl _ _))
                  refine wp_region_held_drew (S := fun u => Below wc.heap.size wc u) (by kernel_rfl) bd0.out (fun hHeld => ?_)
                  generalize wc.drew = V0 at *
                  refine wpAnyH_take (i := 0) (oi := ⟨some 95, _, _, _, _, _⟩) (v := ?_) rfl (by kernel_rfl) (by kernel_rfl) (by kernel_rfl) (fun _ _ _ h => h) (Or.inl ⟨by rfl, ?_⟩) (by assumption) ?_
                  rotate_left
                  · (intro u hu; (try dsimp only at hu); go_simp; (try with_reducible rfl))
                  (try simp only [Act.put, List.setIfInBounds_toArray, List.set_cons_zero, List.set_cons_succ])
                  refine wpAnyH_take (i := 1) (oi := ⟨some 96, _, _, _, _, _⟩) (v := ?_) rfl (by kernel_rfl) (by kernel_rfl) (by kernel_rfl) (fun _ _ _ h => h) (Or.inl ⟨by rfl, ?_⟩) (by assumption) ?_
                  rotate_left
                  · (intro u hu; (try dsimp only at hu); go_simp; (try with_reducible rfl))
                  (try simp only [Act.put, List.setIfInBounds_toArray, List.set_cons_zero, List.set_cons_succ])
                  refine wpAnyH_take (i := 2) (oi := ⟨some 97, _, _, _, _, _⟩) (v := ?_) rfl (by kernel_rfl) (by kernel_rfl) (by kernel_rfl) (fun _ _ _ h => h) (Or.inl ⟨by rfl, ?_⟩) (by assumption) ?_
                  rotate_left
                  · (intro u hu; (try dsimp only at hu); go_simp; (try with_reducible rfl))
                  (try simp only [Act.put, List.setIfInBounds_toArray, List.set_cons_zero, List.set_cons_succ])
                  refine wpAnyH_take (i := 3) (oi := ⟨some 98, _, _, _, _, _⟩) (v := ?_) rfl (by kernel_rfl) (by kernel_rfl) (by kernel_rfl) (fun _ _ _ h => h) (Or.inl ⟨by rfl, ?_⟩) (by assumption) ?_
                  rotate_left
                  · (intro u hu; (try dsimp only at hu); go_simp; (try with_reducible rfl))
                  (try simp only [Act.put, List.setIfInBounds_toArray, List.set_cons_zero, List.set_cons_succ])
                  refine wpAnyH_take (i := 4) (oi := ⟨some 99, _, _, _, _, _⟩) (v := ?_) rfl (by kernel_rfl) (by kernel_rfl) (by kernel_rfl) (fun _ _ _ h => h) (Or.inl ⟨by rfl, ?_⟩) (by assumption) ?_
                  rotate_left
                  · (intro u hu; (try dsimp only at hu); go_simp; (try with_reducible rfl))
                  (try simp only [Act.put, List.setIfInBounds_toArray, List.set_cons_zero, List.set_cons_succ])
                  refine wpAnyH_take (i := 5) (oi := ⟨some 100, _, _, _, _, _⟩) (v := ?_) rfl (by kernel_rfl) (by kernel_rfl) (by kernel_rfl) (fun _ _ _ h => h) (Or.inl ⟨by rfl, ?_⟩) (by assumption) ?_
                  rotate_left
                  · (intro u hu; (try dsimp only at hu); go_simp; (try with_reducible rfl))
                  (try simp only [Act.put, List.setIfInBounds_toArray, List.set_cons_zero, List.set_cons_succ])
                  refine wpAnyH_ready (rs := [6, 11, 12]) (by decide +kernel) (by simp) ?_
                  refine AllReadyH.cons (o := ⟨some 101, _, _, _, _, _⟩) rfl (fun K hK => ?_) (AllReadyH.cons (o := ⟨some 17, _, _, _, _, _⟩) rfl (fun K hK => ?_) (AllReadyH.cons (o := ⟨some 18, _, _, _, _, _⟩) rfl (fun K hK => ?_) AllReadyH.nil))
                  · as_aux_lemma =>
                      go_simp
                      (with_reducible refine (HTl.out _ (hwW.trans (bd0.out.mono hwB))).mono ?_)
                      rintro e v1 ⟨rfl, hb⟩
                      have bd1 := Lib.hid (bd0.out.trans (hb.mono bd0.out.size))
                      have hs1 := hb.size
                      clear hb
                      go_wp2_with fail
                      refine hK.out _ _ ?_ (fun hHeld => ?_)
                      · exact bd1.out
                      clear hK K
                      (try simp only [Act.put, List.setIfInBounds_toArray, List.set_cons_zero, List.set_cons_succ])
                      refine wpAnyH_take (i := 7) (oi := ⟨some 94, _, _, _, _, _⟩) (v := ?_) rfl (by kernel_rfl) (by kernel_rfl) (by kernel_rfl) (fun _ _ _ h => h) (Or.inl ⟨by rfl, ?_⟩) (by assumption) ?_
                      rotate_left
                      · (intro u hu; (try dsimp only at hu); go_simp; (try with_reducible rfl))
                      (try simp only [Act.put, List.setIfInBounds_toArray, List.set_cons_zero, List.set_cons_succ])
                      refine wpAnyH_take (i := 8) (oi := ⟨some 102, _, _, _, _, _⟩) (v := ?_) rfl (by kernel_rfl) (by kernel_rfl) (by kernel_rfl) (fun _ _ _ h => h) (Or.inl ⟨by rfl, ?_⟩) (by assumption) ?_
                      rotate_left
                      · (intro u hu; (try dsimp only at hu); go_simp; (try with_reducible rfl))
                      (try simp only [Act.put, List.setIfInBounds_toArray, List.set_cons_zero, List.set_cons_succ])
                      refine wpAnyH_take (i := 9) (oi := ⟨some 103, _, _, _, _, _⟩) (v := ?_) rfl (by kernel_rfl) (by kernel_rfl) (by kernel_rfl) (fun _ _ _ h => h) (Or.inl ⟨by rfl, ?_⟩) (by assumption) ?_
                      rotate_left
                      · (intro u hu; (try dsimp only at hu); go_simp; (try with_reducible rfl))
                      (try simp only [Act.put, List.setIfInBounds_toArray, List.set_cons_zero, List.set_cons_succ])
                      refine wpAnyH_take (i := 10) (oi := ⟨some 104, _, _, _, _, _⟩) (v := ?_) rfl (by kernel_rfl) (by kernel_rfl) (by kernel_rfl) (fun _ _ _ h => h) (Or.inl ⟨by rfl, ?_⟩) (by assumption) ?_
                      rotate_left
                      · (intro u hu; (try dsimp only at hu); go_simp; (try with_reducible rfl))
                      (try simp only [Act.put, List.setIfInBounds_toArray, List.set_cons_zero, List.set_cons_succ])
                      refine wpAnyH_ready (rs := [11, 12]) (by decide +kernel) (by simp) ?_
                      refine AllReadyH.cons (o := ⟨some 17, _, _, _, _, _⟩) rfl (fun K hK => ?_) (AllReadyH.cons (o := ⟨some 18, _, _, _, _, _⟩) rfl (fun K hK => ?_) AllReadyH.nil)
                      · as_aux_lemma =>
                          go_simp
                          refine hK.out _ _ ?_ (fun hHeld => ?_)
                          · exact bd1.out.alloc bd1.out.size _
                          clear hK K
                          (try simp only [Act.put, List.setIfInBounds_toArray, List.set_cons_zero, List.set_cons_succ])
                          have bd2 := Lib.hid (below_is hHeld)
                          have es1 := bd1.out.size
                          have q2 : Hid (Slot _ _ 26 9) := Lib.hid (slot_new hHeld rfl)
                          generalize v1.alloc _ = V2 at *
                          have ls1 := q2.out.lt
                          refine wpAnyH_ready (rs := [12]) (by decide +kernel) (by simp) ?_
                          refine AllReadyH.cons (o := ⟨some 18, _, _, _, _, _⟩) rfl (fun K hK => ?_) AllReadyH.nil
                          · as_aux_lemma =>
                              go_simp
                              refine hK.out _ _ ?_ (fun hHeld => ?_)
                              · exact bd2.out.alloc bd2.out.size _
                              clear hK K
                              (try simp only [Act.put, List.setIfInBounds_toArray, List.set_cons_zero, List.set_cons_succ])
                              have bd3 := Lib.hid (below_is hHeld)
                              have es2 := bd2.out.size
                              have k3 : Hid (Slot _ _ 34 6) := Lib.hid (slot_new hHeld rfl)
                              have q3 := Lib.hid (slot_more hHeld q2.out)
                              generalize V2.alloc _ = V3 at *
                              have ls2 := k3.out.lt
                              refine wpAnyH_ready (rs := [13]) (by decide +kernel) (by simp) ?_
                              refine AllReadyH.cons (o := ⟨none, _, _, _, _, _⟩) rfl (fun K hK => ?_) AllReadyH.nil
                              rw [if_pos (by rfl)]
                              have BE := row_end bd3.out (show wc.heap.size ≤ v1.heap.size by omega) (y).arr
                              have BF := row_end BE (show wc.heap.size ≤ V2.heap.size by omega) (C).arr
                              obtain ⟨cs, hcs, hsz⟩ := q3.out
                              refine oper_store_row 26 _ _ rfl (v1.heap.size) 26 cs (y).arr rfl rfl hcs (sizeG _) hsz (oneG _) ?_
                              refine hK.out _ _ ?_ (fun hHeld => ?_)
                              · exact BE
                              clear hK K hcs hsz
                              (try simp only [Act.put])
                              refine wpAnyH_ready (rs := [14]) (by decide +kernel) (by simp) ?_
                              refine AllReadyH.cons (o := ⟨none, _, _, _, _, _⟩) rfl (fun K hK => ?_) AllReadyH.nil
                              rw [if_pos (by rfl)]
                              have hk2 := slot_rowfar k3.out (show V2.heap.size ≠ v1.heap.size by omega) (y).arr
                              obtain ⟨cs, hcs, hsz⟩ := hk2
                              refine oper_store_row 34 _ _ rfl (V2.heap.size) 34 cs (C).arr rfl rfl hcs (sizeC _) hsz (oneC _) ?_
                              refine hK.out _ _ ?_ (fun hHeld => ?_)
                              · exact BF
                              clear hK K hcs hsz
                              (try simp only [Act.put])
                              refine wpAnyH_take (i := 15) (oi := ⟨some 19, _, _, _, _, _⟩) (v := ?_) rfl (by kernel_rfl) (by kernel_rfl) (by kernel_rfl) (fun _ _ _ h => h) (Or.inl ⟨by rfl, ?_⟩) (by assumption) ?_
                              rotate_left
                              · (intro u hu; (try dsimp only at hu); go_simp; (try with_reducible rfl))
                              (try simp only [Act.put, List.setIfInBounds_toArray, List.set_cons_zero, List.set_cons_succ])
                              refine wpAnyH_done (by kernel_rfl) ?_ _
                              go_wp2
                              go_meet
                              exact ⟨_, _, rfl, rfl, rfl, Lib.hid ⟨H7.out.on BF, ⟨H8.out.1.below BF H8.out.1.lt, H8.out.2.below BF H8.out.2.lt⟩, box_far (q3.out.row _) (show v1.heap.size ≠ V2.heap.size by omega) _, (slot_rowfar k3.out (show V2.heap.size ≠ v1.heap.size by omega) _).row _, by omega⟩⟩
                      · as_aux_lemma =>
                          go_simp
                          refine hK.out _ _ ?_ (fun hHeld => ?_)
                          · exact bd1.out.alloc bd1.out.size _
                          clear hK K
                          (try simp only [Act.put, List.setIfInBounds_toArray, List.set_cons_zero, List.set_cons_succ])
                          have bd2 := Lib.hid (below_is hHeld)
                          have es1 := bd1.out.size
                          have k2 : Hid (Slot _ _ 34 6) := Lib.hid (slot_new hHeld rfl)
                          generalize v1.alloc _ = V2 at *
                          have ls1 := k2.out.lt
                          refine wpAnyH_ready (rs := [11]) (by decide +kernel) (by simp) ?_
                          refine AllReadyH.cons (o := ⟨some 17, _, _, _, _, _⟩) rfl (fun K hK => ?_) AllReadyH.nil
                          · as_aux_lemma =>
                              go_simp
                              refine hK.out _ _ ?_ (fun hHeld => ?_)
                              · exact bd2.out.alloc bd2.out.size _
                              clear hK K
                              (try simp only [Act.put, List.setIfInBounds_toArray, List.set_cons_zero, List.set_cons_succ])
                              have bd3 := Lib.hid (below_is hHeld)
                              have es2 := bd2.out.size
                              have q3 : Hid (Slot _ _ 26 9) := Lib.hid (slot_new hHeld rfl)
                              have k3 := Lib.hid (slot_more hHeld k2.out)
                              generalize V2.alloc _ = V3 at *
                              have ls2 := q3.out.lt
                              refine wpAnyH_ready (rs := [13]) (by decide +kernel) (by simp) ?_
                              refine AllReadyH.cons (o := ⟨none, _, _, _, _, _⟩) rfl (fun K hK => ?_) AllReadyH.nil
                              rw [if_pos (by rfl)]
                              have BE := row_end bd3.out (show wc.heap.size ≤ V2.heap.size by omega) (y).arr
                              have BF := row_end BE (show wc.heap.size ≤ v1.heap.size by omega) (C).arr
                              obtain ⟨cs, hcs, hsz⟩ := q3.out
                              refine oper_store_row 26 _ _ rfl (V2.heap.size) 26 cs (y).arr rfl rfl hcs (sizeG _) hsz (oneG _) ?_
                              refine hK.out _ _ ?_ (fun hHeld => ?_)
                              · exact BE
                              clear hK K hcs hsz
                              (try simp only [Act.put])
                              refine wpAnyH_ready (rs := [14]) (by decide +kernel) (by simp) ?_
                              refine AllReadyH.cons (o := ⟨none, _, _, _, _, _⟩) rfl (fun K hK => ?_) AllReadyH.nil
                              rw [if_pos (by rfl)]
                              have hk2 := slot_rowfar k3.out (show v1.heap.size ≠ V2.heap.size by omega) (y).arr
                              obtain ⟨cs, hcs, hsz⟩ := hk2
                              refine oper_store_row 34 _ _ rfl (v1.heap.size) 34 cs (C).arr rfl rfl hcs (sizeC _) hsz (oneC _) ?_
                              refine hK.out _ _ ?_ (fun hHeld => ?_)
                              · exact BF
                              clear hK K hcs hsz
                              (try simp only [Act.put])
                              refine wpAnyH_take (i := 15) (oi := ⟨some 19, _, _, _, _, _⟩) (v := ?_) rfl (by kernel_rfl) (by kernel_rfl) (by kernel_rfl) (fun _ _ _ h => h) (Or.inl ⟨by rfl, ?_⟩) (by assumption) ?_
                              rotate_left
                              · (intro u hu; (try dsimp only at hu); go_simp; (try with_reducible rfl))
                              (try simp only [Act.put, List.setIfInBounds_toArray, List.set_cons_zero, List.set_cons_succ])
                              refine wpAnyH_done (by kernel_rfl) ?_ _
                              go_wp2
                              go_meet
                              exact ⟨_, _, rfl, rfl, rfl, Lib.hid ⟨H7.out.on BF, ⟨H8.out.1.below BF H8.out.1.lt, H8.out.2.below BF H8.out.2.lt⟩, box_far (q3.out.row _) (show V2.heap.size ≠ v1.heap.size by omega) _, (slot_rowfar k3.out (show v1.heap.size ≠ V2.heap.size by omega) _).row _, by omega⟩⟩
                  · as_aux_lemma =>
                      go_simp
                      refine hK.out _ _ ?_ (fun hHeld => ?_)
                      · exact bd0.out.alloc bd0.out.size _
                      clear hK K
                      (try simp only [Act.put, List.setIfInBounds_toArray, List.set_cons_zero, List.set_cons_succ])
                      have bd1 := Lib.hid (below_is hHeld)
                      have es0 := bd0.out.size
                      have q1 : Hid (Slot _ _ 26 9) := Lib.hid (slot_new hHeld rfl)
                      generalize V0.alloc _ = V1 at *
                      have ls0 := q1.out.lt
                      refine wpAnyH_ready (rs := [6, 12]) (by decide +kernel) (by simp) ?_
                      refine AllReadyH.cons (o := ⟨some 101, _, _, _, _, _⟩) rfl (fun K hK => ?_) (AllReadyH.cons (o := ⟨some 18, _, _, _, _, _⟩) rfl (fun K hK => ?_) AllReadyH.nil)
                      · as_aux_lemma =>
                          go_simp
                          (with_reducible refine (HTl.out _ (hwW.trans (bd1.out.mono hwB))).mono ?_)
                          rintro e v1 ⟨rfl, hb⟩
                          have bd2 := Lib.hid (bd1.out.trans (hb.mono bd1.out.size))
                          have q2 := Lib.hid (slot_on q1.out hb)
                          have hs2 := hb.size
                          clear hb
                          go_wp2_with fail
                          refine hK.out _ _ ?_ (fun hHeld => ?_)
                          · exact bd2.out
                          clear hK K
                          (try simp only [Act.put, List.setIfInBounds_toArray, List.set_cons_zero, List.set_cons_succ])
                          refine wpAnyH_take (i := 7) (oi := ⟨some 94, _, _, _, _, _⟩) (v := ?_) rfl (by kernel_rfl) (by kernel_rfl) (by kernel_rfl) (fun _ _ _ h => h) (Or.inl ⟨by rfl, ?_⟩) (by assumption) ?_
                          rotate_left
                          · (intro u hu; (try dsimp only at hu); go_simp; (try with_reducible rfl))
                          (try simp only [Act.put, List.setIfInBounds_toArray, List.set_cons_zero, List.set_cons_succ])
                          refine wpAnyH_take (i := 8) (oi := ⟨some 102, _, _, _, _, _⟩) (v := ?_) rfl (by kernel_rfl) (by kernel_rfl) (by kernel_rfl) (fun _ _ _ h => h) (Or.inl ⟨by rfl, ?_⟩) (by assumption) ?_
                          rotate_left
                          · (intro u hu; (try dsimp only at hu); go_simp; (try with_reducible rfl))
                          (try simp only [Act.put, List.setIfInBounds_toArray, List.set_cons_zero, List.set_cons_succ])
                          refine wpAnyH_take (i := 9) (oi := ⟨some 103, _, _, _, _, _⟩) (v := ?_) rfl (by kernel_rfl) (by kernel_rfl) (by kernel_rfl) (fun _ _ _ h => h) (Or.inl ⟨by rfl, ?_⟩) (by assumption) ?_
                          rotate_left
                          · (intro u hu; (try dsimp only at hu); go_simp; (try with_reducible rfl))
                          (try simp only [Act.put, List.setIfInBounds_toArray, List.set_cons_zero, List.set_cons_succ])
                          refine wpAnyH_take (i := 10) (oi := ⟨some 104, _, _, _, _, _⟩) (v := ?_) rfl (by kernel_rfl) (by kernel_rfl) (by kernel_rfl) (fun _ _ _ h => h) (Or.inl ⟨by rfl, ?_⟩) (by assumption) ?_
                          rotate_left
                          · (intro u hu; (try dsimp only at hu); go_simp; (try with_reducible rfl))
                          (try simp only [Act.put, List.setIfInBounds_toArray, List.set_cons_zero, List.set_cons_succ])
                          refine wpAnyH_ready (rs := [12]) (by decide +kernel) (by simp) ?_
                          refine AllReadyH.cons (o := ⟨some 18, _, _, _, _, _⟩) rfl (fun K hK => ?_) AllReadyH.nil
                          · as_aux_lemma =>
                              go_simp
                              refine hK.out _ _ ?_ (fun hHeld => ?_)
                              · exact bd2.out.alloc bd2.out.size _
                              clear hK K
                              (try simp only [Act.put, List.setIfInBounds_toArray, List.set_cons_zero, List.set_cons_succ])
                              have bd3 := Lib.hid (below_is hHeld)
                              have es2 := bd2.out.size
                              have k3 : Hid (Slot _ _ 34 6) := Lib.hid (slot_new hHeld rfl)
                              have q3 := Lib.hid (slot_more hHeld q2.out)
                              generalize v1.alloc _ = V3 at *
                              have ls2 := k3.out.lt
                              refine wpAnyH_ready (rs := [13]) (by decide +kernel) (by simp) ?_
                              refine AllReadyH.cons (o := ⟨none, _, _, _, _, _⟩) rfl (fun K hK => ?_) AllReadyH.nil
                              rw [if_pos (by rfl)]
                              have BE := row_end bd3.out (show wc.heap.size ≤ V0.heap.size by omega) (y).arr
                              have BF := row_end BE (show wc.heap.size ≤ v1.heap.size by omega) (C).arr
                              obtain ⟨cs, hcs, hsz⟩ := q3.out
                              refine oper_store_row 26 _ _ rfl (V0.heap.size) 26 cs (y).arr rfl rfl hcs (sizeG _) hsz (oneG _) ?_
                              refine hK.out _ _ ?_ (fun hHeld => ?_)
                              · exact BE
                              clear hK K hcs hsz
                              (try simp only [Act.put])
                              refine wpAnyH_ready (rs := [14]) (by decide +kernel) (by simp) ?_
                              refine AllReadyH.cons (o := ⟨none, _, _, _, _, _⟩) rfl (fun K hK => ?_) AllReadyH.nil
                              rw [if_pos (by rfl)]
                              have hk2 := slot_rowfar k3.out (show v1.heap.size ≠ V0.heap.size by omega) (y).arr
                              obtain ⟨cs, hcs, hsz⟩ := hk2
                              refine oper_store_row 34 _ _ rfl (v1.heap.size) 34 cs (C).arr rfl rfl hcs (sizeC _) hsz (oneC _) ?_
                              refine hK.out _ _ ?_ (fun hHeld => ?_)
                              · exact BF
                              clear hK K hcs hsz
                              (try simp only [Act.put])
                              refine wpAnyH_take (i := 15) (oi := ⟨some 19, _, _, _, _, _⟩) (v := ?_) rfl (by kernel_rfl) (by kernel_rfl) (by kernel_rfl) (fun _ _ _ h => h) (Or.inl ⟨by rfl, ?_⟩) (by assumption) ?_
                              rotate_left
                              · (intro u hu; (try dsimp only at hu); go_simp; (try with_reducible rfl))
                              (try simp only [Act.put, List.setIfInBounds_toArray, List.set_cons_zero, List.set_cons_succ])
                              refine wpAnyH_done (by kernel_rfl) ?_ _
                              go_wp2
                              go_meet
                              exact ⟨_, _, rfl, rfl, rfl, Lib.hid ⟨H7.out.on BF, ⟨H8.out.1.below BF H8.out.1.lt, H8.out.2.below BF H8.out.2.lt⟩, box_far (q3.out.row _) (show V0.heap.size ≠ v1.heap.size by omega) _, (slot_rowfar k3.out (show v1.heap.size ≠ V0.heap.size by omega) _).row _, by omega⟩⟩
                      · as_aux_lemma =>
                          go_simp
                          refine hK.out _ _ ?_ (fun hHeld => ?_)
                          · exact bd1.out.alloc bd1.out.size _
                          clear hK K
                          (try simp only [Act.put, List.setIfInBounds_toArray, List.set_cons_zero, List.set_cons_succ])
                          have bd2 := Lib.hid (below_is hHeld)
                          have es1 := bd1.out.size
                          have k2 : Hid (Slot _ _ 34 6) := Lib.hid (slot_new hHeld rfl)
                          have q2 := Lib.hid (slot_more hHeld q1.out)
                          generalize V1.alloc _ = V2 at *
                          have ls1 := k2.out.lt
                          refine wpAnyH_ready (rs := [6]) (by decide +kernel) (by simp) ?_
                          refine AllReadyH.cons (o := ⟨some 101, _, _, _, _, _⟩) rfl (fun K hK => ?_) AllReadyH.nil
                          · as_aux_lemma =>
                              go_simp
                              (with_reducible refine (HTl.out _ (hwW.trans (bd2.out.mono hwB))).mono ?_)
                              rintro e v1 ⟨rfl, hb⟩
                              have bd3 := Lib.hid (bd2.out.trans (hb.mono bd2.out.size))
                              have q3 := Lib.hid (slot_on q2.out hb)
                              have k3 := Lib.hid (slot_on k2.out hb)
                              have hs3 := hb.size
                              clear hb
                              go_wp2_with fail
                              refine hK.out _ _ ?_ (fun hHeld => ?_)
                              · exact bd3.out
                              clear hK K
                              (try simp only [Act.put, List.setIfInBounds_toArray, List.set_cons_zero, List.set_cons_succ])
                              refine wpAnyH_take (i := 7) (oi := ⟨some 94, _, _, _, _, _⟩) (v := ?_) rfl (by kernel_rfl) (by kernel_rfl) (by kernel_rfl) (fun _ _ _ h => h) (Or.inl ⟨by rfl, ?_⟩) (by assumption) ?_
                              rotate_left
                              · (intro u hu; (try dsimp only at hu); go_simp; (try with_reducible rfl))
                              (try simp only [Act.put, List.setIfInBounds_toArray, List.set_cons_zero, List.set_cons_succ])
                              refine wpAnyH_take (i := 8) (oi := ⟨some 102, _, _, _, _, _⟩) (v := ?_) rfl (by kernel_rfl) (by kernel_rfl) (by kernel_rfl) (fun _ _ _ h => h) (Or.inl ⟨by rfl, ?_⟩) (by assumption) ?_
                              rotate_left
                              · (intro u hu; (try dsimp only at hu); go_simp; (try with_reducible rfl))
                              (try simp only [Act.put, List.setIfInBounds_toArray, List.set_cons_zero, List.set_cons_succ])
                              refine wpAnyH_take (i := 9) (oi := ⟨some 103, _, _, _, _, _⟩) (v := ?_) rfl (by kernel_rfl) (by kernel_rfl) (by kernel_rfl) (fun _ _ _ h => h) (Or.inl ⟨by rfl, ?_⟩) (by assumption) ?_
                              rotate_left
                              · (intro u hu; (try dsimp only at hu); go_simp; (try with_reducible rfl))
                              (try simp only [Act.put, List.setIfInBounds_toArray, List.set_cons_zero, List.set_cons_succ])
                              refine wpAnyH_take (i := 10) (oi := ⟨some 104, _, _, _, _, _⟩) (v := ?_) rfl (by kernel_rfl) (by kernel_rfl) (by kernel_rfl) (fun _ _ _ h => h) (Or.inl ⟨by rfl, ?_⟩) (by assumption) ?_
                              rotate_left
                              · (intro u hu; (try dsimp only at hu); go_simp; (try with_reducible rfl))
                              (try simp only [Act.put, List.setIfInBounds_toArray, List.set_cons_zero, List.set_cons_succ])
                              refine wpAnyH_ready (rs := [13]) (by decide +kernel) (by simp) ?_
                              refine AllReadyH.cons (o := ⟨none, _, _, _, _, _⟩) rfl (fun K hK => ?_) AllReadyH.nil
                              rw [if_pos (by rfl)]
                              have BE := row_end bd3.out (show wc.heap.size ≤ V0.heap.size by omega) (y).arr
                              have BF := row_end BE (show wc.heap.size ≤ V1.heap.size by omega) (C).arr
                              obtain ⟨cs, hcs, hsz⟩ := q3.out
                              refine oper_store_row 26 _ _ rfl (V0.heap.size) 26 cs (y).arr rfl rfl hcs (sizeG _) hsz (oneG _) ?_
                              refine hK.out _ _ ?_ (fun hHeld => ?_)
                              · exact BE
                              clear hK K hcs hsz
                              (try simp only [Act.put])
                              refine wpAnyH_ready (rs := [14]) (by decide +kernel) (by simp) ?_
                              refine AllReadyH.cons (o := ⟨none, _, _, _, _, _⟩) rfl (fun K hK => ?_) AllReadyH.nil
                              rw [if_pos (by rfl)]
                              have hk2 := slot_rowfar k3.out (show V1.heap.size ≠ V0.heap.size by omega) (y).arr
                              obtain ⟨cs, hcs, hsz⟩ := hk2
                              refine oper_store_row 34 _ _ rfl (V1.heap.size) 34 cs (C).arr rfl rfl hcs (sizeC _) hsz (oneC _) ?_
                              refine hK.out _ _ ?_ (fun hHeld => ?_)
                              · exact BF
                              clear hK K hcs hsz
                              (try simp only [Act.put])
                              refine wpAnyH_take (i := 15) (oi := ⟨some 19, _, _, _, _, _⟩) (v := ?_) rfl (by kernel_rfl) (by kernel_rfl) (by kernel_rfl) (fun _ _ _ h => h) (Or.inl ⟨by rfl, ?_⟩) (by assumption) ?_
                              rotate_left
                              · (intro u hu; (try dsimp only at hu); go_simp; (try with_reducible rfl))
                              (try simp only [Act.put, List.setIfInBounds_toArray, List.set_cons_zero, List.set_cons_succ])
                              refine wpAnyH_done (by kernel_rfl) ?_ _
                              go_wp2
                              go_meet
                              exact ⟨_, _, rfl, rfl, rfl, Lib.hid ⟨H7.out.on BF, ⟨H8.out.1.below BF H8.out.1.lt, H8.out.2.below BF H8.out.2.lt⟩, box_far (q3.out.row _) (show V0.heap.size ≠ V1.heap.size by omega) _, (slot_rowfar k3.out (show V1.heap.size ≠ V0.heap.size by omega) _).row _, by omega⟩⟩
                  · as_aux_lemma =>
                      go_simp
                      refine hK.out _ _ ?_ (fun hHeld => ?_)
                      · exact bd0.out.alloc bd0.out.size _
                      clear hK K
                      (try simp only [Act.put, List.setIfInBounds_toArray, List.set_cons_zero, List.set_cons_succ])
                      have bd1 := Lib.hid (below_is hHeld)
                      have es0 := bd0.out.size
                      have k1 : Hid (Slot _ _ 34 6) := Lib.hid (slot_new hHeld rfl)
                      generalize V0.alloc _ = V1 at *
                      have ls0 := k1.out.lt
                      refine wpAnyH_ready (rs := [6, 11]) (by decide +kernel) (by simp) ?_
                      refine AllReadyH.cons (o := ⟨some 101, _, _, _, _, _⟩) rfl (fun K hK => ?_) (AllReadyH.cons (o := ⟨some 17, _, _, _, _, _⟩) rfl (fun K hK => ?_) AllReadyH.nil)
                      · as_aux_lemma =>
                          go_simp
                          (with_reducible refine (HTl.out _ (hwW.trans (bd1.out.mono hwB))).mono ?_)
                          rintro e v1 ⟨rfl, hb⟩
                          have bd2 := Lib.hid (bd1.out.trans (hb.mono bd1.out.size))
                          have k2 := Lib.hid (slot_on k1.out hb)
                          have hs2 := hb.size
                          clear hb
                          go_wp2_with fail
                          refine hK.out _ _ ?_ (fun hHeld => ?_)
                          · exact bd2.out
                          clear hK K
                          (try simp only [Act.put, List.setIfInBounds_toArray, List.set_cons_zero, List.set_cons_succ])
                          refine wpAnyH_take (i := 7) (oi := ⟨some 94, _, _, _, _, _⟩) (v := ?_) rfl (by kernel_rfl) (by kernel_rfl) (by kernel_rfl) (fun _ _ _ h => h) (Or.inl ⟨by rfl, ?_⟩) (by assumption) ?_
                          rotate_left
                          · (intro u hu; (try dsimp only at hu); go_simp; (try with_reducible rfl))
                          (try simp only [Act.put, List.setIfInBounds_toArray, List.set_cons_zero, List.set_cons_succ])
                          refine wpAnyH_take (i := 8) (oi := ⟨some 102, _, _, _, _, _⟩) (v := ?_) rfl (by kernel_rfl) (by kernel_rfl) (by kernel_rfl) (fun _ _ _ h => h) (Or.inl ⟨by rfl, ?_⟩) (by assumption) ?_
                          rotate_left
                          · (intro u hu; (try dsimp only at hu); go_simp; (try with_reducible rfl))
                          (try simp only [Act.put, List.setIfInBounds_toArray, List.set_cons_zero, List.set_cons_succ])
                          refine wpAnyH_take (i := 9) (oi := ⟨some 103, _, _, _, _, _⟩) (v := ?_) rfl (by kernel_rfl) (by kernel_rfl) (by kernel_rfl) (fun _ _ _ h => h) (Or.inl ⟨by rfl, ?_⟩) (by assumption) ?_
                          rotate_left
                          · (intro u hu; (try dsimp only at hu); go_simp; (try with_reducible rfl))
                          (try simp only [Act.put, List.setIfInBounds_toArray, List.set_cons_zero, List.set_cons_succ])
                          refine wpAnyH_take (i := 10) (oi := ⟨some 104, _, _, _, _, _⟩) (v := ?_) rfl (by kernel_rfl) (by kernel_rfl) (by kernel_rfl) (fun _ _ _ h => h) (Or.inl ⟨by rfl, ?_⟩) (by assumption) ?_
                          rotate_left
                          · (intro u hu; (try dsimp only at hu); go_simp; (try with_reducible rfl))
                          (try simp only [Act.put, List.setIfInBounds_toArray, List.set_cons_zero, List.set_cons_succ])
                          refine wpAnyH_ready (rs := [11]) (by decide +kernel) (by simp) ?_
                          refine AllReadyH.cons (o := ⟨some 17, _, _, _, _, _⟩) rfl (fun K hK => ?_) AllReadyH.nil
                          · as_aux_lemma =>
                              go_simp
                              refine hK.out _ _ ?_ (fun hHeld => ?_)
                              · exact bd2.out.alloc bd2.out.size _
                              clear hK K
                              (try simp only [Act.put, List.setIfInBounds_toArray, List.set_cons_zero, List.set_cons_succ])
                              have bd3 := Lib.hid (below_is hHeld)
                              have es2 := bd2.out.size
                              have q3 : Hid (Slot _ _ 26 9) := Lib.hid (slot_new hHeld rfl)
                              have k3 := Lib.hid (slot_more hHeld k2.out)
                              generalize v1.alloc _ = V3 at *
                              have ls2 := q3.out.lt
                              refine wpAnyH_ready (rs := [13]) (by decide +kernel) (by simp) ?_
                              refine AllReadyH.cons (o := ⟨none, _, _, _, _, _⟩) rfl (fun K hK => ?_) AllReadyH.nil
                              rw [if_pos (by rfl)]
                              have BE := row_end bd3.out (show wc.heap.size ≤ v1.heap.size by omega) (y).arr
                              have BF := row_end BE (show wc.heap.size ≤ V0.heap.size by omega) (C).arr
                              obtain ⟨cs, hcs, hsz⟩ := q3.out
                              refine oper_store_row 26 _ _ rfl (v1.heap.size) 26 cs (y).arr rfl rfl hcs (sizeG _) hsz (oneG _) ?_
                              refine hK.out _ _ ?_ (fun hHeld => ?_)
                              · exact BE
                              clear hK K hcs hsz
                              (try simp only [Act.put])
                              refine wpAnyH_ready (rs := [14]) (by decide +kernel) (by simp) ?_
                              refine AllReadyH.cons (o := ⟨none, _, _, _, _, _⟩) rfl (fun K hK => ?_) AllReadyH.nil
                              rw [if_pos (by rfl)]
                              have hk2 := slot_rowfar k3.out (show V0.heap.size ≠ v1.heap.size by omega) (y).arr
                              obtain ⟨cs, hcs, hsz⟩ := hk2
                              refine oper_store_row 34 _ _ rfl (V0.heap.size) 34 cs (C).arr rfl rfl hcs (sizeC _) hsz (oneC _) ?_
                              refine hK.out _ _ ?_ (fun hHeld => ?_)
                              · exact BF
                              clear hK K hcs hsz
                              (try simp only [Act.put])
                              refine wpAnyH_take (i := 15) (oi := ⟨some 19, _, _, _, _, _⟩) (v := ?_) rfl (by kernel_rfl) (by kernel_rfl) (by kernel_rfl) (fun _ _ _ h => h) (Or.inl ⟨by rfl, ?_⟩) (by assumption) ?_
                              rotate_left
                              · (intro u hu; (try dsimp only at hu); go_simp; (try with_reducible rfl))
                              (try simp only [Act.put, List.setIfInBounds_toArray, List.set_cons_zero, List.set_cons_succ])
                              refine wpAnyH_done (by kernel_rfl) ?_ _
                              go_wp2
                              go_meet
                              exact ⟨_, _, rfl, rfl, rfl, Lib.hid ⟨H7.out.on BF, ⟨H8.out.1.below BF H8.out.1.lt, H8.out.2.below BF H8.out.2.lt⟩, box_far (q3.out.row _) (show v1.heap.size ≠ V0.heap.size by omega) _, (slot_rowfar k3.out (show V0.heap.size ≠ v1.heap.size by omega) _).row _, by omega⟩⟩
                      · as_aux_lemma =>
                          go_simp
                          refine hK.out _ _ ?_ (fun hHeld => ?_)
                          · exact bd1.out.alloc bd1.out.size _
                          clear hK K
                          (try simp only [Act.put, List.setIfInBounds_toArray, List.set_cons_zero, List.set_cons_succ])
                          have bd2 := Lib.hid (below_is hHeld)
                          have es1 := bd1.out.size
                          have q2 : Hid (Slot _ _ 26 9) := Lib.hid (slot_new hHeld rfl)
                          have k2 := Lib.hid (slot_more hHeld k1.out)
                          generalize V1.alloc _ = V2 at *
                          have ls1 := q2.out.lt
                          refine wpAnyH_ready (rs := [6]) (by decide +kernel) (by simp) ?_
                          refine AllReadyH.cons (o := ⟨some 101, _, _, _, _, _⟩) rfl (fun K hK => ?_) AllReadyH.nil
                          · as_aux_lemma =>
                              go_simp
                              (with_reducible refine (HTl.out _ (hwW.trans (bd2.out.mono hwB))).mono ?_)
                              rintro e v1 ⟨rfl, hb⟩
                              have bd3 := Lib.hid (bd2.out.trans (hb.mono bd2.out.size))
                              have q3 := Lib.hid (slot_on q2.out hb)
                              have k3 := Lib.hid (slot_on k2.out hb)
                              have hs3 := hb.size
                              clear hb
                              go_wp2_with fail
                              refine hK.out _ _ ?_ (fun hHeld => ?_)
                              · exact bd3.out
                              clear hK K
                              (try simp only [Act.put, List.setIfInBounds_toArray, List.set_cons_zero, List.set_cons_succ])
                              refine wpAnyH_take (i := 7) (oi := ⟨some 94, _, _, _, _, _⟩) (v := ?_) rfl (by kernel_rfl) (by kernel_rfl) (by kernel_rfl) (fun _ _ _ h => h) (Or.inl ⟨by rfl, ?_⟩) (by assumption) ?_
                              rotate_left
                              · (intro u hu; (try dsimp only at hu); go_simp; (try with_reducible rfl))
                              (try simp only [Act.put, List.setIfInBounds_toArray, List.set_cons_zero, List.set_cons_succ])
                              refine wpAnyH_take (i := 8) (oi := ⟨some 102, _, _, _, _, _⟩) (v := ?_) rfl (by kernel_rfl) (by kernel_rfl) (by kernel_rfl) (fun _ _ _ h => h) (Or.inl ⟨by rfl, ?_⟩) (by assumption) ?_
                              rotate_left
                              · (intro u hu; (try dsimp only at hu); go_simp; (try with_reducible rfl))
                              (try simp only [Act.put, List.setIfInBounds_toArray, List.set_cons_zero, List.set_cons_succ])
                              refine wpAnyH_take (i := 9) (oi := ⟨some 103, _, _, _, _, _⟩) (v := ?_) rfl (by kernel_rfl) (by kernel_rfl) (by kernel_rfl) (fun _ _ _ h => h) (Or.inl ⟨by rfl, ?_⟩) (by assumption) ?_
                              rotate_left
                              · (intro u hu; (try dsimp only at hu); go_simp; (try with_reducible rfl))
                              (try simp only [Act.put, List.setIfInBounds_toArray, List.set_cons_zero, List.set_cons_succ])
                              refine wpAnyH_take (i := 10) (oi := ⟨some 104, _, _, _, _, _⟩) (v := ?_) rfl (by kernel_rfl) (by kernel_rfl) (by kernel_rfl) (fun _ _ _ h => h) (Or.inl ⟨by rfl, ?_⟩) (by assumption) ?_
                              rotate_left
                              · (intro u hu; (try dsimp only at hu); go_simp; (try with_reducible rfl))
                              (try simp only [Act.put, List.setIfInBounds_toArray, List.set_cons_zero, List.set_cons_succ])
                              refine wpAnyH_ready (rs := [13]) (by decide +kernel) (by simp) ?_
                              refine AllReadyH.cons (o := ⟨none, _, _, _, _, _⟩) rfl (fun K hK => ?_) AllReadyH.nil
                              rw [if_pos (by rfl)]
                              have BE := row_end bd3.out (show wc.heap.size ≤ V1.heap.size by omega) (y).arr
                              have BF := row_end BE (show wc.heap.size ≤ V0.heap.size by omega) (C).arr
                              obtain ⟨cs, hcs, hsz⟩ := q3.out
                              refine oper_store_row 26 _ _ rfl (V1.heap.size) 26 cs (y).arr rfl rfl hcs (sizeG _) hsz (oneG _) ?_
                              refine hK.out _ _ ?_ (fun hHeld => ?_)
                              · exact BE
                              clear hK K hcs hsz
                              (try simp only [Act.put])
                              refine wpAnyH_ready (rs := [14]) (by decide +kernel) (by simp) ?_
                              refine AllReadyH.cons (o := ⟨none, _, _, _, _, _⟩) rfl (fun K hK => ?_) AllReadyH.nil
                              rw [if_pos (by rfl)]
                              have hk2 := slot_rowfar k3.out (show V0.heap.size ≠ V1.heap.size by omega) (y).arr
                              obtain ⟨cs, hcs, hsz⟩ := hk2
                              refine oper_store_row 34 _ _ rfl (V0.heap.size) 34 cs (C).arr rfl rfl hcs (sizeC _) hsz (oneC _) ?_
                              refine hK.out _ _ ?_ (fun hHeld => ?_)
                              · exact BF
                              clear hK K hcs hsz
                              (try simp only [Act.put])
                              refine wpAnyH_take (i := 15) (oi := ⟨some 19, _, _, _, _, _⟩) (v := ?_) rfl (by kernel_rfl) (by kernel_rfl) (by kernel_rfl) (fun _ _ _ h => h) (Or.inl ⟨by rfl, ?_⟩) (by assumption) ?_
                              rotate_left
                              · (intro u hu; (try dsimp only at hu); go_simp; (try with_reducible rfl))
                              (try simp only [Act.put, List.setIfInBounds_toArray, List.set_cons_zero, List.set_cons_succ])
                              refine wpAnyH_done (by kernel_rfl) ?_ _
                              go_wp2
                              go_meet
                              exact ⟨_, _, rfl, rfl, rfl, Lib.hid ⟨H7.out.on BF, ⟨H8.out.1.below BF H8.out.1.lt, H8.out.2.below BF H8.out.2.lt⟩, box_far (q3.out.row _) (show V1.heap.size ≠ V0.heap.size by omega) _, (slot_rowfar k3.out (show V0.heap.size ≠ V1.heap.size by omega) _).row _, by omega⟩⟩
                case rest =>
                  obtain ⟨ht, hc, rfl, rfl, rfl, HS⟩ := hcut
                  obtain ⟨h1, h2, h3, h4⟩ := HS.out
                  have H9 := Lib.hid h1
                  have HB1 := Lib.hid h2.1
                  have HB2 := Lib.hid h2.2
                  have HB3 := Lib.hid h3
                  have HB4 := Lib.hid h4.1
                  have hgt : g < gt ∧ g2 < gt ∧ g < ht ∧ g2 < ht := by have := h4.2; omega
                  clear h1 h2 h3 h4 HS hwW hwB hgl hxl hwl H7 H8 HTl hg1 hg2
                  obtain ⟨d0, d1, d2⟩ := H9.out.aw.cd
                  obtain ⟨x0, x1, x2, x3, x4, x5, x6, x7, x8⟩ := H9.out.aw.cs
                  obtain ⟨p0, p1, p2, p3, p4, p5, p6, p7, p8⟩ := sgcells HB1.out
                  obtain ⟨q0, q1, q2, q3, q4, q5⟩ := cmcells HB2.out
                  obtain ⟨r0, r1, r2, r3, r4, r5, r6, r7, r8⟩ := sgcells HB3.out
                  obtain ⟨v0, v1, v2, v3, v4, v5⟩ := cmcells HB4.out
                  have gd := guard_saga
                  have gc := guard_cmd
                  have ns := neq_is (y := y) (x := y) (b := false) (by rw [eqG_self]; rfl)
                  have nc := neqC_is C
                  have ne : (er != er) = false := by simp
                  by_cases h0 : er = 0
                  · have n0 : (er != 0) = false := by simp [h0]
                    clear h0 HEr
                    go_wp2_with (first
                      | (go_at_call 9; (with_reducible refine (HGy.out _ H9.out.aw.bel).mono ?_); rintro e v9 ⟨rfl, hb⟩; have H10 := Lib.hid (H9.out.on hb); have HT1 := Lib.hid (HB1.out.below hb HB1.out.lt); have HT2 := Lib.hid (HB3.out.below hb HB3.out.lt); clear hb; obtain ⟨d0, d1, d2⟩ := H10.out.aw.cd; obtain ⟨x0, x1, x2, x3, x4, x5, x6, x7, x8⟩ := H10.out.aw.cs; obtain ⟨p0, p1, p2, p3, p4, p5, p6, p7, p8⟩ := sgcells HT1.out; obtain ⟨r0, r1, r2, r3, r4, r5, r6, r7, r8⟩ := sgcells HT2.out)
                      | (obtain ⟨cs, hcs, hsz⟩ := (Box.slot H10.out.aw.s rfl : Slot _ _ _ 9); refine wpList_store_row rfl 26 _ _ rfl (g) 26 cs (y).arr rfl rfl hcs (sizeG _) hsz (oneG _) ?_; obtain ⟨r0, r1, r2, r3, r4, r5, r6, r7, r8⟩ := sgcells (box_far HT2.out (g' := g) (by omega) y.arr))
                      | (obtain ⟨cs, hcs, hsz⟩ := (Box.slot (box_far H10.out.x H10.out.ne.1 y.arr) rfl : Slot _ _ _ 9); refine wpList_store_row rfl 26 _ _ rfl (g2) 26 cs (y).arr rfl rfl hcs (sizeG _) hsz (oneG _) ?_))
                    (try simp only [Act.put])
                    go_roundw
                    case rel => exact ⟨k + 1, y, by go_num, by omega, Lib.hid (H10.out.both y), HXn⟩
                    case measure => simp only [intOf]; omega
                  · have n0 : (er != 0) = true := by simp [h0]
                    have nx := neq_is (y := y) (x := x) (b := false) (by rw [HEr.out h0, eqG_self]; rfl)
                    clear h0 HEr
                    go_wp2_with (first
                      | (go_at_call 9; (with_reducible refine (HGy.out _ H9.out.aw.bel).mono ?_); rintro e v9 ⟨rfl, hb⟩; have H10 := Lib.hid (H9.out.on hb); have HT1 := Lib.hid (HB1.out.below hb HB1.out.lt); have HT2 := Lib.hid (HB3.out.below hb HB3.out.lt); clear hb; obtain ⟨d0, d1, d2⟩ := H10.out.aw.cd; obtain ⟨x0, x1, x2, x3, x4, x5, x6, x7, x8⟩ := H10.out.aw.cs; obtain ⟨p0, p1, p2, p3, p4, p5, p6, p7, p8⟩ := sgcells HT1.out; obtain ⟨r0, r1, r2, r3, r4, r5, r6, r7, r8⟩ := sgcells HT2.out)
                      | (obtain ⟨cs, hcs, hsz⟩ := (Box.slot H10.out.aw.s rfl : Slot _ _ _ 9); refine wpList_store_row rfl 26 _ _ rfl (g) 26 cs (y).arr rfl rfl hcs (sizeG _) hsz (oneG _) ?_; obtain ⟨r0, r1, r2, r3, r4, r5, r6, r7, r8⟩ := sgcells (box_far HT2.out (g' := g) (by omega) y.arr))
                      | (obtain ⟨cs, hcs, hsz⟩ := (Box.slot (box_far H10.out.x H10.out.ne.1 y.arr) rfl : Slot _ _ _ 9); refine wpList_store_row rfl 26 _ _ rfl (g2) 26 cs (y).arr rfl rfl hcs (sizeG _) hsz (oneG _) ?_))
                    (try simp only [Act.put])
                    go_roundw
                    case rel => exact ⟨k + 1, y, by go_num, by omega, Lib.hid (H10.out.both y), HXn⟩
                    case measure => simp only [intOf]; omega
            · have hkm' : k = m := by omega
              have HW' := Lib.hid HW.out.aw.bel
              clear HW HX hk hkm
              go_wp2
              go_ret
              exact ⟨rfl, HW'.out⟩
        · have t3 : decide (id < 0) = true := decide_eq_true (by omega)
          clear hT hnz hl hc hf he hck hC1 hC0 hr hq hn hi
          go_enter Tryz.func4, Tryz.ntmps4
          go_wp2_with (first
            | (go_at_call 5; (with_reducible refine (HA.out _ (al1 w _)).mono ?_); rintro e w1 ⟨rfl, hb⟩; have H1 := Lib.hid (ld_start hb); clear hb; obtain ⟨d0, d1, d2⟩ := H1.out.cd)
            | (go_at_call 15; (with_reducible refine (HC.out _ H1.out.b).mono ?_); rintro e w2 ⟨k, rfl, hb⟩; have H2 := Lib.hid (H1.out.on hb); clear hb; obtain ⟨d0, d1, d2⟩ := H2.out.cd)
            | (go_at_call 6; (with_reducible refine (HSm.out _ H2.out.b).mono ?_); rintro e w3 ⟨rfl, hb⟩; have H3 := Lib.hid (H2.out.on hb); clear hb; obtain ⟨d0, d1, d2⟩ := H3.out.cd))
          go_ret
          exact ⟨rfl, H3.out.b⟩
      · have t1 : decide ((60 : Int) < (m : Int)) = true := decide_eq_true (by omega)
        have t2 : decide (60 < m) = true := decide_eq_true (by omega)
        clear hT hnz hl hc hf he hck hC1 hC0 hr hq hn
        go_enter Tryz.func4, Tryz.ntmps4
        go_wp2_with (first
          | (go_at_call 5; (with_reducible refine (HA.out _ (al1 w _)).mono ?_); rintro e w1 ⟨rfl, hb⟩; have H1 := Lib.hid (ld_start hb); clear hb; obtain ⟨d0, d1, d2⟩ := H1.out.cd)
          | (go_at_call 15; (with_reducible refine (HC.out _ H1.out.b).mono ?_); rintro e w2 ⟨k, rfl, hb⟩; have H2 := Lib.hid (H1.out.on hb); clear hb; obtain ⟨d0, d1, d2⟩ := H2.out.cd)
          | (go_at_call 6; (with_reducible refine (HSm.out _ H2.out.b).mono ?_); rintro e w3 ⟨rfl, hb⟩; have H3 := Lib.hid (H2.out.on hb); clear hb; obtain ⟨d0, d1, d2⟩ := H3.out.cd))
        go_ret
        exact ⟨rfl, H3.out.b⟩
    · have g0 : (smallI nm ss != 0) = true := by simpa using hq
      clear hT hnz hl hc hf he hck hC1 hC0 hr hq hn
      go_enter Tryz.func4, Tryz.ntmps4
      go_wp2_with (first
        | (go_at_call 5; (with_reducible refine (HA.out _ (al1 w _)).mono ?_); rintro e w1 ⟨rfl, hb⟩; have H1 := Lib.hid (ld_start hb); clear hb; obtain ⟨d0, d1, d2⟩ := H1.out.cd)
        | (go_at_call 15; (with_reducible refine (HC.out _ H1.out.b).mono ?_); rintro e w2 ⟨k, rfl, hb⟩; have H2 := Lib.hid (H1.out.on hb); clear hb; obtain ⟨d0, d1, d2⟩ := H2.out.cd)
        | (go_at_call 6; (with_reducible refine (HSm.out _ H2.out.b).mono ?_); rintro e w3 ⟨rfl, hb⟩; have H3 := Lib.hid (H2.out.on hb); clear hb; obtain ⟨d0, d1, d2⟩ := H3.out.cd))
      go_ret
      exact ⟨rfl, H3.out.b⟩
  · have HC := Lib.hid (hC0 hr)
    clear hT hnz hl hc hf he hck hC1 hC0 hr hn
    generalize smallI nm ss = q at *
    go_enter Tryz.func4, Tryz.ntmps4
    go_wp2_with (first
      | (go_at_call 5; (with_reducible refine (HA.out _ (al1 w _)).mono ?_); rintro e w1 ⟨rfl, hb⟩; have H1 := Lib.hid (ld_start hb); clear hb; obtain ⟨d0, d1, d2⟩ := H1.out.cd)
      | (go_at_call 15; (with_reducible refine (HC.out _ H1.out.b).mono ?_); rintro e w2 ⟨k, ev, rfl, hev, hb⟩; have H2 := Lib.hid (H1.out.on hb); clear hb; obtain ⟨d0, d1, d2⟩ := H2.out.cd)
      | (go_at_call 6; (with_reducible refine (HSm.out _ H2.out.b).mono ?_); rintro e w3 ⟨rfl, hb⟩; have H3 := Lib.hid (H2.out.on hb); clear hb; obtain ⟨d0, d1, d2⟩ := H3.out.cd))
    all_goals
      go_ret
      exact ⟨rfl, H3.out.b⟩

theorem tab_of_laid {W : World} (h : laidMetH Tryz.prog Rows.sagaPlaysRow.laid W) : Tab W := by
  rw [MakeChecks.laidMetH_plain _ _ _ (by kernel_rfl)] at h
  have h2 := laidMet.tail (laidMet.tail h)
  have e : (Rows.laid_internal_strconv_uint64pow10 : DataW Unit) = Lib.tabData .u64 Lib.pow10Tab := by kernel_rfl
  rw [show (Rows.laid_internal_strconv_uint64pow10 : DataW Unit) = Lib.tabData .u64 Lib.pow10Tab from e] at h2
  exact Lib.tabIs_of_head (g := 1) (t := 117) (e := 111) (n := 20) (by kernel_rfl) (by kernel_rfl) Tryz.underlying117 Tryz.underlying111 (by kernel_rfl) (by kernel_rfl) h2
set_option maxRecDepth 100000 in
theorem lifted (os : Os) (started : os.Started) (H : Type) (enc : TypeId × Value → H) :
    ReturnsInHanded {} Tryz.checked os 4 .any (fun w args => (Rows.sagaPlaysSpec.pre enc Tryz.prog Tryz.f4 Rows.sagaPlaysRow.domain false w args ∧ laidMetH Tryz.prog Rows.sagaPlaysRow.laid w) ∧ sizedMet enc Tryz.prog Tryz.f4 (OpenSpec.ofChange Rows.sagaPlaysSpec) false w args)
      (Rows.sagaPlaysSpec.post enc Tryz.prog Tryz.f4 false true false false) := by
  refine returns_both (C := Tryz.checked) (X := fun w _ => laidMetH Tryz.prog Rows.sagaPlaysRow.laid w) (fun _ _ _ hh h => h.of_heap hh) own started (by kernel_rfl) Tryz.func4
    (ChangeSpec.witness_shaped (enc := enc) (C := Tryz.checked) (os := os) (X := fun w _ => laidMetH Tryz.prog Rows.sagaPlaysRow.laid w) false (World.laidAll Tryz.prog os Rows.sagaPlaysRow.laid) #[.agg #[.string ⟨#[]⟩, .int .i64 0, .slice none 0 0], .int .i64 0, .int .i64 0, .slice none 0 0] 8 (World.laidAll_os _ _ _)
      (World.shaped_of_ZipB (by kernel_rfl) (by kernel_rfl)) (by kernel_rfl) (by kernel_rfl) (by kernel_rfl)
      (by rw [MakeChecks.laidMetH_plain _ _ _ (by kernel_rfl)]; exact laidMet_laidAll _ (by kernel_rfl) (by kernel_rfl))) ?_
  intro W base args ds gs before hval0 hW hreach0 hlaid _
  have hT : Tab W := tab_of_laid hlaid
  have hval : ∀ (j : Nat) t v, Tryz.f4.params[j]? = some t → args[j]? = some v → Value.okWide Tryz.prog W .any base t v := hval0
  have hW' := hW
  obtain ⟨p, q, hA0, hV, rfl, _, _⟩ := hW
  have hreach : (DataW.weightsEach Tryz.prog (Tryz.f4.params.toList ++ Rows.sagaPlaysSpec.plain.varTypes Tryz.prog) (ds ++ gs)).all (· ≤ reachBytes) = true := hreach0
  have hA : DataW.TrodAll enc Tryz.prog W 0 (fun _ => true) true Tryz.f4.params.toList args.toList ds p := hA0
  rw [Tryz.params4] at hA hval hreach
  obtain ⟨rfl, rfl⟩ := trodVars_none hV
  obtain ⟨v0, vs0, d0, ds0, p0, q0, hargs, rfl, rfl, h0, r0⟩ := trodAll_cons hA
  obtain ⟨v1, vs1, d1, ds1, p1, q1, rfl, rfl, rfl, h1, r1⟩ := trodAll_cons r0
  obtain ⟨v2, vs2, d2, ds2, p2, q2, rfl, rfl, rfl, h2, r2⟩ := trodAll_cons r1
  obtain ⟨v3, vs3, d3, ds3, p3, q3, rfl, rfl, rfl, h3, r3⟩ := trodAll_cons r2
  obtain ⟨rfl, rfl, rfl⟩ := trodAll_nil r3
  obtain rfl : args = #[v0, v1, v2, v3] := by cases args; simp_all
  obtain ⟨nm0, dl0, A0, c0, ss0, y0, z0, n0, cc0, f0, e0⟩ := arg_dn (hval 0 24 v0 rfl rfl) h0 (fun m hm => by have := List.all_eq_true.1 hreach m (DataW.weights_mem_each (j := 0) rfl rfl m hm); simpa using this)
  subst y0
  obtain ⟨a1, rfl, rfl, rfl, w1⟩ := open_int Tryz.underlying3 (hval 1 3 v1 rfl rfl) h1
  obtain ⟨a2, rfl, rfl, rfl, w2⟩ := open_int Tryz.underlying3 (hval 2 3 v2 rfl rfl) h2
  obtain ⟨A3, c3, l3, y3, n3, cc3, e3⟩ := arg_acts (hval 3 44 v3 rfl rfl) h3
  subst y3
  clear hA0 hval0
  simp only [List.append_nil] at hW'
  have hlt0 : ∀ x ∈ p0, x.block < W.heap.size := fun x hx => by simpa using hW'.lt x (by simp [hx])
  have hlt3 : ∀ x ∈ p3, x.block < W.heap.size := fun x hx => by simpa using hW'.lt x (by simp [hx])
  refine (walk nm0 dl0 A0 c0 ss0 a1 a2 A3 c3 l3 W hT z0 n0 cc0 f0 e0 n3 e3 (by have := fits (lo := -9223372036854775808) (hi := 9223372036854775807) w1 rfl rfl; omega)).mono fun e W' ⟨he, bel⟩ => ?_
  subst he
  exact ⟨_, rfl, _, _, _, [], _, [], hW', trodAll_mk1 (shut_bool Tryz.underlying4 _), (trodAll_cons_mk (Below.trod laidOut (by kernel_rfl) (of_decide_eq_true (by kernel_rfl)) h0 bel hlt0) (trodAll_cons_mk (shut_int Tryz.underlying3 w1) (trodAll_cons_mk (shut_int Tryz.underlying3 w2) (trodAll_cons_mk (Below.trod laidOut (by kernel_rfl) (of_decide_eq_true (by kernel_rfl)) h3 bel hlt3) trodAll_mk0)))), rfl, bel.frame _, fun h => by cases h⟩

theorem over : Rows.sagaPlaysRow.holds Tryz.pinned (OpenSpec.ofChange Rows.sagaPlaysSpec) :=
  OpenClaim.holds_of_wide 4 Tryz.f4 rfl rfl rfl rfl rfl rfl rfl ⟨rfl, rfl, rfl, rfl, rfl⟩ rfl rfl rfl rfl rfl (by kernel_rfl) Tryz.func4 (by kernel_rfl)
    (of_decide_eq_true (by kernel_rfl)) (by unfold Func.isWrapper; first | (rw [if_pos (by decide +kernel)]; kernel_rfl) | (rw [if_neg (by decide +kernel)]; exact ⟨rfl, rfl⟩))
    (fun os started H enc _ => lifted os started H enc)

/-- the statement -/
theorem proved : Rows.SagaPlaysCardSaid :=
  Claim7.holds_tied_plain_at .later [] [.data, .data, .data] true Rows.sagaPlaysCard.stood.harness false over (fun _ h => by cases h) (by kernel_rfl) (fun _ h => by cases h) sagaPlays_row_tie rfl ⟨rfl, rfl⟩ (by kernel_rfl) rfl
    (fun f fn hf hfn => by
      obtain rfl : f = 4 := Option.some.inj ((show Tryz.prog.funcNamed Rows.sagaPlaysRow.func = some 4 by kernel_rfl).symm.trans hf) |>.symm
      obtain rfl : fn = Tryz.f4 := (Option.some.inj (Tryz.func4.symm.trans hfn)).symm
      exact ⟨by kernel_rfl, fun j t ht => by
        rw [Tryz.params4] at ht
        have hm : t ∈ [24, 3, 3, 44] := by simpa using Array.mem_of_getElem? ht
        have hall : ([24, 3, 3, 44].all fun u => !Tryz.prog.wantsStandIn u) = true := by kernel_rfl
        exact (show Tryz.prog.wantsStandIn t = false by simpa using List.all_eq_true.1 hall t hm)⟩)
    (by kernel_rfl)
#print axioms proved
end Go.Proofs.YtkmldgcnbjjbcaaGreatDoor.sagaPlays
