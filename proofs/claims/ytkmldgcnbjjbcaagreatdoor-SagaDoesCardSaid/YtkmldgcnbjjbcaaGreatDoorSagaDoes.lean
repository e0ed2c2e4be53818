/-
  The statement SagaDoesCardSaid: for every input the law function SagaDoes returns true (whatever is done with any saga of any definition, what comes of it, the command, and the error are as the document says), and the arguments read afterwards as before.
  Conditions: none beyond the statement's own (the listed tables of the library hold what its text lays).
-/
import Derived.Test.YtkmldgcnbjjbcaaGreatDoorSagLaw
import Derived.Test.YtkmldgcnbjjbcaaGreatDoorSagArgs
import Derived.Test.YtkmldgcnbjjbcaaGreatDoorSagTells
namespace Go.Proofs.YtkmldgcnbjjbcaaGreatDoor.Sa
open Go.RowKit Go.Sort
open Go.Proofs.YtkmldgcnbjjbcaaGreatDoor.El
open Go.Proofs.YtkmldgcnbjjbcaaGreatDoor.Bo (P Made ret_int ret_bool left wait)
open Go.Proofs.YtkmldgcnbjjbcaaGreatDoor.Df

section
variable (nm : ByteArray) (dl : Int) (A : Option Addr) (n c : Nat) (ss : List Stp) (s : Sg) (w : World) (hd : Dn w nm A n c ss) (now : Int)
include hd
set_option maxRecDepth 100000 in
set_option maxHeartbeats 2000000 in
theorem pmay_any (ht : s.tr ≤ 9223372036854775807) : Calls Tryz.prog 13 #[.agg #[.string nm, .int .i64 dl, .slice A n c], .agg #[.int .i64 s.id, .string s.dn, .int .i64 s.st, .int .i64 s.ph, .int .i64 s.sp, .int .i64 s.tr, .bool s.out, .int .i64 s.at_, .int .i64 s.sk], .int .i64 now] w fun e w' => e = .returned (.bool (mayB nm dl ss s now)) ∧ Below w.heap.size w w' := by
  have HG := Lib.hid (fun W (hW : Below w.heap.size w W) => refusal_any nm dl A n c ss s W (hd.on hW) now)
  have HB := Lib.hid (ed2 (w := w) (nm := nm) (dl := dl) (A := A) (n := n) (c := c) (s := s) (Below.refl _ _))
  unfold mayB
  by_cases h0 : refE nm dl ss s now = 0
  · have HM := Lib.hid (fun W (hW : Below w.heap.size w W) => may_any nm dl A n c ss s W (hd.on hW) now (refE_zero h0).1 ht)
    rw [h0] at HG ⊢
    rw [decide_eq_true rfl, Bool.true_and]
    clear hd h0 ht
    generalize mayC dl ss s now = m at *
    go_enter Tryz.func13, Tryz.ntmps13
    go_wp2_with (first
      | (go_at_call 35; (with_reducible refine (HG.out _ HB.out.b).mono ?_); rintro e w1 ⟨rfl, hm⟩; have H1 := Lib.hid (HB.out.on hm); clear hm; obtain ⟨d0, d1, d2⟩ := H1.out.cd; obtain ⟨c0, c1, c2, c3, c4, c5, c6, c7, c8⟩ := H1.out.cs)
      | (go_at_call 36; (with_reducible refine (HM.out _ H1.out.b).mono ?_); rintro e w2 ⟨rfl, hm⟩; have H2 := Lib.hid (H1.out.on hm); clear hm))
    go_ret
    exact ⟨rfl, H2.out.b⟩
  · have g0 : (refE nm dl ss s now == 0) = false := by simpa using h0
    rw [decide_eq_false h0, Bool.false_and]
    generalize refE nm dl ss s now = r at *
    clear hd h0 ht
    go_enter Tryz.func13, Tryz.ntmps13
    go_wp2_with (first
      | (go_at_call 35; (with_reducible refine (HG.out _ HB.out.b).mono ?_); rintro e w1 ⟨rfl, hm⟩; have H1 := Lib.hid (HB.out.on hm); clear hm; obtain ⟨d0, d1, d2⟩ := H1.out.cd; obtain ⟨c0, c1, c2, c3, c4, c5, c6, c7, c8⟩ := H1.out.cs))
    go_ret
    exact ⟨rfl, H1.out.b⟩
end
end Go.Proofs.YtkmldgcnbjjbcaaGreatDoor.Sa
namespace Go.Proofs.YtkmldgcnbjjbcaaGreatDoor.sagaDoes
open Go.Proofs.YtkmldgcnbjjbcaaGreatDoor.Sa Go.Proofs.YtkmldgcnbjjbcaaGreatDoor.Df Go.Proofs.YtkmldgcnbjjbcaaGreatDoor.El
open Go.Proofs.YtkmldgcnbjjbcaaGreatDoor.Bo (P Made ret_int ret_bool)
open Go.ChangeShapes Go.WideShapes Go.ChangeAt Go.RowKit Go.Sort
open Go.ChangeMaps (open_string shut_string)

/-- a law's own blocks: a definition, a saga, an act -/
structure Ea (w u : World) (nm : ByteArray) (dl : Int) (A : Option Addr) (n c : Nat) (s : Sg) (a : Ac) : Prop where
  e : Ed w u nm dl A n c s
  a : Box u (w.heap.size + 2) 30 a.arr
section
variable {w u u' : World} {nm : ByteArray} {dl : Int} {A : Option Addr} {n c : Nat} {s y : Sg} {a : Ac} {C : Cm}
theorem Ea.on (h : Ea w u nm dl A n c s a) (hb : Below u.heap.size u u') : Ea w u' nm dl A n c s a := ⟨h.e.on hb, h.a.below hb h.a.lt⟩
theorem ea3 (h : Below (((w.alloc (.cells #[.string nm, .int .i64 dl, .slice A n c] 24)).alloc (.cells #[.int .i64 s.id, .string s.dn, .int .i64 s.st, .int .i64 s.ph, .int .i64 s.sp, .int .i64 s.tr, .bool s.out, .int .i64 s.at_, .int .i64 s.sk] 26)).alloc (.cells #[.int .i64 a.k, .int .i64 a.now, .int .i64 a.r.sg, .int .i64 a.r.sp, .bool a.r.un, .int .i64 a.r.tr, .bool a.r.good] 30)).heap.size (((w.alloc (.cells #[.string nm, .int .i64 dl, .slice A n c] 24)).alloc (.cells #[.int .i64 s.id, .string s.dn, .int .i64 s.st, .int .i64 s.ph, .int .i64 s.sp, .int .i64 s.tr, .bool s.out, .int .i64 s.at_, .int .i64 s.sk] 26)).alloc (.cells #[.int .i64 a.k, .int .i64 a.now, .int .i64 a.r.sg, .int .i64 a.r.sp, .bool a.r.un, .int .i64 a.r.tr, .bool a.r.good] 30)) u) : Ea w u nm dl A n c s a :=
  Ea.on ⟨(ed2 (Below.refl _ _)).on (al1 _ _), box_new3 w _ _ 30 a.arr⟩ h
theorem Ea.ac (h : Ea w u nm dl A n c s a) : u.cell? ⟨w.heap.size + 2, 0, none⟩ = some (.int .i64 a.k) ∧ u.cell? ⟨w.heap.size + 2, 1, none⟩ = some (.int .i64 a.now) ∧ u.cell? ⟨w.heap.size + 2, 2, none⟩ = some (.int .i64 a.r.sg) ∧ u.cell? ⟨w.heap.size + 2, 3, none⟩ = some (.int .i64 a.r.sp) ∧ u.cell? ⟨w.heap.size + 2, 4, none⟩ = some (.bool a.r.un) ∧ u.cell? ⟨w.heap.size + 2, 5, none⟩ = some (.int .i64 a.r.tr) ∧ u.cell? ⟨w.heap.size + 2, 6, none⟩ = some (.bool a.r.good) :=
  ⟨h.a.cell 0, h.a.cell 1, h.a.cell 2, h.a.cell 3, h.a.cell 4, h.a.cell 5, h.a.cell 6⟩
end
theorem eql_is (y : Sg) (W : World) : (binOp .eql 26 (.agg #[.int .i64 y.id, .string y.dn, .int .i64 y.st, .int .i64 y.ph, .int .i64 y.sp, .int .i64 y.tr, .bool y.out, .int .i64 y.at_, .int .i64 y.sk]) (.agg #[.int .i64 y.id, .string y.dn, .int .i64 y.st, .int .i64 y.ph, .int .i64 y.sp, .int .i64 y.tr, .bool y.out, .int .i64 y.at_, .int .i64 y.sk])).run Tryz.prog W = .ok (.bool true) W := by
  have e := eql_saga y y W
  rw [eqG_self] at e
  exact e
theorem eqlC_is (C : Cm) (W : World) : (binOp .eql 34 (.agg #[.int .i64 C.sg, .int .i64 C.sp, .bool C.un, .int .i64 C.tr, .string C.pt, .string C.key]) (.agg #[.int .i64 C.sg, .int .i64 C.sp, .bool C.un, .int .i64 C.tr, .string C.pt, .string C.key])).run Tryz.prog W = .ok (.bool true) W := by
  have e := eql_cmd C C W
  rw [eqC_self] at e
  exact e
set_option maxHeartbeats 16000000 in
set_option maxRecDepth 100000 in
theorem walk (nm : ByteArray) (dl : Int) (A : Option Addr) (c : Nat) (ss : List Stp) (s : Sg) (a : Ac) (w : World) (hT : Tab w) (hl : ss.length ≤ 9223372036854775807) (hc : ss.length ≤ c) (hnz : nm.size ≤ 140737488355328) (hf : ∀ s ∈ ss, s.Fits ∧ Big s) (he : Df.Steps w w.heap.size A ss) (hs : s.Fits) :
    Calls Tryz.prog 3 #[.agg #[.string nm, .int .i64 dl, .slice A ss.length c], .agg #[.int .i64 s.id, .string s.dn, .int .i64 s.st, .int .i64 s.ph, .int .i64 s.sp, .int .i64 s.tr, .bool s.out, .int .i64 s.at_, .int .i64 s.sk], .agg #[.int .i64 a.k, .int .i64 a.now, .int .i64 a.r.sg, .int .i64 a.r.sp, .bool a.r.un, .int .i64 a.r.tr, .bool a.r.good]] w fun e w' => e = .returned (.bool true) ∧ Below w.heap.size w w' := by
  obtain ⟨n, hn⟩ : ∃ n, n = ss.length := ⟨_, rfl⟩
  rw [← hn] at hl hc ⊢
  have HA : Hid (∀ w', Below w.heap.size w w' → Calls Tryz.prog 5 #[] w' fun e w'' => e = .returned (.bool true) ∧ Below w'.heap.size w' w'') := Lib.hid fun w' h => awake_any w' (tab_below hT h)
  have HSm : Hid (∀ w', Below w.heap.size w w' → Calls Tryz.prog 6 #[.agg #[.string nm, .int .i64 dl, .slice A n c]] w' fun e w'' => e = .returned (.int .i64 (smallI nm ss)) ∧ Below w'.heap.size w' w'') := Lib.hid fun w' h => (small_any nm dl A c ss n w' hn hl (by omega) (fun s hs => (hf s hs).1) (he.on h)).mono fun e w'' ⟨h1, h2⟩ => ⟨h1, h2.below⟩
  have hm3 : Below w.heap.size w (((w.alloc (.cells #[.string nm, .int .i64 dl, .slice A n c] 24)).alloc (.cells #[.int .i64 s.id, .string s.dn, .int .i64 s.st, .int .i64 s.ph, .int .i64 s.sp, .int .i64 s.tr, .bool s.out, .int .i64 s.at_, .int .i64 s.sk] 26)).alloc (.cells #[.int .i64 a.k, .int .i64 a.now, .int .i64 a.r.sg, .int .i64 a.r.sp, .bool a.r.un, .int .i64 a.r.tr, .bool a.r.good] 30)) := b3 w _ _ _
  have HM3 := Lib.hid hm3
  clear hm3
  have hdz := hs.2
  by_cases hq : smallI nm ss = 0
  · rw [hq] at HSm
    by_cases h100 : s.dn.size ≤ 100
    · have t1 : decide ((100 : Int) < (s.dn.size : Int)) = false := decide_eq_false (by omega)
      have t2 : decide (100 < s.dn.size) = false := decide_eq_false (by omega)
      obtain ⟨s40, snm, sst⟩ := small_yes hq
      have hd : Dn w nm A n c ss := ⟨hn, by omega, hc, he, by omega, fun s hs => by have := sst s hs; omega, hT⟩
      have HD := Lib.hid (fun W (hW : Below w.heap.size w W) => do_any nm dl A n c ss s a W (hd.on hW) hs.1.2 hs.1.1)
      have HTl := Lib.hid (fun W (hW : Below w.heap.size w W) => tells_any nm dl A n c ss s a W (hd.on hW) hs.1.2 hs.1.1)
      have HG := Lib.hid (fun W (hW : Below w.heap.size w W) => Go.Proofs.YtkmldgcnbjjbcaaGreatDoor.Sa.good_any nm dl A n c ss s W (hd.on hW))
      have HRG := Lib.hid (fun W (hW : Below w.heap.size w W) => Go.Proofs.YtkmldgcnbjjbcaaGreatDoor.Sa.rgood_any nm dl A n c ss s W (hd.on hW))
      have HO := Lib.hid (fun W => over_any s W)
      have HRO := Lib.hid (fun W => rover_any s W)
      have HMy := Lib.hid (fun W (hW : Below w.heap.size w W) => pmay_any nm dl A n c ss s W (hd.on hW) a.now hs.1.2)
      have HRM := Lib.hid (fun W (hW : Below w.heap.size w W) => rmay14_any nm dl A n c ss s W (hd.on hW) a.now)
      generalize doA nm dl ss s a = Y at *
      obtain ⟨y, C, er⟩ := Y
      generalize Go.Proofs.YtkmldgcnbjjbcaaGreatDoor.Sa.goodB nm dl ss s = gb at *
      generalize overB s = ob at *
      generalize mayB nm dl ss s a.now = mb at *
      dsimp only at HD HTl
      unfold Sg.arr Cm.arr at HD HTl
      clear hT hl hc hnz hf he hs hq s40 snm sst hd hn
      go_enter Tryz.func3, Tryz.ntmps3
      go_upto_region 6 with (first
        | (go_at_call 5; (with_reducible refine (HA.out _ HM3.out).mono ?_); rintro e w1 ⟨rfl, hb⟩; have H1 := Lib.hid (ea3 (s := s) (a := a) hb); clear hb; obtain ⟨d0, d1, d2⟩ := H1.out.e.cd; obtain ⟨c0, c1, c2, c3, c4, c5, c6, c7, c8⟩ := H1.out.e.cs)
        | (go_at_call 6; (with_reducible refine (HSm.out _ H1.out.e.b).mono ?_); rintro e w2 ⟨rfl, hb⟩; have H2 := Lib.hid (H1.out.on hb); clear hb; obtain ⟨d0, d1, d2⟩ := H2.out.e.cd; obtain ⟨c0, c1, c2, c3, c4, c5, c6, c7, c8⟩ := H2.out.e.cs; obtain ⟨a0, a1, a2, a3, a4, a5, a6⟩ := H2.out.ac)
        | (go_at_call 7; (with_reducible refine (HD.out _ H2.out.e.b).mono ?_); rintro e v1 ⟨rfl, hb⟩; have H3 := Lib.hid (H2.out.on hb); clear hb))
      have H4 : Hid (Ea w ((v1.alloc (.cells #[.int .i64 y.id, .string y.dn, .int .i64 y.st, .int .i64 y.ph, .int .i64 y.sp, .int .i64 y.tr, .bool y.out, .int .i64 y.at_, .int .i64 y.sk] 26)).alloc (.cells #[.int .i64 C.sg, .int .i64 C.sp, .bool C.un, .int .i64 C.tr, .string C.pt, .string C.key] 34)) nm dl A n c s a ∧ Box ((v1.alloc (.cells #[.int .i64 y.id, .string y.dn, .int .i64 y.st, .int .i64 y.ph, .int .i64 y.sp, .int .i64 y.tr, .bool y.out, .int .i64 y.at_, .int .i64 y.sk] 26)).alloc (.cells #[.int .i64 C.sg, .int .i64 C.sp, .bool C.un, .int .i64 C.tr, .string C.pt, .string C.key] 34)) v1.heap.size 26 y.arr ∧ Box ((v1.alloc (.cells #[.int .i64 y.id, .string y.dn, .int .i64 y.st, .int .i64 y.ph, .int .i64 y.sp, .int .i64 y.tr, .bool y.out, .int .i64 y.at_, .int .i64 y.sk] 26)).alloc (.cells #[.int .i64 C.sg, .int .i64 C.sp, .bool C.un, .int .i64 C.tr, .string C.pt, .string C.key] 34)) (v1.heap.size + 1) 34 C.arr) := Lib.hid ⟨H3.out.on (al2 v1 _ _), (Box.new v1 26 y.arr).alloc _, box_new2 v1 _ 34 C.arr⟩
      clear d0 d1 d2 c0 c1 c2 c3 c4 c5 c6 c7 c8 a0 a1 a2 a3 a4 a5 a6 H1 H2 H3 HA HSm HD
      generalize (v1.alloc _).alloc _ = W4 at *
      generalize v1.heap.size = b7 at *
      obtain ⟨d0, d1, d2⟩ := H4.out.1.e.cd
      obtain ⟨c0, c1, c2, c3, c4, c5, c6, c7, c8⟩ := H4.out.1.e.cs
      obtain ⟨a0, a1, a2, a3, a4, a5, a6⟩ := H4.out.1.ac
      go_upto_region 7 with (go_at_call 8; (with_reducible refine (HTl.out _ H4.out.1.e.b).mono ?_); rintro e v2 ⟨rfl, hb⟩; have H5 := Lib.hid (And.intro (H4.out.1.on hb) (And.intro (H4.out.2.1.below hb H4.out.2.1.lt) (H4.out.2.2.below hb H4.out.2.2.lt))); clear hb)
      have H6 : Hid (Ea w ((v2.alloc (.cells #[.int .i64 y.id, .string y.dn, .int .i64 y.st, .int .i64 y.ph, .int .i64 y.sp, .int .i64 y.tr, .bool y.out, .int .i64 y.at_, .int .i64 y.sk] 26)).alloc (.cells #[.int .i64 C.sg, .int .i64 C.sp, .bool C.un, .int .i64 C.tr, .string C.pt, .string C.key] 34)) nm dl A n c s a ∧ (Box ((v2.alloc (.cells #[.int .i64 y.id, .string y.dn, .int .i64 y.st, .int .i64 y.ph, .int .i64 y.sp, .int .i64 y.tr, .bool y.out, .int .i64 y.at_, .int .i64 y.sk] 26)).alloc (.cells #[.int .i64 C.sg, .int .i64 C.sp, .bool C.un, .int .i64 C.tr, .string C.pt, .string C.key] 34)) b7 26 y.arr ∧ Box ((v2.alloc (.cells #[.int .i64 y.id, .string y.dn, .int .i64 y.st, .int .i64 y.ph, .int .i64 y.sp, .int .i64 y.tr, .bool y.out, .int .i64 y.at_, .int .i64 y.sk] 26)).alloc (.cells #[.int .i64 C.sg, .int .i64 C.sp, .bool C.un, .int .i64 C.tr, .string C.pt, .string C.key] 34)) (b7 + 1) 34 C.arr) ∧
          Box ((v2.alloc (.cells #[.int .i64 y.id, .string y.dn, .int .i64 y.st, .int .i64 y.ph, .int .i64 y.sp, .int .i64 y.tr, .bool y.out, .int .i64 y.at_, .int .i64 y.sk] 26)).alloc (.cells #[.int .i64 C.sg, .int .i64 C.sp, .bool C.un, .int .i64 C.tr, .string C.pt, .string C.key] 34)) v2.heap.size 26 y.arr ∧ Box ((v2.alloc (.cells #[.int .i64 y.id, .string y.dn, .int .i64 y.st, .int .i64 y.ph, .int .i64 y.sp, .int .i64 y.tr, .bool y.out, .int .i64 y.at_, .int .i64 y.sk] 26)).alloc (.cells #[.int .i64 C.sg, .int .i64 C.sp, .bool C.un, .int .i64 C.tr, .string C.pt, .string C.key] 34)) (v2.heap.size + 1) 34 C.arr) := Lib.hid ⟨H5.out.1.on (al2 v2 _ _), ⟨(H5.out.2.1.alloc _).alloc _, (H5.out.2.2.alloc _).alloc _⟩, (Box.new v2 26 y.arr).alloc _, box_new2 v2 _ 34 C.arr⟩
      clear d0 d1 d2 c0 c1 c2 c3 c4 c5 c6 c7 c8 a0 a1 a2 a3 a4 a5 a6 H4 H5 HTl
      generalize (v2.alloc _).alloc _ = W6 at *
      generalize v2.heap.size = b9 at *
      have hb := H6.out.1.e.b
      have hz := hb.size
      have l0 := H6.out.1.e.d.lt
      have l1 := H6.out.1.e.s.lt
      have l2 := H6.out.1.a.lt
      have l3 := H6.out.2.1.1.lt
      have l4 := H6.out.2.1.2.lt
      have l5 := H6.out.2.2.1.lt
      have l6 := H6.out.2.2.2.lt
      have HG' := Lib.hid (fun W (hW : Below W6.heap.size W6 W) => (HG.out W (hb.trans (hW.mono hz))).mono fun e w' (h : _ ∧ _) => And.intro h.1 (hW.trans (h.2.mono hW.size)))
      have HRG' := Lib.hid (fun W (hW : Below W6.heap.size W6 W) => (HRG.out W (hb.trans (hW.mono hz))).mono fun e w' (h : _ ∧ _) => And.intro h.1 (hW.trans (h.2.mono hW.size)))
      have HO' := Lib.hid (fun W (hW : Below W6.heap.size W6 W) => (HO.out W).mono fun e w' (h : _ ∧ _) => And.intro h.1 (hW.trans (h.2.below.mono hW.size)))
      have HRO' := Lib.hid (fun W (hW : Below W6.heap.size W6 W) => (HRO.out W).mono fun e w' (h : _ ∧ _) => And.intro h.1 (hW.trans (h.2.below.mono hW.size)))
      have HMy' := Lib.hid (fun W (hW : Below W6.heap.size W6 W) => (HMy.out W (hb.trans (hW.mono hz))).mono fun e w' (h : _ ∧ _) => And.intro h.1 (hW.trans (h.2.mono hW.size)))
      have HRM' := Lib.hid (fun W (hW : Below W6.heap.size W6 W) => (HRM.out W (hb.trans (hW.mono hz))).mono fun e w' (h : _ ∧ _) => And.intro h.1 (hW.trans (h.2.mono hW.size)))
      have zd0 : ∀ u, Below W6.heap.size W6 u → u.cell? ⟨w.heap.size, 0, none⟩ = some (.string nm) := fun u H => (H.cell (p := ⟨w.heap.size, 0, none⟩) l0).trans (H6.out.1.e.d.cell 0)
      have zd1 : ∀ u, Below W6.heap.size W6 u → u.cell? ⟨w.heap.size, 1, none⟩ = some (.int .i64 dl) := fun u H => (H.cell (p := ⟨w.heap.size, 1, none⟩) l0).trans (H6.out.1.e.d.cell 1)
      have zd2 : ∀ u, Below W6.heap.size W6 u → u.cell? ⟨w.heap.size, 2, none⟩ = some (.slice A n c) := fun u H => (H.cell (p := ⟨w.heap.size, 2, none⟩) l0).trans (H6.out.1.e.d.cell 2)
      have zs0 : ∀ u, Below W6.heap.size W6 u → u.cell? ⟨w.heap.size + 1, 0, none⟩ = some (.int .i64 s.id) := fun u H => (H.cell (p := ⟨w.heap.size + 1, 0, none⟩) l1).trans (H6.out.1.e.s.cell 0)
      have zs1 : ∀ u, Below W6.heap.size W6 u → u.cell? ⟨w.heap.size + 1, 1, none⟩ = some (.string s.dn) := fun u H => (H.cell (p := ⟨w.heap.size + 1, 1, none⟩) l1).trans (H6.out.1.e.s.cell 1)
      have zs2 : ∀ u, Below W6.heap.size W6 u → u.cell? ⟨w.heap.size + 1, 2, none⟩ = some (.int .i64 s.st) := fun u H => (H.cell (p := ⟨w.heap.size + 1, 2, none⟩) l1).trans (H6.out.1.e.s.cell 2)
      have zs3 : ∀ u, Below W6.heap.size W6 u → u.cell? ⟨w.heap.size + 1, 3, none⟩ = some (.int .i64 s.ph) := fun u H => (H.cell (p := ⟨w.heap.size + 1, 3, none⟩) l1).trans (H6.out.1.e.s.cell 3)
      have zs4 : ∀ u, Below W6.heap.size W6 u → u.cell? ⟨w.heap.size + 1, 4, none⟩ = some (.int .i64 s.sp) := fun u H => (H.cell (p := ⟨w.heap.size + 1, 4, none⟩) l1).trans (H6.out.1.e.s.cell 4)
      have zs5 : ∀ u, Below W6.heap.size W6 u → u.cell? ⟨w.heap.size + 1, 5, none⟩ = some (.int .i64 s.tr) := fun u H => (H.cell (p := ⟨w.heap.size + 1, 5, none⟩) l1).trans (H6.out.1.e.s.cell 5)
      have zs6 : ∀ u, Below W6.heap.size W6 u → u.cell? ⟨w.heap.size + 1, 6, none⟩ = some (.bool s.out) := fun u H => (H.cell (p := ⟨w.heap.size + 1, 6, none⟩) l1).trans (H6.out.1.e.s.cell 6)
      have zs7 : ∀ u, Below W6.heap.size W6 u → u.cell? ⟨w.heap.size + 1, 7, none⟩ = some (.int .i64 s.at_) := fun u H => (H.cell (p := ⟨w.heap.size + 1, 7, none⟩) l1).trans (H6.out.1.e.s.cell 7)
      have zs8 : ∀ u, Below W6.heap.size W6 u → u.cell? ⟨w.heap.size + 1, 8, none⟩ = some (.int .i64 s.sk) := fun u H => (H.cell (p := ⟨w.heap.size + 1, 8, none⟩) l1).trans (H6.out.1.e.s.cell 8)
      have za1 : ∀ u, Below W6.heap.size W6 u → u.cell? ⟨w.heap.size + 2, 1, none⟩ = some (.int .i64 a.now) := fun u H => (H.cell (p := ⟨w.heap.size + 2, 1, none⟩) l2).trans (H6.out.1.a.cell 1)
      have zp0 : ∀ u, Below W6.heap.size W6 u → u.cell? ⟨b7, 0, none⟩ = some (.int .i64 y.id) := fun u H => (H.cell (p := ⟨b7, 0, none⟩) l3).trans (H6.out.2.1.1.cell 0)
      have zp1 : ∀ u, Below W6.heap.size W6 u → u.cell? ⟨b7, 1, none⟩ = some (.string y.dn) := fun u H => (H.cell (p := ⟨b7, 1, none⟩) l3).trans (H6.out.2.1.1.cell 1)
      have zp2 : ∀ u, Below W6.heap.size W6 u → u.cell? ⟨b7, 2, none⟩ = some (.int .i64 y.st) := fun u H => (H.cell (p := ⟨b7, 2, none⟩) l3).trans (H6.out.2.1.1.cell 2)
      have zp3 : ∀ u, Below W6.heap.size W6 u → u.cell? ⟨b7, 3, none⟩ = some (.int .i64 y.ph) := fun u H => (H.cell (p := ⟨b7, 3, none⟩) l3).trans (H6.out.2.1.1.cell 3)
      have zp4 : ∀ u, Below W6.heap.size W6 u → u.cell? ⟨b7, 4, none⟩ = some (.int .i64 y.sp) := fun u H => (H.cell (p := ⟨b7, 4, none⟩) l3).trans (H6.out.2.1.1.cell 4)
      have zp5 : ∀ u, Below W6.heap.size W6 u → u.cell? ⟨b7, 5, none⟩ = some (.int .i64 y.tr) := fun u H => (H.cell (p := ⟨b7, 5, none⟩) l3).trans (H6.out.2.1.1.cell 5)
      have zp6 : ∀ u, Below W6.heap.size W6 u → u.cell? ⟨b7, 6, none⟩ = some (.bool y.out) := fun u H => (H.cell (p := ⟨b7, 6, none⟩) l3).trans (H6.out.2.1.1.cell 6)
      have zp7 : ∀ u, Below W6.heap.size W6 u → u.cell? ⟨b7, 7, none⟩ = some (.int .i64 y.at_) := fun u H => (H.cell (p := ⟨b7, 7, none⟩) l3).trans (H6.out.2.1.1.cell 7)
      have zp8 : ∀ u, Below W6.heap.size W6 u → u.cell? ⟨b7, 8, none⟩ = some (.int .i64 y.sk) := fun u H => (H.cell (p := ⟨b7, 8, none⟩) l3).trans (H6.out.2.1.1.cell 8)
      have zq0 : ∀ u, Below W6.heap.size W6 u → u.cell? ⟨b7 + 1, 0, none⟩ = some (.int .i64 C.sg) := fun u H => (H.cell (p := ⟨b7 + 1, 0, none⟩) l4).trans (H6.out.2.1.2.cell 0)
      have zq1 : ∀ u, Below W6.heap.size W6 u → u.cell? ⟨b7 + 1, 1, none⟩ = some (.int .i64 C.sp) := fun u H => (H.cell (p := ⟨b7 + 1, 1, none⟩) l4).trans (H6.out.2.1.2.cell 1)
      have zq2 : ∀ u, Below W6.heap.size W6 u → u.cell? ⟨b7 + 1, 2, none⟩ = some (.bool C.un) := fun u H => (H.cell (p := ⟨b7 + 1, 2, none⟩) l4).trans (H6.out.2.1.2.cell 2)
      have zq3 : ∀ u, Below W6.heap.size W6 u → u.cell? ⟨b7 + 1, 3, none⟩ = some (.int .i64 C.tr) := fun u H => (H.cell (p := ⟨b7 + 1, 3, none⟩) l4).trans (H6.out.2.1.2.cell 3)
      have zq4 : ∀ u, Below W6.heap.size W6 u → u.cell? ⟨b7 + 1, 4, none⟩ = some (.string C.pt) := fun u H => (H.cell (p := ⟨b7 + 1, 4, none⟩) l4).trans (H6.out.2.1.2.cell 4)
      have zq5 : ∀ u, Below W6.heap.size W6 u → u.cell? ⟨b7 + 1, 5, none⟩ = some (.string C.key) := fun u H => (H.cell (p := ⟨b7 + 1, 5, none⟩) l4).trans (H6.out.2.1.2.cell 5)
      have zt0 : ∀ u, Below W6.heap.size W6 u → u.cell? ⟨b9, 0, none⟩ = some (.int .i64 y.id) := fun u H => (H.cell (p := ⟨b9, 0, none⟩) l5).trans (H6.out.2.2.1.cell 0)
      have zt1 : ∀ u, Below W6.heap.size W6 u → u.cell? ⟨b9, 1, none⟩ = some (.string y.dn) := fun u H => (H.cell (p := ⟨b9, 1, none⟩) l5).trans (H6.out.2.2.1.cell 1)
      have zt2 : ∀ u, Below W6.heap.size W6 u → u.cell? ⟨b9, 2, none⟩ = some (.int .i64 y.st) := fun u H => (H.cell (p := ⟨b9, 2, none⟩) l5).trans (H6.out.2.2.1.cell 2)
      have zt3 : ∀ u, Below W6.heap.size W6 u → u.cell? ⟨b9, 3, none⟩ = some (.int .i64 y.ph) := fun u H => (H.cell (p := ⟨b9, 3, none⟩) l5).trans (H6.out.2.2.1.cell 3)
      have zt4 : ∀ u, Below W6.heap.size W6 u → u.cell? ⟨b9, 4, none⟩ = some (.int .i64 y.sp) := fun u H => (H.cell (p := ⟨b9, 4, none⟩) l5).trans (H6.out.2.2.1.cell 4)
      have zt5 : ∀ u, Below W6.heap.size W6 u → u.cell? ⟨b9, 5, none⟩ = some (.int .i64 y.tr) := fun u H => (H.cell (p := ⟨b9, 5, none⟩) l5).trans (H6.out.2.2.1.cell 5)
      have zt6 : ∀ u, Below W6.heap.size W6 u → u.cell? ⟨b9, 6, none⟩ = some (.bool y.out) := fun u H => (H.cell (p := ⟨b9, 6, none⟩) l5).trans (H6.out.2.2.1.cell 6)
      have zt7 : ∀ u, Below W6.heap.size W6 u → u.cell? ⟨b9, 7, none⟩ = some (.int .i64 y.at_) := fun u H => (H.cell (p := ⟨b9, 7, none⟩) l5).trans (H6.out.2.2.1.cell 7)
      have zt8 : ∀ u, Below W6.heap.size W6 u → u.cell? ⟨b9, 8, none⟩ = some (.int .i64 y.sk) := fun u H => (H.cell (p := ⟨b9, 8, none⟩) l5).trans (H6.out.2.2.1.cell 8)
      have zu0 : ∀ u, Below W6.heap.size W6 u → u.cell? ⟨b9 + 1, 0, none⟩ = some (.int .i64 C.sg) := fun u H => (H.cell (p := ⟨b9 + 1, 0, none⟩) l6).trans (H6.out.2.2.2.cell 0)
      have zu1 : ∀ u, Below W6.heap.size W6 u → u.cell? ⟨b9 + 1, 1, none⟩ = some (.int .i64 C.sp) := fun u H => (H.cell (p := ⟨b9 + 1, 1, none⟩) l6).trans (H6.out.2.2.2.cell 1)
      have zu2 : ∀ u, Below W6.heap.size W6 u → u.cell? ⟨b9 + 1, 2, none⟩ = some (.bool C.un) := fun u H => (H.cell (p := ⟨b9 + 1, 2, none⟩) l6).trans (H6.out.2.2.2.cell 2)
      have zu3 : ∀ u, Below W6.heap.size W6 u → u.cell? ⟨b9 + 1, 3, none⟩ = some (.int .i64 C.tr) := fun u H => (H.cell (p := ⟨b9 + 1, 3, none⟩) l6).trans (H6.out.2.2.2.cell 3)
      have zu4 : ∀ u, Below W6.heap.size W6 u → u.cell? ⟨b9 + 1, 4, none⟩ = some (.string C.pt) := fun u H => (H.cell (p := ⟨b9 + 1, 4, none⟩) l6).trans (H6.out.2.2.2.cell 4)
      have zu5 : ∀ u, Below W6.heap.size W6 u → u.cell? ⟨b9 + 1, 5, none⟩ = some (.string C.key) := fun u H => (H.cell (p := ⟨b9 + 1, 5, none⟩) l6).trans (H6.out.2.2.2.cell 5)
      have el := eql_is y
      have ec := eqlC_is C
      have gd := guard_saga
      have gc := guard_cmd
      have ee : (er == er) = true := by simp
      have eg : (gb == gb) = true := by simp
      have eo : (ob == ob) = true := by simp
      have em : (mb == mb) = true := by simp
      have HBz := Lib.hid (And.intro hb hz)
      clear HG HRG HO HRO HMy HRM l0 l1 l2 l3 l4 l5 l6 hb hz
      go_region_held3 (fun u => Below W6.heap.size W6 u) (first | exact Below.refl _ _ | exact Below.drew (Below.refl _ _) | assumption)
        (first
          | (go_at_call 9; (with_reducible refine (HG'.out _ ?_).mono ?_); (first | assumption | exact Below.drew (Below.refl _ _)); rintro e u1 ⟨rfl, hu1⟩)
          | (go_at_call 10; (with_reducible refine (HRG'.out _ ?_).mono ?_); (first | assumption | exact Below.drew (Below.refl _ _)); rintro e u2 ⟨rfl, hu2⟩)
          | (go_at_call 11; (with_reducible refine (HO'.out _ ?_).mono ?_); (first | assumption | exact Below.drew (Below.refl _ _)); rintro e u3 ⟨rfl, hu3⟩)
          | (go_at_call 12; (with_reducible refine (HRO'.out _ ?_).mono ?_); (first | assumption | exact Below.drew (Below.refl _ _)); rintro e u4 ⟨rfl, hu4⟩)
          | (go_at_call 13; (with_reducible refine (HMy'.out _ ?_).mono ?_); (first | assumption | exact Below.drew (Below.refl _ _)); rintro e u5 ⟨rfl, hu5⟩)
          | (go_at_call 14; (with_reducible refine (HRM'.out _ ?_).mono ?_); (first | assumption | exact Below.drew (Below.refl _ _)); rintro e u6 ⟨rfl, hu6⟩))
      all_goals
        go_wp2
        go_ret
        exact ⟨rfl, HBz.out.1.trans (Below.mono (by assumption) HBz.out.2)⟩
    · have t1 : decide ((100 : Int) < (s.dn.size : Int)) = true := decide_eq_true (by omega)
      have t2 : decide (100 < s.dn.size) = true := decide_eq_true (by omega)
      clear hT hl hc hnz hf he hs hq hn
      go_enter Tryz.func3, Tryz.ntmps3
      go_wp2_with (first
        | (go_at_call 5; (with_reducible refine (HA.out _ HM3.out).mono ?_); rintro e w1 ⟨rfl, hb⟩; have H1 := Lib.hid (ea3 (s := s) (a := a) hb); clear hb; obtain ⟨d0, d1, d2⟩ := H1.out.e.cd; obtain ⟨c0, c1, c2, c3, c4, c5, c6, c7, c8⟩ := H1.out.e.cs)
        | (go_at_call 6; (with_reducible refine (HSm.out _ H1.out.e.b).mono ?_); rintro e w2 ⟨rfl, hb⟩; have H2 := Lib.hid (H1.out.on hb); clear hb; obtain ⟨d0, d1, d2⟩ := H2.out.e.cd; obtain ⟨c0, c1, c2, c3, c4, c5, c6, c7, c8⟩ := H2.out.e.cs))
      go_ret
      exact ⟨rfl, H2.out.e.b⟩
  · have g0 : (smallI nm ss != 0) = true := by simpa using hq
    generalize smallI nm ss = q at *
    clear hT hl hc hnz hf he hs hq hn
    go_enter Tryz.func3, Tryz.ntmps3
    go_wp2_with (first
      | (go_at_call 5; (with_reducible refine (HA.out _ HM3.out).mono ?_); rintro e w1 ⟨rfl, hb⟩; have H1 := Lib.hid (ea3 (s := s) (a := a) hb); clear hb; obtain ⟨d0, d1, d2⟩ := H1.out.e.cd; obtain ⟨c0, c1, c2, c3, c4, c5, c6, c7, c8⟩ := H1.out.e.cs)
      | (go_at_call 6; (with_reducible refine (HSm.out _ H1.out.e.b).mono ?_); rintro e w2 ⟨rfl, hb⟩; have H2 := Lib.hid (H1.out.on hb); clear hb; obtain ⟨d0, d1, d2⟩ := H2.out.e.cd; obtain ⟨c0, c1, c2, c3, c4, c5, c6, c7, c8⟩ := H2.out.e.cs))
    go_ret
    exact ⟨rfl, H2.out.e.b⟩

theorem tab_of_laid {W : World} (h : laidMetH Tryz.prog Rows.sagaDoesRow.laid W) : Tab W := by
  rw [MakeChecks.laidMetH_plain _ _ _ (by kernel_rfl)] at h
  have h2 := laidMet.tail (laidMet.tail h)
  have e : (Rows.laid_internal_strconv_uint64pow10 : DataW Unit) = Lib.tabData .u64 Lib.pow10Tab := by kernel_rfl
  rw [show (Rows.laid_internal_strconv_uint64pow10 : DataW Unit) = Lib.tabData .u64 Lib.pow10Tab from e] at h2
  exact Lib.tabIs_of_head (g := 1) (t := 117) (e := 111) (n := 20) (by kernel_rfl) (by kernel_rfl) Tryz.underlying117 Tryz.underlying111 (by kernel_rfl) (by kernel_rfl) h2
set_option maxRecDepth 100000 in
theorem lifted (os : Os) (started : os.Started) (H : Type) (enc : TypeId × Value → H) :
    ReturnsInHanded {} Tryz.checked os 3 .any (fun w args => (Rows.sagaDoesSpec.pre enc Tryz.prog Tryz.f3 Rows.sagaDoesRow.domain false w args ∧ laidMetH Tryz.prog Rows.sagaDoesRow.laid w) ∧ sizedMet enc Tryz.prog Tryz.f3 (OpenSpec.ofChange Rows.sagaDoesSpec) false w args)
      (Rows.sagaDoesSpec.post enc Tryz.prog Tryz.f3 false true false false) := by
  refine returns_both (C := Tryz.checked) (X := fun w _ => laidMetH Tryz.prog Rows.sagaDoesRow.laid w) (fun _ _ _ hh h => h.of_heap hh) own started (by kernel_rfl) Tryz.func3
    (ChangeSpec.witness_shaped (enc := enc) (C := Tryz.checked) (os := os) (X := fun w _ => laidMetH Tryz.prog Rows.sagaDoesRow.laid w) false (World.laidAll Tryz.prog os Rows.sagaDoesRow.laid) #[.agg #[.string ⟨#[]⟩, .int .i64 0, .slice none 0 0], .agg #[.int .i64 0, .string ⟨#[]⟩, .int .i64 0, .int .i64 0, .int .i64 0, .int .i64 0, .bool false, .int .i64 0, .int .i64 0], .agg #[.int .i64 0, .int .i64 0, .int .i64 0, .int .i64 0, .bool false, .int .i64 0, .bool false]] 8 (World.laidAll_os _ _ _)
      (World.shaped_of_ZipB (by kernel_rfl) (by kernel_rfl)) (by kernel_rfl) (by kernel_rfl) (by kernel_rfl)
      (by rw [MakeChecks.laidMetH_plain _ _ _ (by kernel_rfl)]; exact laidMet_laidAll _ (by kernel_rfl) (by kernel_rfl))) ?_
  intro W base args ds gs before hval0 hW hreach0 hlaid _
  have hT : Tab W := tab_of_laid hlaid
  have hval : ∀ (j : Nat) t v, Tryz.f3.params[j]? = some t → args[j]? = some v → Value.okWide Tryz.prog W .any base t v := hval0
  have hW' := hW
  obtain ⟨p, q, hA0, hV, rfl, _, _⟩ := hW
  have hreach : (DataW.weightsEach Tryz.prog (Tryz.f3.params.toList ++ Rows.sagaDoesSpec.plain.varTypes Tryz.prog) (ds ++ gs)).all (· ≤ reachBytes) = true := hreach0
  have hA : DataW.TrodAll enc Tryz.prog W 0 (fun _ => true) true Tryz.f3.params.toList args.toList ds p := hA0
  rw [Tryz.params3] at hA hval hreach
  obtain ⟨rfl, rfl⟩ := trodVars_none hV
  obtain ⟨v0, vs0, d0, ds0, p0, q0, hargs, rfl, rfl, h0, r0⟩ := trodAll_cons hA
  obtain ⟨v1, vs1, d1, ds1, p1, q1, rfl, rfl, rfl, h1, r1⟩ := trodAll_cons r0
  obtain ⟨v2, vs2, d2, ds2, p2, q2, rfl, rfl, rfl, h2, r2⟩ := trodAll_cons r1
  obtain ⟨rfl, rfl, rfl⟩ := trodAll_nil r2
  obtain rfl : args = #[v0, v1, v2] := by cases args; simp_all
  obtain ⟨nm0, dl0, A0, c0, ss0, y0, z0, n0, cc0, f0, e0⟩ := arg_dn (hval 0 24 v0 rfl rfl) h0 (fun m hm => by have := List.all_eq_true.1 hreach m (DataW.weights_mem_each (j := 0) rfl rfl m hm); simpa using this)
  subst y0
  obtain ⟨s1, y1, z1⟩ := arg_sg (hval 1 26 v1 rfl rfl) h1 (fun m hm => by have := List.all_eq_true.1 hreach m (DataW.weights_mem_each (j := 1) rfl rfl m hm); simpa using this)
  subst y1
  obtain ⟨s2, y2⟩ := arg_ac (hval 2 30 v2 rfl rfl) h2
  subst y2
  clear hA0 hval0
  simp only [List.append_nil] at hW'
  have hlt0 : ∀ x ∈ p0, x.block < W.heap.size := fun x hx => by simpa using hW'.lt x (by simp [hx])
  have hlt1 : ∀ x ∈ p1, x.block < W.heap.size := fun x hx => by simpa using hW'.lt x (by simp [hx])
  have hlt2 : ∀ x ∈ p2, x.block < W.heap.size := fun x hx => by simpa using hW'.lt x (by simp [hx])
  refine (walk nm0 dl0 A0 c0 ss0 s1 s2 W hT n0 cc0 z0 f0 e0 z1).mono fun e W' ⟨he, bel⟩ => ?_
  subst he
  exact ⟨_, rfl, _, _, _, [], _, [], hW', trodAll_mk1 (shut_bool Tryz.underlying4 _), (trodAll_cons_mk (Below.trod laidOut (by kernel_rfl) (of_decide_eq_true (by kernel_rfl)) h0 bel hlt0) (trodAll_cons_mk (Below.trod laidOut (by kernel_rfl) (of_decide_eq_true (by kernel_rfl)) h1 bel hlt1) (trodAll_cons_mk (Below.trod laidOut (by kernel_rfl) (of_decide_eq_true (by kernel_rfl)) h2 bel hlt2) trodAll_mk0))), rfl, bel.frame _, fun h => by cases h⟩

theorem over : Rows.sagaDoesRow.holds Tryz.pinned (OpenSpec.ofChange Rows.sagaDoesSpec) :=
  OpenClaim.holds_of_wide 3 Tryz.f3 rfl rfl rfl rfl rfl rfl rfl ⟨rfl, rfl, rfl, rfl, rfl⟩ rfl rfl rfl rfl rfl (by kernel_rfl) Tryz.func3 (by kernel_rfl)
    (of_decide_eq_true (by kernel_rfl)) (by unfold Func.isWrapper; first | (rw [if_pos (by decide +kernel)]; kernel_rfl) | (rw [if_neg (by decide +kernel)]; exact ⟨rfl, rfl⟩))
    (fun os started H enc _ => lifted os started H enc)

/-- the statement -/
theorem proved : Rows.SagaDoesCardSaid :=
  Claim7.holds_tied_plain_at .later [] [.data, .data, .data] true Rows.sagaDoesCard.stood.harness false over (fun _ h => by cases h) (by kernel_rfl) (fun _ h => by cases h) sagaDoes_row_tie rfl ⟨rfl, rfl⟩ (by kernel_rfl) rfl
    (fun f fn hf hfn => by
      obtain rfl : f = 3 := Option.some.inj ((show Tryz.prog.funcNamed Rows.sagaDoesRow.func = some 3 by kernel_rfl).symm.trans hf) |>.symm
      obtain rfl : fn = Tryz.f3 := (Option.some.inj (Tryz.func3.symm.trans hfn)).symm
      exact ⟨by kernel_rfl, fun j t ht => by
        rw [Tryz.params3] at ht
        have hm : t ∈ [24, 26, 30] := by simpa using Array.mem_of_getElem? ht
        have hall : ([24, 26, 30].all fun u => !Tryz.prog.wantsStandIn u) = true := by kernel_rfl
        exact (show Tryz.prog.wantsStandIn t = false by simpa using List.all_eq_true.1 hall t hm)⟩)
    (by kernel_rfl)
#print axioms proved
end Go.Proofs.YtkmldgcnbjjbcaaGreatDoor.sagaDoes
