/-
  The statement StatePlaysCardSaid: for every input the law function StatePlays returns true (whatever events are done from the beginning on, the state is as the document says, and right), and the arguments read afterwards as before.
  Conditions: none beyond the statement's own (the listed tables of the library hold what its text lays).
-/
import Derived.Test.YteejocnogpaifaaGreatDoorStaLaw
import Derived.Test.YteejocnogpaifaaGreatDoorStaGrowMath
import Derived.Test.YteejocnogpaifaaGreatDoorStaRDo3
import Derived.Test.YteejocnogpaifaaGreatDoorStaSame
import Derived.Test.YteejocnogpaifaaGreatDoorMrg1
import Derived.Test.YteejocnogpaifaaGreatDoorCards
import Derived.Test.YteejocnogpaifaaGreatDoorTie
import Derived.Lib.LaidTab
import Derived.Stop.LaidErr
import Derived.ProofKit
import Derived.OpenShut
import Derived.ShutString
import Derived.LaidMore
import Derived.Lay
import Derived.Shelf.Vars
import Derived.Stop.Joined
import Derived.LoopTactic
import Derived.WalkMore
import Derived.Deep.DeepCutAuto
import Derived.BigQuiet
namespace Go.Proofs.YteejocnogpaifaaGreatDoor.statePlays
open Go.Proofs.YteejocnogpaifaaGreatDoor.Tt Go.Proofs.YteejocnogpaifaaGreatDoor.Df Go.Proofs.YteejocnogpaifaaGreatDoor.El
open Go.Proofs.YteejocnogpaifaaGreatDoor.Bo (P Made ret_int ret_bool)
open Go.Proofs.YteejocnogpaifaaGreatDoor.Sa (Sg Cm Rp cm0)
open Go.Proofs.YteejocnogpaifaaGreatDoor.Co (Ev Mod EvIn goodE)
open Go.ChangeShapes Go.WideShapes Go.ChangeAt Go.RowKit Go.Sort
open Go.ChangeMaps (open_string shut_string)

/-! ### Rows lie in no state's, and no command's, block -/
section
variable {W : World} {b B : Nat} {A : Option Addr} {t : TypeId} {cs : Array Value}
theorem els_far {α : Type} {ec : α → List Value} {k : Nat} {l : List α} (hbad : ∀ (a : α) (o : Nat), ∃ (j : Nat) (u : Value), (ec a)[j]? = some u ∧ cs[o + j]? ≠ some u) (h : Els ec k W B A l) (hb : Box W b t cs) (cs' : Array Value) : Els ec k (W.setRow b cs') B A l := fun i a ha => by
  obtain ⟨bb, o, e, hlt, hc⟩ := h i a ha
  have hne : bb ≠ b := fun e => by
    subst e
    obtain ⟨j, u, h1, h2⟩ := hbad a (o + i * k)
    have h3 := hc j u h1
    rw [hb.cell] at h3
    exact h2 h3
  exact ⟨bb, o, e, hlt, fun j u hu => (World.cell?_of_block (setRow_other W b bb cs' hne)).trans (hc j u hu)⟩
theorem sin_far {z : SV} (h1 : ∀ (a : DX) (o : Nat), ∃ (j : Nat) (u : Value), (DX.cells a)[j]? = some u ∧ cs[o + j]? ≠ some u) (h2 : ∀ (a : Sg) (o : Nat), ∃ (j : Nat) (u : Value), (sgc a)[j]? = some u ∧ cs[o + j]? ≠ some u) (h3 : ∀ (a : Stp) (o : Nat), ∃ (j : Nat) (u : Value), (Stp.cells a)[j]? = some u ∧ cs[o + j]? ≠ some u)
    (h : SIn W z) (hb : Box W b t cs) (cs' : Array Value) : SIn (W.setRow b cs') z :=
  ⟨h.lD, h.cD, by rw [setRow_size]; exact els_far h1 h.hD hb cs', fun d hd => ⟨(h.each d hd).en, (h.each d hd).cap, (h.each d hd).mod, by rw [setRow_size]; exact els_far h3 (h.each d hd).mem hb cs', (h.each d hd).nil⟩, h.zD, h.lS, h.cS, by rw [setRow_size]; exact els_far h2 h.hS hb cs', h.zS⟩
theorem st_text (y : SV) (i : Nat) (s : ByteArray) : y.arr[i]? ≠ some (.string s) := by
  match i with
  | 0 => simp [SV.arr]
  | 1 => simp [SV.arr]
  | 2 => simp [SV.arr]
  | n + 3 => simp [SV.arr]
theorem cm_slice (C : Cm) (i : Nat) (a : Option Addr) (n c : Nat) : C.arr[i]? ≠ some (.slice a n c) := by
  match i with
  | 0 => simp [Sa.Cm.arr]
  | 1 => simp [Sa.Cm.arr]
  | 2 => simp [Sa.Cm.arr]
  | 3 => simp [Sa.Cm.arr]
  | 4 => simp [Sa.Cm.arr]
  | 5 => simp [Sa.Cm.arr]
  | n + 6 => simp [Sa.Cm.arr]
theorem cm_end (C : Cm) (i : Nat) (u : Value) (h : 6 ≤ i) : C.arr[i]? ≠ some u := by
  rw [Array.getElem?_eq_none (by show 6 ≤ i; exact h)]
  simp
theorem sin_st {z y : SV} (h : SIn W z) (hb : Box W b t y.arr) (cs' : Array Value) : SIn (W.setRow b cs') z :=
  sin_far (fun _ _ => ⟨0, _, rfl, st_text y _ _⟩) (fun _ _ => ⟨1, _, rfl, st_text y _ _⟩) (fun _ _ => ⟨0, _, rfl, st_text y _ _⟩) h hb cs'
theorem sin_cm {z : SV} {C : Cm} (h : SIn W z) (hb : Box W b t C.arr) (cs' : Array Value) : SIn (W.setRow b cs') z :=
  sin_far (fun _ _ => ⟨2, _, rfl, cm_slice C _ _ _ _⟩) (fun _ _ => ⟨8, _, rfl, cm_end C _ _ (by omega)⟩) (fun _ _ => ⟨8, _, rfl, cm_end C _ _ (by omega)⟩) h hb cs'
end
section
variable {B n g R : Nat} {W0 W : World} {o : Obj} {cs : Array Value} {t : TypeId} {y : SV}
theorem below_is (h : (fun u => Below W0.heap.size W0 u) W) : Below W0.heap.size W0 W := h
theorem slot_new (_h : (fun u => Below W0.heap.size W0 u) (W.alloc (.cells cs t))) (hs : cs.size = n) : Sa.Slot (W.alloc (.cells cs t)) W.heap.size t n := Sa.Box.slot (Box.new W t cs) hs
theorem slot_more (_h : (fun u => Below W0.heap.size W0 u) (W.alloc o)) (h : Sa.Slot W g t n) : Sa.Slot (W.alloc o) g t n := Sa.slot_on h (below_al W o)
theorem own_more (_h : (fun u => Below W0.heap.size W0 u) (W.alloc o)) (h : SIn W y) : SIn (W.alloc o) y := h.on (below_al W o)
theorem st_new (_h : (fun u => Below W0.heap.size W0 u) (W.alloc (.cells #[.slice none 0 0, .slice none 0 0, .int .i64 0] t))) : Box (W.alloc (.cells #[.slice none 0 0, .slice none 0 0, .int .i64 0] t)) W.heap.size t sv0.arr := Box.new W t _
theorem cm_new (_h : (fun u => Below W0.heap.size W0 u) (W.alloc (.cells #[.int .i64 0, .int .i64 0, .bool false, .int .i64 0, .string ⟨#[]⟩, .string ⟨#[]⟩] t))) : Box (W.alloc (.cells #[.int .i64 0, .int .i64 0, .bool false, .int .i64 0, .string ⟨#[]⟩, .string ⟨#[]⟩] t)) W.heap.size t cm0.arr := Box.new W t _
theorem box_more (_h : (fun u => Below W0.heap.size W0 u) (W.alloc o)) (h : Box W g t cs) : Box (W.alloc o) g t cs := h.alloc o
end
/-! ### The program's state, and the document's -/
structure At (w u : World) (b : Nat) (x z : SV) (k : Nat) (lim : Int) : Prop where
  bel : Below w.heap.size w u
  bx : Box u b 27 x.arr
  bz : Box u (b + 1) 27 z.arr
  sx : SIn u x
  sz : SIn u z
  same : z.st = x.st
  inv : Inv x.st
  few : x.nS ≤ k
  lim : (x.nS : Int) ≤ max lim 0
  ge : w.heap.size ≤ b
section
variable {w u u' : World} {b k : Nat} {x z : SV} {lim : Int}
theorem At.on (h : At w u b x z k lim) (hb : Below u.heap.size u u') : At w u' b x z k lim := ⟨h.bel.trans (hb.mono h.bel.size), h.bx.below hb h.bx.lt, h.bz.below hb h.bz.lt, h.sx.on hb, h.sz.on hb, h.same, h.inv, h.few, h.lim, h.ge⟩
theorem At.invz (h : At w u b x z k lim) : Inv z.st := by rw [h.same]; exact h.inv
theorem At.fewz (h : At w u b x z k lim) : z.nS ≤ k := by have h1 := h.sz.lS; have h2 : z.gs = x.gs := congrArg Ms.gs h.same; have h3 := h.sx.lS; have h4 := h.few; rw [h2] at h1; omega
theorem at_begin (hb : Below w.heap.size w u) : At w ((u.alloc (.cells #[.slice none 0 0, .slice none 0 0, .int .i64 0] 27)).alloc (.cells #[.slice none 0 0, .slice none 0 0, .int .i64 0] 27)) u.heap.size sv0 sv0 0 lim :=
  ⟨(hb.alloc hb.size _).alloc (Nat.le_trans hb.size (by simp)) _, box_al2 u _ _ _, box_new2 u _ _ _, (sin_0 u).on (below_al2 u _ _), (sin_0 u).on (below_al2 u _ _), rfl, inv0, Nat.le_refl _, by show (0 : Int) ≤ _; omega, hb.size⟩
theorem lim_do {x : Ms} {v : Ev} {lim : Int} (h : (x.gs.length : Int) ≤ max lim 0) : ((doS x v lim).1.gs.length : Int) ≤ max lim 0 := by
  unfold doS
  split
  · exact h
  · split
    · unfold defS
      repeat' split
      all_goals exact h
    · split
      · unfold startS
        split
        · exact h
        · split
          · exact h
          · split
            · exact h
            · next hq =>
              show ((x.gs ++ [Sa.beginS v.nm v.sg v.now]).length : Int) ≤ max lim 0
              rw [List.length_append]
              simp only [List.length_cons, List.length_nil]
              omega
      · split
        · unfold forgetS
          split
          · exact h
          · split
            · exact h
            · show ((x.gs.eraseIdx _).length : Int) ≤ max lim 0
              have := List.length_eraseIdx_le x.gs (findS x.gs v.sg).toNat
              omega
        · unfold actS
          split
          · exact h
          · show ((x.gs.set _ _).length : Int) ≤ max lim 0
            rw [List.length_set]
            exact h
/-- behind a round -/
theorem at_next {v : Ev} {y q : SV} (h : At w u b x z k lim) (hm : Mod v.dn v.ss) (hy : y.st = (doS x.st v lim).1) (hq : q.st = (doS x.st v lim).1) (sy : SIn u y) (sq : SIn u q) : At w ((u.setRow b y.arr).setRow (b + 1) q.arr) b y q (k + 1) lim := by
  have hg := (grown_do x.st v lim).few
  rw [← hy] at hg
  have hgs : y.gs.length ≤ x.gs.length + 1 := hg
  have h1 := h.sx.lS
  have h2 := sy.lS
  have h3 := h.few
  have hl := lim_do (x := x.st) (v := v) (lim := lim) (by have := h.lim; rw [h1] at this; exact this)
  rw [← hy] at hl
  have hl2 : (y.gs.length : Int) ≤ max lim 0 := hl
  have hbz := Sa.box_far h.bz (show b + 1 ≠ b by omega) y.arr
  refine ⟨Sa.below_row (Sa.below_row h.bel h.ge _) (by have := h.ge; omega) _, Sa.box_far (Sa.box_row h.bx _) (by omega) _, Sa.box_row hbz _, sin_st (sin_st sy h.bx _) hbz _, sin_st (sin_st sq h.bx _) hbz _, by rw [hq, hy], by rw [hy]; exact inv_do h.inv hm, by omega, by rw [h2]; exact hl2, h.ge⟩
theorem neq_self (C : Cm) (W : World) : (binOp .neq 37 (.agg #[.int .i64 C.sg, .int .i64 C.sp, .bool C.un, .int .i64 C.tr, .string C.pt, .string C.key]) (.agg #[.int .i64 C.sg, .int .i64 C.sp, .bool C.un, .int .i64 C.tr, .string C.pt, .string C.key])).run Tryz.prog W = .ok (.bool false) W := by
  have e := Sa.neq_cmd C C W
  rw [Sa.eqC_self] at e
  exact e
end
set_option maxHeartbeats 40000000 in
set_option maxRecDepth 100000 in
theorem walk (LA : Option Addr) (lc : Nat) (l : List EX) (lim : Int) (w : World) (hT : Tab w) (hml : l.length ≤ 9223372036854775807) (hf : ∀ e ∈ l, e.Fits w) (hle : Els EX.cells 12 w w.heap.size LA l) :
    Calls Tryz.prog 3 #[.slice LA l.length lc, .int .i64 lim] w fun e w' => e = .returned (.bool true) ∧ Below w.heap.size w w' := by
  obtain ⟨m, hm⟩ : ∃ m, m = l.length := ⟨_, rfl⟩
  rw [← hm] at hml ⊢
  have HL := Lib.hid hle
  have HM := Lib.hid hm
  have HFT := Lib.hid hf
  have HT := Lib.hid (fun W (hW : Below w.heap.size w W) => tab_below hT hW)
  have HA := Lib.hid (awake16_any w hT)
  clear hle hm hf hT
  by_cases h40 : m ≤ 40
  · have t1 : decide ((40 : Int) < (m : Int)) = false := decide_eq_false (by omega)
    have t2 : decide (40 < m) = false := decide_eq_false (by omega)
    go_enter Tryz.func3, Tryz.ntmps3
    go_upto_region 7 with (go_at_call 5; (with_reducible refine HA.out.mono ?_); rintro e w1 ⟨rfl, hb⟩; have H0 := Lib.hid (at_begin (lim := lim) hb); clear hb)
    clear HA
    generalize ((w1.alloc _).alloc _) = W2 at *
    generalize w1.heap.size = b5 at *
    go_upto_region 8 with fail
    go_loopw [7] (fun vi wr => ∃ (k : Nat) (x z : SV), vi = .int .i64 (k : Int) ∧ k ≤ m ∧ Hid (At w wr b5 x z k lim)) (fun vi _ => m - (intOf vi).toNat)
    case atStart => exact ⟨0, sv0, sv0, rfl, Nat.zero_le _, H0⟩
    case round =>
      clear H0
      obtain ⟨k, x, z, rfl, hk, HW⟩ := hrel
      by_cases hkm : k < m
      · obtain ⟨a, ha⟩ : ∃ a, l[k]? = some a := ⟨l[k]'(by have := HM.out; omega), List.getElem?_eq_getElem _⟩
        obtain ⟨b, o, hLA, hbw, hac⟩ := HL.out k a ha
        subst hLA
        have HFA := Lib.hid (HFT.out a (List.mem_of_getElem? ha))
        obtain ⟨v, A, ac⟩ := a
        obtain ⟨an, han⟩ : ∃ an, an = v.ss.length := ⟨_, rfl⟩
        have HAN := Lib.hid han
        have HAC : Hid (∀ W, Below w.heap.size w W → W.cell? ⟨b, o + k * 12, none⟩ = some (.int .i64 v.k) ∧ W.cell? ⟨b, o + k * 12 + 1, none⟩ = some (.int .i64 v.now) ∧ W.cell? ⟨b, o + k * 12 + 2, none⟩ = some (.int .i64 v.sg) ∧ W.cell? ⟨b, o + k * 12 + 3, none⟩ = some (.string v.nm) ∧ W.cell? ⟨b, o + k * 12 + 4, none⟩ = some (.int .i64 v.r.sg) ∧ W.cell? ⟨b, o + k * 12 + 5, none⟩ = some (.int .i64 v.r.sp) ∧ W.cell? ⟨b, o + k * 12 + 6, none⟩ = some (.bool v.r.un) ∧ W.cell? ⟨b, o + k * 12 + 7, none⟩ = some (.int .i64 v.r.tr) ∧ W.cell? ⟨b, o + k * 12 + 8, none⟩ = some (.bool v.r.good) ∧ W.cell? ⟨b, o + k * 12 + 9, none⟩ = some (.string v.dn) ∧ W.cell? ⟨b, o + k * 12 + 10, none⟩ = some (.int .i64 v.dl) ∧ W.cell? ⟨b, o + k * 12 + 11, none⟩ = some (.slice A an ac)) := Lib.hid fun W hW => ⟨(hW.cell (p := ⟨b, o + k * 12, none⟩) hbw).trans (hac 0 _ rfl), (hW.cell (p := ⟨b, o + k * 12 + 1, none⟩) hbw).trans (hac 1 _ rfl), (hW.cell (p := ⟨b, o + k * 12 + 2, none⟩) hbw).trans (hac 2 _ rfl), (hW.cell (p := ⟨b, o + k * 12 + 3, none⟩) hbw).trans (hac 3 _ rfl), (hW.cell (p := ⟨b, o + k * 12 + 4, none⟩) hbw).trans (hac 4 _ rfl), (hW.cell (p := ⟨b, o + k * 12 + 5, none⟩) hbw).trans (hac 5 _ rfl), (hW.cell (p := ⟨b, o + k * 12 + 6, none⟩) hbw).trans (hac 6 _ rfl), (hW.cell (p := ⟨b, o + k * 12 + 7, none⟩) hbw).trans (hac 7 _ rfl), (hW.cell (p := ⟨b, o + k * 12 + 8, none⟩) hbw).trans (hac 8 _ rfl), (hW.cell (p := ⟨b, o + k * 12 + 9, none⟩) hbw).trans (hac 9 _ rfl), (hW.cell (p := ⟨b, o + k * 12 + 10, none⟩) hbw).trans (hac 10 _ rfl), (hW.cell (p := ⟨b, o + k * 12 + 11, none⟩) hbw).trans (by rw [han]; exact hac 11 _ rfl)⟩
        have HSH : Hid (∀ W, Below w.heap.size w W → Calls Tryz.prog 6 #[.agg #[.int .i64 v.k, .int .i64 v.now, .int .i64 v.sg, .string v.nm, .int .i64 v.r.sg, .int .i64 v.r.sp, .bool v.r.un, .int .i64 v.r.tr, .bool v.r.good, .string v.dn, .int .i64 v.dl, .slice A an ac]] W fun e w' => e = .returned (.int .i64 (shortI v)) ∧ Below W.heap.size W w') := Lib.hid fun W hW => short_any ⟨v, A, ac⟩ an han W (HFA.out.on hW)
        clear ha hac han
        obtain ⟨e0, e1, e2, e3, e4, e5, e6, e7, e8, e9, e10, e11⟩ := HAC.out wr HW.out.bel
        by_cases hs : shortI v = 0
        · rw [hs] at HSH
          obtain ⟨hmod, hnm⟩ := short_mod hs
          have HEV : ∀ W, Below wr.heap.size wr W → EvIn W v A an ac := fun W hW => ⟨HAN.out, by rw [HAN.out]; exact HFA.out.cap, hmod, hnm, (HFA.out.on (HW.out.bel.trans (hW.mono HW.out.bel.size))).mem⟩
          have HNO : A = none → an = 0 ∧ ac = 0 := by rw [HAN.out]; exact HFA.out.nil
          have HDO := Lib.hid (fun W (hW : Below wr.heap.size wr W) => do_any16 x v A an ac lim W (HW.out.sx.on hW) HW.out.inv (by have := HW.out.few; omega) (HEV W hW) HNO (HT.out W (HW.out.bel.trans (hW.mono HW.out.bel.size))))
          have HDR := Lib.hid (fun W (hW : Below wr.heap.size wr W) => rdo_any16 z v A an ac lim W (HW.out.sz.on hW) HW.out.invz (by have := HW.out.fewz; omega) (HEV W hW) HNO (HT.out W (HW.out.bel.trans (hW.mono HW.out.bel.size))))
          have HGW := Lib.hid (grown_do x.st v lim).few
          have HLY := Lib.hid (lim_do (x := x.st) (v := v) (lim := lim) (by have h1 := HW.out.lim; rw [HW.out.sx.lS] at h1; exact h1))
          have HNX := Lib.hid (fun (u : World) (y q : SV) (h : At w u b5 x z k lim) => at_next (y := y) (q := q) (v := v) h hmod)
          have HIY := Lib.hid (inv_do (lim := lim) HW.out.inv hmod)
          unfold DoIs at HDO
          unfold RDoIs at HDR
          rw [HW.out.same] at HDR
          have HDO2 := Lib.hid (fun W (hW : Below wr.heap.size wr W) => (HDO.out W hW).mono fun e w' (h : _) => (show ∃ y : SV, e = .returned (.tuple #[.agg y.arr, .agg (doS x.st v lim).2.1.arr, .int .i64 (doS x.st v lim).2.2]) ∧ SIn w' y ∧ y.st = (doS x.st v lim).1 ∧ Below W.heap.size W w' from by obtain ⟨y, h1, h2, h3, h4⟩ := h; exact ⟨y, h1, h2.sin, h3, h4⟩))
          clear HDO HEV HNO
          have HDO := HDO2
          clear HDO2
          generalize doS x.st v lim = Y at *
          obtain ⟨Y1, C, er⟩ := Y
          dsimp only at HDO HDR HGW HLY HNX HIY
          clear hs hmod hnm HFA
          go_upto_region 12 with (go_at_call 6; (with_reducible refine (HSH.out _ HW.out.bel).mono ?_); rintro e W3 ⟨rfl, hb⟩; have H3 := Lib.hid (HW.out.on hb); have HB3 := Lib.hid hb; clear hb)
          clear e0 e1 e2 e3 e4 e5 e6 e7 e8 e9 e10 e11 HSH
          have HD : Hid (∀ W, Below W3.heap.size W3 W → Calls Tryz.prog 7 #[.agg #[.slice x.AD x.nD x.cD, .slice x.AS x.nS x.cS, .int .i64 x.nx], .agg #[.int .i64 v.k, .int .i64 v.now, .int .i64 v.sg, .string v.nm, .int .i64 v.r.sg, .int .i64 v.r.sp, .bool v.r.un, .int .i64 v.r.tr, .bool v.r.good, .string v.dn, .int .i64 v.dl, .slice A an ac], .int .i64 lim] W fun e w' => ∃ y : SV, e = .returned (.tuple #[.agg y.arr, .agg C.arr, .int .i64 er]) ∧ SIn w' y ∧ y.st = Y1 ∧ Below W.heap.size W w') := Lib.hid (fun W hW => HDO.out W (HB3.out.trans (hW.mono HB3.out.size)))
          have HDR3 := Lib.hid (fun W (hW : Below W3.heap.size W3 W) => HDR.out W (HB3.out.trans (hW.mono HB3.out.size)))
          clear HDO HDR
          go_cut [8, 9, 10] (fun v1 v2 v3 wc => ∃ (g7 g8 : Nat) (y : SV), v1 = .pointer (some ⟨g7, 0, none⟩) ∧ v2 = .pointer (some ⟨g8, 0, none⟩) ∧ v3 = .int .i64 er ∧ Hid (Below W3.heap.size W3 wc ∧ Box wc g7 27 y.arr ∧ Box wc g8 37 C.arr ∧ SIn wc y ∧ y.st = Y1 ∧ W3.heap.size ≤ g7 ∧ W3.heap.size ≤ g8))
          case first => as_aux_lemma =>
            have hwW := H3.out.bel
            have hwB := hwW.size
            have hb5 : b5 < W3.heap.size := H3.out.bx.lt
            have u0 : ∀ u, Below W3.heap.size W3 u → u.cell? ⟨b5, 0, none⟩ = some (.slice x.AD x.nD x.cD) := fun u H => (H.cell (p := ⟨b5, 0, none⟩) hb5).trans (H3.out.bx.cell 0)
            have u1 : ∀ u, Below W3.heap.size W3 u → u.cell? ⟨b5, 1, none⟩ = some (.slice x.AS x.nS x.cS) := fun u H => (H.cell (p := ⟨b5, 1, none⟩) hb5).trans (H3.out.bx.cell 1)
            have u2 : ∀ u, Below W3.heap.size W3 u → u.cell? ⟨b5, 2, none⟩ = some (.int .i64 x.nx) := fun u H => (H.cell (p := ⟨b5, 2, none⟩) hb5).trans (H3.out.bx.cell 2)
            obtain ⟨e0, e1, e2, e3, e4, e5, e6, e7, e8, e9, e10, e11⟩ := HAC.out W3 H3.out.bel
            have a0 : ∀ u, Below W3.heap.size W3 u → u.cell? ⟨b, o + k * 12, none⟩ = some (.int .i64 v.k) := fun u H => (H.cell (p := ⟨b, o + k * 12, none⟩) (show b < W3.heap.size from Nat.lt_of_lt_of_le hbw H3.out.bel.size)).trans e0
            have a1 : ∀ u, Below W3.heap.size W3 u → u.cell? ⟨b, o + k * 12 + 1, none⟩ = some (.int .i64 v.now) := fun u H => (H.cell (p := ⟨b, o + k * 12 + 1, none⟩) (show b < W3.heap.size from Nat.lt_of_lt_of_le hbw H3.out.bel.size)).trans e1
            have a2 : ∀ u, Below W3.heap.size W3 u → u.cell? ⟨b, o + k * 12 + 2, none⟩ = some (.int .i64 v.sg) := fun u H => (H.cell (p := ⟨b, o + k * 12 + 2, none⟩) (show b < W3.heap.size from Nat.lt_of_lt_of_le hbw H3.out.bel.size)).trans e2
            have a3 : ∀ u, Below W3.heap.size W3 u → u.cell? ⟨b, o + k * 12 + 3, none⟩ = some (.string v.nm) := fun u H => (H.cell (p := ⟨b, o + k * 12 + 3, none⟩) (show b < W3.heap.size from Nat.lt_of_lt_of_le hbw H3.out.bel.size)).trans e3
            have a4 : ∀ u, Below W3.heap.size W3 u → u.cell? ⟨b, o + k * 12 + 4, none⟩ = some (.int .i64 v.r.sg) := fun u H => (H.cell (p := ⟨b, o + k * 12 + 4, none⟩) (show b < W3.heap.size from Nat.lt_of_lt_of_le hbw H3.out.bel.size)).trans e4
            have a5 : ∀ u, Below W3.heap.size W3 u → u.cell? ⟨b, o + k * 12 + 5, none⟩ = some (.int .i64 v.r.sp) := fun u H => (H.cell (p := ⟨b, o + k * 12 + 5, none⟩) (show b < W3.heap.size from Nat.lt_of_lt_of_le hbw H3.out.bel.size)).trans e5
            have a6 : ∀ u, Below W3.heap.size W3 u → u.cell? ⟨b, o + k * 12 + 6, none⟩ = some (.bool v.r.un) := fun u H => (H.cell (p := ⟨b, o + k * 12 + 6, none⟩) (show b < W3.heap.size from Nat.lt_of_lt_of_le hbw H3.out.bel.size)).trans e6
            have a7 : ∀ u, Below W3.heap.size W3 u → u.cell? ⟨b, o + k * 12 + 7, none⟩ = some (.int .i64 v.r.tr) := fun u H => (H.cell (p := ⟨b, o + k * 12 + 7, none⟩) (show b < W3.heap.size from Nat.lt_of_lt_of_le hbw H3.out.bel.size)).trans e7
            have a8 : ∀ u, Below W3.heap.size W3 u → u.cell? ⟨b, o + k * 12 + 8, none⟩ = some (.bool v.r.good) := fun u H => (H.cell (p := ⟨b, o + k * 12 + 8, none⟩) (show b < W3.heap.size from Nat.lt_of_lt_of_le hbw H3.out.bel.size)).trans e8
            have a9 : ∀ u, Below W3.heap.size W3 u → u.cell? ⟨b, o + k * 12 + 9, none⟩ = some (.string v.dn) := fun u H => (H.cell (p := ⟨b, o + k * 12 + 9, none⟩) (show b < W3.heap.size from Nat.lt_of_lt_of_le hbw H3.out.bel.size)).trans e9
            have a10 : ∀ u, Below W3.heap.size W3 u → u.cell? ⟨b, o + k * 12 + 10, none⟩ = some (.int .i64 v.dl) := fun u H => (H.cell (p := ⟨b, o + k * 12 + 10, none⟩) (show b < W3.heap.size from Nat.lt_of_lt_of_le hbw H3.out.bel.size)).trans e10
            have a11 : ∀ u, Below W3.heap.size W3 u → u.cell? ⟨b, o + k * 12 + 11, none⟩ = some (.slice A an ac) := fun u H => (H.cell (p := ⟨b, o + k * 12 + 11, none⟩) (show b < W3.heap.size from Nat.lt_of_lt_of_le hbw H3.out.bel.size)).trans e11
            clear e0 e1 e2 e3 e4 e5 e6 e7 e8 e9 e10 e11
            have bd0 : Hid (Below W3.heap.size W3 W3.drew) := Lib.hid (Below.drew (Below.refl _ _))
            refine wp_region_held_drew (S := fun u => Below W3.heap.size W3 u) (by kernel_rfl) bd0.out (fun hHeld => ?_)
            generalize W3.drew = V0 at *
            refine Un.tk 0 34 rfl ?_
            refine Un.tk 1 35 rfl ?_
            refine Un.tk 2 36 rfl ?_
            refine Un.tk 3 37 rfl ?_
            refine Un.tk 4 38 rfl ?_
            refine Un.tk 5 39 rfl ?_
            refine wpAnyH_ready (rs := [6, 11, 12]) (by decide +kernel) (by simp) ?_
            refine AllReadyH.cons (o := ⟨some 40, _, _, _, _, _⟩) rfl (fun K hK => ?_) (AllReadyH.cons (o := ⟨some 8, _, _, _, _, _⟩) rfl (fun K hK => ?_) (AllReadyH.cons (o := ⟨some 9, _, _, _, _, _⟩) rfl (fun K hK => ?_) AllReadyH.nil))
            · as_aux_lemma =>
                have ersz := bd0.out.size
                go_simp
                (with_reducible refine (HD.out _ ((bd0.out.mono (Nat.le_refl _)))).mono ?_)
                rintro e v1 ⟨y, rfl, ho, hst, hb⟩
                have bd1 := Lib.hid (bd0.out.trans (hb.mono bd0.out.size))
                have ow1 := Lib.hid ho
                have HST := Lib.hid hst
                clear ho hst
                have hs1 := hb.size
                clear hb
                go_wp2_with fail
                refine hK.out _ _ ?_ (fun hHeld => ?_)
                · exact bd1.out
                clear hK K
                (try simp only [Act.put, List.setIfInBounds_toArray, List.set_cons_zero, List.set_cons_succ])
                refine Un.tk 7 33 rfl ?_
                refine Un.tk 8 41 rfl ?_
                refine Un.tk 9 42 rfl ?_
                refine Un.tk 10 43 rfl ?_
                refine wpAnyH_ready (rs := [11, 12]) (by decide +kernel) (by simp) ?_
                refine AllReadyH.cons (o := ⟨some 8, _, _, _, _, _⟩) rfl (fun K hK => ?_) (AllReadyH.cons (o := ⟨some 9, _, _, _, _, _⟩) rfl (fun K hK => ?_) AllReadyH.nil)
                · as_aux_lemma =>
                    go_simp
                    refine hK.out _ _ ?_ (fun hHeld => ?_)
                    · exact bd1.out.alloc bd1.out.size _
                    clear hK K
                    (try simp only [Act.put, List.setIfInBounds_toArray, List.set_cons_zero, List.set_cons_succ])
                    have bd2 := Lib.hid (below_is hHeld)
                    have es1 := bd1.out.size
                    have ow2 := Lib.hid (own_more hHeld ow1.out)
                    have q2 : Hid (Sa.Slot _ _ 27 3) := Lib.hid (slot_new hHeld rfl)
                    have qb2 := Lib.hid (st_new hHeld)
                    generalize v1.alloc _ = V2 at *
                    have ls1 := q2.out.lt
                    refine wpAnyH_ready (rs := [12]) (by decide +kernel) (by simp) ?_
                    refine AllReadyH.cons (o := ⟨some 9, _, _, _, _, _⟩) rfl (fun K hK => ?_) AllReadyH.nil
                    · as_aux_lemma =>
                        go_simp
                        refine hK.out _ _ ?_ (fun hHeld => ?_)
                        · exact bd2.out.alloc bd2.out.size _
                        clear hK K
                        (try simp only [Act.put, List.setIfInBounds_toArray, List.set_cons_zero, List.set_cons_succ])
                        have bd3 := Lib.hid (below_is hHeld)
                        have es2 := bd2.out.size
                        have ow3 := Lib.hid (own_more hHeld ow2.out)
                        have k3 : Hid (Sa.Slot _ _ 37 6) := Lib.hid (slot_new hHeld rfl)
                        have kb3 := Lib.hid (cm_new hHeld)
                        have q3 := Lib.hid (slot_more hHeld q2.out)
                        have qb3 := Lib.hid (box_more hHeld qb2.out)
                        generalize V2.alloc _ = V3 at *
                        have ls2 := k3.out.lt
                        have BE := Sa.row_end bd3.out (show W3.heap.size ≤ v1.heap.size by omega) (y).arr
                        have BF := Sa.row_end BE (show W3.heap.size ≤ V2.heap.size by omega) (C).arr
                        obtain ⟨cs, hcs, hsz⟩ := q3.out
                        refine Sa.st1 13 27 _ _ rfl (v1.heap.size) 27 cs (y).arr rfl rfl hcs (sizeT _) hsz (oneT _) BE (fun hHeld => ?_)
                        clear hcs hsz
                        have hk2 := Sa.slot_rowfar k3.out (show V2.heap.size ≠ v1.heap.size by omega) (y).arr
                        obtain ⟨cs, hcs, hsz⟩ := hk2
                        refine Sa.st1 14 37 _ _ rfl (V2.heap.size) 37 cs (C).arr rfl rfl hcs (Sa.sizeC _) hsz (Sa.oneC _) BF (fun hHeld => ?_)
                        clear hcs hsz
                        refine Un.tk 15 10 rfl ?_
                        refine wpAnyH_done (by kernel_rfl) ?_ _
                        go_wp2
                        go_meet
                        exact ⟨_, _, y, rfl, rfl, rfl, Lib.hid ⟨BF, Sa.box_far (q3.out.row _) (show v1.heap.size ≠ V2.heap.size by omega) _, (Sa.slot_rowfar k3.out (show V2.heap.size ≠ v1.heap.size by omega) _).row _, sin_cm (sin_st ow3.out qb3.out _) (Sa.box_far kb3.out (show V2.heap.size ≠ v1.heap.size by omega) _) _, HST.out, show W3.heap.size ≤ v1.heap.size by omega, show W3.heap.size ≤ V2.heap.size by omega⟩⟩
                · as_aux_lemma =>
                    go_simp
                    refine hK.out _ _ ?_ (fun hHeld => ?_)
                    · exact bd1.out.alloc bd1.out.size _
                    clear hK K
                    (try simp only [Act.put, List.setIfInBounds_toArray, List.set_cons_zero, List.set_cons_succ])
                    have bd2 := Lib.hid (below_is hHeld)
                    have es1 := bd1.out.size
                    have ow2 := Lib.hid (own_more hHeld ow1.out)
                    have k2 : Hid (Sa.Slot _ _ 37 6) := Lib.hid (slot_new hHeld rfl)
                    have kb2 := Lib.hid (cm_new hHeld)
                    generalize v1.alloc _ = V2 at *
                    have ls1 := k2.out.lt
                    refine wpAnyH_ready (rs := [11]) (by decide +kernel) (by simp) ?_
                    refine AllReadyH.cons (o := ⟨some 8, _, _, _, _, _⟩) rfl (fun K hK => ?_) AllReadyH.nil
                    · as_aux_lemma =>
                        go_simp
                        refine hK.out _ _ ?_ (fun hHeld => ?_)
                        · exact bd2.out.alloc bd2.out.size _
                        clear hK K
                        (try simp only [Act.put, List.setIfInBounds_toArray, List.set_cons_zero, List.set_cons_succ])
                        have bd3 := Lib.hid (below_is hHeld)
                        have es2 := bd2.out.size
                        have ow3 := Lib.hid (own_more hHeld ow2.out)
                        have q3 : Hid (Sa.Slot _ _ 27 3) := Lib.hid (slot_new hHeld rfl)
                        have qb3 := Lib.hid (st_new hHeld)
                        have k3 := Lib.hid (slot_more hHeld k2.out)
                        have kb3 := Lib.hid (box_more hHeld kb2.out)
                        generalize V2.alloc _ = V3 at *
                        have ls2 := q3.out.lt
                        have BE := Sa.row_end bd3.out (show W3.heap.size ≤ V2.heap.size by omega) (y).arr
                        have BF := Sa.row_end BE (show W3.heap.size ≤ v1.heap.size by omega) (C).arr
                        obtain ⟨cs, hcs, hsz⟩ := q3.out
                        refine Sa.st1 13 27 _ _ rfl (V2.heap.size) 27 cs (y).arr rfl rfl hcs (sizeT _) hsz (oneT _) BE (fun hHeld => ?_)
                        clear hcs hsz
                        have hk2 := Sa.slot_rowfar k3.out (show v1.heap.size ≠ V2.heap.size by omega) (y).arr
                        obtain ⟨cs, hcs, hsz⟩ := hk2
                        refine Sa.st1 14 37 _ _ rfl (v1.heap.size) 37 cs (C).arr rfl rfl hcs (Sa.sizeC _) hsz (Sa.oneC _) BF (fun hHeld => ?_)
                        clear hcs hsz
                        refine Un.tk 15 10 rfl ?_
                        refine wpAnyH_done (by kernel_rfl) ?_ _
                        go_wp2
                        go_meet
                        exact ⟨_, _, y, rfl, rfl, rfl, Lib.hid ⟨BF, Sa.box_far (q3.out.row _) (show V2.heap.size ≠ v1.heap.size by omega) _, (Sa.slot_rowfar k3.out (show v1.heap.size ≠ V2.heap.size by omega) _).row _, sin_cm (sin_st ow3.out qb3.out _) (Sa.box_far kb3.out (show v1.heap.size ≠ V2.heap.size by omega) _) _, HST.out, show W3.heap.size ≤ V2.heap.size by omega, show W3.heap.size ≤ v1.heap.size by omega⟩⟩
            · as_aux_lemma =>
                go_simp
                refine hK.out _ _ ?_ (fun hHeld => ?_)
                · exact bd0.out.alloc bd0.out.size _
                clear hK K
                (try simp only [Act.put, List.setIfInBounds_toArray, List.set_cons_zero, List.set_cons_succ])
                have bd1 := Lib.hid (below_is hHeld)
                have es0 := bd0.out.size
                have q1 : Hid (Sa.Slot _ _ 27 3) := Lib.hid (slot_new hHeld rfl)
                have qb1 := Lib.hid (st_new hHeld)
                generalize V0.alloc _ = V1 at *
                have ls0 := q1.out.lt
                refine wpAnyH_ready (rs := [6, 12]) (by decide +kernel) (by simp) ?_
                refine AllReadyH.cons (o := ⟨some 40, _, _, _, _, _⟩) rfl (fun K hK => ?_) (AllReadyH.cons (o := ⟨some 9, _, _, _, _, _⟩) rfl (fun K hK => ?_) AllReadyH.nil)
                · as_aux_lemma =>
                    have ersz := bd1.out.size
                    go_simp
                    (with_reducible refine (HD.out _ ((bd1.out.mono (Nat.le_refl _)))).mono ?_)
                    rintro e v1 ⟨y, rfl, ho, hst, hb⟩
                    have bd2 := Lib.hid (bd1.out.trans (hb.mono bd1.out.size))
                    have ow2 := Lib.hid ho
                    have HST := Lib.hid hst
                    clear ho hst
                    have q2 := Lib.hid (Sa.slot_on q1.out hb)
                    have qb2 := Lib.hid (qb1.out.below hb qb1.out.lt)
                    have hs2 := hb.size
                    clear hb
                    go_wp2_with fail
                    refine hK.out _ _ ?_ (fun hHeld => ?_)
                    · exact bd2.out
                    clear hK K
                    (try simp only [Act.put, List.setIfInBounds_toArray, List.set_cons_zero, List.set_cons_succ])
                    refine Un.tk 7 33 rfl ?_
                    refine Un.tk 8 41 rfl ?_
                    refine Un.tk 9 42 rfl ?_
                    refine Un.tk 10 43 rfl ?_
                    refine wpAnyH_ready (rs := [12]) (by decide +kernel) (by simp) ?_
                    refine AllReadyH.cons (o := ⟨some 9, _, _, _, _, _⟩) rfl (fun K hK => ?_) AllReadyH.nil
                    · as_aux_lemma =>
                        go_simp
                        refine hK.out _ _ ?_ (fun hHeld => ?_)
                        · exact bd2.out.alloc bd2.out.size _
                        clear hK K
                        (try simp only [Act.put, List.setIfInBounds_toArray, List.set_cons_zero, List.set_cons_succ])
                        have bd3 := Lib.hid (below_is hHeld)
                        have es2 := bd2.out.size
                        have ow3 := Lib.hid (own_more hHeld ow2.out)
                        have k3 : Hid (Sa.Slot _ _ 37 6) := Lib.hid (slot_new hHeld rfl)
                        have kb3 := Lib.hid (cm_new hHeld)
                        have q3 := Lib.hid (slot_more hHeld q2.out)
                        have qb3 := Lib.hid (box_more hHeld qb2.out)
                        generalize v1.alloc _ = V3 at *
                        have ls2 := k3.out.lt
                        have BE := Sa.row_end bd3.out (show W3.heap.size ≤ V0.heap.size by omega) (y).arr
                        have BF := Sa.row_end BE (show W3.heap.size ≤ v1.heap.size by omega) (C).arr
                        obtain ⟨cs, hcs, hsz⟩ := q3.out
                        refine Sa.st1 13 27 _ _ rfl (V0.heap.size) 27 cs (y).arr rfl rfl hcs (sizeT _) hsz (oneT _) BE (fun hHeld => ?_)
                        clear hcs hsz
                        have hk2 := Sa.slot_rowfar k3.out (show v1.heap.size ≠ V0.heap.size by omega) (y).arr
                        obtain ⟨cs, hcs, hsz⟩ := hk2
                        refine Sa.st1 14 37 _ _ rfl (v1.heap.size) 37 cs (C).arr rfl rfl hcs (Sa.sizeC _) hsz (Sa.oneC _) BF (fun hHeld => ?_)
                        clear hcs hsz
                        refine Un.tk 15 10 rfl ?_
                        refine wpAnyH_done (by kernel_rfl) ?_ _
                        go_wp2
                        go_meet
                        exact ⟨_, _, y, rfl, rfl, rfl, Lib.hid ⟨BF, Sa.box_far (q3.out.row _) (show V0.heap.size ≠ v1.heap.size by omega) _, (Sa.slot_rowfar k3.out (show v1.heap.size ≠ V0.heap.size by omega) _).row _, sin_cm (sin_st ow3.out qb3.out _) (Sa.box_far kb3.out (show v1.heap.size ≠ V0.heap.size by omega) _) _, HST.out, show W3.heap.size ≤ V0.heap.size by omega, show W3.heap.size ≤ v1.heap.size by omega⟩⟩
                · as_aux_lemma =>
                    go_simp
                    refine hK.out _ _ ?_ (fun hHeld => ?_)
                    · exact bd1.out.alloc bd1.out.size _
                    clear hK K
                    (try simp only [Act.put, List.setIfInBounds_toArray, List.set_cons_zero, List.set_cons_succ])
                    have bd2 := Lib.hid (below_is hHeld)
                    have es1 := bd1.out.size
                    have k2 : Hid (Sa.Slot _ _ 37 6) := Lib.hid (slot_new hHeld rfl)
                    have kb2 := Lib.hid (cm_new hHeld)
                    have q2 := Lib.hid (slot_more hHeld q1.out)
                    have qb2 := Lib.hid (box_more hHeld qb1.out)
                    generalize V1.alloc _ = V2 at *
                    have ls1 := k2.out.lt
                    refine wpAnyH_ready (rs := [6]) (by decide +kernel) (by simp) ?_
                    refine AllReadyH.cons (o := ⟨some 40, _, _, _, _, _⟩) rfl (fun K hK => ?_) AllReadyH.nil
                    · as_aux_lemma =>
                        have ersz := bd2.out.size
                        go_simp
                        (with_reducible refine (HD.out _ ((bd2.out.mono (Nat.le_refl _)))).mono ?_)
                        rintro e v1 ⟨y, rfl, ho, hst, hb⟩
                        have bd3 := Lib.hid (bd2.out.trans (hb.mono bd2.out.size))
                        have ow3 := Lib.hid ho
                        have HST := Lib.hid hst
                        clear ho hst
                        have q3 := Lib.hid (Sa.slot_on q2.out hb)
                        have qb3 := Lib.hid (qb2.out.below hb qb2.out.lt)
                        have k3 := Lib.hid (Sa.slot_on k2.out hb)
                        have kb3 := Lib.hid (kb2.out.below hb kb2.out.lt)
                        have hs3 := hb.size
                        clear hb
                        go_wp2_with fail
                        refine hK.out _ _ ?_ (fun hHeld => ?_)
                        · exact bd3.out
                        clear hK K
                        (try simp only [Act.put, List.setIfInBounds_toArray, List.set_cons_zero, List.set_cons_succ])
                        refine Un.tk 7 33 rfl ?_
                        refine Un.tk 8 41 rfl ?_
                        refine Un.tk 9 42 rfl ?_
                        refine Un.tk 10 43 rfl ?_
                        have BE := Sa.row_end bd3.out (show W3.heap.size ≤ V0.heap.size by omega) (y).arr
                        have BF := Sa.row_end BE (show W3.heap.size ≤ V1.heap.size by omega) (C).arr
                        obtain ⟨cs, hcs, hsz⟩ := q3.out
                        refine Sa.st1 13 27 _ _ rfl (V0.heap.size) 27 cs (y).arr rfl rfl hcs (sizeT _) hsz (oneT _) BE (fun hHeld => ?_)
                        clear hcs hsz
                        have hk2 := Sa.slot_rowfar k3.out (show V1.heap.size ≠ V0.heap.size by omega) (y).arr
                        obtain ⟨cs, hcs, hsz⟩ := hk2
                        refine Sa.st1 14 37 _ _ rfl (V1.heap.size) 37 cs (C).arr rfl rfl hcs (Sa.sizeC _) hsz (Sa.oneC _) BF (fun hHeld => ?_)
                        clear hcs hsz
                        refine Un.tk 15 10 rfl ?_
                        refine wpAnyH_done (by kernel_rfl) ?_ _
                        go_wp2
                        go_meet
                        exact ⟨_, _, y, rfl, rfl, rfl, Lib.hid ⟨BF, Sa.box_far (q3.out.row _) (show V0.heap.size ≠ V1.heap.size by omega) _, (Sa.slot_rowfar k3.out (show V1.heap.size ≠ V0.heap.size by omega) _).row _, sin_cm (sin_st ow3.out qb3.out _) (Sa.box_far kb3.out (show V1.heap.size ≠ V0.heap.size by omega) _) _, HST.out, show W3.heap.size ≤ V0.heap.size by omega, show W3.heap.size ≤ V1.heap.size by omega⟩⟩
            · as_aux_lemma =>
                go_simp
                refine hK.out _ _ ?_ (fun hHeld => ?_)
                · exact bd0.out.alloc bd0.out.size _
                clear hK K
                (try simp only [Act.put, List.setIfInBounds_toArray, List.set_cons_zero, List.set_cons_succ])
                have bd1 := Lib.hid (below_is hHeld)
                have es0 := bd0.out.size
                have k1 : Hid (Sa.Slot _ _ 37 6) := Lib.hid (slot_new hHeld rfl)
                have kb1 := Lib.hid (cm_new hHeld)
                generalize V0.alloc _ = V1 at *
                have ls0 := k1.out.lt
                refine wpAnyH_ready (rs := [6, 11]) (by decide +kernel) (by simp) ?_
                refine AllReadyH.cons (o := ⟨some 40, _, _, _, _, _⟩) rfl (fun K hK => ?_) (AllReadyH.cons (o := ⟨some 8, _, _, _, _, _⟩) rfl (fun K hK => ?_) AllReadyH.nil)
                · as_aux_lemma =>
                    have ersz := bd1.out.size
                    go_simp
                    (with_reducible refine (HD.out _ ((bd1.out.mono (Nat.le_refl _)))).mono ?_)
                    rintro e v1 ⟨y, rfl, ho, hst, hb⟩
                    have bd2 := Lib.hid (bd1.out.trans (hb.mono bd1.out.size))
                    have ow2 := Lib.hid ho
                    have HST := Lib.hid hst
                    clear ho hst
                    have k2 := Lib.hid (Sa.slot_on k1.out hb)
                    have kb2 := Lib.hid (kb1.out.below hb kb1.out.lt)
                    have hs2 := hb.size
                    clear hb
                    go_wp2_with fail
                    refine hK.out _ _ ?_ (fun hHeld => ?_)
                    · exact bd2.out
                    clear hK K
                    (try simp only [Act.put, List.setIfInBounds_toArray, List.set_cons_zero, List.set_cons_succ])
                    refine Un.tk 7 33 rfl ?_
                    refine Un.tk 8 41 rfl ?_
                    refine Un.tk 9 42 rfl ?_
                    refine Un.tk 10 43 rfl ?_
                    refine wpAnyH_ready (rs := [11]) (by decide +kernel) (by simp) ?_
                    refine AllReadyH.cons (o := ⟨some 8, _, _, _, _, _⟩) rfl (fun K hK => ?_) AllReadyH.nil
                    · as_aux_lemma =>
                        go_simp
                        refine hK.out _ _ ?_ (fun hHeld => ?_)
                        · exact bd2.out.alloc bd2.out.size _
                        clear hK K
                        (try simp only [Act.put, List.setIfInBounds_toArray, List.set_cons_zero, List.set_cons_succ])
                        have bd3 := Lib.hid (below_is hHeld)
                        have es2 := bd2.out.size
                        have ow3 := Lib.hid (own_more hHeld ow2.out)
                        have q3 : Hid (Sa.Slot _ _ 27 3) := Lib.hid (slot_new hHeld rfl)
                        have qb3 := Lib.hid (st_new hHeld)
                        have k3 := Lib.hid (slot_more hHeld k2.out)
                        have kb3 := Lib.hid (box_more hHeld kb2.out)
                        generalize v1.alloc _ = V3 at *
                        have ls2 := q3.out.lt
                        have BE := Sa.row_end bd3.out (show W3.heap.size ≤ v1.heap.size by omega) (y).arr
                        have BF := Sa.row_end BE (show W3.heap.size ≤ V0.heap.size by omega) (C).arr
                        obtain ⟨cs, hcs, hsz⟩ := q3.out
                        refine Sa.st1 13 27 _ _ rfl (v1.heap.size) 27 cs (y).arr rfl rfl hcs (sizeT _) hsz (oneT _) BE (fun hHeld => ?_)
                        clear hcs hsz
                        have hk2 := Sa.slot_rowfar k3.out (show V0.heap.size ≠ v1.heap.size by omega) (y).arr
                        obtain ⟨cs, hcs, hsz⟩ := hk2
                        refine Sa.st1 14 37 _ _ rfl (V0.heap.size) 37 cs (C).arr rfl rfl hcs (Sa.sizeC _) hsz (Sa.oneC _) BF (fun hHeld => ?_)
                        clear hcs hsz
                        refine Un.tk 15 10 rfl ?_
                        refine wpAnyH_done (by kernel_rfl) ?_ _
                        go_wp2
                        go_meet
                        exact ⟨_, _, y, rfl, rfl, rfl, Lib.hid ⟨BF, Sa.box_far (q3.out.row _) (show v1.heap.size ≠ V0.heap.size by omega) _, (Sa.slot_rowfar k3.out (show V0.heap.size ≠ v1.heap.size by omega) _).row _, sin_cm (sin_st ow3.out qb3.out _) (Sa.box_far kb3.out (show V0.heap.size ≠ v1.heap.size by omega) _) _, HST.out, show W3.heap.size ≤ v1.heap.size by omega, show W3.heap.size ≤ V0.heap.size by omega⟩⟩
                · as_aux_lemma =>
                    go_simp
                    refine hK.out _ _ ?_ (fun hHeld => ?_)
                    · exact bd1.out.alloc bd1.out.size _
                    clear hK K
                    (try simp only [Act.put, List.setIfInBounds_toArray, List.set_cons_zero, List.set_cons_succ])
                    have bd2 := Lib.hid (below_is hHeld)
                    have es1 := bd1.out.size
                    have q2 : Hid (Sa.Slot _ _ 27 3) := Lib.hid (slot_new hHeld rfl)
                    have qb2 := Lib.hid (st_new hHeld)
                    have k2 := Lib.hid (slot_more hHeld k1.out)
                    have kb2 := Lib.hid (box_more hHeld kb1.out)
                    generalize V1.alloc _ = V2 at *
                    have ls1 := q2.out.lt
                    refine wpAnyH_ready (rs := [6]) (by decide +kernel) (by simp) ?_
                    refine AllReadyH.cons (o := ⟨some 40, _, _, _, _, _⟩) rfl (fun K hK => ?_) AllReadyH.nil
                    · as_aux_lemma =>
                        have ersz := bd2.out.size
                        go_simp
                        (with_reducible refine (HD.out _ ((bd2.out.mono (Nat.le_refl _)))).mono ?_)
                        rintro e v1 ⟨y, rfl, ho, hst, hb⟩
                        have bd3 := Lib.hid (bd2.out.trans (hb.mono bd2.out.size))
                        have ow3 := Lib.hid ho
                        have HST := Lib.hid hst
                        clear ho hst
                        have q3 := Lib.hid (Sa.slot_on q2.out hb)
                        have qb3 := Lib.hid (qb2.out.below hb qb2.out.lt)
                        have k3 := Lib.hid (Sa.slot_on k2.out hb)
                        have kb3 := Lib.hid (kb2.out.below hb kb2.out.lt)
                        have hs3 := hb.size
                        clear hb
                        go_wp2_with fail
                        refine hK.out _ _ ?_ (fun hHeld => ?_)
                        · exact bd3.out
                        clear hK K
                        (try simp only [Act.put, List.setIfInBounds_toArray, List.set_cons_zero, List.set_cons_succ])
                        refine Un.tk 7 33 rfl ?_
                        refine Un.tk 8 41 rfl ?_
                        refine Un.tk 9 42 rfl ?_
                        refine Un.tk 10 43 rfl ?_
                        have BE := Sa.row_end bd3.out (show W3.heap.size ≤ V1.heap.size by omega) (y).arr
                        have BF := Sa.row_end BE (show W3.heap.size ≤ V0.heap.size by omega) (C).arr
                        obtain ⟨cs, hcs, hsz⟩ := q3.out
                        refine Sa.st1 13 27 _ _ rfl (V1.heap.size) 27 cs (y).arr rfl rfl hcs (sizeT _) hsz (oneT _) BE (fun hHeld => ?_)
                        clear hcs hsz
                        have hk2 := Sa.slot_rowfar k3.out (show V0.heap.size ≠ V1.heap.size by omega) (y).arr
                        obtain ⟨cs, hcs, hsz⟩ := hk2
                        refine Sa.st1 14 37 _ _ rfl (V0.heap.size) 37 cs (C).arr rfl rfl hcs (Sa.sizeC _) hsz (Sa.oneC _) BF (fun hHeld => ?_)
                        clear hcs hsz
                        refine Un.tk 15 10 rfl ?_
                        refine wpAnyH_done (by kernel_rfl) ?_ _
                        go_wp2
                        go_meet
                        exact ⟨_, _, y, rfl, rfl, rfl, Lib.hid ⟨BF, Sa.box_far (q3.out.row _) (show V1.heap.size ≠ V0.heap.size by omega) _, (Sa.slot_rowfar k3.out (show V0.heap.size ≠ V1.heap.size by omega) _).row _, sin_cm (sin_st ow3.out qb3.out _) (Sa.box_far kb3.out (show V0.heap.size ≠ V1.heap.size by omega) _) _, HST.out, show W3.heap.size ≤ V1.heap.size by omega, show W3.heap.size ≤ V0.heap.size by omega⟩⟩
          case rest =>
            obtain ⟨g8, g9, p, rfl, rfl, rfl, HC⟩ := hcut
            have H4 := Lib.hid (H3.out.on HC.out.1)
            have HP8 := Lib.hid HC.out.2.1
            have HP9 := Lib.hid HC.out.2.2.1
            have HPS := Lib.hid HC.out.2.2.2.1
            have HPT := Lib.hid HC.out.2.2.2.2.1
            have HD2 : Hid (∀ W, Below wc.heap.size wc W → Calls Tryz.prog 8 #[.agg #[.slice z.AD z.nD z.cD, .slice z.AS z.nS z.cS, .int .i64 z.nx], .agg #[.int .i64 v.k, .int .i64 v.now, .int .i64 v.sg, .string v.nm, .int .i64 v.r.sg, .int .i64 v.r.sp, .bool v.r.un, .int .i64 v.r.tr, .bool v.r.good, .string v.dn, .int .i64 v.dl, .slice A an ac], .int .i64 lim] W fun e w' => ∃ y : SV, e = .returned (.tuple #[.agg y.arr, .agg C.arr, .int .i64 er]) ∧ SIn w' y ∧ y.st = Y1 ∧ Below W.heap.size W w') := Lib.hid (fun W hW => HDR3.out W (HC.out.1.trans (hW.mono HC.out.1.size)))
            clear HD HDR3 HC H3 HB3
            generalize wc = W4 at *
            go_upto_region 13 with fail
            go_cut [11, 12, 13] (fun v1 v2 v3 wc => ∃ (g7 g8 : Nat) (y : SV), v1 = .pointer (some ⟨g7, 0, none⟩) ∧ v2 = .pointer (some ⟨g8, 0, none⟩) ∧ v3 = .int .i64 er ∧ Hid (Below W4.heap.size W4 wc ∧ Box wc g7 27 y.arr ∧ Box wc g8 37 C.arr ∧ SIn wc y ∧ y.st = Y1 ∧ W4.heap.size ≤ g7 ∧ W4.heap.size ≤ g8))
            case first => as_aux_lemma =>
              have hwW := H4.out.bel
              have hwB := hwW.size
              have hb5 : b5 + 1 < W4.heap.size := H4.out.bz.lt
              have u0 : ∀ u, Below W4.heap.size W4 u → u.cell? ⟨b5 + 1, 0, none⟩ = some (.slice z.AD z.nD z.cD) := fun u H => (H.cell (p := ⟨b5 + 1, 0, none⟩) hb5).trans (H4.out.bz.cell 0)
              have u1 : ∀ u, Below W4.heap.size W4 u → u.cell? ⟨b5 + 1, 1, none⟩ = some (.slice z.AS z.nS z.cS) := fun u H => (H.cell (p := ⟨b5 + 1, 1, none⟩) hb5).trans (H4.out.bz.cell 1)
              have u2 : ∀ u, Below W4.heap.size W4 u → u.cell? ⟨b5 + 1, 2, none⟩ = some (.int .i64 z.nx) := fun u H => (H.cell (p := ⟨b5 + 1, 2, none⟩) hb5).trans (H4.out.bz.cell 2)
              obtain ⟨e0, e1, e2, e3, e4, e5, e6, e7, e8, e9, e10, e11⟩ := HAC.out W4 H4.out.bel
              have a0 : ∀ u, Below W4.heap.size W4 u → u.cell? ⟨b, o + k * 12, none⟩ = some (.int .i64 v.k) := fun u H => (H.cell (p := ⟨b, o + k * 12, none⟩) (show b < W4.heap.size from Nat.lt_of_lt_of_le hbw H4.out.bel.size)).trans e0
              have a1 : ∀ u, Below W4.heap.size W4 u → u.cell? ⟨b, o + k * 12 + 1, none⟩ = some (.int .i64 v.now) := fun u H => (H.cell (p := ⟨b, o + k * 12 + 1, none⟩) (show b < W4.heap.size from Nat.lt_of_lt_of_le hbw H4.out.bel.size)).trans e1
              have a2 : ∀ u, Below W4.heap.size W4 u → u.cell? ⟨b, o + k * 12 + 2, none⟩ = some (.int .i64 v.sg) := fun u H => (H.cell (p := ⟨b, o + k * 12 + 2, none⟩) (show b < W4.heap.size from Nat.lt_of_lt_of_le hbw H4.out.bel.size)).trans e2
              have a3 : ∀ u, Below W4.heap.size W4 u → u.cell? ⟨b, o + k * 12 + 3, none⟩ = some (.string v.nm) := fun u H => (H.cell (p := ⟨b, o + k * 12 + 3, none⟩) (show b < W4.heap.size from Nat.lt_of_lt_of_le hbw H4.out.bel.size)).trans e3
              have a4 : ∀ u, Below W4.heap.size W4 u → u.cell? ⟨b, o + k * 12 + 4, none⟩ = some (.int .i64 v.r.sg) := fun u H => (H.cell (p := ⟨b, o + k * 12 + 4, none⟩) (show b < W4.heap.size from Nat.lt_of_lt_of_le hbw H4.out.bel.size)).trans e4
              have a5 : ∀ u, Below W4.heap.size W4 u → u.cell? ⟨b, o + k * 12 + 5, none⟩ = some (.int .i64 v.r.sp) := fun u H => (H.cell (p := ⟨b, o + k * 12 + 5, none⟩) (show b < W4.heap.size from Nat.lt_of_lt_of_le hbw H4.out.bel.size)).trans e5
              have a6 : ∀ u, Below W4.heap.size W4 u → u.cell? ⟨b, o + k * 12 + 6, none⟩ = some (.bool v.r.un) := fun u H => (H.cell (p := ⟨b, o + k * 12 + 6, none⟩) (show b < W4.heap.size from Nat.lt_of_lt_of_le hbw H4.out.bel.size)).trans e6
              have a7 : ∀ u, Below W4.heap.size W4 u → u.cell? ⟨b, o + k * 12 + 7, none⟩ = some (.int .i64 v.r.tr) := fun u H => (H.cell (p := ⟨b, o + k * 12 + 7, none⟩) (show b < W4.heap.size from Nat.lt_of_lt_of_le hbw H4.out.bel.size)).trans e7
              have a8 : ∀ u, Below W4.heap.size W4 u → u.cell? ⟨b, o + k * 12 + 8, none⟩ = some (.bool v.r.good) := fun u H => (H.cell (p := ⟨b, o + k * 12 + 8, none⟩) (show b < W4.heap.size from Nat.lt_of_lt_of_le hbw H4.out.bel.size)).trans e8
              have a9 : ∀ u, Below W4.heap.size W4 u → u.cell? ⟨b, o + k * 12 + 9, none⟩ = some (.string v.dn) := fun u H => (H.cell (p := ⟨b, o + k * 12 + 9, none⟩) (show b < W4.heap.size from Nat.lt_of_lt_of_le hbw H4.out.bel.size)).trans e9
              have a10 : ∀ u, Below W4.heap.size W4 u → u.cell? ⟨b, o + k * 12 + 10, none⟩ = some (.int .i64 v.dl) := fun u H => (H.cell (p := ⟨b, o + k * 12 + 10, none⟩) (show b < W4.heap.size from Nat.lt_of_lt_of_le hbw H4.out.bel.size)).trans e10
              have a11 : ∀ u, Below W4.heap.size W4 u → u.cell? ⟨b, o + k * 12 + 11, none⟩ = some (.slice A an ac) := fun u H => (H.cell (p := ⟨b, o + k * 12 + 11, none⟩) (show b < W4.heap.size from Nat.lt_of_lt_of_le hbw H4.out.bel.size)).trans e11
              clear e0 e1 e2 e3 e4 e5 e6 e7 e8 e9 e10 e11
              have bd0 : Hid (Below W4.heap.size W4 W4.drew) := Lib.hid (Below.drew (Below.refl _ _))
              refine wp_region_held_drew (S := fun u => Below W4.heap.size W4 u) (by kernel_rfl) bd0.out (fun hHeld => ?_)
              generalize W4.drew = V0 at *
              refine Un.tk 0 45 rfl ?_
              refine Un.tk 1 46 rfl ?_
              refine Un.tk 2 47 rfl ?_
              refine Un.tk 3 48 rfl ?_
              refine Un.tk 4 49 rfl ?_
              refine Un.tk 5 50 rfl ?_
              refine wpAnyH_ready (rs := [6, 11, 12]) (by decide +kernel) (by simp) ?_
              refine AllReadyH.cons (o := ⟨some 51, _, _, _, _, _⟩) rfl (fun K hK => ?_) (AllReadyH.cons (o := ⟨some 11, _, _, _, _, _⟩) rfl (fun K hK => ?_) (AllReadyH.cons (o := ⟨some 12, _, _, _, _, _⟩) rfl (fun K hK => ?_) AllReadyH.nil))
              · as_aux_lemma =>
                  have ersz := bd0.out.size
                  go_simp
                  (with_reducible refine (HD2.out _ ((bd0.out.mono (Nat.le_refl _)))).mono ?_)
                  rintro e v1 ⟨y, rfl, ho, hst, hb⟩
                  have bd1 := Lib.hid (bd0.out.trans (hb.mono bd0.out.size))
                  have ow1 := Lib.hid ho
                  have HST := Lib.hid hst
                  clear ho hst
                  have hs1 := hb.size
                  clear hb
                  go_wp2_with fail
                  refine hK.out _ _ ?_ (fun hHeld => ?_)
                  · exact bd1.out
                  clear hK K
                  (try simp only [Act.put, List.setIfInBounds_toArray, List.set_cons_zero, List.set_cons_succ])
                  refine Un.tk 7 44 rfl ?_
                  refine Un.tk 8 52 rfl ?_
                  refine Un.tk 9 53 rfl ?_
                  refine Un.tk 10 54 rfl ?_
                  refine wpAnyH_ready (rs := [11, 12]) (by decide +kernel) (by simp) ?_
                  refine AllReadyH.cons (o := ⟨some 11, _, _, _, _, _⟩) rfl (fun K hK => ?_) (AllReadyH.cons (o := ⟨some 12, _, _, _, _, _⟩) rfl (fun K hK => ?_) AllReadyH.nil)
                  · as_aux_lemma =>
                      go_simp
                      refine hK.out _ _ ?_ (fun hHeld => ?_)
                      · exact bd1.out.alloc bd1.out.size _
                      clear hK K
                      (try simp only [Act.put, List.setIfInBounds_toArray, List.set_cons_zero, List.set_cons_succ])
                      have bd2 := Lib.hid (below_is hHeld)
                      have es1 := bd1.out.size
                      have ow2 := Lib.hid (own_more hHeld ow1.out)
                      have q2 : Hid (Sa.Slot _ _ 27 3) := Lib.hid (slot_new hHeld rfl)
                      have qb2 := Lib.hid (st_new hHeld)
                      generalize v1.alloc _ = V2 at *
                      have ls1 := q2.out.lt
                      refine wpAnyH_ready (rs := [12]) (by decide +kernel) (by simp) ?_
                      refine AllReadyH.cons (o := ⟨some 12, _, _, _, _, _⟩) rfl (fun K hK => ?_) AllReadyH.nil
                      · as_aux_lemma =>
                          go_simp
                          refine hK.out _ _ ?_ (fun hHeld => ?_)
                          · exact bd2.out.alloc bd2.out.size _
                          clear hK K
                          (try simp only [Act.put, List.setIfInBounds_toArray, List.set_cons_zero, List.set_cons_succ])
                          have bd3 := Lib.hid (below_is hHeld)
                          have es2 := bd2.out.size
                          have ow3 := Lib.hid (own_more hHeld ow2.out)
                          have k3 : Hid (Sa.Slot _ _ 37 6) := Lib.hid (slot_new hHeld rfl)
                          have kb3 := Lib.hid (cm_new hHeld)
                          have q3 := Lib.hid (slot_more hHeld q2.out)
                          have qb3 := Lib.hid (box_more hHeld qb2.out)
                          generalize V2.alloc _ = V3 at *
                          have ls2 := k3.out.lt
                          have BE := Sa.row_end bd3.out (show W4.heap.size ≤ v1.heap.size by omega) (y).arr
                          have BF := Sa.row_end BE (show W4.heap.size ≤ V2.heap.size by omega) (C).arr
                          obtain ⟨cs, hcs, hsz⟩ := q3.out
                          refine Sa.st1 13 27 _ _ rfl (v1.heap.size) 27 cs (y).arr rfl rfl hcs (sizeT _) hsz (oneT _) BE (fun hHeld => ?_)
                          clear hcs hsz
                          have hk2 := Sa.slot_rowfar k3.out (show V2.heap.size ≠ v1.heap.size by omega) (y).arr
                          obtain ⟨cs, hcs, hsz⟩ := hk2
                          refine Sa.st1 14 37 _ _ rfl (V2.heap.size) 37 cs (C).arr rfl rfl hcs (Sa.sizeC _) hsz (Sa.oneC _) BF (fun hHeld => ?_)
                          clear hcs hsz
                          refine Un.tk 15 13 rfl ?_
                          refine wpAnyH_done (by kernel_rfl) ?_ _
                          go_wp2
                          go_meet
                          exact ⟨_, _, y, rfl, rfl, rfl, Lib.hid ⟨BF, Sa.box_far (q3.out.row _) (show v1.heap.size ≠ V2.heap.size by omega) _, (Sa.slot_rowfar k3.out (show V2.heap.size ≠ v1.heap.size by omega) _).row _, sin_cm (sin_st ow3.out qb3.out _) (Sa.box_far kb3.out (show V2.heap.size ≠ v1.heap.size by omega) _) _, HST.out, show W4.heap.size ≤ v1.heap.size by omega, show W4.heap.size ≤ V2.heap.size by omega⟩⟩
                  · as_aux_lemma =>
                      go_simp
                      refine hK.out _ _ ?_ (fun hHeld => ?_)
                      · exact bd1.out.alloc bd1.out.size _
                      clear hK K
                      (try simp only [Act.put, List.setIfInBounds_toArray, List.set_cons_zero, List.set_cons_succ])
                      have bd2 := Lib.hid (below_is hHeld)
                      have es1 := bd1.out.size
                      have ow2 := Lib.hid (own_more hHeld ow1.out)
                      have k2 : Hid (Sa.Slot _ _ 37 6) := Lib.hid (slot_new hHeld rfl)
                      have kb2 := Lib.hid (cm_new hHeld)
                      generalize v1.alloc _ = V2 at *
                      have ls1 := k2.out.lt
                      refine wpAnyH_ready (rs := [11]) (by decide +kernel) (by simp) ?_
                      refine AllReadyH.cons (o := ⟨some 11, _, _, _, _, _⟩) rfl (fun K hK => ?_) AllReadyH.nil
                      · as_aux_lemma =>
                          go_simp
                          refine hK.out _ _ ?_ (fun hHeld => ?_)
                          · exact bd2.out.alloc bd2.out.size _
                          clear hK K
                          (try simp only [Act.put, List.setIfInBounds_toArray, List.set_cons_zero, List.set_cons_succ])
                          have bd3 := Lib.hid (below_is hHeld)
                          have es2 := bd2.out.size
                          have ow3 := Lib.hid (own_more hHeld ow2.out)
                          have q3 : Hid (Sa.Slot _ _ 27 3) := Lib.hid (slot_new hHeld rfl)
                          have qb3 := Lib.hid (st_new hHeld)
                          have k3 := Lib.hid (slot_more hHeld k2.out)
                          have kb3 := Lib.hid (box_more hHeld kb2.out)
                          generalize V2.alloc _ = V3 at *
                          have ls2 := q3.out.lt
                          have BE := Sa.row_end bd3.out (show W4.heap.size ≤ V2.heap.size by omega) (y).arr
                          have BF := Sa.row_end BE (show W4.heap.size ≤ v1.heap.size by omega) (C).arr
                          obtain ⟨cs, hcs, hsz⟩ := q3.out
                          refine Sa.st1 13 27 _ _ rfl (V2.heap.size) 27 cs (y).arr rfl rfl hcs (sizeT _) hsz (oneT _) BE (fun hHeld => ?_)
                          clear hcs hsz
                          have hk2 := Sa.slot_rowfar k3.out (show v1.heap.size ≠ V2.heap.size by omega) (y).arr
                          obtain ⟨cs, hcs, hsz⟩ := hk2
                          refine Sa.st1 14 37 _ _ rfl (v1.heap.size) 37 cs (C).arr rfl rfl hcs (Sa.sizeC _) hsz (Sa.oneC _) BF (fun hHeld => ?_)
                          clear hcs hsz
                          refine Un.tk 15 13 rfl ?_
                          refine wpAnyH_done (by kernel_rfl) ?_ _
                          go_wp2
                          go_meet
                          exact ⟨_, _, y, rfl, rfl, rfl, Lib.hid ⟨BF, Sa.box_far (q3.out.row _) (show V2.heap.size ≠ v1.heap.size by omega) _, (Sa.slot_rowfar k3.out (show v1.heap.size ≠ V2.heap.size by omega) _).row _, sin_cm (sin_st ow3.out qb3.out _) (Sa.box_far kb3.out (show v1.heap.size ≠ V2.heap.size by omega) _) _, HST.out, show W4.heap.size ≤ V2.heap.size by omega, show W4.heap.size ≤ v1.heap.size by omega⟩⟩
              · as_aux_lemma =>
                  go_simp
                  refine hK.out _ _ ?_ (fun hHeld => ?_)
                  · exact bd0.out.alloc bd0.out.size _
                  clear hK K
                  (try simp only [Act.put, List.setIfInBounds_toArray, List.set_cons_zero, List.set_cons_succ])
                  have bd1 := Lib.hid (below_is hHeld)
                  have es0 := bd0.out.size
                  have q1 : Hid (Sa.Slot _ _ 27 3) := Lib.hid (slot_new hHeld rfl)
                  have qb1 := Lib.hid (st_new hHeld)
                  generalize V0.alloc _ = V1 at *
                  have ls0 := q1.out.lt
                  refine wpAnyH_ready (rs := [6, 12]) (by decide +kernel) (by simp) ?_
                  refine AllReadyH.cons (o := ⟨some 51, _, _, _, _, _⟩) rfl (fun K hK => ?_) (AllReadyH.cons (o := ⟨some 12, _, _, _, _, _⟩) rfl (fun K hK => ?_) AllReadyH.nil)
                  · as_aux_lemma =>
                      have ersz := bd1.out.size
                      go_simp
                      (with_reducible refine (HD2.out _ ((bd1.out.mono (Nat.le_refl _)))).mono ?_)
                      rintro e v1 ⟨y, rfl, ho, hst, hb⟩
                      have bd2 := Lib.hid (bd1.out.trans (hb.mono bd1.out.size))
                      have ow2 := Lib.hid ho
                      have HST := Lib.hid hst
                      clear ho hst
                      have q2 := Lib.hid (Sa.slot_on q1.out hb)
                      have qb2 := Lib.hid (qb1.out.below hb qb1.out.lt)
                      have hs2 := hb.size
                      clear hb
                      go_wp2_with fail
                      refine hK.out _ _ ?_ (fun hHeld => ?_)
                      · exact bd2.out
                      clear hK K
                      (try simp only [Act.put, List.setIfInBounds_toArray, List.set_cons_zero, List.set_cons_succ])
                      refine Un.tk 7 44 rfl ?_
                      refine Un.tk 8 52 rfl ?_
                      refine Un.tk 9 53 rfl ?_
                      refine Un.tk 10 54 rfl ?_
                      refine wpAnyH_ready (rs := [12]) (by decide +kernel) (by simp) ?_
                      refine AllReadyH.cons (o := ⟨some 12, _, _, _, _, _⟩) rfl (fun K hK => ?_) AllReadyH.nil
                      · as_aux_lemma =>
                          go_simp
                          refine hK.out _ _ ?_ (fun hHeld => ?_)
                          · exact bd2.out.alloc bd2.out.size _
                          clear hK K
                          (try simp only [Act.put, List.setIfInBounds_toArray, List.set_cons_zero, List.set_cons_succ])
                          have bd3 := Lib.hid (below_is hHeld)
                          have es2 := bd2.out.size
                          have ow3 := Lib.hid (own_more hHeld ow2.out)
                          have k3 : Hid (Sa.Slot _ _ 37 6) := Lib.hid (slot_new hHeld rfl)
                          have kb3 := Lib.hid (cm_new hHeld)
                          have q3 := Lib.hid (slot_more hHeld q2.out)
                          have qb3 := Lib.hid (box_more hHeld qb2.out)
                          generalize v1.alloc _ = V3 at *
                          have ls2 := k3.out.lt
                          have BE := Sa.row_end bd3.out (show W4.heap.size ≤ V0.heap.size by omega) (y).arr
                          have BF := Sa.row_end BE (show W4.heap.size ≤ v1.heap.size by omega) (C).arr
                          obtain ⟨cs, hcs, hsz⟩ := q3.out
                          refine Sa.st1 13 27 _ _ rfl (V0.heap.size) 27 cs (y).arr rfl rfl hcs (sizeT _) hsz (oneT _) BE (fun hHeld => ?_)
                          clear hcs hsz
                          have hk2 := Sa.slot_rowfar k3.out (show v1.heap.size ≠ V0.heap.size by omega) (y).arr
                          obtain ⟨cs, hcs, hsz⟩ := hk2
                          refine Sa.st1 14 37 _ _ rfl (v1.heap.size) 37 cs (C).arr rfl rfl hcs (Sa.sizeC _) hsz (Sa.oneC _) BF (fun hHeld => ?_)
                          clear hcs hsz
                          refine Un.tk 15 13 rfl ?_
                          refine wpAnyH_done (by kernel_rfl) ?_ _
                          go_wp2
                          go_meet
                          exact ⟨_, _, y, rfl, rfl, rfl, Lib.hid ⟨BF, Sa.box_far (q3.out.row _) (show V0.heap.size ≠ v1.heap.size by omega) _, (Sa.slot_rowfar k3.out (show v1.heap.size ≠ V0.heap.size by omega) _).row _, sin_cm (sin_st ow3.out qb3.out _) (Sa.box_far kb3.out (show v1.heap.size ≠ V0.heap.size by omega) _) _, HST.out, show W4.heap.size ≤ V0.heap.size by omega, show W4.heap.size ≤ v1.heap.size by omega⟩⟩
                  · as_aux_lemma =>
                      go_simp
                      refine hK.out _ _ ?_ (fun hHeld => ?_)
                      · exact bd1.out.alloc bd1.out.size _
                      clear hK K
                      (try simp only [Act.put, List.setIfInBounds_toArray, List.set_cons_zero, List.set_cons_succ])
                      have bd2 := Lib.hid (below_is hHeld)
                      have es1 := bd1.out.size
                      have k2 : Hid (Sa.Slot _ _ 37 6) := Lib.hid (slot_new hHeld rfl)
                      have kb2 := Lib.hid (cm_new hHeld)
                      have q2 := Lib.hid (slot_more hHeld q1.out)
                      have qb2 := Lib.hid (box_more hHeld qb1.out)
                      generalize V1.alloc _ = V2 at *
                      have ls1 := k2.out.lt
                      refine wpAnyH_ready (rs := [6]) (by decide +kernel) (by simp) ?_
                      refine AllReadyH.cons (o := ⟨some 51, _, _, _, _, _⟩) rfl (fun K hK => ?_) AllReadyH.nil
                      · as_aux_lemma =>
                          have ersz := bd2.out.size
                          go_simp
                          (with_reducible refine (HD2.out _ ((bd2.out.mono (Nat.le_refl _)))).mono ?_)
                          rintro e v1 ⟨y, rfl, ho, hst, hb⟩
                          have bd3 := Lib.hid (bd2.out.trans (hb.mono bd2.out.size))
                          have ow3 := Lib.hid ho
                          have HST := Lib.hid hst
                          clear ho hst
                          have q3 := Lib.hid (Sa.slot_on q2.out hb)
                          have qb3 := Lib.hid (qb2.out.below hb qb2.out.lt)
                          have k3 := Lib.hid (Sa.slot_on k2.out hb)
                          have kb3 := Lib.hid (kb2.out.below hb kb2.out.lt)
                          have hs3 := hb.size
                          clear hb
                          go_wp2_with fail
                          refine hK.out _ _ ?_ (fun hHeld => ?_)
                          · exact bd3.out
                          clear hK K
                          (try simp only [Act.put, List.setIfInBounds_toArray, List.set_cons_zero, List.set_cons_succ])
                          refine Un.tk 7 44 rfl ?_
                          refine Un.tk 8 52 rfl ?_
                          refine Un.tk 9 53 rfl ?_
                          refine Un.tk 10 54 rfl ?_
                          have BE := Sa.row_end bd3.out (show W4.heap.size ≤ V0.heap.size by omega) (y).arr
                          have BF := Sa.row_end BE (show W4.heap.size ≤ V1.heap.size by omega) (C).arr
                          obtain ⟨cs, hcs, hsz⟩ := q3.out
                          refine Sa.st1 13 27 _ _ rfl (V0.heap.size) 27 cs (y).arr rfl rfl hcs (sizeT _) hsz (oneT _) BE (fun hHeld => ?_)
                          clear hcs hsz
                          have hk2 := Sa.slot_rowfar k3.out (show V1.heap.size ≠ V0.heap.size by omega) (y).arr
                          obtain ⟨cs, hcs, hsz⟩ := hk2
                          refine Sa.st1 14 37 _ _ rfl (V1.heap.size) 37 cs (C).arr rfl rfl hcs (Sa.sizeC _) hsz (Sa.oneC _) BF (fun hHeld => ?_)
                          clear hcs hsz
                          refine Un.tk 15 13 rfl ?_
                          refine wpAnyH_done (by kernel_rfl) ?_ _
                          go_wp2
                          go_meet
                          exact ⟨_, _, y, rfl, rfl, rfl, Lib.hid ⟨BF, Sa.box_far (q3.out.row _) (show V0.heap.size ≠ V1.heap.size by omega) _, (Sa.slot_rowfar k3.out (show V1.heap.size ≠ V0.heap.size by omega) _).row _, sin_cm (sin_st ow3.out qb3.out _) (Sa.box_far kb3.out (show V1.heap.size ≠ V0.heap.size by omega) _) _, HST.out, show W4.heap.size ≤ V0.heap.size by omega, show W4.heap.size ≤ V1.heap.size by omega⟩⟩
              · as_aux_lemma =>
                  go_simp
                  refine hK.out _ _ ?_ (fun hHeld => ?_)
                  · exact bd0.out.alloc bd0.out.size _
                  clear hK K
                  (try simp only [Act.put, List.setIfInBounds_toArray, List.set_cons_zero, List.set_cons_succ])
                  have bd1 := Lib.hid (below_is hHeld)
                  have es0 := bd0.out.size
                  have k1 : Hid (Sa.Slot _ _ 37 6) := Lib.hid (slot_new hHeld rfl)
                  have kb1 := Lib.hid (cm_new hHeld)
                  generalize V0.alloc _ = V1 at *
                  have ls0 := k1.out.lt
                  refine wpAnyH_ready (rs := [6, 11]) (by decide +kernel) (by simp) ?_
                  refine AllReadyH.cons (o := ⟨some 51, _, _, _, _, _⟩) rfl (fun K hK => ?_) (AllReadyH.cons (o := ⟨some 11, _, _, _, _, _⟩) rfl (fun K hK => ?_) AllReadyH.nil)
                  · as_aux_lemma =>
                      have ersz := bd1.out.size
                      go_simp
                      (with_reducible refine (HD2.out _ ((bd1.out.mono (Nat.le_refl _)))).mono ?_)
                      rintro e v1 ⟨y, rfl, ho, hst, hb⟩
                      have bd2 := Lib.hid (bd1.out.trans (hb.mono bd1.out.size))
                      have ow2 := Lib.hid ho
                      have HST := Lib.hid hst
                      clear ho hst
                      have k2 := Lib.hid (Sa.slot_on k1.out hb)
                      have kb2 := Lib.hid (kb1.out.below hb kb1.out.lt)
                      have hs2 := hb.size
                      clear hb
                      go_wp2_with fail
                      refine hK.out _ _ ?_ (fun hHeld => ?_)
                      · exact bd2.out
                      clear hK K
                      (try simp only [Act.put, List.setIfInBounds_toArray, List.set_cons_zero, List.set_cons_succ])
                      refine Un.tk 7 44 rfl ?_
                      refine Un.tk 8 52 rfl ?_
                      refine Un.tk 9 53 rfl ?_
                      refine Un.tk 10 54 rfl ?_
                      refine wpAnyH_ready (rs := [11]) (by decide +kernel) (by simp) ?_
                      refine AllReadyH.cons (o := ⟨some 11, _, _, _, _, _⟩) rfl (fun K hK => ?_) AllReadyH.nil
                      · as_aux_lemma =>
                          go_simp
                          refine hK.out _ _ ?_ (fun hHeld => ?_)
                          · exact bd2.out.alloc bd2.out.size _
                          clear hK K
                          (try simp only [Act.put, List.setIfInBounds_toArray, List.set_cons_zero, List.set_cons_succ])
                          have bd3 := Lib.hid (below_is hHeld)
                          have es2 := bd2.out.size
                          have ow3 := Lib.hid (own_more hHeld ow2.out)
                          have q3 : Hid (Sa.Slot _ _ 27 3) := Lib.hid (slot_new hHeld rfl)
                          have qb3 := Lib.hid (st_new hHeld)
                          have k3 := Lib.hid (slot_more hHeld k2.out)
                          have kb3 := Lib.hid (box_more hHeld kb2.out)
                          generalize v1.alloc _ = V3 at *
                          have ls2 := q3.out.lt
                          have BE := Sa.row_end bd3.out (show W4.heap.size ≤ v1.heap.size by omega) (y).arr
                          have BF := Sa.row_end BE (show W4.heap.size ≤ V0.heap.size by omega) (C).arr
                          obtain ⟨cs, hcs, hsz⟩ := q3.out
                          refine Sa.st1 13 27 _ _ rfl (v1.heap.size) 27 cs (y).arr rfl rfl hcs (sizeT _) hsz (oneT _) BE (fun hHeld => ?_)
                          clear hcs hsz
                          have hk2 := Sa.slot_rowfar k3.out (show V0.heap.size ≠ v1.heap.size by omega) (y).arr
                          obtain ⟨cs, hcs, hsz⟩ := hk2
                          refine Sa.st1 14 37 _ _ rfl (V0.heap.size) 37 cs (C).arr rfl rfl hcs (Sa.sizeC _) hsz (Sa.oneC _) BF (fun hHeld => ?_)
                          clear hcs hsz
                          refine Un.tk 15 13 rfl ?_
                          refine wpAnyH_done (by kernel_rfl) ?_ _
                          go_wp2
                          go_meet
                          exact ⟨_, _, y, rfl, rfl, rfl, Lib.hid ⟨BF, Sa.box_far (q3.out.row _) (show v1.heap.size ≠ V0.heap.size by omega) _, (Sa.slot_rowfar k3.out (show V0.heap.size ≠ v1.heap.size by omega) _).row _, sin_cm (sin_st ow3.out qb3.out _) (Sa.box_far kb3.out (show V0.heap.size ≠ v1.heap.size by omega) _) _, HST.out, show W4.heap.size ≤ v1.heap.size by omega, show W4.heap.size ≤ V0.heap.size by omega⟩⟩
                  · as_aux_lemma =>
                      go_simp
                      refine hK.out _ _ ?_ (fun hHeld => ?_)
                      · exact bd1.out.alloc bd1.out.size _
                      clear hK K
                      (try simp only [Act.put, List.setIfInBounds_toArray, List.set_cons_zero, List.set_cons_succ])
                      have bd2 := Lib.hid (below_is hHeld)
                      have es1 := bd1.out.size
                      have q2 : Hid (Sa.Slot _ _ 27 3) := Lib.hid (slot_new hHeld rfl)
                      have qb2 := Lib.hid (st_new hHeld)
                      have k2 := Lib.hid (slot_more hHeld k1.out)
                      have kb2 := Lib.hid (box_more hHeld kb1.out)
                      generalize V1.alloc _ = V2 at *
                      have ls1 := q2.out.lt
                      refine wpAnyH_ready (rs := [6]) (by decide +kernel) (by simp) ?_
                      refine AllReadyH.cons (o := ⟨some 51, _, _, _, _, _⟩) rfl (fun K hK => ?_) AllReadyH.nil
                      · as_aux_lemma =>
                          have ersz := bd2.out.size
                          go_simp
                          (with_reducible refine (HD2.out _ ((bd2.out.mono (Nat.le_refl _)))).mono ?_)
                          rintro e v1 ⟨y, rfl, ho, hst, hb⟩
                          have bd3 := Lib.hid (bd2.out.trans (hb.mono bd2.out.size))
                          have ow3 := Lib.hid ho
                          have HST := Lib.hid hst
                          clear ho hst
                          have q3 := Lib.hid (Sa.slot_on q2.out hb)
                          have qb3 := Lib.hid (qb2.out.below hb qb2.out.lt)
                          have k3 := Lib.hid (Sa.slot_on k2.out hb)
                          have kb3 := Lib.hid (kb2.out.below hb kb2.out.lt)
                          have hs3 := hb.size
                          clear hb
                          go_wp2_with fail
                          refine hK.out _ _ ?_ (fun hHeld => ?_)
                          · exact bd3.out
                          clear hK K
                          (try simp only [Act.put, List.setIfInBounds_toArray, List.set_cons_zero, List.set_cons_succ])
                          refine Un.tk 7 44 rfl ?_
                          refine Un.tk 8 52 rfl ?_
                          refine Un.tk 9 53 rfl ?_
                          refine Un.tk 10 54 rfl ?_
                          have BE := Sa.row_end bd3.out (show W4.heap.size ≤ V1.heap.size by omega) (y).arr
                          have BF := Sa.row_end BE (show W4.heap.size ≤ V0.heap.size by omega) (C).arr
                          obtain ⟨cs, hcs, hsz⟩ := q3.out
                          refine Sa.st1 13 27 _ _ rfl (V1.heap.size) 27 cs (y).arr rfl rfl hcs (sizeT _) hsz (oneT _) BE (fun hHeld => ?_)
                          clear hcs hsz
                          have hk2 := Sa.slot_rowfar k3.out (show V0.heap.size ≠ V1.heap.size by omega) (y).arr
                          obtain ⟨cs, hcs, hsz⟩ := hk2
                          refine Sa.st1 14 37 _ _ rfl (V0.heap.size) 37 cs (C).arr rfl rfl hcs (Sa.sizeC _) hsz (Sa.oneC _) BF (fun hHeld => ?_)
                          clear hcs hsz
                          refine Un.tk 15 13 rfl ?_
                          refine wpAnyH_done (by kernel_rfl) ?_ _
                          go_wp2
                          go_meet
                          exact ⟨_, _, y, rfl, rfl, rfl, Lib.hid ⟨BF, Sa.box_far (q3.out.row _) (show V1.heap.size ≠ V0.heap.size by omega) _, (Sa.slot_rowfar k3.out (show V0.heap.size ≠ V1.heap.size by omega) _).row _, sin_cm (sin_st ow3.out qb3.out _) (Sa.box_far kb3.out (show V0.heap.size ≠ V1.heap.size by omega) _) _, HST.out, show W4.heap.size ≤ V1.heap.size by omega, show W4.heap.size ≤ V0.heap.size by omega⟩⟩
            case rest =>
              obtain ⟨g11, g12, q, rfl, rfl, rfl, HC⟩ := hcut
              have H5 := Lib.hid (H4.out.on HC.out.1)
              have HQ8 := Lib.hid (HP8.out.below HC.out.1 HP8.out.lt)
              have HQ9 := Lib.hid (HP9.out.below HC.out.1 HP9.out.lt)
              have HQS := Lib.hid (HPS.out.on HC.out.1)
              have HQ11 := Lib.hid HC.out.2.1
              have HQ12 := Lib.hid HC.out.2.2.1
              have HRS := Lib.hid HC.out.2.2.2.1
              have HRT := Lib.hid HC.out.2.2.2.2.1
              have H4Z : Hid (b5 < W4.heap.size ∧ W4.heap.size ≤ g11) := Lib.hid ⟨H4.out.bx.lt, HC.out.2.2.2.2.2.1⟩
              clear HD2 HC H4 HP8 HP9 HPS
              generalize wc = W5 at *
              have hfp : p.nD ≤ 64 ∧ p.nS ≤ 41 := by
                have h1 := HIY.out.ok.ds.few
                have h2 : Y1.gs.length ≤ x.gs.length + 1 := HGW.out
                rw [← HPT.out] at h1 h2
                have h3 : p.st.ds.length = p.dx.length := List.length_map _
                have h4 := HQS.out.lD
                have h5 : p.st.gs = p.gs := rfl
                have h6 := HQS.out.lS
                have h7 := H5.out.few
                have h8 := H5.out.sx.lS
                rw [h5] at h2
                exact ⟨by omega, by omega⟩
              have hlim : decide (max lim 0 < (p.nS : Int)) = false := decide_eq_false (by
                have h1 := HLY.out
                rw [← HPT.out] at h1
                have h2 : (p.gs.length : Int) ≤ max lim 0 := h1
                have h3 := HQS.out.lS
                omega)
              have HSM := Lib.hid (rsame16_any p q W5 HQS.out HRS.out (by rw [HPT.out, HRT.out]) (by omega) (by omega))
              have HGD := Lib.hid (fun W (hW : Below W5.heap.size W5 W) => good16_any p W (HQS.out.on hW) (HT.out W (H5.out.bel.trans (hW.mono H5.out.bel.size))) (by omega) (by omega))
              have hok : stB p = true := stB_ok (by rw [HPT.out]; exact HIY.out.ok)
              rw [hok] at HGD
              clear hok hfp
              have y0 : W5.cell? ⟨g8, 0, none⟩ = some (.slice p.AD p.nD p.cD) := HQ8.out.cell 0
              have y1 : W5.cell? ⟨g8, 1, none⟩ = some (.slice p.AS p.nS p.cS) := HQ8.out.cell 1
              have y2 : W5.cell? ⟨g8, 2, none⟩ = some (.int .i64 p.nx) := HQ8.out.cell 2
              have r0 : W5.cell? ⟨g11, 0, none⟩ = some (.slice q.AD q.nD q.cD) := HQ11.out.cell 0
              have r1 : W5.cell? ⟨g11, 1, none⟩ = some (.slice q.AS q.nS q.cS) := HQ11.out.cell 1
              have r2 : W5.cell? ⟨g11, 2, none⟩ = some (.int .i64 q.nx) := HQ11.out.cell 2
              go_upto_region 14 with fail
              have gd := Sa.guard_cmd
              have ns := neq_self C
              have g13 : (er != er) = false := by simp
              go_upto_region 16 with (first
                | (go_at_call 9; (with_reducible refine HSM.out.mono ?_); rintro e W6 ⟨rfl, hb6⟩; have H6 := Lib.hid (H5.out.on hb6); have HB6 := Lib.hid hb6; have HR8 := Lib.hid (HQ8.out.below hb6 HQ8.out.lt); obtain ⟨t0, t1', t2', t3, t4, t5⟩ := cm_cells (HQ9.out.below hb6 HQ9.out.lt); obtain ⟨s0, s1, s2, s3, s4, s5⟩ := cm_cells (HQ12.out.below hb6 HQ12.out.lt); have x0 : W6.cell? ⟨g8, 0, none⟩ = some (.slice p.AD p.nD p.cD) := HR8.out.cell 0; have x1 : W6.cell? ⟨g8, 1, none⟩ = some (.slice p.AS p.nS p.cS) := HR8.out.cell 1; have x2 : W6.cell? ⟨g8, 2, none⟩ = some (.int .i64 p.nx) := HR8.out.cell 2; clear hb6)
                | (go_at_call 10; (with_reducible refine (HGD.out _ HB6.out).mono ?_); rintro e W7 ⟨rfl, hb7⟩; have HB7 := Lib.hid (HB6.out.trans (hb7.mono HB6.out.size)); have w0 : W7.cell? ⟨g8, 0, none⟩ = some (.slice p.AD p.nD p.cD) := (HR8.out.below hb7 HR8.out.lt).cell 0; have w1 : W7.cell? ⟨g8, 1, none⟩ = some (.slice p.AS p.nS p.cS) := (HR8.out.below hb7 HR8.out.lt).cell 1; have w2 : W7.cell? ⟨g8, 2, none⟩ = some (.int .i64 p.nx) := (HR8.out.below hb7 HR8.out.lt).cell 2; clear hb7))
              have H7 := Lib.hid (H5.out.on HB7.out)
              have HS7 := Lib.hid (HQS.out.on HB7.out)
              have HU7 := Lib.hid (HRS.out.on HB7.out)
              have HV11 := Lib.hid (HQ11.out.below HB7.out HQ11.out.lt)
              clear x0 x1 x2 y0 y1 y2 r0 r1 r2 t0 t1' t2' t3 t4 t5 s0 s1 s2 s3 s4 s5 hlim g13
              have hne11 : g11 ≠ b5 := by have := H4Z.out; omega
              have v0 : (W7.setRow b5 p.arr).cell? ⟨g11, 0, none⟩ = some (.slice q.AD q.nD q.cD) := (Sa.box_far HV11.out hne11 _).cell 0
              have v1 : (W7.setRow b5 p.arr).cell? ⟨g11, 1, none⟩ = some (.slice q.AS q.nS q.cS) := (Sa.box_far HV11.out hne11 _).cell 1
              have v2 : (W7.setRow b5 p.arr).cell? ⟨g11, 2, none⟩ = some (.int .i64 q.nx) := (Sa.box_far HV11.out hne11 _).cell 2
              have HBZ := Lib.hid (Sa.box_far H7.out.bz (show b5 + 1 ≠ b5 by omega) p.arr)
              go_wp2_with (first
                | (refine wpList_store_row rfl 27 _ _ rfl b5 27 x.arr p.arr rfl rfl H7.out.bx (sizeT p) rfl (oneT p) ?_)
                | (refine wpList_store_row rfl 27 _ _ rfl (b5 + 1) 27 z.arr q.arr rfl rfl HBZ.out (sizeT q) rfl (oneT q) ?_))
              (try simp only [Act.put])
              go_roundw
              case rel => exact ⟨k + 1, p, q, by go_num, by omega, Lib.hid (HNX.out W7 p q H7.out HPT.out HRT.out HS7.out HU7.out)⟩
              case measure => simp only [intOf]; omega
        · have g0 : (shortI v != 0) = true := by simpa using hs
          clear hs
          go_wp2_with (go_at_call 6; (with_reducible refine (HSH.out _ HW.out.bel).mono ?_); rintro e W3 ⟨rfl, hb⟩; have H3 := Lib.hid (HW.out.on hb); clear hb)
          go_ret
          exact ⟨rfl, H3.out.bel⟩
      · have hkm' : k = m := by omega
        have HWB := Lib.hid HW.out.bel
        clear HW hk hkm
        go_wp2
        go_ret
        exact ⟨rfl, HWB.out⟩
  · have t1 : decide ((40 : Int) < (m : Int)) = true := decide_eq_true (by omega)
    have t2 : decide (40 < m) = true := decide_eq_true (by omega)
    go_enter Tryz.func3, Tryz.ntmps3
    go_wp2_with (go_at_call 5; (with_reducible refine HA.out.mono ?_); rintro e w1 ⟨rfl, hb⟩; have H0 := Lib.hid hb; clear hb)
    go_ret
    exact ⟨rfl, H0.out⟩

theorem tab_of_laid {W : World} (h : laidMetH Tryz.prog Rows.statePlaysRow.laid W) : Tab W := by
  rw [MakeChecks.laidMetH_plain _ _ _ (by kernel_rfl)] at h
  have h2 := laidMet.tail (laidMet.tail h)
  have e : (Rows.laid_internal_strconv_uint64pow10 : DataW Unit) = Lib.tabData .u64 Lib.pow10Tab := by kernel_rfl
  rw [show (Rows.laid_internal_strconv_uint64pow10 : DataW Unit) = Lib.tabData .u64 Lib.pow10Tab from e] at h2
  exact Lib.tabIs_of_head (g := 1) (t := 160) (e := 154) (n := 20) (by kernel_rfl) (by kernel_rfl) Tryz.underlying160 Tryz.underlying154 (by kernel_rfl) (by kernel_rfl) h2
set_option maxRecDepth 100000 in
theorem lifted (os : Os) (started : os.Started) (H : Type) (enc : TypeId × Value → H) :
    ReturnsInHanded {} Tryz.checked os 3 .any (fun w args => (Rows.statePlaysSpec.pre enc Tryz.prog Tryz.f3 Rows.statePlaysRow.domain false w args ∧ laidMetH Tryz.prog Rows.statePlaysRow.laid w) ∧ sizedMet enc Tryz.prog Tryz.f3 (OpenSpec.ofChange Rows.statePlaysSpec) false w args)
      (Rows.statePlaysSpec.post enc Tryz.prog Tryz.f3 false true false false) := by
  refine returns_both (C := Tryz.checked) (X := fun w _ => laidMetH Tryz.prog Rows.statePlaysRow.laid w) (fun _ _ _ hh h => h.of_heap hh) own started (by kernel_rfl) Tryz.func3
    (ChangeSpec.witness_shaped (enc := enc) (C := Tryz.checked) (os := os) (X := fun w _ => laidMetH Tryz.prog Rows.statePlaysRow.laid w) false (World.laidAll Tryz.prog os Rows.statePlaysRow.laid) #[.slice none 0 0, .int .i64 0] 8 (World.laidAll_os _ _ _)
      (World.shaped_of_ZipB (by kernel_rfl) (by kernel_rfl)) (by kernel_rfl) (by kernel_rfl) (by kernel_rfl)
      (by rw [MakeChecks.laidMetH_plain _ _ _ (by kernel_rfl)]; exact laidMet_laidAll _ (by kernel_rfl) (by kernel_rfl))) ?_
  intro W base args ds gs before hval0 hW hreach0 hlaid _
  have hT : Tab W := tab_of_laid hlaid
  have hval : ∀ (j : Nat) t v, Tryz.f3.params[j]? = some t → args[j]? = some v → Value.okWide Tryz.prog W .any base t v := hval0
  have hW' := hW
  obtain ⟨p, q, hA0, hV, rfl, _, _⟩ := hW
  have hreach : (DataW.weightsEach Tryz.prog (Tryz.f3.params.toList ++ Rows.statePlaysSpec.plain.varTypes Tryz.prog) (ds ++ gs)).all (· ≤ reachBytes) = true := hreach0
  have hA : DataW.TrodAll enc Tryz.prog W 0 (fun _ => true) true Tryz.f3.params.toList args.toList ds p := hA0
  rw [Tryz.params3] at hA hval hreach
  obtain ⟨rfl, rfl⟩ := trodVars_none hV
  obtain ⟨v0, vs0, d0, ds0, p0, q0, hargs, rfl, rfl, h0, r0⟩ := trodAll_cons hA
  obtain ⟨v1, vs1, d1, ds1, p1, q1, rfl, rfl, rfl, h1, r1⟩ := trodAll_cons r0
  obtain ⟨rfl, rfl, rfl⟩ := trodAll_nil r1
  obtain rfl : args = #[v0, v1] := by cases args; simp_all
  obtain ⟨A0, c0, l0, y0, n0, f0, e0⟩ := arg_evs (hval 0 22 v0 rfl rfl) h0
  subst y0
  obtain ⟨a1, rfl, rfl, rfl, w1⟩ := open_int Tryz.underlying3 (hval 1 3 v1 rfl rfl) h1
  clear hA0 hval0
  simp only [List.append_nil] at hW'
  have hlt0 : ∀ x ∈ p0, x.block < W.heap.size := fun x hx => by simpa using hW'.lt x (by simp [hx])
  refine (walk A0 c0 l0 a1 W hT n0 f0 e0).mono fun e W' ⟨he, bel⟩ => ?_
  subst he
  exact ⟨_, rfl, _, _, _, [], _, [], hW', trodAll_mk1 (shut_bool Tryz.underlying4 _), (trodAll_cons_mk (Below.trod laidOut (by kernel_rfl) (of_decide_eq_true (by kernel_rfl)) h0 bel hlt0) (trodAll_cons_mk (shut_int Tryz.underlying3 w1) trodAll_mk0)), rfl, bel.frame _, fun h => by cases h⟩

theorem over : Rows.statePlaysRow.holds Tryz.pinned (OpenSpec.ofChange Rows.statePlaysSpec) :=
  OpenClaim.holds_of_wide 3 Tryz.f3 rfl rfl rfl rfl rfl rfl rfl ⟨rfl, rfl, rfl, rfl, rfl⟩ rfl rfl rfl rfl rfl (by kernel_rfl) Tryz.func3 (by kernel_rfl)
    (of_decide_eq_true (by kernel_rfl)) (by unfold Func.isWrapper; first | (rw [if_pos (by decide +kernel)]; kernel_rfl) | (rw [if_neg (by decide +kernel)]; exact ⟨rfl, rfl⟩))
    (fun os started H enc _ => lifted os started H enc)

/-- the statement -/
theorem proved : Rows.StatePlaysCardSaid :=
  Claim7.holds_tied_plain_at .later [] [.data, .data, .data] true Rows.statePlaysCard.stood.harness false over (fun _ h => by cases h) (by kernel_rfl) (fun _ h => by cases h) statePlays_row_tie rfl ⟨rfl, rfl⟩ (by kernel_rfl) rfl
    (fun f fn hf hfn => by
      obtain rfl : f = 3 := Option.some.inj ((show Tryz.prog.funcNamed Rows.statePlaysRow.func = some 3 by kernel_rfl).symm.trans hf) |>.symm
      obtain rfl : fn = Tryz.f3 := (Option.some.inj (Tryz.func3.symm.trans hfn)).symm
      exact ⟨by kernel_rfl, fun j t ht => by
        rw [Tryz.params3] at ht
        have hm : t ∈ [22, 3] := by simpa using Array.mem_of_getElem? ht
        have hall : ([22, 3].all fun u => !Tryz.prog.wantsStandIn u) = true := by kernel_rfl
        exact (show Tryz.prog.wantsStandIn t = false by simpa using List.all_eq_true.1 hall t hm)⟩)
    (by kernel_rfl)
#print axioms proved
end Go.Proofs.YteejocnogpaifaaGreatDoor.statePlays
