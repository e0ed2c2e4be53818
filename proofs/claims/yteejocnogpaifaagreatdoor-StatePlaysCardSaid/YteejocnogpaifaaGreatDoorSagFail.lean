/-
  What failed of package saga answers, and the document's own Fails, Wait and Times.
  Conditions: the definition is right, the step is one of its steps, there was a try.
-/
import Derived.Test.YteejocnogpaifaaGreatDoorMrg1
import Derived.Test.YteejocnogpaifaaGreatDoorSagMay
import Derived.Laws.BitsLemmas
import Derived.Deep.RegionHeld
namespace Go.Proofs.YteejocnogpaifaaGreatDoor.Sa
open Go.RowKit Go.Sort
open Go.Proofs.YteejocnogpaifaaGreatDoor.El
open Go.Proofs.YteejocnogpaifaaGreatDoor.Bo (P Made ret_int ret_bool left wait)
open Go.Proofs.YteejocnogpaifaaGreatDoor.Df

theorem b3 (w : World) (o o' o2 : Obj) : Below w.heap.size w (((w.alloc o).alloc o').alloc o2) := (made3 w o o' o2).below
def offS (s : Sg) : Sg := ⟨s.id, s.dn, s.st, s.ph, s.sp, s.tr, false, s.at_, s.sk⟩
def outS (s : Sg) (o : Bool) : Sg := ⟨s.id, s.dn, s.st, s.ph, s.sp, s.tr, o, s.at_, s.sk⟩
theorem outS_self {s : Sg} {o : Bool} (h : s.out = o) : s = outS s o := by
  subst h
  rfl
theorem plan_off (ss : List Stp) (s : Sg) : planOf ss (offS s) = planOf ss s := rfl
theorem ahead_off (s : Sg) (last now : Int) : aheadS (offS s) last now = aheadS s last now := rfl
theorem end_off (s : Sg) (ph : Int) : endS (offS s) ph = endS s ph := rfl
set_option maxHeartbeats 400000 in
theorem rtimes_any (a b : Int) (w : World) :
    Calls Tryz.prog 115 #[.int .i64 a, .int .i64 b] w fun e w' => e = .returned (.int .i64 (timesT a b)) ∧ w = w' := by
  have h1 := ofT_lo a; have h2 := ofT_hi a; have h3 := ofT_lo b; have h4 := ofT_hi b
  go_enter Tryz.func115, Tryz.ntmps115
  go_wp2_with (go_at_call 91; refine (rof_any _ _).mono ?_; rintro e w' ⟨rfl, rfl⟩)
  go_loop [0, 1, 5] (fun s0 s1 s5 => ∃ x n out : Int, 0 ≤ x ∧ x ≤ 1099511627776 ∧ 0 ≤ n ∧ n ≤ 1099511627776 ∧ 0 ≤ out ∧ out ≤ 1099511627776 ∧ s0 = .int .i64 x ∧ s1 = .int .i64 n ∧ s5 = .int .i64 out ∧ bitsT out x n (timesT a b)) (fun _ s1 _ => (intOf s1).toNat)
  case atStart => exact ⟨_, _, 0, h1, h2, h3, h4, by omega, by omega, rfl, rfl, rfl, bitsT_start a b⟩
  case round =>
    obtain ⟨x, n, out, hx, hx', hn, hn', ho, ho', rfl, rfl, rfl, hb⟩ := hrel
    by_cases hlt : 0 < n
    · by_cases hodd : n % 2 = 1
      · have HB := bitsT_odd ho hx hx' ho' hlt hodd hb
        have ht : ((n % 2 : Int) == 1) = true := by rw [hodd]; simp
        have l1 := addT_lo x x; have l2 := addT_hi x x; have l3 := addT_lo out x; have l4 := addT_hi out x
        clear hodd hb
        go_wp2_with (go_at_call 56; refine (radd_any _ _ _).mono ?_; rintro e w' ⟨rfl, rfl⟩)
        go_round
        case rel => exact ⟨_, _, _, l1, l2, by omega, by omega, l3, l4, rfl, rfl, rfl, HB⟩
        case measure => simp [intOf]; omega
      · have HB := bitsT_even ho hx hx' hlt hodd hb
        have ht : ((n % 2 : Int) == 1) = false := by simpa using hodd
        have l1 := addT_lo x x; have l2 := addT_hi x x
        clear hodd hb
        go_wp2_with (go_at_call 56; refine (radd_any _ _ _).mono ?_; rintro e w' ⟨rfl, rfl⟩)
        go_round
        case rel => exact ⟨_, _, _, l1, l2, by omega, by omega, ho, ho', rfl, rfl, rfl, HB⟩
        case measure => simp [intOf]; omega
    · go_wp2
      go_ret
      refine ⟨ret_int ?_, rfl⟩
      obtain rfl : n = 0 := by omega
      exact bitsT_end ho ho' hb
set_option maxHeartbeats 1000000 in
theorem rwait_any (p : P) (h : p.Good) (n : Int) (hn : 0 ≤ n) (hn' : n ≤ 9223372036854775807) (w : World) :
    Calls Tryz.prog 93 #[.agg #[.int .i64 p.r, .int .i64 p.b, .int .i64 p.f, .int .i64 p.c], .int .i64 n] w fun e w' => e = .returned (.int .i64 (wait p n.toNat)) ∧ Made w w' := by
  have HG := Lib.hid (Bo.rgood_is p (Bo.goodB_yes h))
  have HGood := Lib.hid h
  clear h
  go_enter Tryz.func93, Tryz.ntmps93
  go_wp2_with (go_at_call 86; refine (HG.out _).mono ?_; rintro e w1 ⟨rfl, hm⟩; have k1 := Bo.Pc1 (Bo.own_at hm); have HM := Lib.hid hm; clear hm)
  have HI := Lib.hid (And.intro (Bo.own_at HM.out) ((Made.alloc _ _).trans HM.out))
  clear HM k1 HG
  generalize w.heap.size = g at HI ⊢
  go_loopw [5, 6] (fun v i wr => ∃ k : Nat, (k : Int) ≤ n ∧ k ≤ 64 ∧ i = .int .i64 (k : Int) ∧ v = .int .i64 (raw p k) ∧ wr = w1) (fun _ i _ => n.toNat - (intOf i).toNat)
  case atStart => exact ⟨0, by simpa using hn, by omega, rfl, rfl, rfl⟩
  case round =>
    obtain ⟨k, hk, hk64, rfl, rfl, rfl⟩ := hrel
    have k0 := Bo.Pc0 HI.out.1; have k1 := Bo.Pc1 HI.out.1; have k2 := Bo.Pc2 HI.out.1; have k3 := Bo.Pc3 HI.out.1
    have HE := Lib.hid (fun he => wait_min HGood.out hk hk64 he)
    by_cases hlt : (k : Int) < n
    · by_cases h64 : k < 64
      · go_wp2_with (go_at_call 115; refine (rtimes_any _ _ _).mono ?_; rintro e w' ⟨rfl, rfl⟩)
        go_roundw
        case rel => exact ⟨k + 1, by omega, by omega, by go_num, rfl, trivial⟩
        case measure => simp [intOf]; omega
      · go_wp2
        all_goals
          go_ret
          refine ⟨ret_int ?_, HI.out.2⟩
          rw [HE.out (by omega)]
          omega
    · go_wp2
      all_goals
        go_ret
        refine ⟨ret_int ?_, HI.out.2⟩
        rw [HE.out (by omega)]
        omega
def atS (s : Sg) (x : Int) : Sg := ⟨s.id, s.dn, s.st, s.ph, s.sp, s.tr, false, x, s.sk⟩
/-- the number that a saga's block has in its cell 7 -/
def at7 (w u : World) : Int := match u.cell? ⟨w.heap.size + 1, 7, none⟩ with | some (.int _ x) => x | _ => 0
/-- a definition, a saga with nothing out, and a result's block -/
def Fl (w u : World) (nm : ByteArray) (dl : Int) (A : Option Addr) (n c : Nat) (s : Sg) : Prop := ∃ x, Ed w u nm dl A n c (atS s x) ∧ Slot u (w.heap.size + 2) 49 9
section
variable {w u u' : World} {nm : ByteArray} {dl : Int} {A : Option Addr} {n c : Nat} {s : Sg}
theorem Ed.put7 {x : Int} (h : Ed w u nm dl A n c (atS s x)) (y : Int) : Ed w (u.setCell ⟨w.heap.size + 1, 7, none⟩ (.int .i64 y)) nm dl A n c (atS s y) :=
  ⟨h.d.far (by show ¬ w.heap.size = w.heap.size + 1; omega) _, h.s.put 7 _, h.b.trans ⟨rfl, rfl, rfl, by simp [World.setCell], fun k hk => Below.heap_setCell u ⟨w.heap.size + 1, 7, none⟩ _ k (by show k ≠ w.heap.size + 1; omega)⟩⟩
theorem slot_far {g : Nat} {t : TypeId} {k : Nat} (h : Slot u g t k) {p : Addr} (hp : g ≠ p.block) (v : Value) : Slot (u.setCell p v) g t k := by
  obtain ⟨cs, h, hs⟩ := h
  exact ⟨cs, h.far hp v, hs⟩
theorem off_on {w2 : World} {k : Nat} {o : Obj} (h : Ed w u nm dl A n c s ∧ Slot u (w.heap.size + 2) 49 k) (hb : Below ((u.setCell ⟨w.heap.size + 1, 6, none⟩ (.bool false)).alloc o).heap.size ((u.setCell ⟨w.heap.size + 1, 6, none⟩ (.bool false)).alloc o) w2) :
    Ed w w2 nm dl A n c (offS s) ∧ Slot w2 (w.heap.size + 2) 49 k := by
  have e : Ed w (u.setCell ⟨w.heap.size + 1, 6, none⟩ (.bool false)) nm dl A n c (offS s) := ⟨h.1.d.far (by show ¬ w.heap.size = w.heap.size + 1; omega) _, h.1.s.put 6 _, h.1.b.trans ⟨rfl, rfl, rfl, by simp [World.setCell], fun k hk => Below.heap_setCell u ⟨w.heap.size + 1, 6, none⟩ _ k (by show k ≠ w.heap.size + 1; omega)⟩⟩
  have r : Slot (u.setCell ⟨w.heap.size + 1, 6, none⟩ (.bool false)) (w.heap.size + 2) 49 k := slot_far h.2 (by show w.heap.size + 2 ≠ w.heap.size + 1; omega) _
  have ha : Below (u.setCell ⟨w.heap.size + 1, 6, none⟩ (.bool false)).heap.size (u.setCell ⟨w.heap.size + 1, 6, none⟩ (.bool false)) ((u.setCell ⟨w.heap.size + 1, 6, none⟩ (.bool false)).alloc o) := (Below.refl _ _).alloc (Nat.le_refl _) _
  exact ⟨(e.on ha).on hb, slot_on (slot_on r ha) hb⟩
theorem Ed.put3 (h : Ed w u nm dl A n c s) (y : Int) : Ed w (u.setCell ⟨w.heap.size + 1, 3, none⟩ (.int .i64 y)) nm dl A n c ⟨s.id, s.dn, s.st, y, s.sp, s.tr, s.out, s.at_, s.sk⟩ :=
  ⟨h.d.far (by show ¬ w.heap.size = w.heap.size + 1; omega) _, h.s.put 3 _, h.b.trans ⟨rfl, rfl, rfl, by simp [World.setCell], fun k hk => Below.heap_setCell u ⟨w.heap.size + 1, 3, none⟩ _ k (by show k ≠ w.heap.size + 1; omega)⟩⟩
theorem off_ph {k : Nat} (o : Obj) (y : Int) (h : Ed w u nm dl A n c s ∧ Slot u (w.heap.size + 2) 49 k) :
    Below w.heap.size w (((u.setCell ⟨w.heap.size + 1, 6, none⟩ (.bool false)).setCell ⟨w.heap.size + 1, 3, none⟩ (.int .i64 y)).alloc o) ∧ Slot (((u.setCell ⟨w.heap.size + 1, 6, none⟩ (.bool false)).setCell ⟨w.heap.size + 1, 3, none⟩ (.int .i64 y)).alloc o) (w.heap.size + 2) 49 k := by
  have e : Ed w (u.setCell ⟨w.heap.size + 1, 6, none⟩ (.bool false)) nm dl A n c (offS s) := ⟨h.1.d.far (by show ¬ w.heap.size = w.heap.size + 1; omega) _, h.1.s.put 6 _, h.1.b.trans ⟨rfl, rfl, rfl, by simp [World.setCell], fun k hk => Below.heap_setCell u ⟨w.heap.size + 1, 6, none⟩ _ k (by show k ≠ w.heap.size + 1; omega)⟩⟩
  have r : Slot (u.setCell ⟨w.heap.size + 1, 6, none⟩ (.bool false)) (w.heap.size + 2) 49 k := slot_far h.2 (by show w.heap.size + 2 ≠ w.heap.size + 1; omega) _
  have r2 : Slot ((u.setCell ⟨w.heap.size + 1, 6, none⟩ (.bool false)).setCell ⟨w.heap.size + 1, 3, none⟩ (.int .i64 y)) (w.heap.size + 2) 49 k := slot_far r (by show w.heap.size + 2 ≠ w.heap.size + 1; omega) _
  have ha := (Below.refl ((u.setCell ⟨w.heap.size + 1, 6, none⟩ (.bool false)).setCell ⟨w.heap.size + 1, 3, none⟩ (.int .i64 y)).heap.size ((u.setCell ⟨w.heap.size + 1, 6, none⟩ (.bool false)).setCell ⟨w.heap.size + 1, 3, none⟩ (.int .i64 y))).alloc (Nat.le_refl _) o
  exact ⟨((e.put3 y).on ha).b, slot_on r2 ha⟩
theorem Fl.put (h : Fl w u nm dl A n c s) (y : Int) : Fl w (u.setCell ⟨w.heap.size + 1, 7, none⟩ (.int .i64 y)) nm dl A n c s := by
  obtain ⟨x, h1, h2⟩ := h
  exact ⟨y, h1.put7 y, slot_far h2 (by show w.heap.size + 2 ≠ w.heap.size + 1; omega) _⟩
theorem Fl.drew (h : Fl w u nm dl A n c s) : Fl w u.drew nm dl A n c s := by
  obtain ⟨x, h1, h2⟩ := h
  exact ⟨x, h1.on (Below.drew (Below.refl _ _)), slot_on h2 (Below.drew (Below.refl _ _))⟩
theorem Fl.on (h : Fl w u nm dl A n c s) (hb : Below u.heap.size u u') : Fl w u' nm dl A n c s := by
  obtain ⟨x, h1, h2⟩ := h
  exact ⟨x, h1.on hb, slot_on h2 hb⟩
theorem Fl.c7 (h : Fl w u nm dl A n c s) : u.cell? ⟨w.heap.size + 1, 7, none⟩ = some (.int .i64 (at7 w u)) := by
  obtain ⟨x, h1, h2⟩ := h
  have hc : u.cell? ⟨w.heap.size + 1, 7, none⟩ = some (.int .i64 x) := h1.s.cell 7
  unfold at7
  rw [hc]
theorem Fl.b (h : Fl w u nm dl A n c s) : Below w.heap.size w u := by
  obtain ⟨x, h1, h2⟩ := h
  exact h1.b
theorem Fl.cs (h : Fl w u nm dl A n c s) : (u.cell? ⟨w.heap.size, 0, none⟩ = some (.string nm) ∧ u.cell? ⟨w.heap.size, 1, none⟩ = some (.int .i64 dl) ∧ u.cell? ⟨w.heap.size, 2, none⟩ = some (.slice A n c)) ∧
    u.cell? ⟨w.heap.size + 1, 0, none⟩ = some (.int .i64 s.id) ∧ u.cell? ⟨w.heap.size + 1, 1, none⟩ = some (.string s.dn) ∧ u.cell? ⟨w.heap.size + 1, 2, none⟩ = some (.int .i64 s.st) ∧ u.cell? ⟨w.heap.size + 1, 3, none⟩ = some (.int .i64 s.ph) ∧ u.cell? ⟨w.heap.size + 1, 4, none⟩ = some (.int .i64 s.sp) ∧
    u.cell? ⟨w.heap.size + 1, 5, none⟩ = some (.int .i64 s.tr) ∧ u.cell? ⟨w.heap.size + 1, 6, none⟩ = some (.bool false) ∧ u.cell? ⟨w.heap.size + 1, 8, none⟩ = some (.int .i64 s.sk) ∧ u.frozen? ⟨w.heap.size + 1, 7, none⟩ = false := by
  obtain ⟨x, h1, h2⟩ := h
  exact ⟨h1.cd, h1.s.cell 0, h1.s.cell 1, h1.s.cell 2, h1.s.cell 3, h1.s.cell 4, h1.s.cell 5, h1.s.cell 6, h1.s.cell 8, h1.s.frozen 7⟩
end
section
variable (nm : ByteArray) (dl : Int) (A : Option Addr) (n c : Nat) (ss : List Stp) (s : Sg) (now : Int) (w : World) (hd : Dn w nm A n c ss) (h0 : 0 ≤ s.sp) (h1 : s.sp < n) (hp : (planOf ss s).Good) (ht : 1 ≤ s.tr ∧ s.tr ≤ 9223372036854775807)
include hd h0 h1 hp ht
set_option maxRecDepth 100000 in
set_option maxHeartbeats 4000000 in
theorem failed_any : Calls Tryz.prog 109 #[.agg #[.string nm, .int .i64 dl, .slice A n c], .agg #[.int .i64 s.id, .string s.dn, .int .i64 s.st, .int .i64 s.ph, .int .i64 s.sp, .int .i64 s.tr, .bool s.out, .int .i64 s.at_, .int .i64 s.sk], .int .i64 now] w fun e w' => e = .returned (.agg (failS ss s now).arr) ∧ Below w.heap.size w w' := by
  have HT : Hid (∀ W, Below w.heap.size w W → Calls Tryz.prog 122 #[.agg #[.string nm, .int .i64 dl, .slice A n c], .agg #[.int .i64 s.id, .string s.dn, .int .i64 s.st, .int .i64 s.ph, .int .i64 s.sp, .int .i64 s.tr, .bool false, .int .i64 s.at_, .int .i64 s.sk]] W fun e w' => e = .returned (.bool (decide (s.tr ≤ (planOf ss s).r))) ∧ Made W w') := Lib.hid fun W hW =>
    tries_any nm dl A n c ss (offS s) W hd.en (hd.mem.on hW) h0 h1 hp ⟨by show 0 ≤ s.tr; omega, ht.2⟩
  have HPl : Hid (∀ x W, Below w.heap.size w W → Calls Tryz.prog 119 #[.agg #[.string nm, .int .i64 dl, .slice A n c], .agg #[.int .i64 s.id, .string s.dn, .int .i64 s.st, .int .i64 s.ph, .int .i64 s.sp, .int .i64 s.tr, .bool false, .int .i64 x, .int .i64 s.sk]] W fun e w' => e = .returned (.agg #[.int .i64 (planOf ss s).r, .int .i64 (planOf ss s).b, .int .i64 (planOf ss s).f, .int .i64 (planOf ss s).c]) ∧ Made W w') := Lib.hid fun x W hW =>
    plan_any nm dl A n c ss (atS s x) W hd.en (hd.mem.on hW) h0 h1
  have hlen := hd.len
  by_cases hl : s.tr ≤ (planOf ss s).r
  · have hX : failS ss s now = restS ss s now := by unfold failS; rw [if_pos hl]
    have HW := Lib.hid (Bo.wait_any (planOf ss s) hp (s.tr - 1) (by omega) (by omega))
    have hx : restS ss s now = ⟨s.id, s.dn, s.st, s.ph, s.sp, s.tr, false, addT now (wait (planOf ss s) (s.tr - 1).toNat), s.sk⟩ := rfl
    rw [decide_eq_true hl] at HT
    rw [hX, hx]
    generalize planOf ss s = p at *
    generalize wait p (s.tr - 1).toNat = wt at *
    have HA := Lib.hid (Bo.tadd_any now wt)
    generalize addT now wt = nx at *
    clear hX hx hl hd hp hlen
    go_enter Tryz.func109, Tryz.ntmps109
    go_wp2_with (first
      | (go_at_call 122; (with_reducible refine (HT.out _ (b3 w _ _ _)).mono ?_); rintro e w1 ⟨rfl, hm⟩; have H1 := Lib.hid (ed3 (s := offS s) hm.below); clear hm))
    have hwr : (Value.int .i64 (IntKind.i64.wrap (s.tr - 1))) = .int .i64 (s.tr - 1) := by
      congr 1
      rw [IntKind.wrap_i64]
      omega
    have HF : Hid (Fl w w1.drew nm dl A n c s) := Lib.hid (Fl.drew ⟨s.at_, H1.out⟩)
    have HPl1 : Hid (∀ x W, Fl w W nm dl A n c s → Calls Tryz.prog 119 #[.agg #[.string nm, .int .i64 dl, .slice A n c], .agg #[.int .i64 s.id, .string s.dn, .int .i64 s.st, .int .i64 s.ph, .int .i64 s.sp, .int .i64 s.tr, .bool false, .int .i64 x, .int .i64 s.sk]] W fun e w' => e = .returned (.agg #[.int .i64 p.r, .int .i64 p.b, .int .i64 p.f, .int .i64 p.c]) ∧ Fl w w' nm dl A n c s) := Lib.hid fun x W hW =>
      (HPl.out x W hW.b).mono fun e w' ⟨he, hm⟩ => ⟨he, hW.on hm.below⟩
    have HW1 : Hid (∀ W, Fl w W nm dl A n c s → Calls Tryz.prog 126 #[.agg #[.int .i64 p.r, .int .i64 p.b, .int .i64 p.f, .int .i64 p.c], .int .i64 (IntKind.i64.wrap (s.tr - 1))] W fun e w' => e = .returned (.int .i64 wt) ∧ Fl w w' nm dl A n c s) := Lib.hid fun W hW => by
      rw [hwr]
      exact (HW.out W).mono fun e w' ⟨he, hm⟩ => ⟨he, hW.on hm.below⟩
    have c0 : ∀ u, Fl w u nm dl A n c s → u.cell? ⟨w.heap.size, 0, none⟩ = some (.string nm) := fun u hu => hu.cs.1.1
    have c1 : ∀ u, Fl w u nm dl A n c s → u.cell? ⟨w.heap.size, 1, none⟩ = some (.int .i64 dl) := fun u hu => hu.cs.1.2.1
    have c2 : ∀ u, Fl w u nm dl A n c s → u.cell? ⟨w.heap.size, 2, none⟩ = some (.slice A n c) := fun u hu => hu.cs.1.2.2
    have d0 : ∀ u, Fl w u nm dl A n c s → u.cell? ⟨w.heap.size + 1, 0, none⟩ = some (.int .i64 s.id) := fun u hu => hu.cs.2.1
    have d1 : ∀ u, Fl w u nm dl A n c s → u.cell? ⟨w.heap.size + 1, 1, none⟩ = some (.string s.dn) := fun u hu => hu.cs.2.2.1
    have d2 : ∀ u, Fl w u nm dl A n c s → u.cell? ⟨w.heap.size + 1, 2, none⟩ = some (.int .i64 s.st) := fun u hu => hu.cs.2.2.2.1
    have d3 : ∀ u, Fl w u nm dl A n c s → u.cell? ⟨w.heap.size + 1, 3, none⟩ = some (.int .i64 s.ph) := fun u hu => hu.cs.2.2.2.2.1
    have d4 : ∀ u, Fl w u nm dl A n c s → u.cell? ⟨w.heap.size + 1, 4, none⟩ = some (.int .i64 s.sp) := fun u hu => hu.cs.2.2.2.2.2.1
    have d5 : ∀ u, Fl w u nm dl A n c s → u.cell? ⟨w.heap.size + 1, 5, none⟩ = some (.int .i64 s.tr) := fun u hu => hu.cs.2.2.2.2.2.2.1
    have d6 : ∀ u, Fl w u nm dl A n c s → u.cell? ⟨w.heap.size + 1, 6, none⟩ = some (.bool false) := fun u hu => hu.cs.2.2.2.2.2.2.2.1
    have d8 : ∀ u, Fl w u nm dl A n c s → u.cell? ⟨w.heap.size + 1, 8, none⟩ = some (.int .i64 s.sk) := fun u hu => hu.cs.2.2.2.2.2.2.2.2.1
    have f7 : ∀ u, Fl w u nm dl A n c s → u.frozen? ⟨w.heap.size + 1, 7, none⟩ = false := fun u hu => hu.cs.2.2.2.2.2.2.2.2.2
    have d7 : w1.drew.cell? ⟨w.heap.size + 1, 7, none⟩ = some (.int .i64 s.at_) := H1.out.1.s.cell 7
    clear HT HPl HW hwr
    refine wp_region_held_drew (S := fun u => Fl w u nm dl A n c s) (by kernel_rfl) (HF.out) (fun hHeld => ?_)
    refine Un.tk 0 12 rfl ?_
    refine Un.tk 1 13 rfl ?_
    refine Un.tk 4 16 rfl ?_
    refine Un.tk 5 17 rfl ?_
    refine Un.tk 6 18 rfl ?_
    refine wpAnyH_ready (rs := [2]) (by kernel_rfl) (by simp) ?_
    refine AllReadyH.cons (o := ⟨some 14, _, _, _, _, _⟩) rfl (fun K hK => ?_) AllReadyH.nil
    go_simp
    refine hK.out _ _ ?_ (fun hHeld => ?_)
    · exact HF.out
    clear hK K
    (try simp only [Act.put, List.setIfInBounds_toArray, List.set_cons_zero, List.set_cons_succ])
    refine wpAnyH_ready (rs := [3]) (by kernel_rfl) (by simp) ?_
    refine AllReadyH.cons (o := ⟨some 15, _, _, _, _, _⟩) rfl (fun K hK => ?_) AllReadyH.nil
    go_simp
    (with_reducible refine (HPl1.out _ _ HF.out).mono ?_)
    rintro e u1 ⟨rfl, hu1⟩
    go_wp2_with fail
    refine hK.out _ _ ?_ (fun hHeld => ?_)
    · exact hu1
    clear hK K
    (try simp only [Act.put, List.setIfInBounds_toArray, List.set_cons_zero, List.set_cons_succ])
    refine wpAnyH_ready (rs := [7]) (by kernel_rfl) (by simp) ?_
    refine AllReadyH.cons (o := ⟨some 19, _, _, _, _, _⟩) rfl (fun K hK => ?_) AllReadyH.nil
    go_simp
    (with_reducible refine (HW1.out _ hu1).mono ?_)
    rintro e u2 ⟨rfl, hu2⟩
    go_wp2_with fail
    refine hK.out _ _ ?_ (fun hHeld => ?_)
    · exact hu2
    clear hK K
    (try simp only [Act.put, List.setIfInBounds_toArray, List.set_cons_zero, List.set_cons_succ])
    refine wpAnyH_ready (rs := [8]) (by kernel_rfl) (by simp) ?_
    refine AllReadyH.cons (o := ⟨some 20, _, _, _, _, _⟩) rfl (fun K hK => ?_) AllReadyH.nil
    go_simp
    (with_reducible refine (HA.out _).mono ?_)
    rintro e u3 ⟨rfl, rfl⟩
    go_wp2_with fail
    refine hK.out _ _ ?_ (fun hHeld => ?_)
    · exact hu2
    clear hK K
    (try simp only [Act.put, List.setIfInBounds_toArray, List.set_cons_zero, List.set_cons_succ])
    refine Un.tk 9 21 rfl ?_
    have s7 := hu2.c7
    have g7 := f7 _ hu2
    refine wpAnyH_ready (rs := [10]) (by kernel_rfl) (by simp) ?_
    refine AllReadyH.cons (o := ⟨none, _, _, _, _, _⟩) rfl (fun K hK => ?_) AllReadyH.nil
    go_simp
    refine hK.out _ _ ?_ (fun hHeld => ?_)
    · exact hu2.put _
    clear hK K
    (try simp only [Act.put, List.setIfInBounds_toArray, List.set_cons_zero, List.set_cons_succ])
    refine wpAnyH_done (by kernel_rfl) ?_ _
    obtain ⟨x9, e9, r9⟩ := hu2
    have H9 := Lib.hid (And.intro (e9.put7 nx) (slot_far r9 (p := ⟨w.heap.size + 1, 7, none⟩) (by show w.heap.size + 2 ≠ w.heap.size + 1; omega) (.int .i64 nx)))
    clear e9 r9 hHeld s7 g7 c0 c1 c2 d0 d1 d2 d3 d4 d5 d6 d7 d8 f7
    generalize u2.setCell ⟨w.heap.size + 1, 7, none⟩ (.int .i64 nx) = W9 at *
    obtain ⟨d0, d1, d2⟩ := H9.out.1.cd
    obtain ⟨c0, c1, c2, c3, c4, c5, c6, c7, c8⟩ := H9.out.1.cs
    go_wp2_with (obtain ⟨cs, hcs, hsz⟩ := H9.out.2; refine wpList_store_row rfl 49 _ _ rfl (w.heap.size + 2) 49 cs (atS s nx).arr rfl rfl hcs (sizeG _) hsz (oneG _) ?_)
    exact bodyPost_ret (res_sg rfl _ _ (w.heap.size + 2) (atS s nx) rfl (box_row hcs _)) rfl ⟨rfl, row_end H9.out.1.b (by omega) _⟩
  · have hX : failS ss s now = if s.ph = 0 then aheadS s 4 now else endS s 2 := by unfold failS; rw [if_neg hl]
    rw [decide_eq_false hl] at HT
    have HTu := Lib.hid (turned_any (offS s) now ⟨h0, by show s.sp ≤ _; omega⟩)
    have HEn := Lib.hid (ended_any (offS s) 2)
    rw [ahead_off] at HTu
    rw [end_off] at HEn
    unfold offS at HTu HEn
    generalize planOf ss s = p at *
    clear hl hd hp hlen HPl
    by_cases hph : s.ph = 0
    · have g0 : (s.ph == 0) = true := by simpa using hph
      rw [hX, if_pos hph]
      generalize aheadS s 4 now = X at *
      clear hph hX HEn
      go_enter Tryz.func109, Tryz.ntmps109
      go_wp2_with (first
        | (go_at_call 122; (with_reducible refine (HT.out _ (b3 w _ _ _)).mono ?_); rintro e w1 ⟨rfl, hm⟩; have H1 := Lib.hid (ed3 (s := offS s) hm.below); clear hm; obtain ⟨d0, d1, d2⟩ := H1.out.1.cd; obtain ⟨c0, c1, c2, c3, c4, c5, c6, c7, c8⟩ := H1.out.1.cs; unfold offS at c0 c1 c2 c3 c4 c5 c6 c7 c8; dsimp only at c0 c1 c2 c3 c4 c5 c6 c7 c8)
        | (go_at_call 112; (with_reducible refine (HTu.out _).mono ?_); rintro e w2 ⟨rfl, hm⟩; have H2 := Lib.hid (And.intro (H1.out.1.on hm) (slot_on H1.out.2 hm)); clear hm)
        | (obtain ⟨cs, hcs, hsz⟩ := H2.out.2; refine wpList_store_row rfl 49 _ _ rfl (w.heap.size + 2) 49 cs (X).arr rfl rfl hcs (sizeG _) hsz (oneG _) ?_))
      exact bodyPost_ret (res_sg rfl _ _ (w.heap.size + 2) X rfl (box_row hcs _)) rfl ⟨rfl, row_end H2.out.1.b (by omega) _⟩
    · have g0 : (s.ph == 0) = false := by simpa using hph
      rw [hX, if_neg hph]
      generalize endS s 2 = X at *
      clear hph hX HTu
      go_enter Tryz.func109, Tryz.ntmps109
      go_wp2_with (first
        | (go_at_call 122; (with_reducible refine (HT.out _ (b3 w _ _ _)).mono ?_); rintro e w1 ⟨rfl, hm⟩; have H1 := Lib.hid (ed3 (s := offS s) hm.below); clear hm; obtain ⟨d0, d1, d2⟩ := H1.out.1.cd; obtain ⟨c0, c1, c2, c3, c4, c5, c6, c7, c8⟩ := H1.out.1.cs; unfold offS at c0 c1 c2 c3 c4 c5 c6 c7 c8; dsimp only at c0 c1 c2 c3 c4 c5 c6 c7 c8)
        | (go_at_call 114; (with_reducible refine (HEn.out _).mono ?_); rintro e w2 ⟨rfl, hm⟩; have H2 := Lib.hid (And.intro (H1.out.1.on hm.below) (slot_on H1.out.2 hm.below)); clear hm)
        | (obtain ⟨cs, hcs, hsz⟩ := H2.out.2; refine wpList_store_row rfl 49 _ _ rfl (w.heap.size + 2) 49 cs (X).arr rfl rfl hcs (sizeG _) hsz (oneG _) ?_))
      exact bodyPost_ret (res_sg rfl _ _ (w.heap.size + 2) X rfl (box_row hcs _)) rfl ⟨rfl, row_end H2.out.1.b (by omega) _⟩
set_option maxRecDepth 100000 in
set_option maxHeartbeats 4000000 in
theorem fails_any : Calls Tryz.prog 59 #[.agg #[.string nm, .int .i64 dl, .slice A n c], .agg #[.int .i64 s.id, .string s.dn, .int .i64 s.st, .int .i64 s.ph, .int .i64 s.sp, .int .i64 s.tr, .bool s.out, .int .i64 s.at_, .int .i64 s.sk], .int .i64 now] w fun e w' => e = .returned (.agg (failS ss s now).arr) ∧ Below w.heap.size w w' := by
  have HPl : Hid (∀ W, Below w.heap.size w W → Calls Tryz.prog 54 #[.agg #[.string nm, .int .i64 dl, .slice A n c], .agg #[.int .i64 s.id, .string s.dn, .int .i64 s.st, .int .i64 s.ph, .int .i64 s.sp, .int .i64 s.tr, .bool s.out, .int .i64 s.at_, .int .i64 s.sk]] W fun e w' => e = .returned (.agg #[.int .i64 (planOf ss s).r, .int .i64 (planOf ss s).b, .int .i64 (planOf ss s).f, .int .i64 (planOf ss s).c]) ∧ Made W w') := Lib.hid fun W hW =>
    rplan_any nm dl A n c ss s W hd.en (hd.mem.on hW) h0 h1
  have hlen := hd.len
  have HN : Hid (n ≤ 4611686018427387904) := Lib.hid hlen
  by_cases hl : s.tr ≤ (planOf ss s).r
  · have hX : failS ss s now = restS ss s now := by unfold failS; rw [if_pos hl]
    have HW := Lib.hid (rwait_any (planOf ss s) hp (s.tr - 1) (by omega) (by omega))
    have hx : restS ss s now = atS s (addT now (wait (planOf ss s) (s.tr - 1).toNat)) := rfl
    rw [hX, hx]
    generalize planOf ss s = p at *
    generalize wait p (s.tr - 1).toNat = wt at *
    have HA := Lib.hid (radd_any now wt)
    generalize addT now wt = nx at *
    clear hX hx hd hp hlen
    go_enter Tryz.func59, Tryz.ntmps59
    go_wp2_with (first
      | (go_at_call 54; (with_reducible refine (HPl.out _ (b3 w _ _ _)).mono ?_); rintro e w1 ⟨rfl, hm⟩; have H1 := Lib.hid (ed3 (s := s) hm.below); clear hm; obtain ⟨d0, d1, d2⟩ := H1.out.1.cd; obtain ⟨c0, c1, c2, c3, c4, c5, c6, c7, c8⟩ := H1.out.1.cs; have f6 := H1.out.1.s.frozen 6; have f7 := H1.out.1.s.frozen 7; have hls := H1.out.1.s.lt)
      | (go_at_call 93; (with_reducible refine (HW.out _).mono ?_); rintro e w2 ⟨rfl, hm⟩; have H2 := Lib.hid (off_on H1.out hm.below); clear hm; have H3 := Lib.hid (And.intro (Ed.put7 (s := s) (x := s.at_) H2.out.1 nx) (slot_far H2.out.2 (p := ⟨w.heap.size + 1, 7, none⟩) (by show w.heap.size + 2 ≠ w.heap.size + 1; omega) (.int .i64 nx))); obtain ⟨d0, d1, d2⟩ := H2.out.1.cd; obtain ⟨c0, c1, c2, c3, c4, c5, c6, c7, c8⟩ := H2.out.1.cs; have f7 := H2.out.1.s.frozen 7; unfold offS at c0 c1 c2 c3 c4 c5 c6 c7 c8; dsimp only at c0 c1 c2 c3 c4 c5 c6 c7 c8)
      | (go_at_call 56; (with_reducible refine (HA.out _).mono ?_); rintro e w3 ⟨rfl, rfl⟩)
      | (obtain ⟨cs, hcs, hsz⟩ := H3.out.2; refine wpList_store_row rfl 49 _ _ rfl (w.heap.size + 2) 49 cs (atS s nx).arr rfl rfl hcs (sizeG _) hsz (oneG _) ?_))
    exact bodyPost_ret (res_sg rfl _ _ (w.heap.size + 2) (atS s nx) rfl (box_row hcs _)) rfl ⟨rfl, row_end H3.out.1.b (by omega) _⟩
  · have hX : failS ss s now = if s.ph = 0 then aheadS s 4 now else endS s 2 := by unfold failS; rw [if_neg hl]
    have HTu := Lib.hid (rback_any (offS s) now ⟨h0, by show s.sp ≤ _; omega⟩)
    rw [ahead_off] at HTu
    unfold offS at HTu
    generalize planOf ss s = p at *
    clear hd hp hlen
    by_cases hph : s.ph = 0
    · have g0 : (s.ph == 0) = true := by simpa using hph
      rw [hX, if_pos hph]
      generalize aheadS s 4 now = X at *
      clear hph hX
      go_enter Tryz.func59, Tryz.ntmps59
      go_wp2_with (first
        | (go_at_call 54; (with_reducible refine (HPl.out _ (b3 w _ _ _)).mono ?_); rintro e w1 ⟨rfl, hm⟩; have H1 := Lib.hid (ed3 (s := s) hm.below); clear hm; obtain ⟨d0, d1, d2⟩ := H1.out.1.cd; obtain ⟨c0, c1, c2, c3, c4, c5, c6, c7, c8⟩ := H1.out.1.cs; have f6 := H1.out.1.s.frozen 6; have f7 := H1.out.1.s.frozen 7; have hls := H1.out.1.s.lt)
        | (go_at_call 60; (with_reducible refine (HTu.out _).mono ?_); rintro e w2 ⟨rfl, hm⟩; have H2 := Lib.hid (off_on H1.out hm); clear hm)
        | (obtain ⟨cs, hcs, hsz⟩ := H2.out.2; refine wpList_store_row rfl 49 _ _ rfl (w.heap.size + 2) 49 cs (X).arr rfl rfl hcs (sizeG _) hsz (oneG _) ?_))
      exact bodyPost_ret (res_sg rfl _ _ (w.heap.size + 2) X rfl (box_row hcs _)) rfl ⟨rfl, row_end H2.out.1.b (by omega) _⟩
    · have g0 : (s.ph == 0) = false := by simpa using hph
      rw [hX, if_neg hph]
      have hx : endS s 2 = ⟨s.id, s.dn, s.st, 2, s.sp, s.tr, false, s.at_, s.sk⟩ := rfl
      clear hph hX HTu
      go_enter Tryz.func59, Tryz.ntmps59
      go_wp2_with (first
        | (go_at_call 54; (with_reducible refine (HPl.out _ (b3 w _ _ _)).mono ?_); rintro e w1 ⟨rfl, hm⟩; have H1 := Lib.hid (ed3 (s := s) hm.below); clear hm; obtain ⟨d0, d1, d2⟩ := H1.out.1.cd; obtain ⟨c0, c1, c2, c3, c4, c5, c6, c7, c8⟩ := H1.out.1.cs; have f6 := H1.out.1.s.frozen 6; have f3 := H1.out.1.s.frozen 3; have hls := H1.out.1.s.lt; have H3 := Lib.hid (fun o => off_ph o 2 H1.out))
        | (obtain ⟨cs, hcs, hsz⟩ := (H3.out _).2; refine wpList_store_row rfl 49 _ _ rfl (w.heap.size + 2) 49 cs (endS s 2).arr rfl rfl hcs (sizeG _) hsz (oneG _) ?_))
      exact bodyPost_ret (res_sg rfl _ _ (w.heap.size + 2) (endS s 2) rfl (box_row hcs _)) rfl ⟨rfl, row_end (H3.out _).1 (by omega) _⟩
end
end Go.Proofs.YteejocnogpaifaaGreatDoor.Sa
