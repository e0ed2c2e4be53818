/-
  What Emit and Begin of package saga answer.
  Conditions: the definition's steps lie in memory, its names are of moderate length.
-/
import Derived.Test.YteejocnogpaifaaGreatDoorMrg1
import Derived.Test.YteejocnogpaifaaGreatDoorSagFail
import Derived.Test.YteejocnogpaifaaGreatDoorMrg2
import Derived.RegionTactic
namespace Go.Proofs.YteejocnogpaifaaGreatDoor.Sa
open Go.RowKit Go.Sort
open Go.Proofs.YteejocnogpaifaaGreatDoor.El
open Go.Proofs.YteejocnogpaifaaGreatDoor.Bo (P Made ret_int ret_bool left wait)
open Go.Proofs.YteejocnogpaifaaGreatDoor.Df

theorem slot_rowfar {w : World} {g g' : Nat} {t : TypeId} {k : Nat} (h : Slot w g t k) (hne : g ≠ g') (cs' : Array Value) : Slot (w.setRow g' cs') g t k := by
  obtain ⟨cs, h, hs⟩ := h
  exact ⟨cs, (setRow_other w g' g cs' hne).trans h, hs⟩
/-- blocks that a call has laid: a definition, a saga, two results' -/
structure Ee (w w' : World) (nm : ByteArray) (dl : Int) (A : Option Addr) (n c : Nat) (s : Sg) : Prop where
  e : Ed w w' nm dl A n c s
  q : Slot w' (w.heap.size + 2) 49 9
  k : Slot w' (w.heap.size + 3) 37 6
section
variable {w w' w2 : World} {nm : ByteArray} {dl : Int} {A : Option Addr} {n c : Nat} {s : Sg}
theorem Ee.on (h : Ee w w' nm dl A n c s) (hb : Below w'.heap.size w' w2) : Ee w w2 nm dl A n c s := ⟨h.e.on hb, slot_on h.q hb, slot_on h.k hb⟩
theorem ee4 {cs cs' : Array Value} (hc : cs.size = 9) (hc' : cs'.size = 6) (h : Below ((((w.alloc (.cells #[.string nm, .int .i64 dl, .slice A n c] 33)).alloc (.cells #[.int .i64 s.id, .string s.dn, .int .i64 s.st, .int .i64 s.ph, .int .i64 s.sp, .int .i64 s.tr, .bool s.out, .int .i64 s.at_, .int .i64 s.sk] 49)).alloc (.cells cs 49)).alloc (.cells cs' 37)).heap.size ((((w.alloc (.cells #[.string nm, .int .i64 dl, .slice A n c] 33)).alloc (.cells #[.int .i64 s.id, .string s.dn, .int .i64 s.st, .int .i64 s.ph, .int .i64 s.sp, .int .i64 s.tr, .bool s.out, .int .i64 s.at_, .int .i64 s.sk] 49)).alloc (.cells cs 49)).alloc (.cells cs' 37)) w') : Ee w w' nm dl A n c s :=
  Ee.on ⟨((ed2 (Below.refl _ _)).on ((Below.refl _ _).alloc (Nat.le_refl _) _)).on ((Below.refl _ _).alloc (Nat.le_refl _) _), (Box.slot (box_new3 w _ _ _ cs) hc).below ((Below.refl _ _).alloc (Nat.le_refl _) _) (box_new3 w _ _ _ cs).lt, Box.slot (box_new4 w _ _ _ _ cs') hc'⟩ h
theorem Ee.rows (h : Ee w w' nm dl A n c s) (X : Sg) (C : Cm) : Box ((w'.setRow (w.heap.size + 2) X.arr).setRow (w.heap.size + 3) C.arr) (w.heap.size + 2) 49 X.arr ∧ Box ((w'.setRow (w.heap.size + 2) X.arr).setRow (w.heap.size + 3) C.arr) (w.heap.size + 3) 37 C.arr ∧ Below w.heap.size w ((w'.setRow (w.heap.size + 2) X.arr).setRow (w.heap.size + 3) C.arr) :=
  ⟨(setRow_other _ (w.heap.size + 3) (w.heap.size + 2) _ (by omega)).trans (h.q.row X.arr), (slot_rowfar h.k (by omega) X.arr).row C.arr, row_end (row_end h.e.b (by omega) _) (by omega) _⟩
theorem Ee.k' (h : Ee w w' nm dl A n c s) (X : Array Value) : Slot (w'.setRow (w.heap.size + 2) X) (w.heap.size + 3) 37 6 := slot_rowfar h.k (by omega) _
end
theorem Ee.sent {w u : World} {nm : ByteArray} {dl : Int} {A : Option Addr} {n c : Nat} {s : Sg} (h : Ee w u nm dl A n c s) (t x : Int) :
    Ee w (((u.setCell ⟨w.heap.size + 1, 5, none⟩ (.int .i64 t)).setCell ⟨w.heap.size + 1, 6, none⟩ (.bool true)).setCell ⟨w.heap.size + 1, 7, none⟩ (.int .i64 x)) nm dl A n c ⟨s.id, s.dn, s.st, s.ph, s.sp, t, true, x, s.sk⟩ := by
  have hb : ∀ (v : World) (i : Nat) (y : Value), Below w.heap.size w v → Below w.heap.size w (v.setCell ⟨w.heap.size + 1, i, none⟩ y) := fun v i y hv => hv.trans ⟨rfl, rfl, rfl, by simp [World.setCell], fun k hk => Below.heap_setCell v ⟨w.heap.size + 1, i, none⟩ _ k (by show k ≠ w.heap.size + 1; omega)⟩
  have hn : ∀ i : Nat, w.heap.size ≠ (⟨w.heap.size + 1, i, none⟩ : Addr).block := fun i => by show w.heap.size ≠ w.heap.size + 1; omega
  have hn2 : ∀ i : Nat, w.heap.size + 2 ≠ (⟨w.heap.size + 1, i, none⟩ : Addr).block := fun i => by show w.heap.size + 2 ≠ w.heap.size + 1; omega
  have hn3 : ∀ i : Nat, w.heap.size + 3 ≠ (⟨w.heap.size + 1, i, none⟩ : Addr).block := fun i => by show w.heap.size + 3 ≠ w.heap.size + 1; omega
  exact ⟨⟨((h.e.d.far (hn 5) _).far (hn 6) _).far (hn 7) _, ((h.e.s.put 5 _).put 6 _).put 7 _, hb _ _ _ (hb _ _ _ (hb _ _ _ h.e.b))⟩, slot_far (slot_far (slot_far h.q (hn2 5) _) (hn2 6) _) (hn2 7) _, slot_far (slot_far (slot_far h.k (hn3 5) _) (hn3 6) _) (hn3 7) _⟩
theorem oper_store_row {op : Oper} {a : Act} {w : World} {K : Act → World → Prop} {Q : Exit → Act → World → Prop} (ty : TypeId) (x y : Operand) (ho : op.op = .store ty x y)
    (g : Nat) (t : TypeId) (old cs : Array Value) (hx : a.eval x = .pointer (some ⟨g, 0, none⟩)) (hy : a.eval y = .agg cs) (hg : w.heap[g]? = some (.cells old t (0, 0)))
    (hi : (Tryz.prog.info? ty).map (·.size) = some cs.size) (hs : old.size = cs.size) (h1 : cs.all (·.oneCell') = true) (h : K (a.put op.dst undef) (w.setRow g cs)) : Oper.wp Tryz.prog op a w K Q := by
  unfold Oper.wp execOp
  simp only [ho, hx, hy, Instr.storeAt, Instr.sureAddr, Sem.run_bind, Sem.run_pure, Result.andThen_ok, run_storeVar_row w g t ty old cs hg hi hs h1]
  exact h
/-- a store of a whole struct, the one operation that may come up -/
theorem st1 {ops : Array Oper} {Q : Exit → Act → World → Prop} {md : Region.Mode} {S : World → Prop} (i : Nat) {tt : TypeId} {pos : String} {aft : Array Edge} {fuel : Nat} {listed : Array Bool} {a : Act} {w : World} (ty : TypeId) (x y : Operand)
    (hi0 : ops[i]? = some ⟨none, .store ty x y, tt, pos, aft, none⟩) (g : Nat) (t : TypeId) (old cs : Array Value) (hx : a.eval x = .pointer (some ⟨g, 0, none⟩)) (hy : a.eval y = .agg cs) (hg : w.heap[g]? = some (.cells old t (0, 0)))
    (hi : (Tryz.prog.info? ty).map (·.size) = some cs.size) (hs : old.size = cs.size) (h1 : cs.all (·.oneCell') = true) (hS : S (w.setRow g cs)) (h : S (w.setRow g cs) → wpAnyH Tryz.prog md ops Q S fuel (listed.setIfInBounds i true) a (w.setRow g cs))
    (hr : Region.ready md ops listed = [i] := by decide +kernel) : wpAnyH Tryz.prog md ops Q S (fuel + 1) listed a w := by
  refine wpAnyH_ready hr (by simp) (AllReadyH.cons (o := ⟨none, .store ty x y, tt, pos, aft, none⟩) hi0 (fun K hK => ?_) AllReadyH.nil)
  have hw : Region.wanted ⟨none, .store ty x y, tt, pos, aft, none⟩ (yielded ops a.tmps) = true := by simp [Region.wanted]
  rw [if_pos hw]
  exact oper_store_row ty x y rfl g t old cs hx hy hg hi hs h1 (hK.out _ _ hS h)
theorem Ed.far {w u : World} {nm : ByteArray} {dl : Int} {A : Option Addr} {n c : Nat} {s : Sg} (h : Ed w u nm dl A n c s) {g : Nat} (hg : w.heap.size + 2 ≤ g) (cs : Array Value) : Ed w (u.setRow g cs) nm dl A n c s :=
  ⟨(setRow_other u g w.heap.size cs (by omega)).trans h.d, (setRow_other u g (w.heap.size + 1) cs (by omega)).trans h.s, row_end h.b (by omega) cs⟩
theorem Ee.set2 {w u : World} {nm : ByteArray} {dl : Int} {A : Option Addr} {n c : Nat} {s : Sg} (h : Ee w u nm dl A n c s) (X : Sg) : Ee w (u.setRow (w.heap.size + 2) X.arr) nm dl A n c s :=
  ⟨h.e.far (Nat.le_refl _) _, (Box.slot (h.q.row X.arr) rfl), slot_rowfar h.k (by omega) _⟩
theorem Ee.set3 {w u : World} {nm : ByteArray} {dl : Int} {A : Option Addr} {n c : Nat} {s : Sg} (h : Ee w u nm dl A n c s) (X : Cm) : Ee w (u.setRow (w.heap.size + 3) X.arr) nm dl A n c s :=
  ⟨h.e.far (by omega) _, slot_rowfar h.q (by omega) _, (Box.slot (h.k.row X.arr) rfl)⟩
theorem box_far {u : World} {g g' : Nat} {t : TypeId} {cs : Array Value} (h : Box u g t cs) (hne : g ≠ g') (cs' : Array Value) : Box (u.setRow g' cs') g t cs := (setRow_other u g' g cs' hne).trans h
theorem cell_al {w : World} {p : Addr} {v : Value} (h : w.cell? p = some v) (o : Obj) : (w.alloc o).cell? p = some v := (((Below.refl w.heap.size w).alloc (Nat.le_refl _) o).cell (World.block_lt_of_cell? _ _ h)).trans h
theorem b4' (w : World) (o o' o2 o3 : Obj) : Below w.heap.size w ((((w.alloc o).alloc o').alloc o2).alloc o3) := ((made3 w o o' o2).trans (Made.alloc _ _)).below
section
variable (nm : ByteArray) (dl : Int) (A : Option Addr) (n c : Nat) (ss : List Stp) (s : Sg) (w : World) (hd : Dn w nm A n c ss) (now : Int) (ht : s.tr ≤ 9223372036854775807) (hid : s.id ≤ 9223372036854775807)
include hd ht hid
set_option maxRecDepth 100000 in
set_option maxHeartbeats 8000000 in
theorem emit_any : Calls Tryz.prog 78 #[.agg #[.string nm, .int .i64 dl, .slice A n c], .agg #[.int .i64 s.id, .string s.dn, .int .i64 s.st, .int .i64 s.ph, .int .i64 s.sp, .int .i64 s.tr, .bool s.out, .int .i64 s.at_, .int .i64 s.sk], .int .i64 now] w fun e w' => e = .returned (.tuple #[.agg (emitA nm dl ss s now).1.arr, .agg (emitA nm dl ss s now).2.1.arr, .int .i64 (emitA nm dl ss s now).2.2]) ∧ Below w.heap.size w w' := by
  have HR := Lib.hid (fun W (hW : Below w.heap.size w W) => refusal_any nm dl A n c ss s W (hd.on hW) now)
  by_cases h0 : refE nm dl ss s now = 0
  · have hr := refE_zero h0
    have HM := Lib.hid (fun W (hW : Below w.heap.size w W) => may_any nm dl A n c ss s W (hd.on hW) now hr.1 ht)
    rw [h0] at HR
    cases hm : mayC dl ss s now with
    | false =>
      have hX : emitA nm dl ss s now = (s, cm0, 9) := by unfold emitA; rw [if_neg (by simpa using h0), if_pos hm]
      rw [hm] at HM
      rw [hX]
      clear hX hr hd ht hid h0 hm
      go_enter Tryz.func78, Tryz.ntmps78
      go_wp2_with (first
        | (go_at_call 103; (with_reducible refine (HR.out _ (b4' w _ _ _ _)).mono ?_); rintro e w1 ⟨rfl, hm⟩; have H1 := Lib.hid (ee4 (s := s) rfl rfl hm); clear hm; obtain ⟨d0, d1, d2⟩ := H1.out.e.cd; obtain ⟨c0, c1, c2, c3, c4, c5, c6, c7, c8⟩ := H1.out.e.cs)
        | (go_at_call 104; (with_reducible refine (HM.out _ H1.out.e.b).mono ?_); rintro e w2 ⟨rfl, hm⟩; have H2 := Lib.hid (H1.out.on hm); clear hm; obtain ⟨d0, d1, d2⟩ := H2.out.e.cd; obtain ⟨c0, c1, c2, c3, c4, c5, c6, c7, c8⟩ := H2.out.e.cs)
        | (obtain ⟨cs, hcs, hsz⟩ := H2.out.q; refine wpList_store_row rfl 49 _ _ rfl (w.heap.size + 2) 49 cs (s).arr rfl rfl hcs (sizeG _) hsz (oneG _) ?_)
        | (obtain ⟨ds, hds, hdsz⟩ := H2.out.k' s.arr; refine wpList_store_row rfl 37 _ _ rfl (w.heap.size + 3) 37 ds (cm0).arr rfl rfl hds (sizeC _) hdsz (oneC _) ?_))
      exact bodyPost_ret (res_sg_cm_tmp rfl _ _ (w.heap.size + 2) (w.heap.size + 3) s cm0 rfl rfl (H2.out.rows s cm0).1 (H2.out.rows s cm0).2.1) rfl ⟨rfl, (H2.out.rows s cm0).2.2⟩
    | true =>
      have hX : emitA nm dl ss s now = (emitS ss s now, emitC ss s, 0) := by unfold emitA; rw [if_neg (by simpa using h0), if_neg (by rw [hm]; simp)]
      have hk : Hid (∀ W, Below w.heap.size w W → Calls Tryz.prog 106 #[.int .i64 s.id, .agg #[.string nm, .int .i64 dl, .slice A n c], .int .i64 s.sp, .bool (s.ph == 1)] W fun e w' => e = .returned (.string (keyS s ss)) ∧ Below W.heap.size W w') := Lib.hid fun W hW => by
        have e : (s.ph == 1) = decide (s.ph = 1) := by
          rw [Bool.eq_iff_iff]
          simp
        rw [e]
        exact key_any s.id nm dl A c ss n s.sp (decide (s.ph = 1)) W hd.en (fun x hx => (hd.names x hx).1) (hd.mem.on hW) (hd.on hW).tab hid
      have hx := good_step hr.1
      have htr := good_tr hr.1 hr.2.2
      have hsp := hr.1.fld.sp
      have hN := hd.en
      have hE : emitS ss s now = ⟨s.id, s.dn, s.st, s.ph, s.sp, s.tr + 1, true, addT now (stp ss s.sp).tm, s.sk⟩ := rfl
      have eph : (s.ph == 1) = decide (s.ph = 1) := by
        rw [Bool.eq_iff_iff]
        simp
      have hC : emitC ss s = ⟨s.id, s.sp, s.ph == 1, s.tr + 1, (stp ss s.sp).pt, keyS s ss⟩ := by
        unfold emitC
        rw [eph]
      rw [hm] at HM
      rw [hX, hE, hC]
      have HA := Lib.hid (Bo.tadd_any now (stp ss s.sp).tm)
      generalize keyS s ss = Ky at *
      generalize stp ss s.sp = x at *
      generalize addT now x.tm = nx at *
      have hmem := hd.mem
      obtain ⟨k, hkk⟩ : ∃ k : Nat, s.sp = (k : Int) := ⟨s.sp.toNat, by omega⟩
      rw [hkk, Int.toNat_natCast] at hx
      obtain ⟨b, o, rfl, hbl⟩ := hmem.at_ hx
      have HS := Lib.hid (fun W (hW : Below w.heap.size w W) => hmem.on hW)
      have hkn : k < n := by omega
      have HX := Lib.hid hx
      have HKK := Lib.hid hkk
      have htr1 : s.tr + 1 ≤ 1002 := by omega
      have htr0 : 0 ≤ s.tr := by omega
      clear eph hX hr hd ht hid h0 hm hE hC hx hmem hsp htr hN hkk
      go_enter Tryz.func78, Tryz.ntmps78
      go_wp2_with (first
        | (go_at_call 103; (with_reducible refine (HR.out _ (b4' w _ _ _ _)).mono ?_); rintro e w1 ⟨rfl, hm⟩; have H1 := Lib.hid (ee4 (s := s) rfl rfl hm); clear hm; obtain ⟨d0, d1, d2⟩ := H1.out.e.cd; obtain ⟨c0, c1, c2, c3, c4, c5, c6, c7, c8⟩ := H1.out.e.cs)
        | (go_at_call 104; (with_reducible refine (HM.out _ H1.out.e.b).mono ?_); rintro e w2 ⟨rfl, hm⟩; have H2 := Lib.hid (H1.out.on hm); clear hm; obtain ⟨d0, d1, d2⟩ := H2.out.e.cd; obtain ⟨c0, c1, c2, c3, c4, c5, c6, c7, c8⟩ := H2.out.e.cs; rw [HKK.out] at c4; have HSr := HS.out _ H2.out.e.b; have s0 : w2.cell? ⟨b, o + k * 12, none⟩ = some (.string x.nm) := HSr.get HX.out 0 rfl; have s1 : w2.cell? ⟨b, o + k * 12 + 1, none⟩ = some (.string x.pt) := HSr.get HX.out 1 rfl; have s2 : w2.cell? ⟨b, o + k * 12 + 2, none⟩ = some (.int .i64 x.tm) := HSr.get HX.out 2 rfl; have s3 : w2.cell? ⟨b, o + k * 12 + 3, none⟩ = some (.int .i64 x.t.r) := HSr.get HX.out 3 rfl; have s4 : w2.cell? ⟨b, o + k * 12 + 4, none⟩ = some (.int .i64 x.t.b) := HSr.get HX.out 4 rfl; have s5 : w2.cell? ⟨b, o + k * 12 + 5, none⟩ = some (.int .i64 x.t.f) := HSr.get HX.out 5 rfl; have s6 : w2.cell? ⟨b, o + k * 12 + 6, none⟩ = some (.int .i64 x.t.c) := HSr.get HX.out 6 rfl; have s7 : w2.cell? ⟨b, o + k * 12 + 7, none⟩ = some (.int .i64 x.u.r) := HSr.get HX.out 7 rfl; have s8 : w2.cell? ⟨b, o + k * 12 + 8, none⟩ = some (.int .i64 x.u.b) := HSr.get HX.out 8 rfl; have s9 : w2.cell? ⟨b, o + k * 12 + 9, none⟩ = some (.int .i64 x.u.f) := HSr.get HX.out 9 rfl; have s10 : w2.cell? ⟨b, o + k * 12 + 10, none⟩ = some (.int .i64 x.u.c) := HSr.get HX.out 10 rfl; have s11 : w2.cell? ⟨b, o + k * 12 + 11, none⟩ = some (.int .i64 x.pr) := HSr.get HX.out 11 rfl; clear HSr))
      have d0a := fun o => cell_al d0 o
      have d1a := fun o => cell_al d1 o
      have d2a := fun o => cell_al d2 o
      have c0a := fun o => cell_al c0 o
      have c1a := fun o => cell_al c1 o
      have c2a := fun o => cell_al c2 o
      have c3a := fun o => cell_al c3 o
      have c4a := fun o => cell_al c4 o
      have c5a := fun o => cell_al c5 o
      have c6a := fun o => cell_al c6 o
      have c7a := fun o => cell_al c7 o
      have c8a := fun o => cell_al c8 o
      have s0a := fun o => cell_al s0 o
      have s1a := fun o => cell_al s1 o
      have s2a := fun o => cell_al s2 o
      have s3a := fun o => cell_al s3 o
      have s4a := fun o => cell_al s4 o
      have s5a := fun o => cell_al s5 o
      have s6a := fun o => cell_al s6 o
      have s7a := fun o => cell_al s7 o
      have s8a := fun o => cell_al s8 o
      have s9a := fun o => cell_al s9 o
      have s10a := fun o => cell_al s10 o
      have s11a := fun o => cell_al s11 o
      go_region
      have H3 : Hid (Ee w (w2.alloc (.cells x.arr 54)).drew nm dl (some ⟨b, o, none⟩) n c s ∧ Box (w2.alloc (.cells x.arr 54)).drew w2.heap.size 54 x.arr) := Lib.hid ⟨H2.out.on (Below.drew ((Below.refl _ _).alloc (Nat.le_refl _) _)), Box.new w2 _ _⟩
      have hg2 : w.heap.size + 4 ≤ w2.heap.size := by
        have := H2.out.k.lt
        omega
      unfold Stp.arr at H3
      clear d0a d1a d2a c0a c1a c2a c3a c4a c5a c6a c7a c8a s0a s1a s2a s3a s4a s5a s6a s7a s8a s9a s10a s11a s0 s1 s2 s3 s4 s5 s6 s7 s8 s9 s10 s11 d0 d1 d2 c0 c1 c2 c3 c4 c5 c6 c7 c8
      generalize w2.heap.size = g3 at *
      generalize (w2.alloc _).drew = W3 at *
      have s1 : W3.cell? ⟨g3, 1, none⟩ = some (.string x.pt) := H3.out.2.cell 1
      have s2 : W3.cell? ⟨g3, 2, none⟩ = some (.int .i64 x.tm) := H3.out.2.cell 2
      obtain ⟨c0, c1, c2, c3, c4, c5, c6, c7, c8⟩ := H3.out.1.e.cs
      have f5 := H3.out.1.e.s.frozen 5
      have f6 := H3.out.1.e.s.frozen 6
      have f7 := H3.out.1.e.s.frozen 7
      go_wp2
      have hwr : IntKind.i64.wrap (s.tr + 1) = s.tr + 1 := by
        rw [IntKind.wrap_i64]
        omega
      go_region_with (go_at_call 105; (with_reducible refine (HA.out _).mono ?_); rintro e u ⟨rfl, rfl⟩)
      all_goals
        (try rw [hwr])
        have H4 : Hid (Ee w (((W3.setCell ⟨w.heap.size + 1, 5, none⟩ (.int .i64 (s.tr + 1))).setCell ⟨w.heap.size + 1, 6, none⟩ (.bool true)).setCell ⟨w.heap.size + 1, 7, none⟩ (.int .i64 nx)).drew nm dl (some ⟨b, o, none⟩) n c ⟨s.id, s.dn, s.st, s.ph, s.sp, s.tr + 1, true, nx, s.sk⟩ ∧
            Box (((W3.setCell ⟨w.heap.size + 1, 5, none⟩ (.int .i64 (s.tr + 1))).setCell ⟨w.heap.size + 1, 6, none⟩ (.bool true)).setCell ⟨w.heap.size + 1, 7, none⟩ (.int .i64 nx)).drew g3 54 x.arr) := Lib.hid
          ⟨(H3.out.1.sent (s.tr + 1) nx).on (Below.drew (Below.refl _ _)), ((Box.far (Box.far (Box.far H3.out.2 (p := ⟨w.heap.size + 1, 5, none⟩) (by show g3 ≠ w.heap.size + 1; omega) (.int .i64 (s.tr + 1))) (p := ⟨w.heap.size + 1, 6, none⟩) (by show g3 ≠ w.heap.size + 1; omega) (.bool true)) (p := ⟨w.heap.size + 1, 7, none⟩) (by show g3 ≠ w.heap.size + 1; omega) (.int .i64 nx)).drewN 1)⟩
        clear s1 s2 c0 c1 c2 c3 c4 c5 c6 c7 c8 f5 f6 f7
        generalize (((W3.setCell ⟨w.heap.size + 1, 5, none⟩ (.int .i64 (s.tr + 1))).setCell ⟨w.heap.size + 1, 6, none⟩ (.bool true)).setCell ⟨w.heap.size + 1, 7, none⟩ (.int .i64 nx)).drew = W4 at *
        obtain ⟨d0, d1, d2⟩ := H4.out.1.e.cd
        obtain ⟨c0, c1, c2, c3, c4, c5, c6, c7, c8⟩ := H4.out.1.e.cs
        dsimp only at c0 c1 c2 c3 c4 c5 c6 c7 c8
        go_wp2_with (first
          | (go_at_call 106; (with_reducible refine (hk.out _ H4.out.1.e.b).mono ?_); rintro e W5 ⟨rfl, hm⟩; have H5 := Lib.hid (And.intro (H4.out.1.on hm) (H4.out.2.below hm H4.out.2.lt)); clear hm; obtain ⟨d0, d1, d2⟩ := H5.out.1.e.cd; obtain ⟨c0, c1, c2, c3, c4, c5, c6, c7, c8⟩ := H5.out.1.e.cs; dsimp only at c0 c1 c2 c3 c4 c5 c6 c7 c8; have s1 : W5.cell? ⟨g3, 1, none⟩ = some (.string x.pt) := H5.out.2.cell 1))
        have H6 := Lib.hid (H5.out.1.on (Below.drew (Below.refl W5.heap.size W5)))
        have HS6 : (fun u => Ee w u nm dl (some ⟨b, o, none⟩) n c ⟨s.id, s.dn, s.st, s.ph, s.sp, s.tr + 1, true, nx, s.sk⟩ ∧ Box u g3 54 x.arr) W5.drew := ⟨H6.out, H5.out.2.drewN 1⟩
        have r0 : ∀ u, (fun u => Ee w u nm dl (some ⟨b, o, none⟩) n c ⟨s.id, s.dn, s.st, s.ph, s.sp, s.tr + 1, true, nx, s.sk⟩ ∧ Box u g3 54 x.arr) u → u.cell? ⟨w.heap.size + 1, 0, none⟩ = some (.int .i64 s.id) := fun u H => H.1.e.s.cell 0
        have r1 : ∀ u, (fun u => Ee w u nm dl (some ⟨b, o, none⟩) n c ⟨s.id, s.dn, s.st, s.ph, s.sp, s.tr + 1, true, nx, s.sk⟩ ∧ Box u g3 54 x.arr) u → u.cell? ⟨w.heap.size + 1, 1, none⟩ = some (.string s.dn) := fun u H => H.1.e.s.cell 1
        have r2 : ∀ u, (fun u => Ee w u nm dl (some ⟨b, o, none⟩) n c ⟨s.id, s.dn, s.st, s.ph, s.sp, s.tr + 1, true, nx, s.sk⟩ ∧ Box u g3 54 x.arr) u → u.cell? ⟨w.heap.size + 1, 2, none⟩ = some (.int .i64 s.st) := fun u H => H.1.e.s.cell 2
        have r3 : ∀ u, (fun u => Ee w u nm dl (some ⟨b, o, none⟩) n c ⟨s.id, s.dn, s.st, s.ph, s.sp, s.tr + 1, true, nx, s.sk⟩ ∧ Box u g3 54 x.arr) u → u.cell? ⟨w.heap.size + 1, 3, none⟩ = some (.int .i64 s.ph) := fun u H => H.1.e.s.cell 3
        have r4 : ∀ u, (fun u => Ee w u nm dl (some ⟨b, o, none⟩) n c ⟨s.id, s.dn, s.st, s.ph, s.sp, s.tr + 1, true, nx, s.sk⟩ ∧ Box u g3 54 x.arr) u → u.cell? ⟨w.heap.size + 1, 4, none⟩ = some (.int .i64 s.sp) := fun u H => H.1.e.s.cell 4
        have r5 : ∀ u, (fun u => Ee w u nm dl (some ⟨b, o, none⟩) n c ⟨s.id, s.dn, s.st, s.ph, s.sp, s.tr + 1, true, nx, s.sk⟩ ∧ Box u g3 54 x.arr) u → u.cell? ⟨w.heap.size + 1, 5, none⟩ = some (.int .i64 (s.tr + 1)) := fun u H => H.1.e.s.cell 5
        have r6 : ∀ u, (fun u => Ee w u nm dl (some ⟨b, o, none⟩) n c ⟨s.id, s.dn, s.st, s.ph, s.sp, s.tr + 1, true, nx, s.sk⟩ ∧ Box u g3 54 x.arr) u → u.cell? ⟨w.heap.size + 1, 6, none⟩ = some (.bool true) := fun u H => H.1.e.s.cell 6
        have r7 : ∀ u, (fun u => Ee w u nm dl (some ⟨b, o, none⟩) n c ⟨s.id, s.dn, s.st, s.ph, s.sp, s.tr + 1, true, nx, s.sk⟩ ∧ Box u g3 54 x.arr) u → u.cell? ⟨w.heap.size + 1, 7, none⟩ = some (.int .i64 nx) := fun u H => H.1.e.s.cell 7
        have r8 : ∀ u, (fun u => Ee w u nm dl (some ⟨b, o, none⟩) n c ⟨s.id, s.dn, s.st, s.ph, s.sp, s.tr + 1, true, nx, s.sk⟩ ∧ Box u g3 54 x.arr) u → u.cell? ⟨w.heap.size + 1, 8, none⟩ = some (.int .i64 s.sk) := fun u H => H.1.e.s.cell 8
        have rp : ∀ u, (fun u => Ee w u nm dl (some ⟨b, o, none⟩) n c ⟨s.id, s.dn, s.st, s.ph, s.sp, s.tr + 1, true, nx, s.sk⟩ ∧ Box u g3 54 x.arr) u → u.cell? ⟨g3, 1, none⟩ = some (.string x.pt) := fun u H => H.2.cell 1
        clear s1 d0 d1 d2 c0 c1 c2 c3 c4 c5 c6 c7 c8
        have hst : ∀ u, (fun u => Ee w u nm dl (some ⟨b, o, none⟩) n c ⟨s.id, s.dn, s.st, s.ph, s.sp, s.tr + 1, true, nx, s.sk⟩ ∧ Box u g3 54 x.arr) u → (fun u => Ee w u nm dl (some ⟨b, o, none⟩) n c ⟨s.id, s.dn, s.st, s.ph, s.sp, s.tr + 1, true, nx, s.sk⟩ ∧ Box u g3 54 x.arr) (u.setRow (w.heap.size + 2) (Sg.mk s.id s.dn s.st s.ph s.sp (s.tr + 1) true nx s.sk).arr) := fun u H => ⟨H.1.set2 _, box_far H.2 (by omega) _⟩
        have hst2 : ∀ u, (fun u => Ee w u nm dl (some ⟨b, o, none⟩) n c ⟨s.id, s.dn, s.st, s.ph, s.sp, s.tr + 1, true, nx, s.sk⟩ ∧ Box u g3 54 x.arr) u → (fun u => Ee w u nm dl (some ⟨b, o, none⟩) n c ⟨s.id, s.dn, s.st, s.ph, s.sp, s.tr + 1, true, nx, s.sk⟩ ∧ Box u g3 54 x.arr) (u.setRow (w.heap.size + 3) (Cm.mk s.id s.sp (s.ph == 1) (s.tr + 1) x.pt Ky).arr) := fun u H => ⟨H.1.set3 _, box_far H.2 (by omega) _⟩
        have HST := Lib.hid hst
        have HST2 := Lib.hid hst2
        clear hst hst2
        refine wp_region_held_drew (S := fun u => Ee w u nm dl (some ⟨b, o, none⟩) n c ⟨s.id, s.dn, s.st, s.ph, s.sp, s.tr + 1, true, nx, s.sk⟩ ∧ Box u g3 54 x.arr) (by kernel_rfl) HS6 (fun hHeld => ?_)
        refine Un.tk 0 55 rfl ?_
        refine Un.tk 1 56 rfl ?_
        refine Un.tk 2 57 rfl ?_
        refine Un.tk 3 58 rfl ?_
        refine Un.tk 4 59 rfl ?_
        refine Un.tk 5 60 rfl ?_
        refine Un.tk 6 61 rfl ?_
        refine Un.tk 7 62 rfl ?_
        refine Un.tk 8 63 rfl ?_
        refine Un.tk 9 64 rfl ?_
        refine Un.tk 10 65 rfl ?_
        refine Un.tk 11 66 rfl ?_
        obtain ⟨cs, hcs, hsz⟩ := HS6.1.q
        refine Sa.st1 12 49 _ _ rfl (w.heap.size + 2) 49 cs (Sg.mk s.id s.dn s.st s.ph s.sp (s.tr + 1) true nx s.sk).arr rfl rfl hcs (sizeG _) hsz (oneG _) (HST.out _ HS6) (fun hHeld => ?_)
        clear hcs hsz
        obtain ⟨cs, hcs, hsz⟩ := (HST.out _ HS6).1.k
        refine Sa.st1 13 37 _ _ rfl (w.heap.size + 3) 37 cs (Cm.mk s.id s.sp (s.ph == 1) (s.tr + 1) x.pt Ky).arr rfl rfl hcs (sizeC _) hsz (oneC _) (HST2.out _ (HST.out _ HS6)) (fun hHeld => ?_)
        clear hcs hsz
        refine Un.tk 14 8 rfl ?_
        refine wpAnyH_done (by kernel_rfl) ?_ _
        go_wp2
        have HE6 := Lib.hid (H6.out.rows ⟨s.id, s.dn, s.st, s.ph, s.sp, s.tr + 1, true, nx, s.sk⟩ ⟨s.id, s.sp, s.ph == 1, s.tr + 1, x.pt, Ky⟩)
        exact bodyPost_ret (res_sg_cm_tmp rfl _ _ (w.heap.size + 2) (w.heap.size + 3) _ _ rfl rfl HE6.out.1 HE6.out.2.1) rfl ⟨rfl, HE6.out.2.2⟩
  · have g0 : (refE nm dl ss s now != 0) = true := by simpa using h0
    have hX : emitA nm dl ss s now = (s, cm0, refE nm dl ss s now) := by unfold emitA; rw [if_pos h0]
    rw [hX]
    generalize refE nm dl ss s now = r at *
    clear hX hd ht hid h0
    go_enter Tryz.func78, Tryz.ntmps78
    go_wp2_with (first
      | (go_at_call 103; (with_reducible refine (HR.out _ (b4' w _ _ _ _)).mono ?_); rintro e w1 ⟨rfl, hm⟩; have H1 := Lib.hid (ee4 (s := s) rfl rfl hm); clear hm; obtain ⟨d0, d1, d2⟩ := H1.out.e.cd; obtain ⟨c0, c1, c2, c3, c4, c5, c6, c7, c8⟩ := H1.out.e.cs)
      | (obtain ⟨cs, hcs, hsz⟩ := H1.out.q; refine wpList_store_row rfl 49 _ _ rfl (w.heap.size + 2) 49 cs (s).arr rfl rfl hcs (sizeG _) hsz (oneG _) ?_)
      | (obtain ⟨ds, hds, hdsz⟩ := H1.out.k' s.arr; refine wpList_store_row rfl 37 _ _ rfl (w.heap.size + 3) 37 ds (cm0).arr rfl rfl hds (sizeC _) hdsz (oneC _) ?_))
    exact bodyPost_ret (res_sg_cm_tmp rfl _ _ (w.heap.size + 2) (w.heap.size + 3) s cm0 rfl rfl (H1.out.rows s cm0).1 (H1.out.rows s cm0).2.1) rfl ⟨rfl, (H1.out.rows s cm0).2.2⟩
end
end Go.Proofs.YteejocnogpaifaaGreatDoor.Sa
