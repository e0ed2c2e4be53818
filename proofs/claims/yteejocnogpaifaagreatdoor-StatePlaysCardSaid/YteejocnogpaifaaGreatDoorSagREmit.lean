/-
  What the document's own Emit of a saga answers.
  Conditions: the definition's steps lie in memory, its names are of moderate length; the saga is good.
-/
import Derived.Test.YteejocnogpaifaaGreatDoorMrg1
import Derived.Test.YteejocnogpaifaaGreatDoorSagEmit
import Derived.Test.YteejocnogpaifaaGreatDoorSagFail
import Derived.Test.YteejocnogpaifaaGreatDoorMrg2
namespace Go.Proofs.YteejocnogpaifaaGreatDoor.Sa
open Go.RowKit Go.Sort
open Go.Proofs.YteejocnogpaifaaGreatDoor.El
open Go.Proofs.YteejocnogpaifaaGreatDoor.Bo (P Made ret_int ret_bool left wait)
open Go.Proofs.YteejocnogpaifaaGreatDoor.Df

theorem results_cc {fn : Func} {p q : Tmp} {ty ty' : TypeId} (h : fn.results = #[.cell p ty, .cell q ty']) (tmps : Array Value) (P : Program) (w : World) :
    (results fn tmps).run P w =
      ((asAddr (tmps.getD p undef)).run P w).andThen fun a w₁ => ((loadVar ty a).run P w₁).andThen fun v w₂ => ((asAddr (tmps.getD q undef)).run P w₂).andThen fun b w₃ => ((loadVar ty' b).run P w₃).andThen fun x w₄ => .ok (.tuple #[v, x]) w₄ := by
  simp only [results, h]
  simp [Sem.run_bind, Result.andThen]
  repeat' (split; · rfl)
  all_goals rfl
theorem res_sg_cm {fn : Func} {p q : Tmp} (h : fn.results = #[.cell p 49, .cell q 37]) (tmps : Array Value) (w : World) (g g' : Nat) (s : Sg) (c : Cm)
    (hp : tmps.getD p undef = .pointer (some ⟨g, 0, none⟩)) (hq : tmps.getD q undef = .pointer (some ⟨g', 0, none⟩)) (hg : Box w g 49 s.arr) (hg' : Box w g' 37 c.arr) :
    (results fn tmps).run Tryz.prog w = .ok (.tuple #[.agg s.arr, .agg c.arr]) w := by
  rw [results_cc h, hp, hq]
  simp only [asAddr, Sem.run_pure, Result.andThen_ok, run_loadVar_row w g _ 49 _ _ _ hg Tryz.underlying49 rfl (sizeG s), run_loadVar_row w g' _ 37 _ _ _ hg' Tryz.underlying37 rfl (sizeC c)]
/-- a saga as it is sent -/
def sentS (s : Sg) (x : Int) : Sg := ⟨s.id, s.dn, s.st, s.ph, s.sp, s.tr + 1, true, x, s.sk⟩
/-- its command, but for the key -/
def sentC (s : Sg) (pt ky : ByteArray) : Cm := ⟨s.id, s.sp, s.ph == 1, s.tr + 1, pt, ky⟩
section
variable {w u : World} {nm : ByteArray} {dl : Int} {A : Option Addr} {n c : Nat} {s : Sg}
theorem ee_is {X : Sg} {W : World} (h : (fun u => Ee w u nm dl A n c X) W) : Ee w W nm dl A n c X := h
theorem slot_made {X : Sg} {W : World} {cs : Array Value} {t : TypeId} {q : Nat} (_h : (fun u => Ee w u nm dl A n c X) (W.alloc (.cells cs t))) (hs : cs.size = q) : Slot (W.alloc (.cells cs t)) W.heap.size t q := Box.slot (Box.new W t cs) hs
theorem Ee.rowfar (h : Ee w u nm dl A n c s) {g : Nat} (hg : w.heap.size + 4 ≤ g) (cs : Array Value) : Ee w (u.setRow g cs) nm dl A n c s :=
  ⟨h.e.far (by omega) _, slot_rowfar h.q (by omega) _, slot_rowfar h.k (by omega) _⟩
theorem Ee.cellfar (h : Ee w u nm dl A n c s) {g i : Nat} (hg : w.heap.size + 4 ≤ g) (v : Value) : Ee w (u.setCell ⟨g, i, none⟩ v) nm dl A n c s :=
  ⟨⟨h.e.d.far (by show w.heap.size ≠ g; omega) _, h.e.s.far (by show w.heap.size + 1 ≠ g; omega) _, h.e.b.trans ⟨rfl, rfl, rfl, by simp [World.setCell], fun k hk => Below.heap_setCell u ⟨g, i, none⟩ _ k (by show k ≠ g; omega)⟩⟩, slot_far h.q (by show w.heap.size + 2 ≠ g; omega) _, slot_far h.k (by show w.heap.size + 3 ≠ g; omega) _⟩
end
section
variable (nm : ByteArray) (dl : Int) (A : Option Addr) (n c : Nat) (ss : List Stp) (s : Sg) (w : World) (hd : Dn w nm A n c ss) (now : Int) (hg : GoodS nm dl ss s) (ht : s.tr ≤ 1001) (hid : s.id ≤ 9223372036854775807)
include hd hg ht hid
set_option maxRecDepth 100000 in
set_option maxHeartbeats 8000000 in
theorem remit_any : Calls Tryz.prog 25 #[.agg #[.string nm, .int .i64 dl, .slice A n c], .agg #[.int .i64 s.id, .string s.dn, .int .i64 s.st, .int .i64 s.ph, .int .i64 s.sp, .int .i64 s.tr, .bool s.out, .int .i64 s.at_, .int .i64 s.sk], .int .i64 now] w fun e w' => e = .returned (.tuple #[.agg (emitS ss s now).arr, .agg (emitC ss s).arr]) ∧ Below w.heap.size w w' := by
  have hk : Hid (∀ W, Below w.heap.size w W → Calls Tryz.prog 57 #[.int .i64 s.id, .agg #[.string nm, .int .i64 dl, .slice A n c], .int .i64 s.sp, .bool (s.ph == 1)] W fun e w' => e = .returned (.string (keyS s ss)) ∧ Below W.heap.size W w') := Lib.hid fun W hW =>
    rkey_any s.id nm dl A c ss n s.sp (s.ph == 1) W hd.en (fun x hx => (hd.names x hx).1) (hd.mem.on hW) hid
  have hx := good_step hg
  have hsp := hg.fld.sp
  have htr0 := hg.fld.tr
  have hN := hd.en
  have hE : emitS ss s now = sentS s (addT now (stp ss s.sp).tm) := rfl
  have hC : emitC ss s = sentC s (stp ss s.sp).pt (keyS s ss) := rfl
  rw [hE, hC]
  have HA := Lib.hid (radd_any now (stp ss s.sp).tm)
  generalize keyS s ss = Ky at *
  generalize stp ss s.sp = x at *
  generalize addT now x.tm = nx at *
  have hmem := hd.mem
  obtain ⟨k, hkk⟩ : ∃ k : Nat, s.sp = (k : Int) := ⟨s.sp.toNat, by omega⟩
  rw [hkk, Int.toNat_natCast] at hx
  obtain ⟨b, o, rfl, hbl⟩ := hmem.at_ hx
  have HS := Lib.hid (fun W (hW : Below w.heap.size w W) => hmem.on hW)
  have hkn : k < n := by omega
  have HX := Lib.hid hx
  have HKK := Lib.hid hkk
  have hwr : IntKind.i64.wrap (s.tr + 1) = s.tr + 1 := by rw [IntKind.wrap_i64]; omega
  have hb1 : b ≠ w.heap.size + 1 := by omega
  clear hE hC hd hg hid hx hmem hsp hN hkk
  go_enter Tryz.func25, Tryz.ntmps25
  go_upto_region 1 with (fail)
  have H0 := Lib.hid (ee4 (w := w) (nm := nm) (dl := dl) (A := some ⟨b, o, none⟩) (n := n) (c := c) (s := s) (cs := #[.int .i64 0, .string ⟨#[]⟩, .int .i64 0, .int .i64 0, .int .i64 0, .int .i64 0, .bool false, .int .i64 0, .int .i64 0]) (cs' := #[.int .i64 0, .int .i64 0, .bool false, .int .i64 0, .string ⟨#[]⟩, .string ⟨#[]⟩]) rfl rfl (Below.refl _ _))
  generalize ((((w.alloc _).alloc _).alloc _).alloc _) = W0 at *
  obtain ⟨d0, d1, d2⟩ := H0.out.e.cd
  obtain ⟨c0, c1, c2, c3, c4, c5, c6, c7, c8⟩ := H0.out.e.cs
  rw [HKK.out] at c4
  have f5 := H0.out.e.s.frozen 5
  have f6 := H0.out.e.s.frozen 6
  have f7 := H0.out.e.s.frozen 7
  have hls := H0.out.e.s.lt
  have s2 : W0.cell? ⟨b, o + k * 12 + 2, none⟩ = some (.int .i64 x.tm) := (HS.out _ H0.out.e.b).get HX.out 2 rfl
  have hbW : b < W0.heap.size := Nat.lt_of_lt_of_le hbl H0.out.e.b.size
  go_upto_region 4 with (go_at_call 56; (with_reducible refine (HA.out _).mono ?_); rintro e u ⟨rfl, rfl⟩)
  have H4 := Lib.hid (H0.out.sent (s.tr + 1) nx)
  clear d0 d1 d2 c0 c1 c2 c3 c4 c5 c6 c7 c8 f5 f6 f7 hls s2 hbW H0
  generalize (((W0.setCell _ _).setCell _ _).setCell _ _) = W4 at *
  have HS4 : (fun u => Ee w u nm dl (some ⟨b, o, none⟩) n c (sentS s nx)) W4.drew := H4.out.on (Below.drew (Below.refl _ _))
  have u0 : ∀ u, (fun u => Ee w u nm dl (some ⟨b, o, none⟩) n c (sentS s nx)) u → u.cell? ⟨w.heap.size, 0, none⟩ = some (.string nm) := fun u H => H.e.d.cell 0
  have u1 : ∀ u, (fun u => Ee w u nm dl (some ⟨b, o, none⟩) n c (sentS s nx)) u → u.cell? ⟨w.heap.size, 1, none⟩ = some (.int .i64 dl) := fun u H => H.e.d.cell 1
  have u2 : ∀ u, (fun u => Ee w u nm dl (some ⟨b, o, none⟩) n c (sentS s nx)) u → u.cell? ⟨w.heap.size, 2, none⟩ = some (.slice (some ⟨b, o, none⟩) n c) := fun u H => H.e.d.cell 2
  have s0 : ∀ u, (fun u => Ee w u nm dl (some ⟨b, o, none⟩) n c (sentS s nx)) u → u.cell? ⟨w.heap.size + 1, 0, none⟩ = some (.int .i64 s.id) := fun u H => H.e.s.cell 0
  have s1 : ∀ u, (fun u => Ee w u nm dl (some ⟨b, o, none⟩) n c (sentS s nx)) u → u.cell? ⟨w.heap.size + 1, 1, none⟩ = some (.string s.dn) := fun u H => H.e.s.cell 1
  have s2 : ∀ u, (fun u => Ee w u nm dl (some ⟨b, o, none⟩) n c (sentS s nx)) u → u.cell? ⟨w.heap.size + 1, 2, none⟩ = some (.int .i64 s.st) := fun u H => H.e.s.cell 2
  have s3 : ∀ u, (fun u => Ee w u nm dl (some ⟨b, o, none⟩) n c (sentS s nx)) u → u.cell? ⟨w.heap.size + 1, 3, none⟩ = some (.int .i64 s.ph) := fun u H => H.e.s.cell 3
  have s5 : ∀ u, (fun u => Ee w u nm dl (some ⟨b, o, none⟩) n c (sentS s nx)) u → u.cell? ⟨w.heap.size + 1, 5, none⟩ = some (.int .i64 (s.tr + 1)) := fun u H => H.e.s.cell 5
  have s6 : ∀ u, (fun u => Ee w u nm dl (some ⟨b, o, none⟩) n c (sentS s nx)) u → u.cell? ⟨w.heap.size + 1, 6, none⟩ = some (.bool true) := fun u H => H.e.s.cell 6
  have s7 : ∀ u, (fun u => Ee w u nm dl (some ⟨b, o, none⟩) n c (sentS s nx)) u → u.cell? ⟨w.heap.size + 1, 7, none⟩ = some (.int .i64 nx) := fun u H => H.e.s.cell 7
  have s8 : ∀ u, (fun u => Ee w u nm dl (some ⟨b, o, none⟩) n c (sentS s nx)) u → u.cell? ⟨w.heap.size + 1, 8, none⟩ = some (.int .i64 s.sk) := fun u H => H.e.s.cell 8
  have s4 : ∀ u, (fun u => Ee w u nm dl (some ⟨b, o, none⟩) n c (sentS s nx)) u → u.cell? ⟨w.heap.size + 1, 4, none⟩ = some (.int .i64 (k : Int)) := fun u H => (H.e.s.cell 4).trans (by show some (Value.int .i64 s.sp) = _; rw [HKK.out])
  have sp : ∀ u, (fun u => Ee w u nm dl (some ⟨b, o, none⟩) n c (sentS s nx)) u → u.cell? ⟨b, o + k * 12 + 1, none⟩ = some (.string x.pt) := fun u H => (HS.out _ H.e.b).get HX.out 1 rfl
  refine wp_region_held_drew (S := fun u => Ee w u nm dl (some ⟨b, o, none⟩) n c (sentS s nx)) (by kernel_rfl) (HS4) (fun hHeld => ?_)
  refine Un.tk 0 24 rfl ?_
  refine Un.tk 1 25 rfl ?_
  refine Un.tk 2 26 rfl ?_
  refine Un.tk 3 27 rfl ?_
  refine Un.tk 4 28 rfl ?_
  refine Un.tk 5 29 rfl ?_
  refine Un.tk 6 30 rfl ?_
  refine Un.tk 7 31 rfl ?_
  refine Un.tk 8 32 rfl ?_
  refine Un.tk 9 33 rfl ?_
  refine Un.tk 10 34 rfl ?_
  refine Un.tk 11 35 rfl ?_
  refine Un.tk 12 36 rfl ?_
  refine Un.tk 13 37 rfl ?_
  refine Un.tk 14 38 rfl ?_
  refine Un.tk 15 39 rfl ?_
  refine Un.tk 16 40 rfl ?_
  generalize W4.drew = W5 at *
  refine wpAnyH_ready (rs := [17]) (by decide +kernel) (by simp) ?_
  refine AllReadyH.cons (o := ⟨some 8, _, _, _, _, _⟩) rfl (fun K hK => ?_) AllReadyH.nil
  go_simp
  refine hK.out _ _ ?_ (fun hHeld => ?_)
  · exact HS4.on ((Below.refl _ _).alloc (Nat.le_refl _) _)
  clear hK K
  (try simp only [Act.put, List.setIfInBounds_toArray, List.set_cons_zero, List.set_cons_succ])
  have hq8 : Slot _ _ 37 6 := slot_made hHeld rfl
  have HE6 := Lib.hid (ee_is hHeld)
  have hg8 : w.heap.size + 4 ≤ W5.heap.size := by have := (ee_is HS4).k.lt; omega
  generalize W5.alloc _ = W6 at *
  generalize W5.heap.size = g8 at *
  refine wpAnyH_ready (rs := [18]) (by decide +kernel) (by simp) ?_
  refine AllReadyH.cons (o := ⟨none, _, _, _, _, _⟩) rfl (fun K hK => ?_) AllReadyH.nil
  rw [if_pos (by rfl)]
  have hrow := hq8.row (sentC s x.pt ⟨#[]⟩).arr
  obtain ⟨cs, hcs, hsz⟩ := hq8
  refine oper_store_row 37 _ _ rfl g8 37 cs (sentC s x.pt ⟨#[]⟩).arr rfl (by show _ = Value.agg (sentC s x.pt ⟨#[]⟩).arr; unfold sentC Cm.arr; rw [HKK.out]; rfl) hcs (sizeC _) hsz (oneC _) ?_
  refine hK.out _ _ ?_ (fun hHeld => ?_)
  · exact HE6.out.rowfar hg8 _
  clear hK K hcs hsz
  (try simp only [Act.put])
  refine wpAnyH_done (by kernel_rfl) ?_ _
  have H7 : Hid (Ee w (W6.setRow g8 (sentC s x.pt ⟨#[]⟩).arr) nm dl (some ⟨b, o, none⟩) n c (sentS s nx) ∧ Box (W6.setRow g8 (sentC s x.pt ⟨#[]⟩).arr) g8 37 (sentC s x.pt ⟨#[]⟩).arr) := Lib.hid ⟨HE6.out.rowfar hg8 _, hrow⟩
  clear hrow HS4 u0 u1 u2 s0 s1 s2 s3 s4 s5 s6 s7 s8 sp H4 HE6
  generalize W6.setRow g8 (sentC s x.pt ⟨#[]⟩).arr = W7 at *
  obtain ⟨d0, d1, d2⟩ := H7.out.1.e.cd
  obtain ⟨c0, c1, c2, c3, c4, c5, c6, c7, c8⟩ := H7.out.1.e.cs
  obtain ⟨k0, k1, k2, k3, k4, k5⟩ := cmcells H7.out.2
  unfold sentS at c0 c1 c2 c3 c4 c5 c6 c7 c8
  unfold sentC at k0 k1 k2 k3 k4 k5
  dsimp only at c0 c1 c2 c3 c4 c5 c6 c7 c8 k0 k1 k2 k3 k4 k5
  go_upto_region 6 with (go_at_call 57; (with_reducible refine (hk.out _ H7.out.1.e.b).mono ?_); rintro e W8 ⟨rfl, hm⟩; have H8 := Lib.hid (And.intro (H7.out.1.on hm) (H7.out.2.below hm H7.out.2.lt)); clear hm; have f85 := H8.out.2.frozen 5; have hl8 := H8.out.2.lt; have k5 : W8.cell? ⟨g8, 5, none⟩ = some (.string ⟨#[]⟩) := H8.out.2.cell 5)
  have H9 : Hid (Ee w (W8.setCell ⟨g8, 5, none⟩ (.string Ky)) nm dl (some ⟨b, o, none⟩) n c (sentS s nx) ∧ Box (W8.setCell ⟨g8, 5, none⟩ (.string Ky)) g8 37 (sentC s x.pt Ky).arr) := Lib.hid ⟨H8.out.1.cellfar hg8 _, H8.out.2.put 5 _⟩
  clear d0 d1 d2 c0 c1 c2 c3 c4 c5 c6 c7 c8 k0 k1 k2 k3 k4 k5 f85 hl8 H7 H8
  generalize W8.setCell _ _ = W9 at *
  have HS9 : (fun u => Ee w u nm dl (some ⟨b, o, none⟩) n c (sentS s nx) ∧ Box u g8 37 (sentC s x.pt Ky).arr) W9.drew := ⟨H9.out.1.on (Below.drew (Below.refl _ _)), H9.out.2.drewN 1⟩
  have s0 : ∀ u, (fun u => Ee w u nm dl (some ⟨b, o, none⟩) n c (sentS s nx) ∧ Box u g8 37 (sentC s x.pt Ky).arr) u → u.cell? ⟨w.heap.size + 1, 0, none⟩ = some (.int .i64 s.id) := fun u H => H.1.e.s.cell 0
  have s1 : ∀ u, (fun u => Ee w u nm dl (some ⟨b, o, none⟩) n c (sentS s nx) ∧ Box u g8 37 (sentC s x.pt Ky).arr) u → u.cell? ⟨w.heap.size + 1, 1, none⟩ = some (.string s.dn) := fun u H => H.1.e.s.cell 1
  have s2 : ∀ u, (fun u => Ee w u nm dl (some ⟨b, o, none⟩) n c (sentS s nx) ∧ Box u g8 37 (sentC s x.pt Ky).arr) u → u.cell? ⟨w.heap.size + 1, 2, none⟩ = some (.int .i64 s.st) := fun u H => H.1.e.s.cell 2
  have s3 : ∀ u, (fun u => Ee w u nm dl (some ⟨b, o, none⟩) n c (sentS s nx) ∧ Box u g8 37 (sentC s x.pt Ky).arr) u → u.cell? ⟨w.heap.size + 1, 3, none⟩ = some (.int .i64 s.ph) := fun u H => H.1.e.s.cell 3
  have s5 : ∀ u, (fun u => Ee w u nm dl (some ⟨b, o, none⟩) n c (sentS s nx) ∧ Box u g8 37 (sentC s x.pt Ky).arr) u → u.cell? ⟨w.heap.size + 1, 5, none⟩ = some (.int .i64 (s.tr + 1)) := fun u H => H.1.e.s.cell 5
  have s6 : ∀ u, (fun u => Ee w u nm dl (some ⟨b, o, none⟩) n c (sentS s nx) ∧ Box u g8 37 (sentC s x.pt Ky).arr) u → u.cell? ⟨w.heap.size + 1, 6, none⟩ = some (.bool true) := fun u H => H.1.e.s.cell 6
  have s7 : ∀ u, (fun u => Ee w u nm dl (some ⟨b, o, none⟩) n c (sentS s nx) ∧ Box u g8 37 (sentC s x.pt Ky).arr) u → u.cell? ⟨w.heap.size + 1, 7, none⟩ = some (.int .i64 nx) := fun u H => H.1.e.s.cell 7
  have s8 : ∀ u, (fun u => Ee w u nm dl (some ⟨b, o, none⟩) n c (sentS s nx) ∧ Box u g8 37 (sentC s x.pt Ky).arr) u → u.cell? ⟨w.heap.size + 1, 8, none⟩ = some (.int .i64 s.sk) := fun u H => H.1.e.s.cell 8
  have s4 : ∀ u, (fun u => Ee w u nm dl (some ⟨b, o, none⟩) n c (sentS s nx) ∧ Box u g8 37 (sentC s x.pt Ky).arr) u → u.cell? ⟨w.heap.size + 1, 4, none⟩ = some (.int .i64 s.sp) := fun u H => H.1.e.s.cell 4
  have k0 : ∀ u, (fun u => Ee w u nm dl (some ⟨b, o, none⟩) n c (sentS s nx) ∧ Box u g8 37 (sentC s x.pt Ky).arr) u → u.cell? ⟨g8, 0, none⟩ = some (.int .i64 s.id) := fun u H => H.2.cell 0
  have k1 : ∀ u, (fun u => Ee w u nm dl (some ⟨b, o, none⟩) n c (sentS s nx) ∧ Box u g8 37 (sentC s x.pt Ky).arr) u → u.cell? ⟨g8, 1, none⟩ = some (.int .i64 s.sp) := fun u H => H.2.cell 1
  have k2 : ∀ u, (fun u => Ee w u nm dl (some ⟨b, o, none⟩) n c (sentS s nx) ∧ Box u g8 37 (sentC s x.pt Ky).arr) u → u.cell? ⟨g8, 2, none⟩ = some (.bool (s.ph == 1)) := fun u H => H.2.cell 2
  have k3 : ∀ u, (fun u => Ee w u nm dl (some ⟨b, o, none⟩) n c (sentS s nx) ∧ Box u g8 37 (sentC s x.pt Ky).arr) u → u.cell? ⟨g8, 3, none⟩ = some (.int .i64 (s.tr + 1)) := fun u H => H.2.cell 3
  have k4 : ∀ u, (fun u => Ee w u nm dl (some ⟨b, o, none⟩) n c (sentS s nx) ∧ Box u g8 37 (sentC s x.pt Ky).arr) u → u.cell? ⟨g8, 4, none⟩ = some (.string x.pt) := fun u H => H.2.cell 4
  have k5 : ∀ u, (fun u => Ee w u nm dl (some ⟨b, o, none⟩) n c (sentS s nx) ∧ Box u g8 37 (sentC s x.pt Ky).arr) u → u.cell? ⟨g8, 5, none⟩ = some (.string Ky) := fun u H => H.2.cell 5
  refine wp_region_held_drew (S := fun u => Ee w u nm dl (some ⟨b, o, none⟩) n c (sentS s nx) ∧ Box u g8 37 (sentC s x.pt Ky).arr) (by kernel_rfl) (HS9) (fun hHeld => ?_)
  refine Un.tk 0 50 rfl ?_
  refine Un.tk 1 51 rfl ?_
  generalize W9.drew = V0 at *
  refine wpAnyH_ready (rs := [2]) (by decide +kernel) (by simp) ?_
  refine AllReadyH.cons (o := ⟨none, _, _, _, _, _⟩) rfl (fun K hK => ?_) AllReadyH.nil
  rw [if_pos (by rfl)]
  obtain ⟨cs, hcs, hsz⟩ := HS9.1.q
  refine oper_store_row 49 _ _ rfl (w.heap.size + 2) 49 cs (sentS s nx).arr rfl rfl hcs (sizeG _) hsz (oneG _) ?_
  have HSA : (fun u => Ee w u nm dl (some ⟨b, o, none⟩) n c (sentS s nx) ∧ Box u g8 37 (sentC s x.pt Ky).arr) (V0.setRow (w.heap.size + 2) (sentS s nx).arr) := ⟨HS9.1.set2 (sentS s nx), box_far HS9.2 (by omega) _⟩
  refine hK.out _ _ ?_ (fun hHeld => ?_)
  · exact HSA
  clear hK K hcs hsz
  (try simp only [Act.put])
  refine wpAnyH_ready (rs := [3]) (by decide +kernel) (by simp) ?_
  refine AllReadyH.cons (o := ⟨none, _, _, _, _, _⟩) rfl (fun K hK => ?_) AllReadyH.nil
  rw [if_pos (by rfl)]
  obtain ⟨cs, hcs, hsz⟩ := HSA.1.k
  refine oper_store_row 37 _ _ rfl (w.heap.size + 3) 37 cs (sentC s x.pt Ky).arr rfl rfl hcs (sizeC _) hsz (oneC _) ?_
  refine hK.out _ _ ?_ (fun hHeld => ?_)
  · exact ⟨HSA.1.set3 (sentC s x.pt Ky), box_far HSA.2 (by omega) _⟩
  clear hK K hcs hsz
  (try simp only [Act.put])
  refine wpAnyH_done (by kernel_rfl) ?_ _
  go_wp2
  exact bodyPost_ret (res_sg_cm rfl _ _ (w.heap.size + 2) (w.heap.size + 3) (sentS s nx) (sentC s x.pt Ky) rfl rfl (HS9.1.rows (sentS s nx) (sentC s x.pt Ky)).1 (HS9.1.rows (sentS s nx) (sentC s x.pt Ky)).2.1) rfl ⟨rfl, (HS9.1.rows (sentS s nx) (sentC s x.pt Ky)).2.2⟩
end
end Go.Proofs.YteejocnogpaifaaGreatDoor.Sa
