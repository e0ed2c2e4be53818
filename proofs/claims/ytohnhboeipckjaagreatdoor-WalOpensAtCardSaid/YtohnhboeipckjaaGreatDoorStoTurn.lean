/-
  What the store's Sync, Truncate and Remove do with a file that is there.
  Conditions: the store is one; names are at most 2^30 bytes.
-/
import Derived.Test.YtohnhboeipckjaaGreatDoorStoSync
namespace Go.Proofs.YtohnhboeipckjaaGreatDoor
open Go.RowKit Go.Maps

section
variable (g bm : Nat) (X : Nat → Prop) (rs : List RF) (cap fuse : Nat) (s : ByteArray) (r : RF) (w : World)
theorem len_of {g bm : Nat} {X : Nat → Prop} {rs : List RF} {cap fuse : Nat} {down : Bool} {r : RF} {w : World} (h : Raw w g X bm rs cap fuse down) (hr : r ∈ rs) : r.fl.bs.length ≤ 16777216 := by
  have h1 := used_take (s := ⟨rs.map RF.fl, cap, fuse, down⟩) (List.mem_map.2 ⟨r, hr, rfl⟩)
  have h2 := h.ok.used
  have h3 := h.ok.cap
  simp only at h1 h2 h3
  omega
theorem sync_gone (h : Raw w g X bm rs cap 1 false) (hs : s.size ≤ 1073741824) (hl : lookBy RF.nm s.data.toList rs = some r) :
    Calls Tryz.prog 45 #[.pointer (some ⟨g, 0, none⟩), .string s] w fun e w' => e = .returned (.int .i64 12) ∧ Raw w' g X bm rs cap 0 true ∧ Keep X w w' := by
  obtain ⟨A, c, hv, _⟩ := h.form (lookBy_some hl).1
  have H := Lib.hid (find_some g bm X rs cap 1 s r A _ c w h (by omega) hl hv)
  have HR := Lib.hid h
  clear hl hv h
  go_enter Tryz.func45, Tryz.ntmps45
  go_wp2_with (first
    | (go_at_call 41; (with_reducible refine H.out.mono ?_); rintro e w1 ⟨rfl, hb1⟩)
    | (go_at_call 38; (with_reducible refine (deed_gone g bm X rs cap false _ (HR.out.below (hb1.alloc hb1.size _))).mono ?_); rintro e w2 ⟨rfl, hR2, hg2⟩))
  go_ret
  have hxg := HR.out.xg
  exact ⟨rfl, hR2, (Keep.of_below (hb1.alloc hb1.size _)).trans (Keep.of_grown hg2 (fun i e => by injection e with e; exact e ▸ hxg))⟩
theorem trunc_gone (n : Int) (h : Raw w g X bm rs cap 1 false) (hs : s.size ≤ 1073741824) (hl : lookBy RF.nm s.data.toList rs = some r) (h0 : 0 ≤ n) (hn : n ≤ r.fl.bs.length) :
    Calls Tryz.prog 87 #[.pointer (some ⟨g, 0, none⟩), .string s, .int .i64 n] w fun e w' => e = .returned (.int .i64 12) ∧ Raw w' g X bm rs cap 0 true ∧ Keep X w w' := by
  obtain ⟨A, c, hv, _⟩ := h.form (lookBy_some hl).1
  have H := Lib.hid (find_some g bm X rs cap 1 s r A _ c w h (by omega) hl hv)
  have HR := Lib.hid h
  clear hl hv h
  go_enter Tryz.func87, Tryz.ntmps87
  go_wp2_with (first
    | (go_at_call 41; (with_reducible refine H.out.mono ?_); rintro e w1 ⟨rfl, hb1⟩)
    | (go_at_call 38; (with_reducible refine (deed_gone g bm X rs cap false _ (HR.out.below (hb1.alloc hb1.size _))).mono ?_); rintro e w2 ⟨rfl, hR2, hg2⟩))
  go_ret
  have hxg := HR.out.xg
  exact ⟨rfl, hR2, (Keep.of_below (hb1.alloc hb1.size _)).trans (Keep.of_grown hg2 (fun i e => by injection e with e; exact e ▸ hxg))⟩
theorem trunc_arg (n : Int) (h : Raw w g X bm rs cap fuse false) (hs : s.size ≤ 1073741824) (hl : lookBy RF.nm s.data.toList rs = some r) (h0 : n < 0 ∨ r.fl.bs.length < n) :
    Calls Tryz.prog 87 #[.pointer (some ⟨g, 0, none⟩), .string s, .int .i64 n] w fun e w' => e = .returned (.int .i64 1) ∧ Below w.heap.size w w' := by
  obtain ⟨A, c, hv, _⟩ := h.form (lookBy_some hl).1
  have H := Lib.hid (find_some g bm X rs cap fuse s r A _ c w h (by omega) hl hv)
  clear hl hv h
  by_cases h1 : n < 0
  · clear h0
    go_enter Tryz.func87, Tryz.ntmps87
    go_wp2_with (go_at_call 41; (with_reducible refine H.out.mono ?_); rintro e w1 ⟨rfl, hb1⟩)
    go_ret
    exact ⟨rfl, hb1.alloc hb1.size _⟩
  · have h2 : r.fl.bs.length < n := by omega
    clear h0
    go_enter Tryz.func87, Tryz.ntmps87
    go_wp2_with (go_at_call 41; (with_reducible refine H.out.mono ?_); rintro e w1 ⟨rfl, hb1⟩)
    go_ret
    exact ⟨rfl, hb1.alloc hb1.size _⟩
theorem remove_gone (h : Raw w g X bm rs cap 1 false) (hs : s.size ≤ 1073741824) (hl : lookBy RF.nm s.data.toList rs = some r) :
    Calls Tryz.prog 53 #[.pointer (some ⟨g, 0, none⟩), .string s] w fun e w' => e = .returned (.int .i64 12) ∧ Raw w' g X bm rs cap 0 true ∧ Keep X w w' := by
  obtain ⟨A, c, hv, _⟩ := h.form (lookBy_some hl).1
  have H := Lib.hid (find_some g bm X rs cap 1 s r A _ c w h (by omega) hl hv)
  have HR := Lib.hid h
  clear hl hv h
  go_enter Tryz.func53, Tryz.ntmps53
  go_wp2_with (first
    | (go_at_call 41; (with_reducible refine H.out.mono ?_); rintro e w1 ⟨rfl, hb1⟩)
    | (go_at_call 38; (with_reducible refine (deed_gone g bm X rs cap false _ (HR.out.below (hb1.alloc hb1.size _))).mono ?_); rintro e w2 ⟨rfl, hR2, hg2⟩))
  go_ret
  have hxg := HR.out.xg
  exact ⟨rfl, hR2, (Keep.of_below (hb1.alloc hb1.size _)).trans (Keep.of_grown hg2 (fun i e => by injection e with e; exact e ▸ hxg))⟩
theorem remove_on (h : Raw w g X bm rs cap fuse false) (hs : s.size ≤ 1073741824) (hl : lookBy RF.nm s.data.toList rs = some r) (hf : fuse ≠ 1) :
    Calls Tryz.prog 53 #[.pointer (some ⟨g, 0, none⟩), .string s] w fun e w' => e = .returned (.int .i64 0) ∧ Raw w' g X bm (delBy RF.nm s.data.toList rs) cap (fuse - 1) false ∧ Keep X w w' := by
  obtain ⟨A, c, hv, _⟩ := h.form (lookBy_some hl).1
  have H := Lib.hid (find_some g bm X rs cap fuse s r A _ c w h (by omega) hl hv)
  have HR := Lib.hid h
  clear hl hv h
  go_enter Tryz.func53, Tryz.ntmps53
  go_wp2_with (first
    | (go_at_call 41; (with_reducible refine H.out.mono ?_); rintro e w1 ⟨rfl, hb1⟩)
    | (go_at_call 38; (with_reducible refine (deed_on g bm X rs cap fuse false _ (HR.out.below (hb1.alloc hb1.size _)) hf).mono ?_); rintro e w2 ⟨rfl, hR2, hg2⟩; have c0 : w2.cell? ⟨g, 0, none⟩ = some (.map (some bm)) := hR2.box.cell 0)
    | (at_delete; refine wpList_mdel _ rfl _ _ rfl hR2 rfl s rfl (by unfold maxLen; omega) (St.Ok.del hR2.ok _) ?_; intro w3 hR3 hK3))
  go_ret
  have hxg := HR.out.xg
  exact ⟨rfl, hR3, ((Keep.of_below (hb1.alloc hb1.size _)).trans (Keep.of_grown hg2 (fun i e => by injection e with e; exact e ▸ hxg))).trans hK3⟩

set_option maxHeartbeats 2000000 in
set_option maxRecDepth 100000 in
theorem sync_on (h : Raw w g X bm rs cap fuse false) (hs : s.size ≤ 1073741824) (hl : lookBy RF.nm s.data.toList rs = some r) (hf : fuse ≠ 1) (hok : St.Ok ⟨putBy Fl.name { r.fl with safe := r.fl.bs.length, stays := true } (rs.map RF.fl), cap, fuse - 1, false⟩) :
    Calls Tryz.prog 45 #[.pointer (some ⟨g, 0, none⟩), .string s] w fun e w' => e = .returned (.int .i64 0) ∧ Raw w' g X bm (putBy RF.nm ⟨{ r.fl with safe := r.fl.bs.length, stays := true }, r.v⟩ rs) cap (fuse - 1) false ∧ Keep X w w' := by
  obtain ⟨hr, hrn⟩ := lookBy_some hl
  obtain ⟨A, c, hv, _⟩ := h.form hr
  have H := Lib.hid (find_some g bm X rs cap fuse s r A _ c w h (by omega) hl hv)
  have HR := Lib.hid h
  have hgl := h.box.lt
  have HO := Lib.hid hok
  have HV := Lib.hid hv
  have HN := Lib.hid hrn
  obtain ⟨n, hn⟩ : ∃ n, n = r.fl.bs.length := ⟨_, rfl⟩
  obtain ⟨sf, hsf⟩ : ∃ n, n = r.fl.safe := ⟨_, rfl⟩
  obtain ⟨sy, hsy⟩ : ∃ n, n = r.fl.stays := ⟨_, rfl⟩
  rw [← hn, ← hsf, ← hsy] at H
  have Hn := Lib.hid hn
  clear hl hv h hok hrn hn hsf hsy
  go_enter Tryz.func45, Tryz.ntmps45
  go_wp2_with (first
    | (go_at_call 41; (with_reducible refine H.out.mono ?_); rintro e w1 ⟨rfl, hb1⟩)
    | (go_at_call 38; (with_reducible refine (deed_on g bm X rs cap fuse false _ (HR.out.below (hb1.alloc hb1.size _)) hf).mono ?_); rintro e w2 ⟨rfl, hR2, hg2⟩; have c0 : w2.cell? ⟨g, 0, none⟩ = some (.map (some bm)) := hR2.box.cell 0))
  have hne : w1.heap.size ≠ g := by have := hb1.size; omega
  have hbx := (Box.new w1 72 #[.slice A n c, .int .i64 (sf : Int), .bool sy]).grown hg2 (fun e => hne (by injection e))
  have c1 : w2.cell? ⟨w1.heap.size, 0, none⟩ = some (.slice A n c) := hbx.cell 0
  have hRD := Lib.hid hR2.drew
  have HS := Lib.hid (sure_any A n c w2.drew)
  have hgl2 := hR2.box.lt
  have hfl2 := hbx.lt
  have hgm := hR2.gm
  have hml := hR2.mlt
  have hfm : w1.heap.size ≠ bm := fun e => by
    obtain ⟨es, ⟨e1, k1, h1, _⟩, _⟩ := hR2.map
    have := hbx
    unfold Box at this
    rw [e, h1] at this
    cases this
  go_region_held3 (fun w' => w'.cell? ⟨g, 0, none⟩ = some (.map (some bm)) ∧ w'.cell? ⟨w1.heap.size, 0, none⟩ = some (.slice A n c)) (first | exact ⟨c0, c1⟩ | assumption)
    (first
      | (go_at_call 61; (with_reducible refine HS.out.mono ?_); rintro e w3 ⟨rfl, hb3⟩; have hS3 : w3.cell? ⟨g, 0, none⟩ = some (.map (some bm)) ∧ w3.cell? ⟨w1.heap.size, 0, none⟩ = some (.slice A n c) := ⟨(hb3.cell hgl2).trans c0, (hb3.cell hfl2).trans c1⟩;
         obtain ⟨w5, hrun5, hR5, hK5, ht5⟩ := hRD.out.mput (w1 := w3) (row := none) s (by unfold maxLen; omega) ⟨{ r.fl with safe := r.fl.bs.length, stays := true }, r.v⟩ HN.out ⟨hb3.os, hb3.tape, hb3.output, hb3.size, fun i hi _ => hb3.block i hi⟩ (fun i e => by cases e) ((hRD.out.below hb3).own r hr).1 (fun i e => .inl ⟨r, hr, rfl, e⟩) HO.out (V := .agg #[.slice A n c, .int .i64 (n : Int), .bool true]) (by rw [HV.out, ← Hn.out]; rfl);
         have hS5 : w5.cell? ⟨g, 0, none⟩ = some (.map (some bm)) ∧ w5.cell? ⟨w1.heap.size, 0, none⟩ = some (.slice A n c) := ⟨(turned_cell ht5 (Nat.lt_of_lt_of_le hgl2 hb3.size) hgm 0).trans hS3.1, (turned_cell ht5 (Nat.lt_of_lt_of_le hfl2 hb3.size) hfm 0).trans hS3.2⟩))
  all_goals
    clear hrun5 ht5 hS5 hS3
    go_wp2
    go_ret
    have hxg := HR.out.xg
    exact ⟨rfl, hR5, ((Keep.of_below (hb1.alloc hb1.size _)).trans (Keep.of_grown hg2 (fun i e => by injection e with e; exact e ▸ hxg))).trans ⟨hK5.os, hK5.tape, hK5.output, hK5.size, hK5.block⟩⟩

set_option maxHeartbeats 2000000 in
set_option maxRecDepth 100000 in
theorem trunc_on (k : Nat) (h : Raw w g X bm rs cap fuse false) (hs : s.size ≤ 1073741824) (hl : lookBy RF.nm s.data.toList rs = some r) (hf : fuse ≠ 1) (hk : k ≤ r.fl.bs.length)
    (hok : St.Ok ⟨putBy Fl.name { r.fl with bs := r.fl.bs.take k, safe := min r.fl.safe k } (rs.map RF.fl), cap, fuse - 1, false⟩) :
    Calls Tryz.prog 87 #[.pointer (some ⟨g, 0, none⟩), .string s, .int .i64 (k : Int)] w fun e w' => e = .returned (.int .i64 0) ∧ Sto w' g X ⟨putBy Fl.name { r.fl with bs := r.fl.bs.take k, safe := min r.fl.safe k } (rs.map RF.fl), cap, fuse - 1, false⟩ ∧ Keep X w w' := by
  obtain ⟨hr, hrn⟩ := lookBy_some hl
  obtain ⟨A, c, hv, hnc⟩ := h.form hr
  have hbl := len_of h hr
  have H := Lib.hid (find_some g bm X rs cap fuse s r A _ c w h (by omega) hl hv)
  have HR := Lib.hid h
  have hgl := h.box.lt
  obtain ⟨l, hll⟩ : ∃ l, l = r.fl.bs.take k := ⟨_, rfl⟩
  have HBY : Hid (∀ w', Raw w' g X bm rs cap (fuse - 1) false → Byt w' w'.heap.size A l) := Lib.hid (fun w' h' => by
    have ho := (h'.own r hr).1
    rw [hv] at ho
    rw [hll]
    exact (Byt.own ho).take k)
  rw [← hll] at hok ⊢
  have hlk : l.length = k := by rw [hll, List.length_take]; omega
  have hcut : ∀ W, (Instr.slice 31 (.slice A r.fl.bs.length c) none (some (.int .i64 (k : Int))) none).run Tryz.prog W = .ok (.slice A l.length c) W := fun W => by
    have := run_cut_to (P := Tryz.prog) W 31 5 Tryz.underlying31 (fun w => (by kernel_rfl)) A r.fl.bs.length c (k : Int) (by omega) (by omega)
    rw [this]
    simp [hlk]
  obtain ⟨q, hq⟩ : ∃ q, q = min r.fl.safe k := ⟨_, rfl⟩
  rw [← hq] at hok ⊢
  have HO := Lib.hid hok
  have HN := Lib.hid hrn
  obtain ⟨n, hn⟩ : ∃ n, n = r.fl.bs.length := ⟨_, rfl⟩
  obtain ⟨sf, hsf⟩ : ∃ n, n = r.fl.safe := ⟨_, rfl⟩
  obtain ⟨sy, hsy⟩ : ∃ n, n = r.fl.stays := ⟨_, rfl⟩
  rw [← hsf] at hq
  rw [← hn] at hk hcut hbl
  rw [← hn, ← hsf, ← hsy] at H
  have hsfl : sf ≤ 16777216 := by have := h.ok.safe r.fl (List.mem_map.2 ⟨r, hr, rfl⟩); omega
  have Hlk := Lib.hid hlk
  have Hsy := Lib.hid hsy
  have hl24 : l.length ≤ 16777216 := by omega
  clear hl hv h hok hrn hn hsf hsy hlk hll
  rcases Nat.lt_or_ge k sf with hmin | hmin
  · go_enter Tryz.func87, Tryz.ntmps87
    go_wp2_with (first
      | (go_at_call 41; (with_reducible refine H.out.mono ?_); rintro e w1 ⟨rfl, hb1⟩)
      | (go_at_call 38; (with_reducible refine (deed_on g bm X rs cap fuse false _ (HR.out.below (hb1.alloc hb1.size _)) hf).mono ?_); rintro e w2 ⟨rfl, hR2, hg2⟩; have c0 : w2.cell? ⟨g, 0, none⟩ = some (.map (some bm)) := hR2.box.cell 0;
         have hne : w1.heap.size ≠ g := (by have := hb1.size; omega); have hbx := (Box.new w1 72 #[.slice A n c, .int .i64 (sf : Int), .bool sy]).grown hg2 (fun e => hne (by injection e));
         have d0 : w2.cell? ⟨w1.heap.size, 0, none⟩ = some (.slice A n c) := hbx.cell 0; have hby2 := HBY.out w2 hR2)
      | (go_at_call 42; refine (clone_any A l c _ hby2 (by omega)).mono ?_; rintro e w3 ⟨v3, rfl, ho3, hb3⟩; obtain ⟨A3, c3, rfl, hc3⟩ := own_form ho3; have hbx3 := hbx.below hb3 hbx.lt; have e0 := hbx3.cell 0; have e1 : w3.cell? ⟨w1.heap.size, 1, none⟩ = some (.int .i64 (sf : Int)) := hbx3.cell 1; have k0 := hbx3.frozen 0; have k1 := hbx3.frozen 1))
    rw [show min (sf : Int) (k : Int) = (k : Int) by omega]
    obtain rfl : k = q := by omega
    clear hq
    have hw : w2.grownBy ((w3.setCell ⟨w1.heap.size, 0, none⟩ (.slice A3 l.length c3)).setCell ⟨w1.heap.size, 1, none⟩ (.int .i64 (k : Int))) (some w1.heap.size) :=
      only_put (only_put ⟨hb3.os, hb3.tape, hb3.output, hb3.size, fun i hi _ => hb3.block i hi⟩ 0 _) 1 _
    have hbx4 := (hbx3.put 0 (.slice A3 l.length c3)).put 1 (.int .i64 (k : Int))
    have hfl2 := hbx.lt
    have hne3 : (Value.slice A3 l.length c3).ownBlock ≠ some w1.heap.size := fun e => by have := (ho3.lt _ e).1; omega
    have hown4 := (ho3.kept (only_put (World.grownBy.refl w3 (some w1.heap.size)) 0 (.slice A3 l.length c3)) (.inr hne3)).kept (only_put (World.grownBy.refl _ (some w1.heap.size)) 1 (.int .i64 (k : Int))) (.inr hne3)
    have hblk : ∀ i, (Value.slice A3 l.length c3).ownBlock = some i → w2.heap.size ≤ i := fun i e => (ho3.lt i e).1
    have m0 : ((w3.setCell ⟨w1.heap.size, 0, none⟩ (.slice A3 l.length c3)).setCell ⟨w1.heap.size, 1, none⟩ (.int .i64 (k : Int))).cell? ⟨g, 0, none⟩ = some (.map (some bm)) := (World.cell?_of_block (hw.block g hR2.box.lt (fun e => hne (by injection e with e; exact e.symm)))).trans c0
    generalize ((w3.setCell ⟨w1.heap.size, 0, none⟩ (.slice A3 l.length c3)).setCell ⟨w1.heap.size, 1, none⟩ (.int .i64 (k : Int))) = W4 at hw hbx4 hown4 m0 ⊢
    have m1 : W4.cell? ⟨w1.heap.size, 0, none⟩ = some (.slice A3 l.length c3) := hbx4.cell 0
    have m2 : W4.cell? ⟨w1.heap.size, 1, none⟩ = some (.int .i64 (k : Int)) := hbx4.cell 1
    have m3 : W4.cell? ⟨w1.heap.size, 2, none⟩ = some (.bool sy) := hbx4.cell 2
    have hfresh : ∀ i, (Value.slice A3 l.length c3).ownBlock = some i → ¬ X i ∧ ∀ q ∈ rs, q.v.ownBlock ≠ some i := fun i e => hR2.fresh (hblk i e)
    have hfo : ∀ q ∈ rs, q.v.ownBlock ≠ some w1.heap.size := fun q hq e => by have := ((HR.out.own q hq).1.lt _ e).2; have := hb1.size; omega
    have hfm : bm ≠ w1.heap.size := by have := HR.out.mlt; have := hb1.size; omega
    have hR4 := Lib.hid (hR2.stay hw.size (fun i hi hh => hw.block i hi (fun e => by
      injection e with e
      subst e
      rcases hh with h1 | h1 | ⟨q, hq, h1⟩
      · exact hne h1
      · exact hfm h1.symm
      · exact hfo q hq h1))).drew
    have hK4 : Keep X w2 W4 := Keep.of_grown hw (fun i e hx => by injection e with e; subst e; have := HR.out.xlt _ hx; have := hb1.size; omega)
    clear hbx3 e0 e1 k0 k1 hbx4 hbx d0 hw hby2 ho3 hne3 c0
    refine wp_region_still_tail 6 (by kernel_rfl) (by kernel_rfl) ?_
    simp only [List.take_succ_cons, List.take_zero, List.drop_succ_cons, List.drop_zero]
    change wpStill _ _ W4.drew _ _ _
    iterate 6 still_step
    refine wpStill_nil ?_
    go_wp2_with (at_mapUpdate; refine wpList_mput W4.drew (w1 := W4.drew) (row := none) rfl _ _ _ rfl hR4.out rfl s rfl (by unfold maxLen; omega) ⟨{ r.fl with bs := l, safe := k }, .slice A3 l.length c3⟩ HN.out (by rw [Hsy.out]; rfl) (World.grownBy.refl _ _) (fun i e => by cases e) (own_base hown4 (Nat.zero_le _)) (fun i e => .inr (hfresh i e)) HO.out ?_; intro w5 hR5 hK5 ht5)
    go_ret
    have hxg := HR.out.xg
    exact ⟨rfl, ⟨bm, _, hR5, map_putBy (nm := RF.nm) (nm' := Fl.name) (g := RF.fl) (fun _ => rfl) _ _⟩, (((Keep.of_below (hb1.alloc hb1.size _)).trans (Keep.of_grown hg2 (fun i e => by injection e with e; exact e ▸ hxg))).trans hK4).trans ⟨hK5.os, hK5.tape, hK5.output, hK5.size, hK5.block⟩⟩
  · go_enter Tryz.func87, Tryz.ntmps87
    go_wp2_with (first
      | (go_at_call 41; (with_reducible refine H.out.mono ?_); rintro e w1 ⟨rfl, hb1⟩)
      | (go_at_call 38; (with_reducible refine (deed_on g bm X rs cap fuse false _ (HR.out.below (hb1.alloc hb1.size _)) hf).mono ?_); rintro e w2 ⟨rfl, hR2, hg2⟩; have c0 : w2.cell? ⟨g, 0, none⟩ = some (.map (some bm)) := hR2.box.cell 0;
         have hne : w1.heap.size ≠ g := (by have := hb1.size; omega); have hbx := (Box.new w1 72 #[.slice A n c, .int .i64 (sf : Int), .bool sy]).grown hg2 (fun e => hne (by injection e));
         have d0 : w2.cell? ⟨w1.heap.size, 0, none⟩ = some (.slice A n c) := hbx.cell 0; have hby2 := HBY.out w2 hR2)
      | (go_at_call 42; refine (clone_any A l c _ hby2 (by omega)).mono ?_; rintro e w3 ⟨v3, rfl, ho3, hb3⟩; obtain ⟨A3, c3, rfl, hc3⟩ := own_form ho3; have hbx3 := hbx.below hb3 hbx.lt; have e0 := hbx3.cell 0; have e1 : w3.cell? ⟨w1.heap.size, 1, none⟩ = some (.int .i64 (sf : Int)) := hbx3.cell 1; have k0 := hbx3.frozen 0; have k1 := hbx3.frozen 1))
    rw [show min (sf : Int) (k : Int) = (sf : Int) by omega]
    obtain rfl : sf = q := by omega
    clear hq
    have hw : w2.grownBy ((w3.setCell ⟨w1.heap.size, 0, none⟩ (.slice A3 l.length c3)).setCell ⟨w1.heap.size, 1, none⟩ (.int .i64 (sf : Int))) (some w1.heap.size) :=
      only_put (only_put ⟨hb3.os, hb3.tape, hb3.output, hb3.size, fun i hi _ => hb3.block i hi⟩ 0 _) 1 _
    have hbx4 := (hbx3.put 0 (.slice A3 l.length c3)).put 1 (.int .i64 (sf : Int))
    have hfl2 := hbx.lt
    have hne3 : (Value.slice A3 l.length c3).ownBlock ≠ some w1.heap.size := fun e => by have := (ho3.lt _ e).1; omega
    have hown4 := (ho3.kept (only_put (World.grownBy.refl w3 (some w1.heap.size)) 0 (.slice A3 l.length c3)) (.inr hne3)).kept (only_put (World.grownBy.refl _ (some w1.heap.size)) 1 (.int .i64 (sf : Int))) (.inr hne3)
    have hblk : ∀ i, (Value.slice A3 l.length c3).ownBlock = some i → w2.heap.size ≤ i := fun i e => (ho3.lt i e).1
    have m0 : ((w3.setCell ⟨w1.heap.size, 0, none⟩ (.slice A3 l.length c3)).setCell ⟨w1.heap.size, 1, none⟩ (.int .i64 (sf : Int))).cell? ⟨g, 0, none⟩ = some (.map (some bm)) := (World.cell?_of_block (hw.block g hR2.box.lt (fun e => hne (by injection e with e; exact e.symm)))).trans c0
    generalize ((w3.setCell ⟨w1.heap.size, 0, none⟩ (.slice A3 l.length c3)).setCell ⟨w1.heap.size, 1, none⟩ (.int .i64 (sf : Int))) = W4 at hw hbx4 hown4 m0 ⊢
    have m1 : W4.cell? ⟨w1.heap.size, 0, none⟩ = some (.slice A3 l.length c3) := hbx4.cell 0
    have m2 : W4.cell? ⟨w1.heap.size, 1, none⟩ = some (.int .i64 (sf : Int)) := hbx4.cell 1
    have m3 : W4.cell? ⟨w1.heap.size, 2, none⟩ = some (.bool sy) := hbx4.cell 2
    have hfresh : ∀ i, (Value.slice A3 l.length c3).ownBlock = some i → ¬ X i ∧ ∀ q ∈ rs, q.v.ownBlock ≠ some i := fun i e => hR2.fresh (hblk i e)
    have hfo : ∀ q ∈ rs, q.v.ownBlock ≠ some w1.heap.size := fun q hq e => by have := ((HR.out.own q hq).1.lt _ e).2; have := hb1.size; omega
    have hfm : bm ≠ w1.heap.size := by have := HR.out.mlt; have := hb1.size; omega
    have hR4 := Lib.hid (hR2.stay hw.size (fun i hi hh => hw.block i hi (fun e => by
      injection e with e
      subst e
      rcases hh with h1 | h1 | ⟨q, hq, h1⟩
      · exact hne h1
      · exact hfm h1.symm
      · exact hfo q hq h1))).drew
    have hK4 : Keep X w2 W4 := Keep.of_grown hw (fun i e hx => by injection e with e; subst e; have := HR.out.xlt _ hx; have := hb1.size; omega)
    clear hbx3 e0 e1 k0 k1 hbx4 hbx d0 hw hby2 ho3 hne3 c0
    refine wp_region_still_tail 6 (by kernel_rfl) (by kernel_rfl) ?_
    simp only [List.take_succ_cons, List.take_zero, List.drop_succ_cons, List.drop_zero]
    change wpStill _ _ W4.drew _ _ _
    iterate 6 still_step
    refine wpStill_nil ?_
    go_wp2_with (at_mapUpdate; refine wpList_mput W4.drew (w1 := W4.drew) (row := none) rfl _ _ _ rfl hR4.out rfl s rfl (by unfold maxLen; omega) ⟨{ r.fl with bs := l, safe := sf }, .slice A3 l.length c3⟩ HN.out (by rw [Hsy.out]; rfl) (World.grownBy.refl _ _) (fun i e => by cases e) (own_base hown4 (Nat.zero_le _)) (fun i e => .inr (hfresh i e)) HO.out ?_; intro w5 hR5 hK5 ht5)
    go_ret
    have hxg := HR.out.xg
    exact ⟨rfl, ⟨bm, _, hR5, map_putBy (nm := RF.nm) (nm' := Fl.name) (g := RF.fl) (fun _ => rfl) _ _⟩, (((Keep.of_below (hb1.alloc hb1.size _)).trans (Keep.of_grown hg2 (fun i e => by injection e with e; exact e ▸ hxg))).trans hK4).trans ⟨hK5.os, hK5.tape, hK5.output, hK5.size, hK5.block⟩⟩
end
end Go.Proofs.YtohnhboeipckjaaGreatDoor
