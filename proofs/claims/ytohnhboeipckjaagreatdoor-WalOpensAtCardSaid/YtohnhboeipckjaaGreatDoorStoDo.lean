/-
  What the store's Append answers, and what the store is then.
  Conditions: the store is one; names and bytes are at most 2^30 bytes.
-/
import Derived.Test.YtohnhboeipckjaaGreatDoorStoNames
import Derived.StillTailTactics
import Derived.Deep.RegionHeld3
namespace Go.Proofs.YtohnhboeipckjaaGreatDoor
open Go.RowKit Go.Maps

/-! ### a deed -/
def deedE (fuse : Nat) : Nat := if fuse = 1 then 12 else 0
theorem deed_st (s : St) : s.deed = ({ s with fuse := s.fuse - 1, down := s.down || decide (s.fuse = 1) }, deedE s.fuse) := by
  unfold St.deed deedE
  by_cases h : s.fuse = 1
  · simp [h]
  · simp [h]
theorem deed_any (g bm : Nat) (X : Nat → Prop) (rs : List RF) (cap fuse : Nat) (down : Bool) (w : World) (h : Raw w g X bm rs cap fuse down) :
    Calls Tryz.prog 38 #[.pointer (some ⟨g, 0, none⟩)] w fun e w' => e = .returned (.int .i64 (deedE fuse : Int)) ∧ Raw w' g X bm rs cap (fuse - 1) (down || decide (fuse = 1)) ∧ w.grownBy w' (some g) := by
  by_cases hf : fuse = 1
  · subst hf
    have e1 : (down || decide (1 = 1)) = true := by simp
    rw [e1]
    exact deed_gone g bm X rs cap down w h
  · have e1 : (down || decide (fuse = 1)) = down := by simp [hf]
    have e2 : deedE fuse = 0 := by simp [deedE, hf]
    rw [e1, e2]
    exact deed_on g bm X rs cap fuse down w h hf

/-! ### what a store keeps -/
theorem St.Ok.put {s : St} (h : s.Ok) (f : Fl) (hs : f.safe ≤ f.bs.length) (hu : usedF s.fs + f.bs.length ≤ s.cap + ((lookBy Fl.name f.name s.fs).map fun f => f.bs.length).getD 0)
    (hm : (lookBy Fl.name f.name s.fs).isNone = true → s.fs.length < 256) (hg : nameB f.name = true ∧ f.name.length ≤ 1073741824) : St.Ok ⟨putBy Fl.name f s.fs, s.cap, s.fuse, s.down⟩ := by
  refine ⟨putBy_rise h.rise, fun q hq => ?_, ?_, h.cap, ?_, h.fuse, fun q hq => by rcases (mem_putBy h.rise).1 hq with rfl | ⟨hq, _⟩; exact hg; exact h.good q hq⟩
  · rcases (mem_putBy h.rise).1 hq with rfl | ⟨hq, _⟩
    · exact hs
    · exact h.safe q hq
  · have := sum_putBy (fun f : Fl => f.bs.length) (f := f) h.rise
    unfold usedF at hu ⊢
    simp only
    omega
  · simp only
    rw [length_put h f]
    have := h.many
    split
    · rename_i hn
      have := hm hn
      omega
    · exact this
theorem St.Ok.del {s : St} (h : s.Ok) (x : List UInt8) : St.Ok ⟨delBy Fl.name x s.fs, s.cap, s.fuse, s.down⟩ := by
  refine ⟨delBy_rise h.rise, fun q hq => h.safe q (mem_delBy.1 hq).1, ?_, h.cap, ?_, h.fuse, fun q hq => h.good q (mem_delBy.1 hq).1⟩
  · have := sum_delBy (nm := Fl.name) (fun f : Fl => f.bs.length) x s.fs
    have := h.used
    unfold usedF at *
    simp only
    omega
  · have := List.length_filter_le (fun a : Fl => decide (a.name ≠ x)) s.fs
    have := h.many
    unfold delBy
    simp only
    omega

theorem grown_put {a b : World} {row : Option Nat} (h : a.grownBy b row) {p : Nat} (hp : a.heap.size ≤ p) (i : Nat) (u : Value) : a.grownBy (b.setCell ⟨p, i, none⟩ u) row :=
  ⟨h.os, h.tape, h.output, by simpa [World.setCell] using h.size, fun k hk hne => (Below.heap_setCell b ⟨p, i, none⟩ u k (fun e => by have e' : k = p := e; omega)).trans (h.block k hk hne)⟩
theorem grown_below {a b c : World} {row : Option Nat} (h : Below a.heap.size a b) (k : b.grownBy c row) : a.grownBy c row :=
  ⟨k.os.trans h.os, k.tape.trans h.tape, k.output.trans h.output, Nat.le_trans h.size k.size, fun i hi hne => (k.block i (by have := h.size; omega) hne).trans (h.block i hi)⟩

/-! ### Append -/
set_option maxHeartbeats 2000000 in
set_option maxRecDepth 100000 in
theorem append_no (g bm : Nat) (X : Nat → Prop) (rs : List RF) (cap fuse : Nat) (down : Bool) (s : ByteArray) (B : Option Addr) (k cb t : Nat) (w : World) (h : Raw w g X bm rs cap fuse down) (hs : s.size ≤ 1073741824)
    (ht : takesE rs cap down (nameB s.data.toList) s.data.toList k = t) (h0 : t ≠ 0) :
    Calls Tryz.prog 17 #[.pointer (some ⟨g, 0, none⟩), .string s, .slice B k cb] w fun e w' => e = .returned (.int .i64 (t : Int)) ∧ Below w.heap.size w w' := by
  have HT := Lib.hid (takes_any g bm X rs cap fuse down s k w h (by omega))
  rw [ht] at HT
  have hz : ((t : Int) != 0) = true := by simpa using h0
  clear ht
  go_enter Tryz.func17, Tryz.ntmps17
  go_wp2_with (go_at_call 37; (with_reducible refine HT.out.mono ?_); rintro e w1 ⟨rfl, hb1⟩)
  go_ret
  exact ⟨rfl, hb1⟩

set_option maxHeartbeats 2000000 in
set_option maxRecDepth 100000 in
theorem append_at (g bm : Nat) (X : Nat → Prop) (rs : List RF) (cap fuse : Nat) (down : Bool) (s : ByteArray) (B : Option Addr) (b : List UInt8) (cb : Nat) (f0 : Fl) (A : Option Addr) (c : Nat) (bb : Bool) (w : World) (h : Raw w g X bm rs cap fuse down) (hs : s.size ≤ 1073741824)
    (ht : takesE rs cap down (nameB s.data.toList) s.data.toList b.length = 0) (hby : Byt w w.heap.size B b) (hn0 : f0.name = s.data.toList)
    (hv : lookV rs s.data.toList = (.agg #[.slice A f0.bs.length c, .int .i64 (f0.safe : Int), .bool f0.stays], bb))
    (hown : w.ownsRow 0 5 1 (.slice A f0.bs.length c) f0.bs.length (cellsB f0.bs)) (hrow : ∀ i, (Value.slice A f0.bs.length c).ownBlock = some i → ∃ q ∈ rs, q.nm = s.data.toList ∧ q.v.ownBlock = some i)
    (hl0 : f0.bs.length ≤ 16777216) (hl : b.length ≤ 16777216) (hok : St.Ok ⟨putBy Fl.name { f0 with bs := f0.bs ++ b } (rs.map RF.fl), cap, fuse, down⟩) :
    Calls Tryz.prog 17 #[.pointer (some ⟨g, 0, none⟩), .string s, .slice B b.length cb] w fun e w' => e = .returned (.int .i64 (deedE fuse : Int)) ∧
      Sto w' g X ⟨putBy Fl.name { f0 with bs := f0.bs ++ b } (rs.map RF.fl), cap, fuse - 1, down || decide (fuse = 1)⟩ ∧ Keep X w w' := by
  obtain ⟨i0, hi0, hz0, hz1, hz2⟩ := info_parts info5
  have HT := Lib.hid (takes_any g bm X rs cap fuse down s b.length w h (by omega))
  rw [ht] at HT
  have c0 : w.cell? ⟨g, 0, none⟩ = some (.map (some bm)) := h.box.cell 0
  have hgl := h.box.lt
  have hrg : (Value.slice A f0.bs.length c).ownBlock ≠ some g := fun e => by obtain ⟨q, hq, _, e'⟩ := hrow g e; exact h.og hq e'
  have HV := Lib.hid hv
  have HR := Lib.hid h
  have HN := Lib.hid hn0
  have HO := Lib.hid hok
  obtain ⟨n, hn⟩ : ∃ n, n = f0.bs.length := ⟨_, rfl⟩
  obtain ⟨sf, hsf⟩ : ∃ n, n = f0.safe := ⟨_, rfl⟩
  obtain ⟨sy, hsy⟩ : ∃ n, n = f0.stays := ⟨_, rfl⟩
  rw [← hn, ← hsf, ← hsy] at HV
  rw [← hn] at hown hrow hl0 hrg
  have Hn := Lib.hid hn
  have Hsf := Lib.hid hsf
  have Hsy := Lib.hid hsy
  clear ht hv h hn0 hok hn hsf hsy
  go_enter Tryz.func17, Tryz.ntmps17
  go_wp2_with (first
    | (go_at_call 37; (with_reducible refine HT.out.mono ?_); rintro e w1 ⟨rfl, hb1⟩; have d0 : w1.cell? ⟨g, 0, none⟩ = some (.map (some bm)) := (hb1.cell hgl).trans c0; have hgl1 : g < w1.heap.size := Nat.lt_of_lt_of_le hgl hb1.size; have hR1 := Lib.hid (HR.out.below hb1); have hown1 := own_below hown hb1)
    | (at_lookup; refine wpList_look _ rfl _ _ rfl hR1.out rfl s rfl (by unfold maxLen; omega) HV.out ?_)
    | (at_builtin; refine wpList_append_byt _ rfl (.tmp 24) (.tmp 25) _ rfl 0 5 i0 _ Tryz.underlying31 hi0 hz0 hz1 hz2 rfl _ n _ rfl (hown1.alloc _) w.heap.size _ _ _ b rfl rfl (hby.below (hb1.alloc hb1.size _)) (by omega) (by simp) ?_; intro v2 w3 hown3 hg3 hat3; obtain ⟨A2, c2, rfl, hc2⟩ := own_form hown3;
       have hg3' : (w1.alloc (.cells #[.slice A n c, .int .i64 (sf : Int), .bool sy] 72)).grownBy w3 (Value.slice A n c).ownBlock := hg3; have hat3' : (Value.slice A2 (n + b.length) c2).ownBlock = (Value.slice A n c).ownBlock ∨ (Value.slice A2 (n + b.length) c2).ownBlock = some (w1.alloc (.cells #[.slice A n c, .int .i64 (sf : Int), .bool sy] 72)).heap.size := hat3;
       have hne : some w1.heap.size ≠ (Value.slice A n c).ownBlock := (fun e => (by have := (hown1.lt _ e.symm).2; omega)); have hbx3 := (Box.new w1 72 _).grown hg3' hne; have e0 := hbx3.cell 0; have k0 := hbx3.frozen 0; clear hg3 hat3))
  have hsz1 : w1.heap.size < w3.heap.size := by have := hg3'.size; simp at this; omega
  have hw : w1.grownBy (w3.setCell ⟨w1.heap.size, 0, none⟩ (.slice A2 (n + b.length) c2)) (Value.slice A n c).ownBlock := grown_put (grown_below ((Below.refl _ w1).alloc (Nat.le_refl _) _) hg3') (Nat.le_refl _) 0 _
  have hbx4 := hbx3.put 0 (.slice A2 (n + b.length) c2)
  have hne2 : (Value.slice A2 (n + b.length) c2).ownBlock ≠ some w1.heap.size := fun e => by
    rcases hat3' with h1 | h1
    · exact hne (by rw [← h1, e])
    · rw [h1] at e; simp at e
  have hown4 : (w3.setCell ⟨w1.heap.size, 0, none⟩ (.slice A2 (n + b.length) c2)).ownsRow 0 5 1 (.slice A2 (n + b.length) c2) (n + b.length) (cellsB f0.bs ++ cellsB b) := hown3.kept (only_put (World.grownBy.refl w3 (some w1.heap.size)) 0 _) (.inr hne2)
  have hblk : ∀ i, (Value.slice A2 (n + b.length) c2).ownBlock = some i → (∃ q ∈ rs, q.nm = s.data.toList ∧ q.v.ownBlock = some i) ∨ (¬ X i ∧ ∀ q ∈ rs, q.v.ownBlock ≠ some i) := fun i e => by
    rcases hat3' with h1 | h1
    · rw [h1] at e; exact .inl (hrow i e)
    · rw [h1] at e; simp at e; exact .inr (hR1.out.fresh (by omega))
  have m0 : (w3.setCell ⟨w1.heap.size, 0, none⟩ (.slice A2 (n + b.length) c2)).cell? ⟨g, 0, none⟩ = some (.map (some bm)) := (World.cell?_of_block (hw.block g hgl1 (fun e => hrg e.symm))).trans d0
  generalize (w3.setCell ⟨w1.heap.size, 0, none⟩ (.slice A2 (n + b.length) c2)) = W4 at hw hbx4 hown4 m0 ⊢
  have m1 : W4.cell? ⟨w1.heap.size, 0, none⟩ = some (.slice A2 (n + b.length) c2) := hbx4.cell 0
  have m2 : W4.cell? ⟨w1.heap.size, 1, none⟩ = some (.int .i64 (sf : Int)) := hbx4.cell 1
  have m3 : W4.cell? ⟨w1.heap.size, 2, none⟩ = some (.bool sy) := hbx4.cell 2
  clear hown3 hg3' hat3' hbx3 e0 k0 hbx4 hsz1 hown1 hown hne hne2 d0 c0
  refine wp_region_still_tail 6 (by kernel_rfl) (by kernel_rfl) ?_
  simp only [List.take_succ_cons, List.take_zero, List.drop_succ_cons, List.drop_zero]
  change wpStill _ _ W4.drew _ _ _
  iterate 6 still_step
  refine wpStill_nil ?_
  have hfl : ({ f0 with bs := f0.bs ++ b } : Fl).bs.length = n + b.length := by simp [Hn.out]
  have Hfl := Lib.hid hfl
  clear hfl
  go_wp2_with (first
    | (at_mapUpdate; refine wpList_mput w1 (w1 := W4.drew) (row := (Value.slice A n c).ownBlock) rfl _ _ _ rfl hR1.out rfl s rfl (by unfold maxLen; omega) ⟨{ f0 with bs := f0.bs ++ b }, .slice A2 (n + b.length) c2⟩ HN.out (by rw [Hsf.out, Hsy.out]; rfl) ⟨hw.os, hw.tape, hw.output, hw.size, hw.block⟩ (by rw [RF.nm, HN.out]; exact hrow) (by rw [Hfl.out, cellsB_app]; exact hown4) (by rw [RF.nm, HN.out]; exact hblk) HO.out ?_; intro w5 hR5 hK5 ht5)
    | (go_at_call 38; (with_reducible refine (deed_any g bm X _ cap fuse down _ hR5).mono ?_); rintro e w6 ⟨rfl, hR6, hg6⟩))
  go_ret
  have hxg := HR.out.xg
  exact ⟨rfl, ⟨bm, _, hR6, map_putBy (nm := RF.nm) (nm' := Fl.name) (g := RF.fl) (fun _ => rfl) _ _⟩, (Keep.of_below hb1).trans (hK5.trans (Keep.of_grown hg6 (fun i e => by injection e with e; exact e ▸ hxg)))⟩

theorem look_fl (rs : List RF) (x : List UInt8) : lookBy Fl.name x (rs.map RF.fl) = (lookBy RF.nm x rs).map RF.fl := map_lookBy (nm := RF.nm) (nm' := Fl.name) (g := RF.fl) (fun _ => rfl) x rs
theorem takes_zero {s : St} {good : Bool} {x : List UInt8} {k : Nat} (h : s.takes good x k = 0) : s.down = false ∧ good = true ∧ ((lookBy Fl.name x s.fs).isNone = true → s.fs.length < 256) ∧ k ≤ s.cap - usedF s.fs := by
  unfold St.takes at h
  cases hd : s.down with
  | true => simp [hd] at h
  | false =>
    cases good with
    | false => simp [hd] at h
    | true =>
      simp only [hd, Bool.not_true, Bool.false_eq_true, if_false] at h
      split at h
      · cases h
      · rename_i h1
        split at h
        · cases h
        · rename_i h2
          exact ⟨rfl, rfl, fun hn => by rw [hn] at h1; simp at h1; exact h1, by omega⟩
/-- the store behind it; the blocks of X stay -/
def Done (w : World) (g : Nat) (X : Nat → Prop) (r : St × Nat) (e : Ending) (w' : World) : Prop := e = .returned (.int .i64 (r.2 : Int)) ∧ Sto w' g X r.1 ∧ Keep X w w'
theorem append_any (g : Nat) (X : Nat → Prop) (st : St) (s : ByteArray) (B : Option Addr) (b : List UInt8) (cb : Nat) (w : World) (h : Sto w g X st) (hs : s.size ≤ 1073741824) (hby : Byt w w.heap.size B b) :
    Calls Tryz.prog 17 #[.pointer (some ⟨g, 0, none⟩), .string s, .slice B b.length cb] w (Done w g X (st.append (nameB s.data.toList) s.data.toList b)) := by
  obtain ⟨bm, rs, hR, hfs⟩ := h
  have hok := hR.ok
  rw [hfs] at hok
  have ht : takesE rs st.cap st.down (nameB s.data.toList) s.data.toList b.length = st.takes (nameB s.data.toList) s.data.toList b.length := by unfold takesE; rw [hfs]; rfl
  by_cases h0 : st.takes (nameB s.data.toList) s.data.toList b.length = 0
  · obtain ⟨hd, hg, hm, hk⟩ := takes_zero h0
    have hcap := hok.cap
    simp only at hcap
    have e1 : st.append (nameB s.data.toList) s.data.toList b = St.deed { st with fs := putBy Fl.name { (lookBy Fl.name s.data.toList st.fs).getD (newF s.data.toList) with bs := ((lookBy Fl.name s.data.toList st.fs).getD (newF s.data.toList)).bs ++ b } st.fs } := by
      unfold St.append
      rw [if_pos h0]
    rw [e1, deed_st]
    rw [h0] at ht
    have key : ∀ (f0 : Fl), (lookBy Fl.name s.data.toList st.fs).getD (newF s.data.toList) = f0 → f0.name = s.data.toList ∧ f0.safe ≤ f0.bs.length ∧ f0.bs.length ≤ st.cap ∧ St.Ok ⟨putBy Fl.name { f0 with bs := f0.bs ++ b } st.fs, st.cap, st.fuse, st.down⟩ := by
      intro f0 hf0
      have hu := hok.used
      simp only at hu
      have h1 : f0.name = s.data.toList ∧ f0.safe ≤ f0.bs.length ∧ ((lookBy Fl.name s.data.toList st.fs).map fun f => f.bs.length).getD 0 = f0.bs.length ∧ f0.bs.length ≤ usedF st.fs := by
        cases hl : lookBy Fl.name s.data.toList st.fs with
        | none => rw [hl] at hf0; subst hf0; simp [newF]
        | some f =>
          rw [hl] at hf0
          obtain rfl : f = f0 := hf0
          obtain ⟨hm1, hn1⟩ := lookBy_some hl
          exact ⟨hn1, hok.safe f hm1, rfl, used_take (s := st) hm1⟩
      obtain ⟨n1, n2, n3, n4⟩ := h1
      refine ⟨n1, n2, by omega, St.Ok.put hok { f0 with bs := f0.bs ++ b } ?_ ?_ ?_ ?_⟩
      · simp only [List.length_append]; omega
      · simp only [n1, List.length_append]
        rw [n3]
        omega
      · simp only [n1]; exact hm
      · simp only [n1]; exact ⟨hg, by rw [Array.length_toList]; exact hs⟩
    obtain ⟨k1, k2, k3, k4⟩ := key _ rfl
    cases hl : lookBy RF.nm s.data.toList rs with
    | none =>
      have hl2 : lookBy Fl.name s.data.toList st.fs = none := by rw [← hfs, look_fl, hl]; rfl
      rw [hl2] at k1 k2 k3 k4 ⊢
      have h1 := append_at g bm X rs st.cap st.fuse st.down s B b cb (newF s.data.toList) none 0 false w hR hs ht hby rfl (lookV_none hl) (World.ownsRow_nil _ _ _ _) (fun i e => by simp [Value.ownBlock] at e) (by simp [newF]) (by omega) (by rw [hfs]; exact k4)
      rw [hfs] at h1
      exact h1
    | some r =>
      have hl2 : lookBy Fl.name s.data.toList st.fs = some r.fl := by rw [← hfs, look_fl, hl]; rfl
      rw [hl2] at k1 k2 k3 k4 ⊢
      obtain ⟨hr, hn⟩ := lookBy_some hl
      obtain ⟨A, c, hv, _⟩ := hR.form hr
      have ho := (hR.own r hr).1
      rw [hv] at ho
      have h1 := append_at g bm X rs st.cap st.fuse st.down s B b cb r.fl A c true w hR hs ht hby k1 (by rw [lookV_some hl, hv]; rfl) ho (fun i e => ⟨r, hr, hn, by rw [hv]; exact e⟩) (by simp only [Option.getD_some] at k3; omega) (by omega) (by rw [hfs]; exact k4)
      rw [hfs] at h1
      exact h1
  · have e1 : st.append (nameB s.data.toList) s.data.toList b = (st, st.takes (nameB s.data.toList) s.data.toList b.length) := by
      unfold St.append
      rw [if_neg h0]
    rw [e1]
    refine (append_no g bm X rs st.cap st.fuse st.down s B b.length cb _ w hR hs ht h0).mono ?_
    rintro e w' ⟨rfl, hb⟩
    exact ⟨rfl, ⟨bm, rs, hR.below hb, hfs⟩, Keep.of_below hb⟩
end Go.Proofs.YtohnhboeipckjaaGreatDoor
