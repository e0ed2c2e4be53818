/-
  What the store's Boot answers, and what the store is then.
  Conditions: the store is one; what is told lies in blocks that are not its own.
-/
import Derived.Test.YtohnhboeipckjaaGreatDoorStoBoot
namespace Go.Proofs.YtohnhboeipckjaaGreatDoor
open Go.RowKit Go.Maps

/-- the slice at A has the numbers ks, in blocks of X -/
structure Ints (w : World) (X : Nat → Prop) (A : Option Addr) (ks : List Int) : Prop where
  at' : ks ≠ [] → ∃ b o, A = some ⟨b, o, none⟩ ∧ X b ∧ b < w.heap.size ∧ ∀ k (h : k < ks.length), w.cell? ⟨b, o + k, none⟩ = some (.int .i64 ks[k])
  bd : ∀ x ∈ ks, -9223372036854775808 ≤ x ∧ x ≤ 9223372036854775807
theorem Ints.keep {w w' : World} {X : Nat → Prop} {A : Option Addr} {ks : List Int} (h : Ints w X A ks) (hk : Keep X w w') : Ints w' X A ks :=
  ⟨fun hne => by
    obtain ⟨b, o, e, hx, hb, hc⟩ := h.at' hne
    exact ⟨b, o, e, hx, Nat.lt_of_lt_of_le hb hk.size, fun k hl => (World.cell?_of_block (hk.block b hb hx)).trans (hc k hl)⟩, h.bd⟩
theorem Ints.more {w : World} {X Y : Nat → Prop} {A : Option Addr} {ks : List Int} (h : Ints w X A ks) (hY : ∀ i, X i → Y i) : Ints w Y A ks :=
  ⟨fun hne => by
    obtain ⟨b, o, e, hx, hb, hc⟩ := h.at' hne
    exact ⟨b, o, e, hY b hx, hb, hc⟩, h.bd⟩
theorem row_cell {w : World} {base : Nat} {e : TypeId} {A : Option Addr} {n c : Nat} {xs : List Value} (h : w.ownsRow base e 1 (.slice A n c) n xs) {k : Nat} (hk : k < n) :
    ∃ b, A = some ⟨b, 0, none⟩ ∧ base ≤ b ∧ b < w.heap.size ∧ w.cell? ⟨b, k, none⟩ = xs[k]? := by
  rcases h.2 with ⟨_, h0⟩ | ⟨g, cap, cur, hv, hg, hh, _⟩
  · omega
  · injection hv with h1 _ h2
    subst h1
    exact ⟨g, rfl, hg, (Array.getElem?_eq_some_iff.1 hh).1, h.cellAt k (by omega)⟩

theorem boot_up (g bm : Nat) (X : Nat → Prop) (rs : List RF) (cap fuse : Nat) (v : Value) (w : World) (h : Raw w g X bm rs cap fuse false) :
    Calls Tryz.prog 27 #[.pointer (some ⟨g, 0, none⟩), v] w fun e w' => e = .returned (.int .i64 9) ∧ w = w' := by
  have h3 : w.cell? ⟨g, 3, none⟩ = some (.bool false) := h.box.cell 3
  go_enter Tryz.func27, Tryz.ntmps27
  go_wp2
  go_ret
  exact ⟨rfl, rfl⟩

/-- where the loop stands -/
structure BootAt (w2 wr : World) (g bm : Nat) (Y : Nat → Prop) (cap fuse : Nat) (fs : List Fl) (ks : List Int) (k : Nat) : Prop where
  raw : ∃ rs, Raw wr g Y bm rs cap fuse false ∧ rs.map RF.fl = bootTo fs ks k
  keep : Keep Y w2 wr

set_option maxHeartbeats 2000000 in
set_option maxRecDepth 100000 in
theorem boot_down (g bm : Nat) (X : Nat → Prop) (rs : List RF) (cap fuse : Nat) (B : Option Addr) (ks : List Int) (cb : Nat) (w : World) (h : Raw w g X bm rs cap fuse true) (hks : Ints w X B ks) (hkl : ks.length ≤ 1073741824) :
    Calls Tryz.prog 27 #[.pointer (some ⟨g, 0, none⟩), .slice B ks.length cb] w fun e w' => e = .returned (.int .i64 0) ∧ (∃ rs', Raw w' g X bm rs' cap fuse false ∧ rs'.map RF.fl = bootF (rs.map RF.fl) ks) ∧ Keep X w w' := by
  have h3 : w.cell? ⟨g, 3, none⟩ = some (.bool true) := h.box.cell 3
  have f3 := h.box.frozen 3
  have hg1 := only_put (World.grownBy.refl w (some g)) 3 (.bool false)
  have hR1 := h.turn (f' := fuse) (d' := false) h.ok.fuse hg1 (h.box.put 3 (.bool false))
  have HR1 := Lib.hid hR1
  have hN := Lib.hid (names_up g bm X rs cap fuse _ hR1)
  have hK1 : Keep X w (w.setCell ⟨g, 3, none⟩ (.bool false)) := Keep.of_grown hg1 (fun i e => by injection e with e; exact e ▸ h.xg)
  have hks1 := Lib.hid (hks.keep hK1)
  have HK1 := Lib.hid hK1
  have hlen := h.len
  obtain ⟨n, hn⟩ : ∃ n, n = rs.length := ⟨_, rfl⟩
  rw [← hn] at hlen
  have Hn := Lib.hid hn
  have HO := Lib.hid h.ok
  clear hks hR1 hg1 h hK1 hn
  go_enter Tryz.func27, Tryz.ntmps27
  go_wp2_with (go_at_call 24; (with_reducible refine hN.out.mono ?_); rintro e w2 ⟨v2, rfl, hrow, hb2⟩; rw [List.length_map, ← Hn.out] at hrow; obtain ⟨A2, c2, rfl, hc2⟩ := own_form hrow)
  obtain ⟨Y, hY⟩ : ∃ Y : Nat → Prop, Y = fun i => X i ∨ (w.setCell ⟨g, 3, none⟩ (.bool false)).heap.size ≤ i ∧ i < w2.heap.size := ⟨_, rfl⟩
  have hR2 : Raw w2 g Y bm rs cap fuse false := by rw [hY]; exact HR1.out.wide hb2
  have hX2 : ∀ i, X i → Y i := fun i hi => by rw [hY]; exact .inl hi
  have hN2 : ∀ i, (w.setCell ⟨g, 3, none⟩ (.bool false)).heap.size ≤ i → i < w2.heap.size → Y i := fun i h1 h2 => by rw [hY]; exact .inr ⟨h1, h2⟩
  have hks2 := (hks1.out.keep (Keep.of_below hb2)).more hX2
  have hK2 : Keep X w w2 := HK1.out.trans (Keep.of_below hb2)
  clear hY
  have hAt : BootAt w2 w2 g bm Y cap fuse (rs.map RF.fl) ks 0 := ⟨⟨rs, hR2, (bootTo_0 _ _).symm⟩, Keep.refl _ _⟩
  have HX := Lib.hid hX2
  have HN2 := Lib.hid hN2
  have HK2 := Lib.hid hK2
  have HKS := Lib.hid hks2
  have HRW := Lib.hid hrow
  clear hX2 hN2 hK2 hks2 hrow hR2 hb2 h3 f3
  go_loopw [19] (fun i wr => ∃ k : Nat, k ≤ n ∧ i = .int .i64 k ∧ BootAt w2 wr g bm Y cap fuse (rs.map RF.fl) ks k) (fun i _ => n - (intOf i).toNat)
  case atStart => exact ⟨0, by omega, rfl, hAt⟩
  case round =>
    obtain ⟨k, hk, rfl, hR⟩ := hrel
    clear hAt
    by_cases hkn : k < n
    · obtain ⟨rsk, hRk, hmk⟩ := hR.raw
      have hkf : k < (rs.map RF.fl).length := by rw [List.length_map, ← Hn.out]; exact hkn
      have hmem : (rs.map RF.fl)[k] ∈ rsk.map RF.fl := by rw [hmk, bootTo_at _ _ hkf]; simp
      obtain ⟨r, hr, hrf⟩ := List.mem_map.1 hmem
      have hrise := hRk.ok.rise
      simp only at hrise
      rw [hmk] at hrise
      have hstep := bootTo_step hkf hrise
      obtain ⟨nb, rfl, hb0, hbl, hcell⟩ := row_cell HRW.out hkn
      have hnk : ((rs.map RF.nm).map encStr)[k]? = some (.string ⟨r.fl.name.toArray⟩) := by
        have h1 : k < rs.length := by simpa using hkf
        have h2 : rs[k].fl = r.fl := by rw [hrf]; simp
        simp only [List.map_map, List.getElem?_map, List.getElem?_eq_getElem h1, Option.map_some, Function.comp, RF.nm, h2]
      rw [hnk] at hcell
      have n0 : wr.cell? ⟨nb, k, none⟩ = some (.string ⟨r.fl.name.toArray⟩) := (World.cell?_of_block (hR.keep.block nb hbl (HN2.out nb hb0 hbl))).trans hcell
      obtain ⟨s, hs⟩ : ∃ s : ByteArray, s = ⟨r.fl.name.toArray⟩ := ⟨_, rfl⟩
      rw [← hs] at n0
      have hsl : s.data.toList = r.fl.name := by rw [hs]
      have hgood := hRk.ok.good r.fl (List.mem_map.2 ⟨r, hr, rfl⟩)
      have hss : s.size ≤ 1073741824 := by
        have : s.size = s.data.toList.length := by rw [Array.length_toList]; rfl
        rw [this, hsl]
        exact hgood.2
      have hlook : lookBy RF.nm s.data.toList rsk = some r := by rw [hsl]; exact lookBy_mem hRk.rise hr
      rw [← hrf, ← hmk] at hstep
      have HST := Lib.hid hstep
      have HKr := Lib.hid hR.keep
      by_cases hkk : k < ks.length
      · have hkd : decide ((k : Int) < (ks.length : Int)) = true := by simp; omega
        have hb := HKS.out.bd ks[k] (List.getElem_mem hkk)
        have hgd : ks.getD k 0 = ks[k] := by simp [List.getD, hkk]
        obtain ⟨b, o, rfl, hxb, hbb, hcc⟩ := (HKS.out.keep hR.keep).at' (by rintro rfl; simp at hkk)
        have k0 := hcc k hkk
        rw [hgd] at HST
        obtain ⟨t, ht⟩ : ∃ t, t = ks[k] := ⟨_, rfl⟩
        rw [← ht] at hb k0 HST
        have HC := Lib.hid (restore_any g bm Y rsk cap fuse s r t wr hRk hss hlook hb.1 hb.2)
        clear hcc ht hgd hlook hstep hsl hs hgood hrise hmk hrf hcell hnk hRk hmem hR
        go_wp2_with (go_at_call 46; (with_reducible refine HC.out.mono ?_); rintro e w5 ⟨rfl, hR5, hK5⟩)
        go_roundw
        case rel => exact ⟨k + 1, by omega, by go_num, ⟨by obtain ⟨rs5, h5, m5⟩ := hR5; exact ⟨rs5, h5, m5.trans HST.out.symm⟩, HKr.out.trans hK5⟩⟩
        case measure => simp [intOf]; omega
      · have hkd : decide ((k : Int) < (ks.length : Int)) = false := by simp; omega
        have hgd : ks.getD k 0 = 0 := by simp [List.getD, List.getElem?_eq_none (Nat.le_of_not_lt hkk)]
        rw [hgd] at HST
        have HC := Lib.hid (restore_any g bm Y rsk cap fuse s r 0 wr hRk hss hlook (by omega) (by omega))
        clear hgd hlook hstep hsl hs hgood hrise hmk hrf hcell hnk hRk hmem hR
        go_wp2_with (go_at_call 46; (with_reducible refine HC.out.mono ?_); rintro e w5 ⟨rfl, hR5, hK5⟩)
        go_roundw
        case rel => exact ⟨k + 1, by omega, by go_num, ⟨by obtain ⟨rs5, h5, m5⟩ := hR5; exact ⟨rs5, h5, m5.trans HST.out.symm⟩, HKr.out.trans hK5⟩⟩
        case measure => simp [intOf]; omega
    · obtain rfl : n = k := by omega
      go_wp2
      go_ret
      obtain ⟨rs', hR', hm⟩ := hR.raw
      have e1 : n = (rs.map RF.fl).length := by rw [List.length_map]; exact Hn.out
      rw [e1, bootTo_all] at hm
      exact ⟨rfl, ⟨rs', hR'.less HX.out, hm⟩, HK2.out.trans (hR.keep.mono HX.out)⟩
end Go.Proofs.YtohnhboeipckjaaGreatDoor
