/-
  StorePlays: whatever is done, each answer, and all files, are as the document says.
  Conditions: none.
-/
import Derived.Test.YthfekmmcdfkigaaStoDoAny
import Derived.Test.YthfekmmcdfkigaaStoBoundsMath
namespace Go.Proofs.Ythfekmmcdfkigaa.storePlays
open Go.ChangeShapes Go.WideShapes Go.ChangeAt Go.RowKit Go.Maps

/-- the slice at A has the files fs, in a block of X -/
def FilX (w : World) (X : Nat → Prop) (A : Option Addr) (fs : List Fl) : Prop :=
  fs ≠ [] → ∃ b o, A = some ⟨b, o, none⟩ ∧ X b ∧ b < w.heap.size ∧ ∀ j v, (cellsF fs)[j]? = some v → w.cell? ⟨b, o + j, none⟩ = some v
theorem FilX.fils {w : World} {X : Nat → Prop} {A : Option Addr} {fs : List Fl} (h : FilX w X A fs) : Fils w w.heap.size A fs := fun hl => by
  obtain ⟨b, o, e, _, hb, hc⟩ := h hl
  exact ⟨b, o, e, hb, hc⟩
theorem FilX.keep {w w' : World} {X : Nat → Prop} {A : Option Addr} {fs : List Fl} (h : FilX w X A fs) (hk : Keep X w w') : FilX w' X A fs := fun hl => by
  obtain ⟨b, o, e, hx, hb, hc⟩ := h hl
  exact ⟨b, o, e, hx, Nat.lt_of_lt_of_le hb hk.size, fun j v hv => (World.cell?_of_block (hk.block b hb hx)).trans (hc j v hv)⟩
theorem FilX.more {w : World} {X Y : Nat → Prop} {A : Option Addr} {fs : List Fl} (h : FilX w X A fs) (hY : ∀ i, X i → Y i) : FilX w Y A fs := fun hl => by
  obtain ⟨b, o, e, hx, hb, hc⟩ := h hl
  exact ⟨b, o, e, hY b hx, hb, hc⟩
theorem FilX.own {w : World} {X : Nat → Prop} {base : Nat} {e : TypeId} {A : Option Addr} {n c : Nat} {fs : List Fl} (h : w.ownsRow base e 4 (.slice A n c) n (cellsF fs)) (hX : ∀ i, base ≤ i → i < w.heap.size → X i) : FilX w X A fs := fun hl => by
  obtain ⟨b, o, e1, hb, hc⟩ := (Fils.own h) hl
  subst e1
  exact ⟨b, o, rfl, hX b (h.lt b rfl).1 hb, hb, hc⟩
def nam (f : Fl) : Value := .string (str f.name)
theorem nam_row (fs : List Fl) : (fs.map Fl.name).map encStr = fs.map nam := by rw [List.map_map]; rfl

theorem doP_gone5 {st : St} {a : ActD} (h : a.kind = 5) : (doP st a).2.1 = true := by unfold doP; rw [if_neg (by omega), if_pos h]
theorem doP_gone6 {st : St} {a : ActD} (h : a.kind = 6) : (doP st a).2.1 = false := by unfold doP; rw [if_pos h]; split <;> rfl
theorem doP_gone4 {st : St} {a : ActD} (h : a.kind ≤ 4) (hw : (doP st a).2.2 = 0) : (doP st a).2.1 = false := by
  unfold doP at hw ⊢
  rw [if_neg (by omega), if_neg (by omega)] at hw ⊢
  cases hd : st.down with
  | true => rw [hd] at hw; simp at hw
  | false =>
    simp only [Bool.false_eq_true, if_false]
    split
    · split <;> rfl
    · split
      · rfl
      · split
        · rfl
        · split
          · split <;> rfl
          · rfl
/-- where the loop stands -/
structure PlAt (w wr : World) (g : Nat) (st : St) (A : Option Addr) (c : Nat) : Prop where
  sto : ∃ X : Nat → Prop, Sto wr g X st ∧ (∀ i, i < w.heap.size → X i) ∧ FilX wr X A st.fs
  len : st.fs.length ≤ c
  bel : Below w.heap.size w wr

set_option maxHeartbeats 16000000 in
set_option maxRecDepth 100000 in
theorem walk (cap : Int) (A0 : Option Addr) (n ca : Nat) (f : Nat → ActD) (w : World) (hn : n ≤ 9223372036854775807) (hf : ∀ i, i < n → ActAt w w.heap.size A0 i (f i)) :
    Calls Try.prog 3 #[.int .i64 cap, .slice A0 n ca] w fun e w' => e = .returned (.bool true) ∧ Below w.heap.size w w' := by
  have HF := Lib.hid hf
  clear hf
  go_enter Try.func3, Try.ntmps3
  go_wp2_with fail
  refine (awake_any _).mono ?_
  rintro e W0 ⟨rfl, k0⟩
  have HF0 : Hid (∀ i, i < n → ActAt W0 W0.heap.size A0 i (f i)) := Lib.hid (fun i hi => by
    obtain ⟨ok, b, o, e, hlt, hc⟩ := (HF.out i hi).below k0
    refine ⟨⟨ok.k0, ok.k1, ok.n0, ok.n1, ok.s1, ok.b1, ok.ks1, ok.byt.more k0.size, ok.ints.more (fun i hi => Nat.lt_of_lt_of_le hi k0.size)⟩, b, o, e, Nat.lt_of_lt_of_le hlt k0.size, hc⟩)
  go_wp2_with fail
  refine (few_any A0 n ca f W0 hn HF0.out).mono ?_
  rintro e w' ⟨rfl, b, rfl, hfew⟩
  clear HF0
  cases b with
  | false =>
    clear hfew
    go_wp2
    go_ret
    exact ⟨rfl, k0⟩
  | true =>
    obtain ⟨hn40, hall⟩ := hfew rfl
    have HA := Lib.hid hall
    clear hfew hall
    by_cases hcr : cap < 1 ∨ 16777216 < cap
    · go_wp2_with fail
      refine (new_none cap W0 hcr).mono ?_
      rintro e W1 ⟨rfl, rfl⟩
      by_cases hc1 : cap < 1
      · clear hcr
        go_wp2
        go_ret
        exact ⟨rfl, k0⟩
      · have hc2 : 16777216 < cap := by omega
        clear hcr
        go_wp2
        go_ret
        exact ⟨rfl, k0⟩
    · obtain ⟨cp, rfl⟩ : ∃ cp : Nat, cap = (cp : Int) := ⟨cap.toNat, by omega⟩
      have hcp1 : 1 ≤ cp := by omega
      have hcp2 : cp ≤ 16777216 := by omega
      have hd1 : decide ((cp : Int) < 1) = false := by simp; omega
      have hd2 : decide ((16777216 : Int) < (cp : Int)) = false := by simp; omega
      clear hcr
      go_wp2_with fail
      refine (new_any cp W0 hcp1 hcp2).mono ?_
      rintro e W1 ⟨rfl, hS1, hb1⟩
      obtain ⟨g, hg⟩ : ∃ g, g = W0.heap.size + 1 := ⟨_, rfl⟩
      rw [← hg] at hS1 ⊢
      have hAt : PlAt w W1 g ⟨[], cp, 0, false⟩ none 0 := ⟨⟨_, hS1, fun i hi => Nat.lt_of_lt_of_le hi k0.size, fun h => absurd rfl h⟩, Nat.le_refl _, k0.trans (hb1.mono k0.size)⟩
      clear hg hb1 k0 hS1
      go_wp2
      go_loopw [6, 7, 8, 9] (fun x d fu i wr => ∃ (k : Nat) (st : St) (A : Option Addr) (c : Nat), k ≤ n ∧ i = .int .i64 k ∧ x = .slice A st.fs.length c ∧ d = .bool st.down ∧ fu = .int .i64 (st.fuse : Int) ∧ st.cap = cp ∧ PlAt w wr g st A c) (fun _ _ _ i _ => n - (intOf i).toNat)
      case atStart => exact ⟨0, ⟨[], cp, 0, false⟩, none, 0, by omega, rfl, rfl, rfl, rfl, rfl, hAt⟩
      case round =>
        obtain ⟨k, st, A, c, hk, rfl, rfl, rfl, rfl, hsc, hR⟩ := hrel
        clear hAt
        by_cases hkn : k < n
        · obtain ⟨hok0, b, o, rfl, hbl, _⟩ := HF.out k hkn
          obtain ⟨c0, c1, c2, c3, c4⟩ := (HF.out k hkn).five hR.bel
          obtain ⟨X, hS, hX, hx⟩ := hR.sto
          obtain ⟨a, ha⟩ : ∃ a, a = f k := ⟨_, rfl⟩
          rw [← ha] at c0 c1 c2 c3 c4 hok0
          have hoa := HA.out k hkn
          rw [← ha] at hoa
          have Hsc := Lib.hid hsc
          clear ha hsc
          have hbw := hR.bel
          have hlc := hR.len
          have hfb := hS.ok.fuse
          have hkb := hok0.k0
          have hkb2 := hok0.k1
          have hnb := hok0.n0
          have hnb2 := hok0.n1
          by_cases hkr : a.kind < 0 ∨ 7 < a.kind
          · by_cases hkr1 : a.kind < 0
            · clear hkr
              go_wp2
              go_ret
              exact ⟨rfl, hbw.alloc hbw.size _⟩
            · have hkr2 : 7 < a.kind := by omega
              clear hkr
              go_wp2
              go_ret
              exact ⟨rfl, hbw.alloc hbw.size _⟩
          · have hkr0 : 0 ≤ a.kind := by omega
            have hkr7 : a.kind ≤ 7 := by omega
            have dr0 : decide (a.kind < 0) = false := by simp; omega
            have dr7 : decide (7 < a.kind) = false := by simp; omega
            clear hkr
            obtain ⟨W2, hW2⟩ : ∃ W2, W2 = wr.alloc (.cells #[.int .i64 a.kind, .int .i64 a.n, .string a.s, .slice a.ba a.b.length a.bc, .slice a.ka a.ks.length a.kc] 31) := ⟨_, rfl⟩
            have hb2 : Below wr.heap.size wr W2 := by rw [hW2]; exact (Below.refl _ _).alloc (Nat.le_refl _) _
            have hbx : Box W2 wr.heap.size 31 #[.int .i64 a.kind, .int .i64 a.n, .string a.s, .slice a.ba a.b.length a.bc, .slice a.ka a.ks.length a.kc] := by rw [hW2]; exact Box.new _ _ _
            have hw2 := hbw.trans (hb2.mono hbw.size)
            have hS2 := hS.wide hb2
            obtain ⟨Y, hY⟩ : ∃ Y : Nat → Prop, Y = fun i => X i ∨ wr.heap.size ≤ i ∧ i < W2.heap.size := ⟨_, rfl⟩
            rw [← hY] at hS2
            have hYX : ∀ i, X i → Y i := fun i hi => by rw [hY]; exact .inl hi
            have hYa : Y wr.heap.size := by rw [hY]; exact .inr ⟨Nat.le_refl _, hbx.lt⟩
            have hx2 : FilX W2 Y A st.fs := (hx.keep (Keep.of_below hb2)).more hYX
            have hYw : ∀ i, i < w.heap.size → Y i := fun i hi => hYX i (hX i hi)
            by_cases k7 : a.kind = 7
            · have z7 : (a.kind == 7) = true := by simpa using k7
              have HC := Lib.hid (fuse_any g Y st W2 a.n hS2 hnb2)
              rw [hW2] at HC
              have HW2 := Lib.hid hW2
              have HBX := Lib.hid hbx
              have Hx2 := Lib.hid hx2
              have HYw := Lib.hid hYw
              have Hw2 := Lib.hid hw2
              clear k7 hS hx hS2 hbx hx2 hW2 hY hYX hb2 hw2 hX hR hYw hbw
              go_wp2_with fail
              refine HC.out.mono ?_
              rintro e W3 ⟨rfl, hS3, hK3⟩
              have hKW := hK3
              rw [← HW2.out] at hKW
              have q1 : W3.cell? ⟨wr.heap.size, 1, none⟩ = some (.int .i64 a.n) := (World.cell?_of_block (hKW.block wr.heap.size HBX.out.lt hYa)).trans (HBX.out.cell 1)
              have hN : PlAt w W3 g (st.setFuse a.n) A c := ⟨⟨Y, hS3, HYw.out, Hx2.out.keep hKW⟩, hlc, Hw2.out.trans (hKW.below Hw2.out.size HYw.out)⟩
              have hmx : max a.n 0 = ((st.setFuse a.n).fuse : Int) := by show _ = ((a.n.toNat : Nat) : Int); omega
              have Hmx := Lib.hid hmx
              clear hmx hS3 hK3 hKW HC HW2 HBX Hx2 hYa
              go_wp2
              go_roundw
              case rel => exact ⟨k + 1, st.setFuse a.n, A, c, by omega, by go_num, rfl, rfl, by rw [Hmx.out], Hsc.out, hN⟩
              case measure => simp [intOf]; omega
            · have z7 : (a.kind == 7) = false := by simpa using k7
              have hk6 : a.kind ≤ 6 := by omega
              have HC := Lib.hid (run_any g w.heap.size Y st a W2 hS2 (hok0.below hw2) hw2.size hYw hoa)
              have hrd := run_do (st := st) (a := a) hkr0 hk6
              obtain ⟨y, gone, want, hD⟩ : ∃ y gone want, doP st a = (y, gone, want) := ⟨_, _, _, rfl⟩
              obtain ⟨st', er, hr⟩ : ∃ st' er, runS st a = (st', er) := ⟨_, _, rfl⟩
              rw [hD, hr] at hrd
              simp only at hrd
              rw [hr] at HC
              rw [hW2] at HC
              have hokS := hS.ok
              have HDo : Hid (∀ W3, Below w.heap.size w W3 → Fils W3 W3.heap.size A st.fs → Calls Try.prog 12 #[.slice A st.fs.length c, .bool st.down, .int .i64 (cp : Int), .agg #[.int .i64 a.kind, .int .i64 a.n, .string a.s, .slice a.ba a.b.length a.bc, .slice a.ka a.ks.length a.kc]] W3 (DoIs W3 A c st.fs y gone want)) := Lib.hid (fun W3 hb hfil => by
                have := do_any A c st hokS a W3 hfil hlc (hok0.below hb) hb.size hoa hkr0 hk6
                rw [hD, Hsc.out] at this
                exact this)
              have HD := Lib.hid hD
              have HRD := Lib.hid hrd
              have HW2 := Lib.hid hW2
              have HBX := Lib.hid hbx
              have Hx2 := Lib.hid hx2
              have HYw := Lib.hid hYw
              have Hw2 := Lib.hid hw2
              have HOk := Lib.hid hokS
              clear k7 hS hx hS2 hbx hx2 hW2 hY hYX hb2 hw2 hX hR hYw hbw hD hr hrd hokS hok0 hoa
              go_wp2_with fail
              refine HC.out.mono ?_
              rintro e W3 ⟨rfl, hS3, hK3⟩
              have hKW := hK3
              rw [← HW2.out] at hKW
              have q3 : ∀ j v, (#[Value.int .i64 a.kind, .int .i64 a.n, .string a.s, .slice a.ba a.b.length a.bc, .slice a.ka a.ks.length a.kc] : Array Value)[j]? = some v → W3.cell? ⟨wr.heap.size, j, none⟩ = some v := fun j v hv => ((World.cell?_of_block (hKW.block wr.heap.size HBX.out.lt hYa)).trans (HBX.out.cell j)).trans hv
              have r0 := q3 0 _ rfl
              have r1 := q3 1 _ rfl
              have r2 := q3 2 _ rfl
              have r3 := q3 3 _ rfl
              have r4 := q3 4 _ rfl
              have hbl3 : wr.heap.size < W3.heap.size := Nat.lt_of_lt_of_le HBX.out.lt hKW.size
              have hb3 := Hw2.out.trans (hKW.below Hw2.out.size HYw.out)
              have fx3 := Hx2.out.keep hKW
              have Hfx3 := Lib.hid fx3
              simp only at hS3
              have HS3 := Lib.hid hS3
              clear q3 hKW hK3 HC HBX Hx2 hYa fx3 hS3 c0 c1 c2 c3 c4
              go_wp2_with fail
              refine (HDo.out W3 hb3 Hfx3.out.fils).mono ?_
              rintro e W4 ⟨A4, c4, rfl, hc4, hcase, hb4⟩
              obtain ⟨Z, hZ⟩ : ∃ Z : Nat → Prop, Z = fun i => Y i ∨ W3.heap.size ≤ i ∧ i < W4.heap.size := ⟨_, rfl⟩
              have hS4 : Sto W4 g Z st' := by rw [hZ]; exact HS3.out.wide hb4
              have hZY : ∀ i, Y i → Z i := fun i hi => by rw [hZ]; exact .inl hi
              have fx : FilX W4 Z A st.fs := (Hfx3.out.keep (Keep.of_below hb4)).more hZY
              have fy : FilX W4 Z A4 y := by
                rcases hcase with ⟨rfl, _, rfl⟩ | hrow
                · exact fx
                · exact FilX.own hrow (fun i h1 h2 => by rw [hZ]; exact .inr ⟨h1, h2⟩)
              have s0 : W4.cell? ⟨wr.heap.size, 0, none⟩ = some (.int .i64 a.kind) := (hb4.cell (p := ⟨wr.heap.size, 0, none⟩) hbl3).trans r0
              have hb5 := hb3.trans (hb4.mono hb3.size)
              have hZw : ∀ i, i < w.heap.size → Z i := fun i hi => hZY i (HYw.out i hi)
              have Hfx := Lib.hid fx
              have Hfy := Lib.hid fy
              have HS4 := Lib.hid hS4
              have HZw := Lib.hid hZw
              clear hcase fx fy hS4 hZY hZw hZ r0 r1 r2 r3 r4 hb3 hb4 Hfx3 HS3 HDo HYw HW2
              by_cases hburn : a.kind ≤ 4 ∧ want = 0 ∧ st.fuse = 1
              · obtain ⟨k4, hw0, hf1⟩ := hburn
                have e1 := HRD.out
                rw [if_pos ⟨k4, hw0, hf1⟩] at e1
                obtain ⟨e2, e3⟩ := Prod.mk.inj e1
                subst e2
                have z4 : decide (a.kind ≤ 4) = true := by simpa using k4
                have z5 : (a.kind == 5) = false := by simp; omega
                have wz : ((want : Int) == 0) = true := by simpa using hw0
                have fz : decide (0 < st.fuse) = true := by simp; omega
                have bz : (((st.fuse : Int) - 1) == 0) = true := by simp; omega
                have hf1' : 1 ≤ st.fuse := by omega
                have ez : ((er : Int) != 12) = false := by rw [e3]; rfl
                have Hf1 := Lib.hid hf1
                by_cases k1 : a.kind ≤ 1
                · have z1 : decide (a.kind ≤ 1) = true := by simpa using k1
                  have HSS : Hid (Sto W4 g Z ⟨y, st.cap, 0, true⟩) := Lib.hid (by have := HS4.out; rw [if_pos k1] at this; exact this)
                  clear e1 e3 HRD HS4 k4 hw0 hf1 k1
                  have hSS : Sto W4 g Z (⟨y, st.cap, 0, true⟩ : St) := HSS.out
                  have HDn := Lib.hid (down_any g Z (⟨y, st.cap, 0, true⟩ : St) W4 hSS)
                  have HNm := Lib.hid (names_any g Z (⟨y, st.cap, 0, true⟩ : St) W4 hSS)
                  have HSt := Lib.hid hSS
                  clear hSS
                  go_wp2_with fail
                  refine HDn.out.mono ?_
                  rintro e W5 ⟨rfl, rfl⟩
                  go_wp2_with fail
                  refine HNm.out.mono ?_
                  rintro e W6 ⟨v6, rfl, hrow6, hb6⟩
                  obtain ⟨A6, c6, rfl, hc6⟩ := own_form (n := 0) hrow6
                  have HFr := Lib.hid (free_any g Z (⟨y, st.cap, 0, true⟩ : St) W6 (HSt.out.below hb6))
                  have e7 : freeS (⟨y, st.cap, 0, true⟩ : St) = 0 := rfl
                  rw [e7] at HFr
                  clear e7 hrow6 hc6
                  go_wp2_with fail
                  refine HFr.out.mono ?_
                  rintro e W7 ⟨rfl, hb7⟩
                  have hN : PlAt w W7 g (⟨y, st.cap, 0, true⟩ : St) A4 c4 := ⟨⟨Z, (HSt.out.below hb6).below hb7, HZw.out, (Hfy.out.keep (Keep.of_below hb6)).keep (Keep.of_below hb7)⟩, hc4, (hb5.trans (hb6.mono hb5.size)).trans (hb7.mono (Nat.le_trans hb5.size hb6.size))⟩
                  clear HFr HDn HNm hb6 hb7 s0
                  go_wp2
                  go_roundw
                  case rel => exact ⟨k + 1, (⟨y, st.cap, 0, true⟩ : St), A4, c4, by omega, by go_num, rfl, rfl, (by rw [Hf1.out]; rfl), Hsc.out, hN⟩
                  case measure => simp [intOf]; omega
                · have z1 : decide (a.kind ≤ 1) = false := by simpa using k1
                  have HSS : Hid (Sto W4 g Z ⟨st.fs, st.cap, 0, true⟩) := Lib.hid (by have := HS4.out; rw [if_neg k1] at this; exact this)
                  clear e1 e3 HRD HS4 k4 hw0 hf1 k1
                  have hSS : Sto W4 g Z (⟨st.fs, st.cap, 0, true⟩ : St) := HSS.out
                  have HDn := Lib.hid (down_any g Z (⟨st.fs, st.cap, 0, true⟩ : St) W4 hSS)
                  have HNm := Lib.hid (names_any g Z (⟨st.fs, st.cap, 0, true⟩ : St) W4 hSS)
                  have HSt := Lib.hid hSS
                  clear hSS
                  go_wp2_with fail
                  refine HDn.out.mono ?_
                  rintro e W5 ⟨rfl, rfl⟩
                  go_wp2_with fail
                  refine HNm.out.mono ?_
                  rintro e W6 ⟨v6, rfl, hrow6, hb6⟩
                  obtain ⟨A6, c6, rfl, hc6⟩ := own_form (n := 0) hrow6
                  have HFr := Lib.hid (free_any g Z (⟨st.fs, st.cap, 0, true⟩ : St) W6 (HSt.out.below hb6))
                  have e7 : freeS (⟨st.fs, st.cap, 0, true⟩ : St) = 0 := rfl
                  rw [e7] at HFr
                  clear e7 hrow6 hc6
                  go_wp2_with fail
                  refine HFr.out.mono ?_
                  rintro e W7 ⟨rfl, hb7⟩
                  have hN : PlAt w W7 g (⟨st.fs, st.cap, 0, true⟩ : St) A c := ⟨⟨Z, (HSt.out.below hb6).below hb7, HZw.out, (Hfx.out.keep (Keep.of_below hb6)).keep (Keep.of_below hb7)⟩, hlc, (hb5.trans (hb6.mono hb5.size)).trans (hb7.mono (Nat.le_trans hb5.size hb6.size))⟩
                  clear HFr HDn HNm hb6 hb7 s0
                  go_wp2
                  go_roundw
                  case rel => exact ⟨k + 1, (⟨st.fs, st.cap, 0, true⟩ : St), A, c, by omega, by go_num, rfl, rfl, (by rw [Hf1.out]; rfl), Hsc.out, hN⟩
                  case measure => simp [intOf]; omega
              · have e1 := HRD.out
                rw [if_neg hburn] at e1
                obtain ⟨e2, e3⟩ := Prod.mk.inj e1
                subst e2
                obtain rfl : want = er := e3.symm
                have HFU : ∀ F : Nat, (if a.kind = 5 then 0 else if a.kind ≤ 4 ∧ want = 0 then st.fuse - 1 else st.fuse) = F → Hid (Sto W4 g Z ⟨y, st.cap, F, gone⟩) := fun F hF => Lib.hid (by rw [← hF]; exact HS4.out)
                clear e1 HRD HS4
                by_cases k5 : a.kind = 5
                · have hgn : gone = true := by have := doP_gone5 (st := st) k5; rw [HD.out] at this; exact this
                  subst hgn
                  have HSS := HFU 0 (by rw [if_pos k5])
                  have z5 : (a.kind == 5) = true := by simpa using k5
                  have z4 : decide (a.kind ≤ 4) = false := by simp; omega
                  clear HFU k5
                  have hSS : Sto W4 g Z (⟨y, st.cap, 0, true⟩ : St) := HSS.out
                  have HDn := Lib.hid (down_any g Z (⟨y, st.cap, 0, true⟩ : St) W4 hSS)
                  have HNm := Lib.hid (names_any g Z (⟨y, st.cap, 0, true⟩ : St) W4 hSS)
                  have HSt := Lib.hid hSS
                  clear hSS
                  go_wp2_with fail
                  refine HDn.out.mono ?_
                  rintro e W5 ⟨rfl, rfl⟩
                  go_wp2_with fail
                  refine HNm.out.mono ?_
                  rintro e W6 ⟨v6, rfl, hrow6, hb6⟩
                  obtain ⟨A6, c6, rfl, hc6⟩ := own_form (n := 0) hrow6
                  have HFr := Lib.hid (free_any g Z (⟨y, st.cap, 0, true⟩ : St) W6 (HSt.out.below hb6))
                  have e7 : freeS (⟨y, st.cap, 0, true⟩ : St) = 0 := rfl
                  rw [e7] at HFr
                  clear e7 hrow6 hc6
                  go_wp2_with fail
                  refine HFr.out.mono ?_
                  rintro e W7 ⟨rfl, hb7⟩
                  have hN : PlAt w W7 g (⟨y, st.cap, 0, true⟩ : St) A4 c4 := ⟨⟨Z, (HSt.out.below hb6).below hb7, HZw.out, (Hfy.out.keep (Keep.of_below hb6)).keep (Keep.of_below hb7)⟩, hc4, (hb5.trans (hb6.mono hb5.size)).trans (hb7.mono (Nat.le_trans hb5.size hb6.size))⟩
                  clear HFr HDn HNm hb6 hb7 s0
                  go_wp2
                  go_roundw
                  case rel => exact ⟨k + 1, (⟨y, st.cap, 0, true⟩ : St), A4, c4, by omega, by go_num, rfl, rfl, rfl, Hsc.out, hN⟩
                  case measure => simp [intOf]; omega
                · have z5 : (a.kind == 5) = false := by simpa using k5
                  by_cases k4 : a.kind ≤ 4
                  · have z4 : decide (a.kind ≤ 4) = true := by simpa using k4
                    by_cases hw0 : want = 0
                    · have hgn : gone = false := by have := doP_gone4 (st := st) k4 (by rw [HD.out]; exact hw0); rw [HD.out] at this; exact this
                      subst hgn
                      have wz : ((want : Int) == 0) = true := by simpa using hw0
                      by_cases hfz : st.fuse = 0
                      · have HSS := HFU 0 (by rw [if_neg k5, if_pos ⟨k4, hw0⟩, hfz])
                        have fz : decide (0 < st.fuse) = false := by simp [hfz]
                        have Hfz := Lib.hid hfz
                        clear HFU k5 k4 hw0 hfz hburn
                        have hSS : Sto W4 g Z (⟨y, st.cap, 0, false⟩ : St) := HSS.out
                        have hokN := hSS.ok
                        have HDn := Lib.hid (down_any g Z (⟨y, st.cap, 0, false⟩ : St) W4 hSS)
                        have HNm := Lib.hid (names_any g Z (⟨y, st.cap, 0, false⟩ : St) W4 hSS)
                        have HSt := Lib.hid hSS
                        have hmany : y.length ≤ 256 := hokN.many
                        have husd : usedF y ≤ cp := by have h1 := hokN.used; have h2 := Hsc.out; simp only at h1; omega
                        have HOkN := Lib.hid hokN
                        clear hSS hokN
                        go_wp2_with fail
                        refine HDn.out.mono ?_
                        rintro e W5 ⟨rfl, rfl⟩
                        go_wp2_with fail
                        refine HNm.out.mono ?_
                        rintro e W6 ⟨v6, rfl, hrow6, hb6⟩
                        have e6 : namesS (⟨y, st.cap, 0, false⟩ : St) = y.map Fl.name := rfl
                        rw [e6, nam_row, List.length_map] at hrow6
                        obtain ⟨A6, c6, rfl, hc6⟩ := own_form hrow6
                        have HR6 := Lib.hid hrow6
                        have HFr := Lib.hid (free_any g Z (⟨y, st.cap, 0, false⟩ : St) W6 (HSt.out.below hb6))
                        have e7 : ((freeS (⟨y, st.cap, 0, false⟩ : St) : Nat) : Int) = (cp : Int) - (usedF y : Int) := by
                          show (((st.cap - usedF y : Nat)) : Int) = _
                          rw [Hsc.out]
                          omega
                        rw [e7] at HFr
                        clear e6 e7 hrow6
                        go_wp2_with fail
                        refine HFr.out.mono ?_
                        rintro e W7 ⟨rfl, hb7⟩
                        have fil7 := (Hfy.out.keep (Keep.of_below hb6)).keep (Keep.of_below hb7)
                        have hb67 := hb6.trans (hb7.mono hb6.size)
                        have HUs := Lib.hid (rused_any A4 y c4 W7 fil7.fils (by omega) (by omega))
                        clear HFr HDn HNm
                        go_wp2_with fail
                        refine HUs.out.mono ?_
                        rintro e W8 ⟨rfl, rfl⟩
                        have hb8 := hb5.trans (hb67.mono hb5.size)
                        have HS7 := Lib.hid (HSt.out.below hb67)
                        have HR7 := Lib.hid (own_below HR6.out hb7)
                        have Hf7 := Lib.hid fil7
                        obtain ⟨m, hm⟩ : ∃ m, m = y.length := ⟨_, rfl⟩
                        have Hm := Lib.hid hm
                        rw [← hm] at hmany HR7 ⊢
                        clear HUs hb6 hb7 hb67 fil7 HR6 hm s0
                        go_wp2
                        go_loopw [17] (fun i wq => ∃ j : Nat, j ≤ m ∧ i = .int .i64 j ∧ Below W7.heap.size W7 wq) (fun i _ => m - (intOf i).toNat)
                        case atStart => exact ⟨0, by omega, rfl, Below.refl _ _⟩
                        case round =>
                          obtain ⟨j, hj, rfl, hbq⟩ := hrel
                          by_cases hjm : j < m
                          · have hjf : j < y.length := by rw [← Hm.out]; exact hjm
                            obtain ⟨nb, rfl, _, hnl, hncell⟩ := row_cell HR7.out hjm
                            obtain ⟨xb, xo, hxA, hxl, y0, y1, _, _⟩ := Hf7.out.fils.four hjf
                            obtain ⟨q, hq⟩ : ∃ q, q = y[j] := ⟨_, rfl⟩
                            rw [← hq] at y0 y1
                            have hqm : q ∈ y := by rw [hq]; exact List.getElem_mem hjf
                            have hnk : (y.map nam)[j]? = some (.string (str q.name)) := by rw [hq]; simp [hjf, nam]
                            rw [hnk] at hncell
                            obtain ⟨s, hs⟩ : ∃ s, s = str q.name := ⟨_, rfl⟩
                            obtain ⟨t, ht⟩ : ∃ t, t = str q.bs := ⟨_, rfl⟩
                            rw [← hs] at hncell y0
                            rw [← ht] at y1
                            have hsl : s.data.toList = q.name := by rw [hs]; rfl
                            have hss : s.size ≤ 1073741824 := by rw [hs, str_size]; exact (HOkN.out.good q hqm).2
                            have hrd : readB (⟨y, st.cap, 0, false⟩ : St) s.data.toList = q.bs ∧ readE (⟨y, st.cap, 0, false⟩ : St) s.data.toList = 0 := by
                              have := lookBy_mem HOkN.out.rise hqm
                              simp only at this
                              unfold readB readE
                              rw [hsl]
                              simp only [this]
                              exact ⟨rfl, rfl⟩
                            have HC := Lib.hid (read_any g Z (⟨y, st.cap, 0, false⟩ : St) s wr (HS7.out.below hbq) hss)
                            have n1 : wr.cell? ⟨nb, j, none⟩ = some (.string s) := (hbq.cell (p := ⟨nb, j, none⟩) hnl).trans hncell
                            have x0 : wr.cell? ⟨xb, xo + j * 4, none⟩ = some (.string s) := (hbq.cell (p := ⟨xb, xo + j * 4, none⟩) hxl).trans y0
                            have x1 : wr.cell? ⟨xb, xo + j * 4 + 1, none⟩ = some (.string t) := (hbq.cell (p := ⟨xb, xo + j * 4 + 1, none⟩) hxl).trans y1
                            have hnu : nb < wr.heap.size := Nat.lt_of_lt_of_le hnl hbq.size
                            have hxu : xb < wr.heap.size := Nat.lt_of_lt_of_le hxl hbq.size
                            have HRd := Lib.hid hrd
                            have Ht := Lib.hid ht
                            clear hq hqm hnk hs hsl hrd hncell y0 y1 ht
                            subst hxA
                            go_wp2_with fail
                            refine HC.out.mono ?_
                            intro e W9 hD9
                            obtain ⟨A9, c9, rfl, hby, hc9, hb9⟩ := read_to hD9 HRd.out.1 (z := 0) (by rw [HRd.out.2]; rfl)
                            have v0 : ∀ u, Below W9.heap.size W9 u → u.cell? ⟨nb, j, none⟩ = some (.string s) := fun u hu => ((hu.cell (p := ⟨nb, j, none⟩) (Nat.lt_of_lt_of_le hnu hb9.size)).trans (hb9.cell (p := ⟨nb, j, none⟩) hnu)).trans n1
                            have v1 : ∀ u, Below W9.heap.size W9 u → u.cell? ⟨xb, xo + j * 4, none⟩ = some (.string s) := fun u hu => ((hu.cell (p := ⟨xb, xo + j * 4, none⟩) (Nat.lt_of_lt_of_le hxu hb9.size)).trans (hb9.cell (p := ⟨xb, xo + j * 4, none⟩) hxu)).trans x0
                            have v2 : ∀ u, Below W9.heap.size W9 u → u.cell? ⟨xb, xo + j * 4 + 1, none⟩ = some (.string t) := fun u hu => ((hu.cell (p := ⟨xb, xo + j * 4 + 1, none⟩) (Nat.lt_of_lt_of_le hxu hb9.size)).trans (hb9.cell (p := ⟨xb, xo + j * 4 + 1, none⟩) hxu)).trans x1
                            have tx : ∀ u, Below W9.heap.size W9 u → (convert 28 9 (.slice A9 q.bs.length c9)).run Try.prog u = .ok (.string t) u := fun u hu => by
                              rw [Ht.out]
                              exact (hby.below hu).text (P := Try.prog) 28 5 9 Try.underlying28 Try.underlying5 Try.underlying9 c9
                            have hbq9 := hbq.trans (hb9.mono hbq.size)
                            clear hD9 HC hby n1 x0 x1 hbq hb9
                            go_wp2
                            go_region_held3 (fun u => Below W9.heap.size W9 u) (first | exact Below.refl _ _ | exact Below.drew (Below.refl _ _) | assumption)
                              (fail)
                            all_goals
                              clear tx v0 v1 v2
                              go_wp2
                              go_roundw
                              case rel => exact ⟨j + 1, by omega, by go_num, hbq9.drew⟩
                              case measure => simp [intOf]; omega
                          · obtain rfl : m = j := by omega
                            have hN : PlAt w wr g (⟨y, st.cap, 0, false⟩ : St) A4 c4 := ⟨⟨Z, HS7.out.below hbq, HZw.out, Hf7.out.keep (Keep.of_below hbq)⟩, hc4, hb8.trans (hbq.mono hb8.size)⟩
                            go_wp2
                            exact ⟨⟨k + 1, (⟨y, st.cap, 0, false⟩ : St), A4, c4, by omega, by go_num, by rw [Hm.out], rfl, (by rw [Hfz.out]), Hsc.out, hN⟩, by simp [intOf]; omega⟩
                      · have hf2 : 2 ≤ st.fuse := by
                          rcases Nat.lt_or_ge st.fuse 2 with h | h
                          · exact absurd ⟨k4, hw0, by omega⟩ hburn
                          · exact h
                        have HSS := HFU (st.fuse - 1) (by rw [if_neg k5, if_pos ⟨k4, hw0⟩])
                        have fz : decide (0 < st.fuse) = true := by simp; omega
                        have bz : (((st.fuse : Int) - 1) == 0) = false := by simp; omega
                        clear HFU k5 k4 hw0 hfz hburn
                        have hSS : Sto W4 g Z (⟨y, st.cap, (st.fuse - 1), false⟩ : St) := HSS.out
                        have hokN := hSS.ok
                        have HDn := Lib.hid (down_any g Z (⟨y, st.cap, (st.fuse - 1), false⟩ : St) W4 hSS)
                        have HNm := Lib.hid (names_any g Z (⟨y, st.cap, (st.fuse - 1), false⟩ : St) W4 hSS)
                        have HSt := Lib.hid hSS
                        have hmany : y.length ≤ 256 := hokN.many
                        have husd : usedF y ≤ cp := by have h1 := hokN.used; have h2 := Hsc.out; simp only at h1; omega
                        have HOkN := Lib.hid hokN
                        clear hSS hokN
                        go_wp2_with fail
                        refine HDn.out.mono ?_
                        rintro e W5 ⟨rfl, rfl⟩
                        go_wp2_with fail
                        refine HNm.out.mono ?_
                        rintro e W6 ⟨v6, rfl, hrow6, hb6⟩
                        have e6 : namesS (⟨y, st.cap, (st.fuse - 1), false⟩ : St) = y.map Fl.name := rfl
                        rw [e6, nam_row, List.length_map] at hrow6
                        obtain ⟨A6, c6, rfl, hc6⟩ := own_form hrow6
                        have HR6 := Lib.hid hrow6
                        have HFr := Lib.hid (free_any g Z (⟨y, st.cap, (st.fuse - 1), false⟩ : St) W6 (HSt.out.below hb6))
                        have e7 : ((freeS (⟨y, st.cap, (st.fuse - 1), false⟩ : St) : Nat) : Int) = (cp : Int) - (usedF y : Int) := by
                          show (((st.cap - usedF y : Nat)) : Int) = _
                          rw [Hsc.out]
                          omega
                        rw [e7] at HFr
                        clear e6 e7 hrow6
                        go_wp2_with fail
                        refine HFr.out.mono ?_
                        rintro e W7 ⟨rfl, hb7⟩
                        have fil7 := (Hfy.out.keep (Keep.of_below hb6)).keep (Keep.of_below hb7)
                        have hb67 := hb6.trans (hb7.mono hb6.size)
                        have HUs := Lib.hid (rused_any A4 y c4 W7 fil7.fils (by omega) (by omega))
                        clear HFr HDn HNm
                        go_wp2_with fail
                        refine HUs.out.mono ?_
                        rintro e W8 ⟨rfl, rfl⟩
                        have hb8 := hb5.trans (hb67.mono hb5.size)
                        have HS7 := Lib.hid (HSt.out.below hb67)
                        have HR7 := Lib.hid (own_below HR6.out hb7)
                        have Hf7 := Lib.hid fil7
                        obtain ⟨m, hm⟩ : ∃ m, m = y.length := ⟨_, rfl⟩
                        have Hm := Lib.hid hm
                        rw [← hm] at hmany HR7 ⊢
                        clear HUs hb6 hb7 hb67 fil7 HR6 hm s0
                        go_wp2
                        go_loopw [17] (fun i wq => ∃ j : Nat, j ≤ m ∧ i = .int .i64 j ∧ Below W7.heap.size W7 wq) (fun i _ => m - (intOf i).toNat)
                        case atStart => exact ⟨0, by omega, rfl, Below.refl _ _⟩
                        case round =>
                          obtain ⟨j, hj, rfl, hbq⟩ := hrel
                          by_cases hjm : j < m
                          · have hjf : j < y.length := by rw [← Hm.out]; exact hjm
                            obtain ⟨nb, rfl, _, hnl, hncell⟩ := row_cell HR7.out hjm
                            obtain ⟨xb, xo, hxA, hxl, y0, y1, _, _⟩ := Hf7.out.fils.four hjf
                            obtain ⟨q, hq⟩ : ∃ q, q = y[j] := ⟨_, rfl⟩
                            rw [← hq] at y0 y1
                            have hqm : q ∈ y := by rw [hq]; exact List.getElem_mem hjf
                            have hnk : (y.map nam)[j]? = some (.string (str q.name)) := by rw [hq]; simp [hjf, nam]
                            rw [hnk] at hncell
                            obtain ⟨s, hs⟩ : ∃ s, s = str q.name := ⟨_, rfl⟩
                            obtain ⟨t, ht⟩ : ∃ t, t = str q.bs := ⟨_, rfl⟩
                            rw [← hs] at hncell y0
                            rw [← ht] at y1
                            have hsl : s.data.toList = q.name := by rw [hs]; rfl
                            have hss : s.size ≤ 1073741824 := by rw [hs, str_size]; exact (HOkN.out.good q hqm).2
                            have hrd : readB (⟨y, st.cap, (st.fuse - 1), false⟩ : St) s.data.toList = q.bs ∧ readE (⟨y, st.cap, (st.fuse - 1), false⟩ : St) s.data.toList = 0 := by
                              have := lookBy_mem HOkN.out.rise hqm
                              simp only at this
                              unfold readB readE
                              rw [hsl]
                              simp only [this]
                              exact ⟨rfl, rfl⟩
                            have HC := Lib.hid (read_any g Z (⟨y, st.cap, (st.fuse - 1), false⟩ : St) s wr (HS7.out.below hbq) hss)
                            have n1 : wr.cell? ⟨nb, j, none⟩ = some (.string s) := (hbq.cell (p := ⟨nb, j, none⟩) hnl).trans hncell
                            have x0 : wr.cell? ⟨xb, xo + j * 4, none⟩ = some (.string s) := (hbq.cell (p := ⟨xb, xo + j * 4, none⟩) hxl).trans y0
                            have x1 : wr.cell? ⟨xb, xo + j * 4 + 1, none⟩ = some (.string t) := (hbq.cell (p := ⟨xb, xo + j * 4 + 1, none⟩) hxl).trans y1
                            have hnu : nb < wr.heap.size := Nat.lt_of_lt_of_le hnl hbq.size
                            have hxu : xb < wr.heap.size := Nat.lt_of_lt_of_le hxl hbq.size
                            have HRd := Lib.hid hrd
                            have Ht := Lib.hid ht
                            clear hq hqm hnk hs hsl hrd hncell y0 y1 ht
                            subst hxA
                            go_wp2_with fail
                            refine HC.out.mono ?_
                            intro e W9 hD9
                            obtain ⟨A9, c9, rfl, hby, hc9, hb9⟩ := read_to hD9 HRd.out.1 (z := 0) (by rw [HRd.out.2]; rfl)
                            have v0 : ∀ u, Below W9.heap.size W9 u → u.cell? ⟨nb, j, none⟩ = some (.string s) := fun u hu => ((hu.cell (p := ⟨nb, j, none⟩) (Nat.lt_of_lt_of_le hnu hb9.size)).trans (hb9.cell (p := ⟨nb, j, none⟩) hnu)).trans n1
                            have v1 : ∀ u, Below W9.heap.size W9 u → u.cell? ⟨xb, xo + j * 4, none⟩ = some (.string s) := fun u hu => ((hu.cell (p := ⟨xb, xo + j * 4, none⟩) (Nat.lt_of_lt_of_le hxu hb9.size)).trans (hb9.cell (p := ⟨xb, xo + j * 4, none⟩) hxu)).trans x0
                            have v2 : ∀ u, Below W9.heap.size W9 u → u.cell? ⟨xb, xo + j * 4 + 1, none⟩ = some (.string t) := fun u hu => ((hu.cell (p := ⟨xb, xo + j * 4 + 1, none⟩) (Nat.lt_of_lt_of_le hxu hb9.size)).trans (hb9.cell (p := ⟨xb, xo + j * 4 + 1, none⟩) hxu)).trans x1
                            have tx : ∀ u, Below W9.heap.size W9 u → (convert 28 9 (.slice A9 q.bs.length c9)).run Try.prog u = .ok (.string t) u := fun u hu => by
                              rw [Ht.out]
                              exact (hby.below hu).text (P := Try.prog) 28 5 9 Try.underlying28 Try.underlying5 Try.underlying9 c9
                            have hbq9 := hbq.trans (hb9.mono hbq.size)
                            clear hD9 HC hby n1 x0 x1 hbq hb9
                            go_wp2
                            go_region_held3 (fun u => Below W9.heap.size W9 u) (first | exact Below.refl _ _ | exact Below.drew (Below.refl _ _) | assumption)
                              (fail)
                            all_goals
                              clear tx v0 v1 v2
                              go_wp2
                              go_roundw
                              case rel => exact ⟨j + 1, by omega, by go_num, hbq9.drew⟩
                              case measure => simp [intOf]; omega
                          · obtain rfl : m = j := by omega
                            have hN : PlAt w wr g (⟨y, st.cap, (st.fuse - 1), false⟩ : St) A4 c4 := ⟨⟨Z, HS7.out.below hbq, HZw.out, Hf7.out.keep (Keep.of_below hbq)⟩, hc4, hb8.trans (hbq.mono hb8.size)⟩
                            go_wp2
                            exact ⟨⟨k + 1, (⟨y, st.cap, (st.fuse - 1), false⟩ : St), A4, c4, by omega, by go_num, by rw [Hm.out], rfl, (by rw [show ((st.fuse - 1 : Nat) : Int) = (st.fuse : Int) - 1 by omega]), Hsc.out, hN⟩, by simp [intOf]; omega⟩
                    · have wz : ((want : Int) == 0) = false := by simpa using hw0
                      have HSS := HFU st.fuse (by rw [if_neg k5, if_neg (fun h => hw0 h.2)])
                      clear HFU k5 k4 hw0 hburn
                      cases gone with
                      | true =>
                        have hSS : Sto W4 g Z (⟨y, st.cap, st.fuse, true⟩ : St) := HSS.out
                        have HDn := Lib.hid (down_any g Z (⟨y, st.cap, st.fuse, true⟩ : St) W4 hSS)
                        have HNm := Lib.hid (names_any g Z (⟨y, st.cap, st.fuse, true⟩ : St) W4 hSS)
                        have HSt := Lib.hid hSS
                        clear hSS
                        go_wp2_with fail
                        refine HDn.out.mono ?_
                        rintro e W5 ⟨rfl, rfl⟩
                        go_wp2_with fail
                        refine HNm.out.mono ?_
                        rintro e W6 ⟨v6, rfl, hrow6, hb6⟩
                        obtain ⟨A6, c6, rfl, hc6⟩ := own_form (n := 0) hrow6
                        have HFr := Lib.hid (free_any g Z (⟨y, st.cap, st.fuse, true⟩ : St) W6 (HSt.out.below hb6))
                        have e7 : freeS (⟨y, st.cap, st.fuse, true⟩ : St) = 0 := rfl
                        rw [e7] at HFr
                        clear e7 hrow6 hc6
                        go_wp2_with fail
                        refine HFr.out.mono ?_
                        rintro e W7 ⟨rfl, hb7⟩
                        have hN : PlAt w W7 g (⟨y, st.cap, st.fuse, true⟩ : St) A4 c4 := ⟨⟨Z, (HSt.out.below hb6).below hb7, HZw.out, (Hfy.out.keep (Keep.of_below hb6)).keep (Keep.of_below hb7)⟩, hc4, (hb5.trans (hb6.mono hb5.size)).trans (hb7.mono (Nat.le_trans hb5.size hb6.size))⟩
                        clear HFr HDn HNm hb6 hb7 s0
                        go_wp2
                        go_roundw
                        case rel => exact ⟨k + 1, (⟨y, st.cap, st.fuse, true⟩ : St), A4, c4, by omega, by go_num, rfl, rfl, rfl, Hsc.out, hN⟩
                        case measure => simp [intOf]; omega
                      | false =>
                        have hSS : Sto W4 g Z (⟨y, st.cap, st.fuse, false⟩ : St) := HSS.out
                        have hokN := hSS.ok
                        have HDn := Lib.hid (down_any g Z (⟨y, st.cap, st.fuse, false⟩ : St) W4 hSS)
                        have HNm := Lib.hid (names_any g Z (⟨y, st.cap, st.fuse, false⟩ : St) W4 hSS)
                        have HSt := Lib.hid hSS
                        have hmany : y.length ≤ 256 := hokN.many
                        have husd : usedF y ≤ cp := by have h1 := hokN.used; have h2 := Hsc.out; simp only at h1; omega
                        have HOkN := Lib.hid hokN
                        clear hSS hokN
                        go_wp2_with fail
                        refine HDn.out.mono ?_
                        rintro e W5 ⟨rfl, rfl⟩
                        go_wp2_with fail
                        refine HNm.out.mono ?_
                        rintro e W6 ⟨v6, rfl, hrow6, hb6⟩
                        have e6 : namesS (⟨y, st.cap, st.fuse, false⟩ : St) = y.map Fl.name := rfl
                        rw [e6, nam_row, List.length_map] at hrow6
                        obtain ⟨A6, c6, rfl, hc6⟩ := own_form hrow6
                        have HR6 := Lib.hid hrow6
                        have HFr := Lib.hid (free_any g Z (⟨y, st.cap, st.fuse, false⟩ : St) W6 (HSt.out.below hb6))
                        have e7 : ((freeS (⟨y, st.cap, st.fuse, false⟩ : St) : Nat) : Int) = (cp : Int) - (usedF y : Int) := by
                          show (((st.cap - usedF y : Nat)) : Int) = _
                          rw [Hsc.out]
                          omega
                        rw [e7] at HFr
                        clear e6 e7 hrow6
                        go_wp2_with fail
                        refine HFr.out.mono ?_
                        rintro e W7 ⟨rfl, hb7⟩
                        have fil7 := (Hfy.out.keep (Keep.of_below hb6)).keep (Keep.of_below hb7)
                        have hb67 := hb6.trans (hb7.mono hb6.size)
                        have HUs := Lib.hid (rused_any A4 y c4 W7 fil7.fils (by omega) (by omega))
                        clear HFr HDn HNm
                        go_wp2_with fail
                        refine HUs.out.mono ?_
                        rintro e W8 ⟨rfl, rfl⟩
                        have hb8 := hb5.trans (hb67.mono hb5.size)
                        have HS7 := Lib.hid (HSt.out.below hb67)
                        have HR7 := Lib.hid (own_below HR6.out hb7)
                        have Hf7 := Lib.hid fil7
                        obtain ⟨m, hm⟩ : ∃ m, m = y.length := ⟨_, rfl⟩
                        have Hm := Lib.hid hm
                        rw [← hm] at hmany HR7 ⊢
                        clear HUs hb6 hb7 hb67 fil7 HR6 hm s0
                        go_wp2
                        go_loopw [17] (fun i wq => ∃ j : Nat, j ≤ m ∧ i = .int .i64 j ∧ Below W7.heap.size W7 wq) (fun i _ => m - (intOf i).toNat)
                        case atStart => exact ⟨0, by omega, rfl, Below.refl _ _⟩
                        case round =>
                          obtain ⟨j, hj, rfl, hbq⟩ := hrel
                          by_cases hjm : j < m
                          · have hjf : j < y.length := by rw [← Hm.out]; exact hjm
                            obtain ⟨nb, rfl, _, hnl, hncell⟩ := row_cell HR7.out hjm
                            obtain ⟨xb, xo, hxA, hxl, y0, y1, _, _⟩ := Hf7.out.fils.four hjf
                            obtain ⟨q, hq⟩ : ∃ q, q = y[j] := ⟨_, rfl⟩
                            rw [← hq] at y0 y1
                            have hqm : q ∈ y := by rw [hq]; exact List.getElem_mem hjf
                            have hnk : (y.map nam)[j]? = some (.string (str q.name)) := by rw [hq]; simp [hjf, nam]
                            rw [hnk] at hncell
                            obtain ⟨s, hs⟩ : ∃ s, s = str q.name := ⟨_, rfl⟩
                            obtain ⟨t, ht⟩ : ∃ t, t = str q.bs := ⟨_, rfl⟩
                            rw [← hs] at hncell y0
                            rw [← ht] at y1
                            have hsl : s.data.toList = q.name := by rw [hs]; rfl
                            have hss : s.size ≤ 1073741824 := by rw [hs, str_size]; exact (HOkN.out.good q hqm).2
                            have hrd : readB (⟨y, st.cap, st.fuse, false⟩ : St) s.data.toList = q.bs ∧ readE (⟨y, st.cap, st.fuse, false⟩ : St) s.data.toList = 0 := by
                              have := lookBy_mem HOkN.out.rise hqm
                              simp only at this
                              unfold readB readE
                              rw [hsl]
                              simp only [this]
                              exact ⟨rfl, rfl⟩
                            have HC := Lib.hid (read_any g Z (⟨y, st.cap, st.fuse, false⟩ : St) s wr (HS7.out.below hbq) hss)
                            have n1 : wr.cell? ⟨nb, j, none⟩ = some (.string s) := (hbq.cell (p := ⟨nb, j, none⟩) hnl).trans hncell
                            have x0 : wr.cell? ⟨xb, xo + j * 4, none⟩ = some (.string s) := (hbq.cell (p := ⟨xb, xo + j * 4, none⟩) hxl).trans y0
                            have x1 : wr.cell? ⟨xb, xo + j * 4 + 1, none⟩ = some (.string t) := (hbq.cell (p := ⟨xb, xo + j * 4 + 1, none⟩) hxl).trans y1
                            have hnu : nb < wr.heap.size := Nat.lt_of_lt_of_le hnl hbq.size
                            have hxu : xb < wr.heap.size := Nat.lt_of_lt_of_le hxl hbq.size
                            have HRd := Lib.hid hrd
                            have Ht := Lib.hid ht
                            clear hq hqm hnk hs hsl hrd hncell y0 y1 ht
                            subst hxA
                            go_wp2_with fail
                            refine HC.out.mono ?_
                            intro e W9 hD9
                            obtain ⟨A9, c9, rfl, hby, hc9, hb9⟩ := read_to hD9 HRd.out.1 (z := 0) (by rw [HRd.out.2]; rfl)
                            have v0 : ∀ u, Below W9.heap.size W9 u → u.cell? ⟨nb, j, none⟩ = some (.string s) := fun u hu => ((hu.cell (p := ⟨nb, j, none⟩) (Nat.lt_of_lt_of_le hnu hb9.size)).trans (hb9.cell (p := ⟨nb, j, none⟩) hnu)).trans n1
                            have v1 : ∀ u, Below W9.heap.size W9 u → u.cell? ⟨xb, xo + j * 4, none⟩ = some (.string s) := fun u hu => ((hu.cell (p := ⟨xb, xo + j * 4, none⟩) (Nat.lt_of_lt_of_le hxu hb9.size)).trans (hb9.cell (p := ⟨xb, xo + j * 4, none⟩) hxu)).trans x0
                            have v2 : ∀ u, Below W9.heap.size W9 u → u.cell? ⟨xb, xo + j * 4 + 1, none⟩ = some (.string t) := fun u hu => ((hu.cell (p := ⟨xb, xo + j * 4 + 1, none⟩) (Nat.lt_of_lt_of_le hxu hb9.size)).trans (hb9.cell (p := ⟨xb, xo + j * 4 + 1, none⟩) hxu)).trans x1
                            have tx : ∀ u, Below W9.heap.size W9 u → (convert 28 9 (.slice A9 q.bs.length c9)).run Try.prog u = .ok (.string t) u := fun u hu => by
                              rw [Ht.out]
                              exact (hby.below hu).text (P := Try.prog) 28 5 9 Try.underlying28 Try.underlying5 Try.underlying9 c9
                            have hbq9 := hbq.trans (hb9.mono hbq.size)
                            clear hD9 HC hby n1 x0 x1 hbq hb9
                            go_wp2
                            go_region_held3 (fun u => Below W9.heap.size W9 u) (first | exact Below.refl _ _ | exact Below.drew (Below.refl _ _) | assumption)
                              (fail)
                            all_goals
                              clear tx v0 v1 v2
                              go_wp2
                              go_roundw
                              case rel => exact ⟨j + 1, by omega, by go_num, hbq9.drew⟩
                              case measure => simp [intOf]; omega
                          · obtain rfl : m = j := by omega
                            have hN : PlAt w wr g (⟨y, st.cap, st.fuse, false⟩ : St) A4 c4 := ⟨⟨Z, HS7.out.below hbq, HZw.out, Hf7.out.keep (Keep.of_below hbq)⟩, hc4, hb8.trans (hbq.mono hb8.size)⟩
                            go_wp2
                            exact ⟨⟨k + 1, (⟨y, st.cap, st.fuse, false⟩ : St), A4, c4, by omega, by go_num, by rw [Hm.out], rfl, rfl, Hsc.out, hN⟩, by simp [intOf]; omega⟩
                  · have z4 : decide (a.kind ≤ 4) = false := by simpa using k4
                    have k6 : a.kind = 6 := by omega
                    have hgn : gone = false := by have := doP_gone6 (st := st) k6; rw [HD.out] at this; exact this
                    subst hgn
                    have HSS := HFU st.fuse (by rw [if_neg k5, if_neg (fun h => k4 h.1)])
                    clear HFU k5 k4 hburn k6
                    have hSS : Sto W4 g Z (⟨y, st.cap, st.fuse, false⟩ : St) := HSS.out
                    have hokN := hSS.ok
                    have HDn := Lib.hid (down_any g Z (⟨y, st.cap, st.fuse, false⟩ : St) W4 hSS)
                    have HNm := Lib.hid (names_any g Z (⟨y, st.cap, st.fuse, false⟩ : St) W4 hSS)
                    have HSt := Lib.hid hSS
                    have hmany : y.length ≤ 256 := hokN.many
                    have husd : usedF y ≤ cp := by have h1 := hokN.used; have h2 := Hsc.out; simp only at h1; omega
                    have HOkN := Lib.hid hokN
                    clear hSS hokN
                    go_wp2_with fail
                    refine HDn.out.mono ?_
                    rintro e W5 ⟨rfl, rfl⟩
                    go_wp2_with fail
                    refine HNm.out.mono ?_
                    rintro e W6 ⟨v6, rfl, hrow6, hb6⟩
                    have e6 : namesS (⟨y, st.cap, st.fuse, false⟩ : St) = y.map Fl.name := rfl
                    rw [e6, nam_row, List.length_map] at hrow6
                    obtain ⟨A6, c6, rfl, hc6⟩ := own_form hrow6
                    have HR6 := Lib.hid hrow6
                    have HFr := Lib.hid (free_any g Z (⟨y, st.cap, st.fuse, false⟩ : St) W6 (HSt.out.below hb6))
                    have e7 : ((freeS (⟨y, st.cap, st.fuse, false⟩ : St) : Nat) : Int) = (cp : Int) - (usedF y : Int) := by
                      show (((st.cap - usedF y : Nat)) : Int) = _
                      rw [Hsc.out]
                      omega
                    rw [e7] at HFr
                    clear e6 e7 hrow6
                    go_wp2_with fail
                    refine HFr.out.mono ?_
                    rintro e W7 ⟨rfl, hb7⟩
                    have fil7 := (Hfy.out.keep (Keep.of_below hb6)).keep (Keep.of_below hb7)
                    have hb67 := hb6.trans (hb7.mono hb6.size)
                    have HUs := Lib.hid (rused_any A4 y c4 W7 fil7.fils (by omega) (by omega))
                    clear HFr HDn HNm
                    go_wp2_with fail
                    refine HUs.out.mono ?_
                    rintro e W8 ⟨rfl, rfl⟩
                    have hb8 := hb5.trans (hb67.mono hb5.size)
                    have HS7 := Lib.hid (HSt.out.below hb67)
                    have HR7 := Lib.hid (own_below HR6.out hb7)
                    have Hf7 := Lib.hid fil7
                    obtain ⟨m, hm⟩ : ∃ m, m = y.length := ⟨_, rfl⟩
                    have Hm := Lib.hid hm
                    rw [← hm] at hmany HR7 ⊢
                    clear HUs hb6 hb7 hb67 fil7 HR6 hm s0
                    go_wp2
                    go_loopw [17] (fun i wq => ∃ j : Nat, j ≤ m ∧ i = .int .i64 j ∧ Below W7.heap.size W7 wq) (fun i _ => m - (intOf i).toNat)
                    case atStart => exact ⟨0, by omega, rfl, Below.refl _ _⟩
                    case round =>
                      obtain ⟨j, hj, rfl, hbq⟩ := hrel
                      by_cases hjm : j < m
                      · have hjf : j < y.length := by rw [← Hm.out]; exact hjm
                        obtain ⟨nb, rfl, _, hnl, hncell⟩ := row_cell HR7.out hjm
                        obtain ⟨xb, xo, hxA, hxl, y0, y1, _, _⟩ := Hf7.out.fils.four hjf
                        obtain ⟨q, hq⟩ : ∃ q, q = y[j] := ⟨_, rfl⟩
                        rw [← hq] at y0 y1
                        have hqm : q ∈ y := by rw [hq]; exact List.getElem_mem hjf
                        have hnk : (y.map nam)[j]? = some (.string (str q.name)) := by rw [hq]; simp [hjf, nam]
                        rw [hnk] at hncell
                        obtain ⟨s, hs⟩ : ∃ s, s = str q.name := ⟨_, rfl⟩
                        obtain ⟨t, ht⟩ : ∃ t, t = str q.bs := ⟨_, rfl⟩
                        rw [← hs] at hncell y0
                        rw [← ht] at y1
                        have hsl : s.data.toList = q.name := by rw [hs]; rfl
                        have hss : s.size ≤ 1073741824 := by rw [hs, str_size]; exact (HOkN.out.good q hqm).2
                        have hrd : readB (⟨y, st.cap, st.fuse, false⟩ : St) s.data.toList = q.bs ∧ readE (⟨y, st.cap, st.fuse, false⟩ : St) s.data.toList = 0 := by
                          have := lookBy_mem HOkN.out.rise hqm
                          simp only at this
                          unfold readB readE
                          rw [hsl]
                          simp only [this]
                          exact ⟨rfl, rfl⟩
                        have HC := Lib.hid (read_any g Z (⟨y, st.cap, st.fuse, false⟩ : St) s wr (HS7.out.below hbq) hss)
                        have n1 : wr.cell? ⟨nb, j, none⟩ = some (.string s) := (hbq.cell (p := ⟨nb, j, none⟩) hnl).trans hncell
                        have x0 : wr.cell? ⟨xb, xo + j * 4, none⟩ = some (.string s) := (hbq.cell (p := ⟨xb, xo + j * 4, none⟩) hxl).trans y0
                        have x1 : wr.cell? ⟨xb, xo + j * 4 + 1, none⟩ = some (.string t) := (hbq.cell (p := ⟨xb, xo + j * 4 + 1, none⟩) hxl).trans y1
                        have hnu : nb < wr.heap.size := Nat.lt_of_lt_of_le hnl hbq.size
                        have hxu : xb < wr.heap.size := Nat.lt_of_lt_of_le hxl hbq.size
                        have HRd := Lib.hid hrd
                        have Ht := Lib.hid ht
                        clear hq hqm hnk hs hsl hrd hncell y0 y1 ht
                        subst hxA
                        go_wp2_with fail
                        refine HC.out.mono ?_
                        intro e W9 hD9
                        obtain ⟨A9, c9, rfl, hby, hc9, hb9⟩ := read_to hD9 HRd.out.1 (z := 0) (by rw [HRd.out.2]; rfl)
                        have v0 : ∀ u, Below W9.heap.size W9 u → u.cell? ⟨nb, j, none⟩ = some (.string s) := fun u hu => ((hu.cell (p := ⟨nb, j, none⟩) (Nat.lt_of_lt_of_le hnu hb9.size)).trans (hb9.cell (p := ⟨nb, j, none⟩) hnu)).trans n1
                        have v1 : ∀ u, Below W9.heap.size W9 u → u.cell? ⟨xb, xo + j * 4, none⟩ = some (.string s) := fun u hu => ((hu.cell (p := ⟨xb, xo + j * 4, none⟩) (Nat.lt_of_lt_of_le hxu hb9.size)).trans (hb9.cell (p := ⟨xb, xo + j * 4, none⟩) hxu)).trans x0
                        have v2 : ∀ u, Below W9.heap.size W9 u → u.cell? ⟨xb, xo + j * 4 + 1, none⟩ = some (.string t) := fun u hu => ((hu.cell (p := ⟨xb, xo + j * 4 + 1, none⟩) (Nat.lt_of_lt_of_le hxu hb9.size)).trans (hb9.cell (p := ⟨xb, xo + j * 4 + 1, none⟩) hxu)).trans x1
                        have tx : ∀ u, Below W9.heap.size W9 u → (convert 28 9 (.slice A9 q.bs.length c9)).run Try.prog u = .ok (.string t) u := fun u hu => by
                          rw [Ht.out]
                          exact (hby.below hu).text (P := Try.prog) 28 5 9 Try.underlying28 Try.underlying5 Try.underlying9 c9
                        have hbq9 := hbq.trans (hb9.mono hbq.size)
                        clear hD9 HC hby n1 x0 x1 hbq hb9
                        go_wp2
                        go_region_held3 (fun u => Below W9.heap.size W9 u) (first | exact Below.refl _ _ | exact Below.drew (Below.refl _ _) | assumption)
                          (fail)
                        all_goals
                          clear tx v0 v1 v2
                          go_wp2
                          go_roundw
                          case rel => exact ⟨j + 1, by omega, by go_num, hbq9.drew⟩
                          case measure => simp [intOf]; omega
                      · obtain rfl : m = j := by omega
                        have hN : PlAt w wr g (⟨y, st.cap, st.fuse, false⟩ : St) A4 c4 := ⟨⟨Z, HS7.out.below hbq, HZw.out, Hf7.out.keep (Keep.of_below hbq)⟩, hc4, hb8.trans (hbq.mono hb8.size)⟩
                        go_wp2
                        exact ⟨⟨k + 1, (⟨y, st.cap, st.fuse, false⟩ : St), A4, c4, by omega, by go_num, by rw [Hm.out], rfl, rfl, Hsc.out, hN⟩, by simp [intOf]; omega⟩
        · obtain rfl : n = k := by omega
          have hbw := hR.bel
          go_wp2
          go_ret
          exact ⟨rfl, hbw⟩
end Go.Proofs.Ythfekmmcdfkigaa.storePlays
