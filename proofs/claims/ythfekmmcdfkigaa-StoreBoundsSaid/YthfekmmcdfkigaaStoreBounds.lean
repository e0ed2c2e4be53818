/-
  StoreBounds: whatever is done, the files' bytes fit, their names rise, and are names; what a crash leaves is no more than there was.
  Conditions: none.
-/
import Derived.Test.YthfekmmcdfkigaaStoBoundsMath
import Derived.Test.YthfekmmcdfkigaaLabRefs
import Derived.IntWalk
import Derived.Laws.Cover1
import Derived.Sort.Walk0
namespace Go.Proofs.Ythfekmmcdfkigaa.storeBounds
open Go.ChangeShapes Go.WideShapes Go.ChangeAt Go.RowKit Go.Maps

def nam (f : Fl) : Value := .string ⟨f.name.toArray⟩
theorem nam_row (fs : List Fl) : (fs.map Fl.name).map encStr = fs.map nam := by rw [List.map_map]; rfl
theorem size_of' (s : ByteArray) : s.size = s.data.toList.length := by rw [Array.length_toList]; rfl

/-- where the loop stands -/
structure At (w wr : World) (g : Nat) (X : Nat → Prop) (cap u : Nat) : Prop where
  st : ∃ st, Sto wr g X st ∧ st.cap = cap ∧ st.fuse = 0 ∧ usedF st.fs = u
  bel : Below w.heap.size w wr

set_option maxHeartbeats 8000000 in
set_option maxRecDepth 100000 in
theorem walk (c : Nat) (A : Option Addr) (n ca : Nat) (f : Nat → ActD) (w : World) (hc : c < 65536) (hn : n ≤ 9223372036854775807) (hf : ∀ i, i < n → ActAt w w.heap.size A i (f i)) :
    Calls Try.prog 5 #[.int .u16 (c : Int), .slice A n ca] w fun e w' => e = .returned (.bool true) ∧ Below w.heap.size w w' := by
  have HF := Lib.hid hf
  clear hf
  go_enter Try.func5, Try.ntmps5
  go_wp2_with fail
  refine (awake_any _).mono ?_
  rintro e W0 ⟨rfl, k0⟩
  have HF0 : Hid (∀ i, i < n → ActAt W0 W0.heap.size A i (f i)) := Lib.hid (fun i hi => by
    obtain ⟨ok, b, o, e, hlt, hc⟩ := (HF.out i hi).below k0
    refine ⟨⟨ok.k0, ok.k1, ok.n0, ok.n1, ok.s1, ok.b1, ok.ks1, ok.byt.more k0.size, ok.ints.more (fun i hi => Nat.lt_of_lt_of_le hi k0.size)⟩, b, o, e, Nat.lt_of_lt_of_le hlt k0.size, hc⟩)
  go_wp2_with fail
  refine (few_any A n ca f W0 hn HF0.out).mono ?_
  rintro e w' ⟨rfl, b, rfl, hfew⟩
  clear HF0
  cases b with
  | false =>
    clear hfew
    go_wp2
    go_ret
    exact ⟨rfl, k0⟩
  | true =>
    obtain ⟨hn40, hall⟩ := hfew rfl
    have HA := Lib.hid hall
    clear hfew hall
    go_wp2_with fail
    obtain ⟨cap, hcap⟩ : ∃ cap : Nat, cap = 1 + c % 2000 := ⟨_, rfl⟩
    have hcp : (1 : Int) + (c : Int) % 2000 = (cap : Int) := by rw [hcap]; omega
    have hcap1 : 1 ≤ cap := by omega
    have hcap2 : cap ≤ 2000 := by omega
    rw [hcp]
    clear hcap hcp
    refine (new_any cap W0 hcap1 (by omega)).mono ?_
    rintro e W1 ⟨rfl, hS1, hb1⟩
    obtain ⟨X, hX⟩ : ∃ X : Nat → Prop, X = fun i => i < W0.heap.size := ⟨_, rfl⟩
    rw [← hX] at hS1
    obtain ⟨g, hg⟩ : ∃ g, g = W0.heap.size + 1 := ⟨_, rfl⟩
    rw [← hg] at hS1 ⊢
    have HX := Lib.hid (fun i (hi : i < w.heap.size) => (by rw [hX]; exact Nat.lt_of_lt_of_le hi k0.size : X i))
    have hAt : At w W1 g X cap 0 := ⟨⟨_, hS1, rfl, rfl, rfl⟩, k0.trans (hb1.mono k0.size)⟩
    clear hX hg hb1 k0 hS1
    go_wp2
    go_loopw [7, 8] (fun v i wr => ∃ k u : Nat, k ≤ n ∧ i = .int .i64 k ∧ v = .int .i64 u ∧ At w wr g X cap u) (fun _ i _ => n - (intOf i).toNat)
    case atStart => exact ⟨0, 0, by omega, rfl, rfl, hAt⟩
    case round =>
      obtain ⟨k, u, hk, rfl, rfl, hR⟩ := hrel
      clear hAt
      by_cases hkn : k < n
      · obtain ⟨hok0, b, o, rfl, hbl, _⟩ := HF.out k hkn
        obtain ⟨c0, c1, c2, c3, c4⟩ := (HF.out k hkn).five hR.bel
        obtain ⟨st, hS, hsc, hsf, hsu⟩ := hR.st
        obtain ⟨a, ha⟩ : ∃ a, a = f k := ⟨_, rfl⟩
        rw [← ha] at c0 c1 c2 c3 c4 hok0
        have hoa := HA.out k hkn
        rw [← ha] at hoa
        have hbw := hR.bel
        obtain ⟨W2, hW2⟩ : ∃ W2, W2 = wr.alloc (.cells #[.int .i64 a.kind, .int .i64 a.n, .string a.s, .slice a.ba a.b.length a.bc, .slice a.ka a.ks.length a.kc] 31) := ⟨_, rfl⟩
        have hb2 : Below wr.heap.size wr W2 := by rw [hW2]; exact (Below.refl _ _).alloc (Nat.le_refl _) _
        have hbx : Box W2 wr.heap.size 31 #[.int .i64 a.kind, .int .i64 a.n, .string a.s, .slice a.ba a.b.length a.bc, .slice a.ka a.ks.length a.kc] := by rw [hW2]; exact Box.new _ _ _
        have hw2 := hbw.trans (hb2.mono hbw.size)
        have hS2 := (hS.wide hb2)
        obtain ⟨Y, hY⟩ : ∃ Y : Nat → Prop, Y = fun i => X i ∨ wr.heap.size ≤ i ∧ i < W2.heap.size := ⟨_, rfl⟩
        rw [← hY] at hS2
        have hYX : ∀ i, X i → Y i := fun i hi => by rw [hY]; exact .inl hi
        have hYa : Y wr.heap.size := by rw [hY]; exact .inr ⟨Nat.le_refl _, hbx.lt⟩
        have HC := Lib.hid (run_any g w.heap.size Y st a W2 hS2 (hok0.below hw2) hw2.size (fun i hi => hYX i (HX.out i hi)) hoa)
        rw [hW2] at HC
        have HKp := Lib.hid (run_keeps hsf a)
        have HBt := Lib.hid (fun h6 h0 => run_boot (st := st) (a := a) h6 h0)
        obtain ⟨st', er, hr⟩ : ∃ st' er, runS st a = (st', er) := ⟨_, _, rfl⟩
        rw [hr] at HC HKp HBt
        have HYX := Lib.hid hYX
        have Hsu := Lib.hid hsu
        have Hsc := Lib.hid hsc
        have HW2 := Lib.hid hW2
        have HBX := Lib.hid hbx
        have Hw2 := Lib.hid hw2
        have hkb := hok0.k0
        have hkb2 := hok0.k1
        clear hok0 hoa hbw hb2 hbx hw2 hS2 hY hYX hW2 hr hsc hsf hsu hS ha hR
        go_wp2_with fail
        refine HC.out.mono ?_
        rintro e W3 ⟨rfl, hS3, hK3⟩
        have hKW := hK3
        rw [← HW2.out] at hKW
        have kc : W3.cell? ⟨wr.heap.size, 0, none⟩ = some (.int .i64 a.kind) := (World.cell?_of_block (hKW.block wr.heap.size HBX.out.lt hYa)).trans (HBX.out.cell 0)
        have hb3 := Hw2.out.trans (hKW.below Hw2.out.size (fun i hi => HYX.out i (HX.out i hi)))
        have hok3 := hS3.ok
        have hus := hok3.used
        have hcp3 : st'.cap = cap := HKp.out.cap.trans Hsc.out
        have hfz3 : st'.fuse = 0 := HKp.out.fuse
        simp only at hus
        rw [hcp3] at hus
        have hfr : freeS st' = if st'.down then 0 else cap - usedF st'.fs := by unfold freeS; rw [hcp3]
        have HCP := Lib.hid hcp3
        have HFZ := Lib.hid hfz3
        have HFR := Lib.hid hfr
        have HSame : Hid (st'.down = true → usedF st'.fs = u) := Lib.hid (fun h => by rw [HKp.out.same h]; exact Hsu.out)
        have HBo : Hid (a.kind = 6 → er = 0 → st'.down = false ∧ usedF st'.fs ≤ u) := Lib.hid (fun h1 h2 => by have := HBt.out h1 h2; rw [Hsu.out] at this; exact this)
        have HOk := Lib.hid hok3
        obtain ⟨u', hu'⟩ : ∃ u', u' = usedF st'.fs := ⟨_, rfl⟩
        rw [← hu'] at hus HFR HSame HBo
        have Hu' := Lib.hid hu'
        clear hKW hK3 HC HKp HBt Hsu Hsc HW2 HBX hok3 hcp3 hfz3 hfr hu' c0 c1 c2 c3 c4 hYa Hw2
        by_cases q6 : er = 0 ∧ a.kind = 6
        · obtain ⟨q0, q6⟩ := q6
          obtain ⟨hd, hle⟩ := HBo.out q6 q0
          have z6 : (a.kind == 6) = true := by simpa using q6
          subst q0
          clear q6 HBo HSame
          have hF : freeS st' = cap - u' := by rw [HFR.out, hd]; rfl
          have HF2 := Lib.hid (free_any g Y st' W3 hS3)
          rw [hF] at HF2
          have hcast : ((cap - u' : Nat) : Int) = (cap : Int) - (u' : Int) := by omega
          rw [hcast] at HF2
          have Hd := Lib.hid hd
          clear hF hd hcast
          go_wp2_with fail
          refine HF2.out.mono ?_
          rintro e W4 ⟨rfl, hb4⟩
          have hS4 := hS3.below hb4
          have hb5 := hb3.trans (hb4.mono hb3.size)
          have hgt : decide ((u : Int) < (cap : Int) - ((cap : Int) - (u' : Int))) = false := by simp; omega
          clear HF2 hS3 hb3 hb4 kc
          have hF : freeS st' = cap - u' := by rw [HFR.out, Hd.out]; rfl
          have hcast : ((cap - u' : Nat) : Int) = (cap : Int) - (u' : Int) := by omega
          have hnm : namesS st' = st'.fs.map Fl.name := by unfold namesS; rw [Hd.out]; rfl
          have HD2 := Lib.hid (fun W (h : Sto W g Y st') => down_any g Y st' W h)
          rw [Hd.out] at HD2
          go_wp2_with fail
          refine (HD2.out _ hS4).mono ?_
          rintro e W5 ⟨rfl, rfl⟩
          have HF3 := Lib.hid (free_any g Y st' W4 hS4)
          rw [hF, hcast] at HF3
          clear hF hcast HD2
          go_wp2_with fail
          refine HF3.out.mono ?_
          rintro e W6 ⟨rfl, hb6⟩
          have hS6 := hS4.below hb6
          have hb7 := hb5.trans (hb6.mono hb5.size)
          clear HF3 hS4 hb5 hb6
          go_wp2_with fail
          refine (names_any g Y st' W6 hS6).mono ?_
          rintro e W8 ⟨v8, rfl, hrow8, hb8⟩
          rw [hnm, nam_row, List.length_map] at hrow8
          obtain ⟨A8, c8, rfl, hc8⟩ := own_form hrow8
          have hb9 := hb7.trans (hb8.mono hb7.size)
          have HS8 := Lib.hid ((hS6.below hb8).less HYX.out)
          have HR8 := Lib.hid hrow8
          have hmany := HOk.out.many
          obtain ⟨m, hm⟩ : ∃ m, m = st'.fs.length := ⟨_, rfl⟩
          rw [← hm] at hmany hc8 HR8 ⊢
          have Hm := Lib.hid hm
          have Hb9 := Lib.hid hb9
          clear hrow8 hS6 hb8 hb7 hnm hm hb9
          have e9 : (cap : Int) - ((cap : Int) - (u' : Int)) = (u' : Int) := by omega
          rw [e9]
          clear e9
          go_wp2
          go_loopw [12] (fun i wq => ∃ j : Nat, j ≤ m ∧ i = .int .i64 j ∧ Below W8.heap.size W8 wq) (fun i _ => m - (intOf i).toNat)
          case atStart => exact ⟨0, by omega, rfl, Below.refl _ _⟩
          case round =>
            obtain ⟨j, hj, rfl, hbq⟩ := hrel
            by_cases hjm : j < m
            · have hjf : j < st'.fs.length := by rw [← Hm.out]; exact hjm
              have hsh : ∀ i (hi : i < st'.fs.length), ∃ s : ByteArray, s.data.toList = st'.fs[i].name ∧ s.size ≤ 1000000 ∧ nameB s.data.toList = true ∧ (st'.fs.map nam)[i]? = some (.string s) := fun i hi => by
                have hgd := HOk.out.good st'.fs[i] (List.getElem_mem hi)
                refine ⟨⟨st'.fs[i].name.toArray⟩, by simp, ?_, by simpa using hgd.1, by simp [hi, nam]⟩
                rw [size_of']
                have := name_len hgd.1
                simp
                omega
              obtain ⟨nb, rfl, hb0, hbl, hcell⟩ := row_cell HR8.out hjm
              obtain ⟨s, hs1, hs2, hs3, hs4⟩ := hsh j hjf
              rw [hs4] at hcell
              have n0 : wr.cell? ⟨nb, j, none⟩ = some (.string s) := (hbq.cell (p := ⟨nb, j, none⟩) hbl).trans hcell
              have HG : Hid (∀ W, Calls Try.prog 22 #[.string s] W fun e w' => e = .returned (.bool true) ∧ w' = W) := Lib.hid (fun W => by have := rgood_any s W hs2; rw [hs3] at this; exact this.mono fun e w' ⟨h1, h2⟩ => ⟨h1, h2.symm⟩)
              clear hs2 hs3 hs4 hcell hb0
              rcases Nat.eq_zero_or_pos j with hj0 | hj0
              · have z1 : decide (0 < j) = false := by simp; omega
                clear hsh hj0 hs1
                go_wp2
                go_quiet ((go_at_call 22; exact Calls.quiet_of_same (HG.out _)))
                go_wp2
                go_roundw
                case rel => exact ⟨j + 1, by omega, by go_num, ⟨hbq.os, hbq.tape, hbq.output, hbq.size, hbq.block⟩⟩
                case measure => simp [intOf]; omega
              · obtain ⟨i, hij⟩ : ∃ i, j = i + 1 := ⟨j - 1, by omega⟩
                have him : i < m := by omega
                obtain ⟨t, ht1, ht2, ht3, ht4⟩ := hsh i (by omega)
                obtain ⟨nb', e', hb0', hbl', hcell'⟩ := row_cell HR8.out him
                injection e' with e'
                injection e' with e'
                subst e'
                rw [ht4] at hcell'
                have p0 : wr.cell? ⟨nb, i, none⟩ = some (.string t) := (hbq.cell (p := ⟨nb, i, none⟩) hbl').trans hcell'
                have hlt : t.data.toList < s.data.toList := by
                  rw [ht1, hs1]
                  exact List.pairwise_iff_getElem.1 HOk.out.rise i j (by omega) hjf (by omega)
                have z1 : decide (0 < j) = true := by simpa using hj0
                have zb : Op.bytesLess t.toList s.toList = true := by rw [bytesLess_eq, ByteArray.toList_eq, ByteArray.toList_eq]; simpa using hlt
                have hw1 : IntKind.i64.wrap ((j : Int) - 1) = (i : Int) := by rw [IntWalk.i64_in _ (by omega)]; omega
                clear hsh hcell' ht2 ht3 ht4 hb0' hbl' hs1 ht1 hj0 hij
                go_wp2
                go_quiet ((go_at_call 22; exact Calls.quiet_of_same (HG.out _)))
                go_wp2
                go_roundw
                case rel => exact ⟨j + 1, by omega, by go_num, ⟨hbq.os, hbq.tape, hbq.output, hbq.size, hbq.block⟩⟩
                case measure => simp [intOf]; omega
            · obtain rfl : m = j := by omega
              go_wp2
              exact ⟨⟨k + 1, u', by omega, by go_num, rfl, ⟨⟨st', HS8.out.below hbq, HCP.out, HFZ.out, Hu'.out.symm⟩, Hb9.out.trans (hbq.mono Hb9.out.size)⟩⟩, by simp [intOf]; omega⟩
        · by_cases q0 : er = 0
          · have q6' : a.kind ≠ 6 := fun h => q6 ⟨q0, h⟩
            have z6 : (a.kind == 6) = false := by simpa using q6'
            subst q0
            clear q6 q6' HBo
            have hS4 := hS3
            have hb5 := hb3
            clear hS3 hb3
            cases hd : st'.down with
            | true =>
              have HD2 := Lib.hid (down_any g Y st' _ hS4)
              rw [hd] at HD2
              have hu := HSame.out hd
              clear hd
              go_wp2_with fail
              refine HD2.out.mono ?_
              rintro e W5 ⟨rfl, rfl⟩
              have hN : At w W3 g X cap u := ⟨⟨st', hS4.less HYX.out, HCP.out, HFZ.out, by rw [← Hu'.out, hu]⟩, hb5⟩
              clear HD2 hS4 hb5 hu
              go_wp2
              go_roundw
              case rel => exact ⟨k + 1, u, by omega, by go_num, rfl, hN⟩
              case measure => simp [intOf]; omega
            | false =>
              have Hd := Lib.hid hd
              clear hd
              have hF : freeS st' = cap - u' := by rw [HFR.out, Hd.out]; rfl
              have hcast : ((cap - u' : Nat) : Int) = (cap : Int) - (u' : Int) := by omega
              have hnm : namesS st' = st'.fs.map Fl.name := by unfold namesS; rw [Hd.out]; rfl
              have HD2 := Lib.hid (fun W (h : Sto W g Y st') => down_any g Y st' W h)
              rw [Hd.out] at HD2
              go_wp2_with fail
              refine (HD2.out _ hS4).mono ?_
              rintro e W5 ⟨rfl, rfl⟩
              have HF3 := Lib.hid (free_any g Y st' W3 hS4)
              rw [hF, hcast] at HF3
              clear hF hcast HD2
              go_wp2_with fail
              refine HF3.out.mono ?_
              rintro e W6 ⟨rfl, hb6⟩
              have hS6 := hS4.below hb6
              have hb7 := hb5.trans (hb6.mono hb5.size)
              clear HF3 hS4 hb5 hb6
              go_wp2_with fail
              refine (names_any g Y st' W6 hS6).mono ?_
              rintro e W8 ⟨v8, rfl, hrow8, hb8⟩
              rw [hnm, nam_row, List.length_map] at hrow8
              obtain ⟨A8, c8, rfl, hc8⟩ := own_form hrow8
              have hb9 := hb7.trans (hb8.mono hb7.size)
              have HS8 := Lib.hid ((hS6.below hb8).less HYX.out)
              have HR8 := Lib.hid hrow8
              have hmany := HOk.out.many
              obtain ⟨m, hm⟩ : ∃ m, m = st'.fs.length := ⟨_, rfl⟩
              rw [← hm] at hmany hc8 HR8 ⊢
              have Hm := Lib.hid hm
              have Hb9 := Lib.hid hb9
              clear hrow8 hS6 hb8 hb7 hnm hm hb9
              have e9 : (cap : Int) - ((cap : Int) - (u' : Int)) = (u' : Int) := by omega
              rw [e9]
              clear e9
              go_wp2
              go_loopw [12] (fun i wq => ∃ j : Nat, j ≤ m ∧ i = .int .i64 j ∧ Below W8.heap.size W8 wq) (fun i _ => m - (intOf i).toNat)
              case atStart => exact ⟨0, by omega, rfl, Below.refl _ _⟩
              case round =>
                obtain ⟨j, hj, rfl, hbq⟩ := hrel
                by_cases hjm : j < m
                · have hjf : j < st'.fs.length := by rw [← Hm.out]; exact hjm
                  have hsh : ∀ i (hi : i < st'.fs.length), ∃ s : ByteArray, s.data.toList = st'.fs[i].name ∧ s.size ≤ 1000000 ∧ nameB s.data.toList = true ∧ (st'.fs.map nam)[i]? = some (.string s) := fun i hi => by
                    have hgd := HOk.out.good st'.fs[i] (List.getElem_mem hi)
                    refine ⟨⟨st'.fs[i].name.toArray⟩, by simp, ?_, by simpa using hgd.1, by simp [hi, nam]⟩
                    rw [size_of']
                    have := name_len hgd.1
                    simp
                    omega
                  obtain ⟨nb, rfl, hb0, hbl, hcell⟩ := row_cell HR8.out hjm
                  obtain ⟨s, hs1, hs2, hs3, hs4⟩ := hsh j hjf
                  rw [hs4] at hcell
                  have n0 : wr.cell? ⟨nb, j, none⟩ = some (.string s) := (hbq.cell (p := ⟨nb, j, none⟩) hbl).trans hcell
                  have HG : Hid (∀ W, Calls Try.prog 22 #[.string s] W fun e w' => e = .returned (.bool true) ∧ w' = W) := Lib.hid (fun W => by have := rgood_any s W hs2; rw [hs3] at this; exact this.mono fun e w' ⟨h1, h2⟩ => ⟨h1, h2.symm⟩)
                  clear hs2 hs3 hs4 hcell hb0
                  rcases Nat.eq_zero_or_pos j with hj0 | hj0
                  · have z1 : decide (0 < j) = false := by simp; omega
                    clear hsh hj0 hs1
                    go_wp2
                    go_quiet ((go_at_call 22; exact Calls.quiet_of_same (HG.out _)))
                    go_wp2
                    go_roundw
                    case rel => exact ⟨j + 1, by omega, by go_num, ⟨hbq.os, hbq.tape, hbq.output, hbq.size, hbq.block⟩⟩
                    case measure => simp [intOf]; omega
                  · obtain ⟨i, hij⟩ : ∃ i, j = i + 1 := ⟨j - 1, by omega⟩
                    have him : i < m := by omega
                    obtain ⟨t, ht1, ht2, ht3, ht4⟩ := hsh i (by omega)
                    obtain ⟨nb', e', hb0', hbl', hcell'⟩ := row_cell HR8.out him
                    injection e' with e'
                    injection e' with e'
                    subst e'
                    rw [ht4] at hcell'
                    have p0 : wr.cell? ⟨nb, i, none⟩ = some (.string t) := (hbq.cell (p := ⟨nb, i, none⟩) hbl').trans hcell'
                    have hlt : t.data.toList < s.data.toList := by
                      rw [ht1, hs1]
                      exact List.pairwise_iff_getElem.1 HOk.out.rise i j (by omega) hjf (by omega)
                    have z1 : decide (0 < j) = true := by simpa using hj0
                    have zb : Op.bytesLess t.toList s.toList = true := by rw [bytesLess_eq, ByteArray.toList_eq, ByteArray.toList_eq]; simpa using hlt
                    have hw1 : IntKind.i64.wrap ((j : Int) - 1) = (i : Int) := by rw [IntWalk.i64_in _ (by omega)]; omega
                    clear hsh hcell' ht2 ht3 ht4 hb0' hbl' hs1 ht1 hj0 hij
                    go_wp2
                    go_quiet ((go_at_call 22; exact Calls.quiet_of_same (HG.out _)))
                    go_wp2
                    go_roundw
                    case rel => exact ⟨j + 1, by omega, by go_num, ⟨hbq.os, hbq.tape, hbq.output, hbq.size, hbq.block⟩⟩
                    case measure => simp [intOf]; omega
                · obtain rfl : m = j := by omega
                  go_wp2
                  exact ⟨⟨k + 1, u', by omega, by go_num, rfl, ⟨⟨st', HS8.out.below hbq, HCP.out, HFZ.out, Hu'.out.symm⟩, Hb9.out.trans (hbq.mono Hb9.out.size)⟩⟩, by simp [intOf]; omega⟩
          · have z0 : ((er : Int) == 0) = false := by simpa using q0
            have hS4 := hS3
            have hb5 := hb3
            clear hS3 hb3 q6 q0 HBo
            cases hd : st'.down with
            | true =>
              have HD2 := Lib.hid (down_any g Y st' _ hS4)
              rw [hd] at HD2
              have hu := HSame.out hd
              clear hd
              go_wp2_with fail
              refine HD2.out.mono ?_
              rintro e W5 ⟨rfl, rfl⟩
              have hN : At w W3 g X cap u := ⟨⟨st', hS4.less HYX.out, HCP.out, HFZ.out, by rw [← Hu'.out, hu]⟩, hb5⟩
              clear HD2 hS4 hb5 hu
              go_wp2
              go_roundw
              case rel => exact ⟨k + 1, u, by omega, by go_num, rfl, hN⟩
              case measure => simp [intOf]; omega
            | false =>
              have Hd := Lib.hid hd
              clear hd
              have hF : freeS st' = cap - u' := by rw [HFR.out, Hd.out]; rfl
              have hcast : ((cap - u' : Nat) : Int) = (cap : Int) - (u' : Int) := by omega
              have hnm : namesS st' = st'.fs.map Fl.name := by unfold namesS; rw [Hd.out]; rfl
              have HD2 := Lib.hid (fun W (h : Sto W g Y st') => down_any g Y st' W h)
              rw [Hd.out] at HD2
              go_wp2_with fail
              refine (HD2.out _ hS4).mono ?_
              rintro e W5 ⟨rfl, rfl⟩
              have HF3 := Lib.hid (free_any g Y st' W3 hS4)
              rw [hF, hcast] at HF3
              clear hF hcast HD2
              go_wp2_with fail
              refine HF3.out.mono ?_
              rintro e W6 ⟨rfl, hb6⟩
              have hS6 := hS4.below hb6
              have hb7 := hb5.trans (hb6.mono hb5.size)
              clear HF3 hS4 hb5 hb6
              go_wp2_with fail
              refine (names_any g Y st' W6 hS6).mono ?_
              rintro e W8 ⟨v8, rfl, hrow8, hb8⟩
              rw [hnm, nam_row, List.length_map] at hrow8
              obtain ⟨A8, c8, rfl, hc8⟩ := own_form hrow8
              have hb9 := hb7.trans (hb8.mono hb7.size)
              have HS8 := Lib.hid ((hS6.below hb8).less HYX.out)
              have HR8 := Lib.hid hrow8
              have hmany := HOk.out.many
              obtain ⟨m, hm⟩ : ∃ m, m = st'.fs.length := ⟨_, rfl⟩
              rw [← hm] at hmany hc8 HR8 ⊢
              have Hm := Lib.hid hm
              have Hb9 := Lib.hid hb9
              clear hrow8 hS6 hb8 hb7 hnm hm hb9
              have e9 : (cap : Int) - ((cap : Int) - (u' : Int)) = (u' : Int) := by omega
              rw [e9]
              clear e9
              go_wp2
              go_loopw [12] (fun i wq => ∃ j : Nat, j ≤ m ∧ i = .int .i64 j ∧ Below W8.heap.size W8 wq) (fun i _ => m - (intOf i).toNat)
              case atStart => exact ⟨0, by omega, rfl, Below.refl _ _⟩
              case round =>
                obtain ⟨j, hj, rfl, hbq⟩ := hrel
                by_cases hjm : j < m
                · have hjf : j < st'.fs.length := by rw [← Hm.out]; exact hjm
                  have hsh : ∀ i (hi : i < st'.fs.length), ∃ s : ByteArray, s.data.toList = st'.fs[i].name ∧ s.size ≤ 1000000 ∧ nameB s.data.toList = true ∧ (st'.fs.map nam)[i]? = some (.string s) := fun i hi => by
                    have hgd := HOk.out.good st'.fs[i] (List.getElem_mem hi)
                    refine ⟨⟨st'.fs[i].name.toArray⟩, by simp, ?_, by simpa using hgd.1, by simp [hi, nam]⟩
                    rw [size_of']
                    have := name_len hgd.1
                    simp
                    omega
                  obtain ⟨nb, rfl, hb0, hbl, hcell⟩ := row_cell HR8.out hjm
                  obtain ⟨s, hs1, hs2, hs3, hs4⟩ := hsh j hjf
                  rw [hs4] at hcell
                  have n0 : wr.cell? ⟨nb, j, none⟩ = some (.string s) := (hbq.cell (p := ⟨nb, j, none⟩) hbl).trans hcell
                  have HG : Hid (∀ W, Calls Try.prog 22 #[.string s] W fun e w' => e = .returned (.bool true) ∧ w' = W) := Lib.hid (fun W => by have := rgood_any s W hs2; rw [hs3] at this; exact this.mono fun e w' ⟨h1, h2⟩ => ⟨h1, h2.symm⟩)
                  clear hs2 hs3 hs4 hcell hb0
                  rcases Nat.eq_zero_or_pos j with hj0 | hj0
                  · have z1 : decide (0 < j) = false := by simp; omega
                    clear hsh hj0 hs1
                    go_wp2
                    go_quiet ((go_at_call 22; exact Calls.quiet_of_same (HG.out _)))
                    go_wp2
                    go_roundw
                    case rel => exact ⟨j + 1, by omega, by go_num, ⟨hbq.os, hbq.tape, hbq.output, hbq.size, hbq.block⟩⟩
                    case measure => simp [intOf]; omega
                  · obtain ⟨i, hij⟩ : ∃ i, j = i + 1 := ⟨j - 1, by omega⟩
                    have him : i < m := by omega
                    obtain ⟨t, ht1, ht2, ht3, ht4⟩ := hsh i (by omega)
                    obtain ⟨nb', e', hb0', hbl', hcell'⟩ := row_cell HR8.out him
                    injection e' with e'
                    injection e' with e'
                    subst e'
                    rw [ht4] at hcell'
                    have p0 : wr.cell? ⟨nb, i, none⟩ = some (.string t) := (hbq.cell (p := ⟨nb, i, none⟩) hbl').trans hcell'
                    have hlt : t.data.toList < s.data.toList := by
                      rw [ht1, hs1]
                      exact List.pairwise_iff_getElem.1 HOk.out.rise i j (by omega) hjf (by omega)
                    have z1 : decide (0 < j) = true := by simpa using hj0
                    have zb : Op.bytesLess t.toList s.toList = true := by rw [bytesLess_eq, ByteArray.toList_eq, ByteArray.toList_eq]; simpa using hlt
                    have hw1 : IntKind.i64.wrap ((j : Int) - 1) = (i : Int) := by rw [IntWalk.i64_in _ (by omega)]; omega
                    clear hsh hcell' ht2 ht3 ht4 hb0' hbl' hs1 ht1 hj0 hij
                    go_wp2
                    go_quiet ((go_at_call 22; exact Calls.quiet_of_same (HG.out _)))
                    go_wp2
                    go_roundw
                    case rel => exact ⟨j + 1, by omega, by go_num, ⟨hbq.os, hbq.tape, hbq.output, hbq.size, hbq.block⟩⟩
                    case measure => simp [intOf]; omega
                · obtain rfl : m = j := by omega
                  go_wp2
                  exact ⟨⟨k + 1, u', by omega, by go_num, rfl, ⟨⟨st', HS8.out.below hbq, HCP.out, HFZ.out, Hu'.out.symm⟩, Hb9.out.trans (hbq.mono Hb9.out.size)⟩⟩, by simp [intOf]; omega⟩
      · obtain rfl : n = k := by omega
        go_wp2
        go_ret
        exact ⟨rfl, hR.bel⟩

theorem word_wf {x : Int} (h : (Lit.int .u16 x).wf = true) : 0 ≤ x ∧ x < 65536 := by
  have h1 : IntKind.u16.min = 0 := rfl
  have h2 : IntKind.u16.max = 65535 := rfl
  simp only [Lit.wf, Bool.and_eq_true, decide_eq_true_eq] at h
  omega
set_option maxRecDepth 1000000 in
theorem lifted (os : Os) (started : os.Started) (H : Type) (enc : TypeId × Value → H) :
    ReturnsInHanded {} Try.checked os 5 .any (Rows.storeBoundsSpec.pre6 enc Try.prog Try.f5 Rows.storeBoundsRow.domain false) (Rows.storeBoundsSpec.post enc Try.prog Try.f5 false true false false) := by
  refine returnsInHanded_of_change_sized (C := Try.checked) own started (by kernel_rfl) Try.func5
    (ChangeSpec.witness6 (enc := enc) (C := Try.checked) false ⟨#[], #[.int .u16 0, .slice none 0 0], []⟩ 8 (by kernel_rfl) (by kernel_rfl) (by kernel_rfl) (by kernel_rfl)) ?_
  intro W base args ds gs before hval0 hW _ _ _
  have hval : ∀ (j : Nat) t v, Try.f5.params[j]? = some t → args[j]? = some v → Value.okWide Try.prog W .any base t v := hval0
  have hW' := hW
  obtain ⟨p, q, hA0, hV, rfl, _, _⟩ := hW
  have hA : DataW.TrodAll enc Try.prog W 0 (fun _ => true) true Try.f5.params.toList args.toList ds p := hA0
  rw [Try.params5] at hA hval
  obtain ⟨rfl, rfl⟩ := trodVars_none hV
  obtain ⟨v0, vs0, d0, ds0, p0, q0, hargs, rfl, rfl, h0, r0⟩ := trodAll_cons hA
  obtain ⟨v1, vs1, d1, ds1, p1, q1, rfl, rfl, rfl, h1, r1⟩ := trodAll_cons r0
  obtain ⟨rfl, rfl, rfl⟩ := trodAll_nil r1
  obtain rfl : args = #[v0, v1] := by cases args; simp_all
  obtain ⟨c, rfl, rfl, rfl, w0⟩ := open_int Try.underlying50 (hval 0 50 v0 rfl rfl) h0
  obtain ⟨a1, len, cap, rfl⟩ := okWide_slice Try.underlying22 (hval 1 22 v1 rfl rfl)
  clear hA0 hval0
  simp only [List.append_nil] at hW'
  have hlt1 : ∀ x ∈ p1, x.block < W.heap.size := fun x hx => by simpa using hW'.lt x (by simp [hx])
  obtain ⟨f, hc0, hm0, hat⟩ := arg_acts h1
  have h16 := word_wf w0
  obtain ⟨n1, rfl⟩ : ∃ n : Nat, c = (n : Int) := ⟨c.toNat, by omega⟩
  refine (walk n1 a1 len cap f W (by omega) hm0 hat).mono fun e W' ⟨he, bel⟩ => ?_
  subst he
  exact ⟨_, rfl, _, _, _, [], _, [], hW', trodAll_mk1 (shut_bool Try.underlying4 _), (trodAll_cons_mk (shut_int Try.underlying50 w0) (trodAll_cons_mk (Below.trod laidOut (by kernel_rfl) (of_decide_eq_true (by kernel_rfl)) h1 bel hlt1) trodAll_mk0)), rfl, bel.frame _, fun h => by cases h⟩

/-- the statement -/
theorem proved : Rows.StoreBoundsSaid :=
  OpenClaim.holds_of_wide 5 Try.f5 rfl rfl rfl rfl rfl rfl rfl ⟨rfl, rfl, rfl, rfl, rfl⟩ rfl rfl rfl rfl rfl (by kernel_rfl) Try.func5 (by kernel_rfl)
    (of_decide_eq_true (by kernel_rfl)) (by unfold Func.isWrapper; first | (rw [if_pos (by decide +kernel)]; kernel_rfl) | (rw [if_neg (by decide +kernel)]; exact ⟨rfl, rfl⟩))
    (fun os started H enc _ => lifted os started H enc)
#print axioms proved
end Go.Proofs.Ythfekmmcdfkigaa.storeBounds
