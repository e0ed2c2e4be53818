/-
  StoreAgain: behind a boot all is safe: a second crash, whatever is kept, leaves all as it was.
  Conditions: none.
-/
import Derived.Test.YthfekmmcdfkigaaStoRun
namespace Go.Proofs.Ythfekmmcdfkigaa.storeAgain
open Go.ChangeShapes Go.WideShapes Go.ChangeAt Go.RowKit Go.Maps

/-- a file that a crash leaves as it is -/
def Sure (f : Fl) : Prop := f.safe = f.bs.length ∧ f.stays = true
theorem boot_all : ∀ {fs : List Fl} {k : List Int}, (∀ f ∈ fs, f.safe ≤ f.bs.length) → ∀ f ∈ bootF fs k, Sure f
  | [], _, _, f, h => by simp [bootF] at h
  | q :: r, k, hs, f, h => by
    simp only [bootF, List.mem_append] at h
    rcases h with h | h
    · unfold keptF at h
      split at h
      · simp at h
      · simp only [Option.toList_some, List.mem_singleton] at h
        subst h
        have := left_le (hs q (by simp)) (k.headD 0)
        exact ⟨by simp only [sureF, List.length_take]; omega, rfl⟩
    · exact boot_all (fun f hf => hs f (by simp [hf])) f h
theorem boot_same : ∀ {fs : List Fl} {k : List Int}, (∀ f ∈ fs, Sure f) → bootF fs k = fs
  | [], _, _ => rfl
  | q :: r, k, hs => by
    obtain ⟨h1, h2⟩ := hs q (by simp)
    have e1 : leftF q (k.headD 0) = q.bs.length := by unfold leftF; omega
    have e2 : keptF q (k.headD 0) = some q := by
      unfold keptF
      rw [if_neg (by rw [h2]; simp), e1]
      unfold sureF
      rw [List.take_length, ← h1]
      cases q
      simp only at h2
      subst h2
      rfl
    simp only [bootF]
    rw [e2, boot_same (fun f hf => hs f (by simp [hf]))]
    rfl
/-- the texts of files' bytes -/
def txt (f : Fl) : Value := .string ⟨f.bs.toArray⟩
def nam (f : Fl) : Value := .string ⟨f.name.toArray⟩
theorem nam_row (fs : List Fl) : (fs.map Fl.name).map encStr = fs.map nam := by rw [List.map_map]; rfl
theorem Ints.below {w w' : World} {B : Nat} {A : Option Addr} {ks : List Int} (h : Ints w (fun i => i < B) A ks) (hb : Below B w w') : Ints w' (fun i => i < B) A ks :=
  ⟨fun hne => by
    obtain ⟨b, o, e, hx, hl, hc⟩ := h.at' hne
    exact ⟨b, o, e, hx, Nat.lt_of_lt_of_le hl hb.size, fun k hk => (hb.cell (p := ⟨b, o + k, none⟩) hx).trans (hc k hk)⟩, h.bd⟩
theorem read_at {st : St} (hok : st.Ok) (hd : st.down = false) {f : Fl} (hf : f ∈ st.fs) {s : ByteArray} (hs : s.data.toList = f.name) : readB st s.data.toList = f.bs ∧ readE st s.data.toList = 0 := by
  have := lookBy_mem hok.rise hf
  unfold readB readE
  rw [hs, this, hd]
  exact ⟨rfl, rfl⟩
theorem info9 : (Try.prog.info? 9).map (fun i => (i.zero, i.size, i.bytes)) = some (some (.string ⟨#[]⟩), 1, 16) := by kernel_rfl
theorem size_of' (s : ByteArray) : s.size = s.data.toList.length := by rw [Array.length_toList]; rfl

set_option maxHeartbeats 8000000 in
set_option maxRecDepth 100000 in
theorem walk (A : Option Addr) (n ca : Nat) (f : Nat → ActD) (KA MA : Option Addr) (ks ms : List Int) (kc mc : Nat) (w : World) (hn : n ≤ 9223372036854775807) (hf : ∀ i, i < n → ActAt w w.heap.size A i (f i))
    (hk : Ints w (fun i => i < w.heap.size) KA ks) (hm : Ints w (fun i => i < w.heap.size) MA ms) (hkl : ks.length ≤ 9223372036854775807) (hml : ms.length ≤ 9223372036854775807) :
    Calls Try.prog 6 #[.slice A n ca, .slice KA ks.length kc, .slice MA ms.length mc] w fun e w' => e = .returned (.bool true) ∧ Below w.heap.size w w' := by
  have HF := Lib.hid hf
  have HK := Lib.hid hk
  have HM := Lib.hid hm
  clear hf hk hm
  go_enter Try.func6, Try.ntmps6
  go_wp2_with fail
  refine (awake_any _).mono ?_
  rintro e W0 ⟨rfl, k0⟩
  have HF0 : Hid (∀ i, i < n → ActAt W0 W0.heap.size A i (f i)) := Lib.hid (fun i hi => by
    obtain ⟨ok, b, o, e, hlt, hc⟩ := (HF.out i hi).below k0
    refine ⟨⟨ok.k0, ok.k1, ok.n0, ok.n1, ok.s1, ok.b1, ok.ks1, ok.byt.more k0.size, ok.ints.more (fun i hi => Nat.lt_of_lt_of_le hi k0.size)⟩, b, o, e, Nat.lt_of_lt_of_le hlt k0.size, hc⟩)
  go_wp2_with fail
  refine (few_any A n ca f W0 hn HF0.out).mono ?_
  rintro e w' ⟨rfl, b, rfl, hfew⟩
  clear HF0
  cases b with
  | false =>
    clear hfew
    go_wp2
    go_ret
    exact ⟨rfl, k0⟩
  | true =>
    obtain ⟨hn40, hall⟩ := hfew rfl
    have HA := Lib.hid hall
    clear hfew hall
    by_cases q1 : 60 < ks.length
    · go_wp2
      go_ret
      exact ⟨rfl, k0⟩
    · have d1 : decide (60 < (ks.length : Int)) = false := by simp; omega
      by_cases q2 : 60 < ms.length
      · go_wp2
        go_ret
        exact ⟨rfl, k0⟩
      · have d2 : decide (60 < (ms.length : Int)) = false := by simp; omega
        go_wp2_with fail
        refine (new_any 10000 W0 (by omega) (by omega)).mono ?_
        rintro e W1 ⟨rfl, hS1, hb1⟩
        obtain ⟨X, hX⟩ : ∃ X : Nat → Prop, X = fun i => i < W0.heap.size := ⟨_, rfl⟩
        rw [← hX] at hS1
        obtain ⟨g, hg⟩ : ∃ g, g = W0.heap.size + 1 := ⟨_, rfl⟩
        rw [← hg] at hS1 ⊢
        have HX := Lib.hid (fun i (hi : i < w.heap.size) => (by rw [hX]; exact Nat.lt_of_lt_of_le hi k0.size : X i))
        have k1 := k0.trans (hb1.mono k0.size)
        have hSt : ∃ st, Sto W1 g X st := ⟨_, hS1⟩
        clear hX hg hb1 k0 hS1
        go_wp2
        go_loopw [8] (fun i wr => ∃ k : Nat, k ≤ n ∧ i = .int .i64 k ∧ (∃ st, Sto wr g X st) ∧ Below w.heap.size w wr) (fun i _ => n - (intOf i).toNat)
        case atStart => exact ⟨0, by omega, rfl, hSt, k1⟩
        case round =>
          obtain ⟨k, hk, rfl, ⟨st, hS⟩, hbw⟩ := hrel
          clear hSt k1
          by_cases hkn : k < n
          · obtain ⟨hok0, b, o, rfl, hbl, _⟩ := HF.out k hkn
            obtain ⟨c0, c1, c2, c3, c4⟩ := (HF.out k hkn).five hbw
            have HC := Lib.hid (run_any g w.heap.size X st (f k) wr hS (hok0.below hbw) hbw.size HX.out (HA.out k hkn))
            generalize runS st (f k) = r at HC
            clear hok0 hS
            go_wp2_with fail
            refine HC.out.mono ?_
            rintro e W2 ⟨rfl, hS2, hK2⟩
            have hb2 := hbw.trans (hK2.below hbw.size HX.out)
            clear HC hK2 c0 c1 c2 c3 c4 hbw
            go_wp2
            go_roundw
            case rel => exact ⟨k + 1, by omega, by go_num, ⟨_, hS2⟩, hb2⟩
            case measure => simp [intOf]; omega
          · obtain rfl : n = k := by omega
            clear hkn HF HA
            go_wp2_with fail
            refine (crash_any g X st wr hS).mono ?_
            rintro e W2 ⟨rfl, hS2, hK2⟩
            have k2 := hbw.trans (hK2.below hbw.size HX.out)
            clear hS hK2 hbw
            go_wp2_with fail
            refine (boot_any g X st.crash W2 KA ks kc hS2 ((Ints.below HK.out k2).more HX.out) (by omega)).mono ?_
            intro e W3 hD
            obtain ⟨rfl, hS3, hK3⟩ := done_to hD (st := ⟨bootF st.fs ks, st.cap, 0, false⟩) (n := 0) rfl (z := 0) rfl
            have k3 := k2.trans (hK3.below k2.size HX.out)
            have hsure : ∀ q ∈ bootF st.fs ks, Sure q := boot_all hS2.ok.safe
            obtain ⟨fs, hfs⟩ : ∃ fs, fs = bootF st.fs ks := ⟨_, rfl⟩
            obtain ⟨cp, hcp⟩ : ∃ c, c = st.cap := ⟨_, rfl⟩
            rw [← hfs, ← hcp] at hS3
            rw [← hfs] at hsure
            have HSu := Lib.hid hsure
            clear hS2 hD hK3 k2 hfs hsure hcp HK
            go_wp2_with fail
            refine (names_any g X _ W3 hS3).mono ?_
            rintro e W4 ⟨v4, rfl, hrow4, hb4⟩
            have e4 : namesS ⟨fs, cp, 0, false⟩ = fs.map Fl.name := rfl
            rw [e4, nam_row, List.length_map] at hrow4
            obtain ⟨A4, c4, rfl, hc4⟩ := own_form hrow4
            have hokS := hS3.ok
            have hmany := hokS.many
            simp only at hmany
            obtain ⟨m, hm⟩ : ∃ m, m = fs.length := ⟨_, rfl⟩
            rw [← hm] at hrow4 hmany hc4 ⊢
            have Hm := Lib.hid hm
            have HR4 := Lib.hid hrow4
            have HB4 := Lib.hid hb4
            have HS3 := Lib.hid hS3
            have HOk := Lib.hid hokS
            have k4 := k3.trans (hb4.mono k3.size)
            have HK4 := Lib.hid k4
            clear hm hrow4 hb4 hS3 hokS e4 k4
            go_wp2
            go_loopw [10, 11] (fun v i wr => ∃ k : Nat, k ≤ m ∧ i = .int .i64 k ∧ Hid (wr.ownsRow W4.heap.size 9 1 v k ((fs.take k).map txt)) ∧ Below W4.heap.size W4 wr) (fun _ i _ => m - (intOf i).toNat)
            case atStart => exact ⟨0, by omega, rfl, Lib.hid (World.ownsRow_nil _ _ _ _), Below.refl _ _⟩
            case round =>
              obtain ⟨k, hk, rfl, HO, hbw⟩ := hrel
              obtain ⟨Av, cv, rfl, hcv⟩ := own_form HO.out
              by_cases hkm : k < m
              · have hkf : k < fs.length := by rw [← Hm.out]; exact hkm
                obtain ⟨nb, rfl, hb0, hbl, hcell⟩ := row_cell HR4.out hkm
                obtain ⟨q, hq⟩ : ∃ q, q = fs[k] := ⟨_, rfl⟩
                have hqm : q ∈ fs := by rw [hq]; exact List.getElem_mem hkf
                have hnk : (fs.map nam)[k]? = some (.string ⟨q.name.toArray⟩) := by rw [hq]; simp [hkf, nam]
                rw [hnk] at hcell
                have n0 : wr.cell? ⟨nb, k, none⟩ = some (.string ⟨q.name.toArray⟩) := (hbw.cell (p := ⟨nb, k, none⟩) hbl).trans hcell
                obtain ⟨s, hs⟩ : ∃ s : ByteArray, s = ⟨q.name.toArray⟩ := ⟨_, rfl⟩
                rw [← hs] at n0
                have hsl : s.data.toList = q.name := by rw [hs]
                have hss : s.size ≤ 1073741824 := by rw [size_of' s, hsl]; exact (HOk.out.good q hqm).2
                have hSr := HS3.out.below (HB4.out.trans (hbw.mono HB4.out.size))
                obtain ⟨r1, r2⟩ := read_at HOk.out rfl hqm hsl
                have HC := Lib.hid (read_any g X _ s wr hSr hss)
                have htk : (fs.take k).map txt ++ [.string ⟨q.bs.toArray⟩] = (fs.take (k + 1)).map txt := by
                  rw [List.take_succ_eq_append_getElem hkf, List.map_append, ← hq]
                  rfl
                have HTK := Lib.hid htk
                have hql : q.bs.length ≤ 16777216 := by
                  have h1 := used_take (s := ⟨fs, cp, 0, false⟩) hqm
                  have h2 := HOk.out.used
                  have h3 := HOk.out.cap
                  simp only at h1 h2 h3
                  omega
                have HR1 := Lib.hid r1
                have HR2 := Lib.hid r2
                obtain ⟨i0, hi0, hz0, hz1, hz2⟩ := info_parts info9
                clear hq hqm hnk hcell hs hsl hSr r1 r2 htk
                go_wp2_with fail
                refine HC.out.mono ?_
                intro e W5 hD
                obtain ⟨A5, c5, rfl, hby, hc5, hb5⟩ := read_to hD HR1.out (z := 0) (by rw [HR2.out]; rfl)
                have tx := hby.text (P := Try.prog) 28 5 9 Try.underlying28 Try.underlying5 Try.underlying9 c5
                have hb45 := hbw.trans (hb5.mono hbw.size)
                have HO5 := Lib.hid ((own_below HO.out hb5).alloc (.cells #[.string ⟨q.bs.toArray⟩] 9))
                have hsz5 := hb45.size
                clear hD HC hby n0
                go_wp2_with (at_builtin; refine wpList_append_own_at _ rfl (.tmp 72) (.tmp 75) _ rfl W4.heap.size 9 i0 _ 1 16 Try.underlying36 hi0 hz0 hz1 hz2 rfl (by decide) _ k _ rfl HO5.out ⟨W5.heap.size, 0, none⟩ 1 1 [.string ⟨q.bs.toArray⟩] rfl rfl (cell_one_new _ _ _) (by simp [Value.oneCell']) (by unfold maxLen; omega) (by omega) (by simp; omega) ?_; intro v6 w6 hown6 hg6 hnil6 hat6)
                have hb6 : Below W4.heap.size W4 w6 := (hb45.alloc hb45.size _).grown hg6 (by simp; omega) (fun j hj => (HO5.out.lt j hj).1)
                rw [HTK.out] at hown6
                have HO6 := Lib.hid hown6
                clear hg6 hnil6 hat6 hown6 tx
                go_roundw
                case rel => exact ⟨k + 1, by omega, by go_num, HO6, hb6⟩
                case measure => simp [intOf]; omega
              · obtain rfl : m = k := by omega
                have hw := HO.out
                rw [Hm.out, List.take_length, ← Hm.out] at hw
                have HW := Lib.hid hw
                have hb3r := HB4.out.trans (hbw.mono HB4.out.size)
                have hS5 := HS3.out.wide hb3r
                obtain ⟨Y, hY⟩ : ∃ Y : Nat → Prop, Y = fun i => X i ∨ W3.heap.size ≤ i ∧ i < wr.heap.size := ⟨_, rfl⟩
                rw [← hY] at hS5
                have HY1 := Lib.hid (fun i (hi : X i) => (by rw [hY]; exact .inl hi : Y i))
                have HY2 := Lib.hid (fun i (h1 : W3.heap.size ≤ i) (h2 : i < wr.heap.size) => (by rw [hY]; exact .inr ⟨h1, h2⟩ : Y i))
                have k5 := HK4.out.trans (hbw.mono HK4.out.size)
                have HRr := Lib.hid (own_below HR4.out hbw)
                have hsz4 := HB4.out.size
                clear hw hb3r hY hkm
                go_wp2_with fail
                refine (crash_any g Y _ wr hS5).mono ?_
                rintro e W6 ⟨rfl, hS6, hK6⟩
                have k6 := k5.trans (hK6.below k5.size (fun i hi => HY1.out i (HX.out i hi)))
                clear hS5
                go_wp2_with fail
                refine (boot_any g Y _ W6 MA ms mc hS6 ((Ints.below HM.out k6).more (fun i hi => HY1.out i (HX.out i hi))) (by omega)).mono ?_
                intro e W7 hD
                obtain ⟨rfl, hS7, hK7⟩ := done_to hD (st := ⟨fs, cp, 0, false⟩) (n := 0) (by show ((⟨bootF fs ms, cp, 0, false⟩ : St), 0) = _; rw [boot_same HSu.out]) (z := 0) rfl
                have k7 := k6.trans (hK7.below k6.size (fun i hi => HY1.out i (HX.out i hi)))
                have HK67 := Lib.hid (hK6.trans hK7)
                clear hS6 hD hK6 hK7 k6 k5
                go_wp2_with fail
                refine (names_any g Y _ W7 hS7).mono ?_
                rintro e W8 ⟨v8, rfl, hrow8, hb8⟩
                have e8 : namesS ⟨fs, cp, 0, false⟩ = fs.map Fl.name := rfl
                rw [e8, nam_row, List.length_map, ← Hm.out] at hrow8
                obtain ⟨A8, c8, rfl, hc8⟩ := own_form hrow8
                have k8 := k7.trans (hb8.mono k7.size)
                have HS8 := Lib.hid (hS7.below hb8)
                have cell8 : ∀ b j, W3.heap.size ≤ b → b < wr.heap.size → b < W8.heap.size ∧ W8.cell? ⟨b, j, none⟩ = wr.cell? ⟨b, j, none⟩ := fun b j h1 h2 => by
                  have h3 := HK67.out.size
                  have h4 := hb8.size
                  exact ⟨by omega, (hb8.cell (p := ⟨b, j, none⟩) (by show b < _; omega)).trans (World.cell?_of_block (HK67.out.block b h2 (HY2.out b h1 h2)))⟩
                have N8 : Hid (∀ k, k < m → ∃ nb, A4 = some ⟨nb, 0, none⟩ ∧ nb < W8.heap.size ∧ W8.cell? ⟨nb, k, none⟩ = (fs.map nam)[k]?) := Lib.hid (fun k hk => by
                  obtain ⟨nb, e, h1, h2, h3⟩ := row_cell HRr.out hk
                  have h4 := cell8 nb k h1 h2
                  exact ⟨nb, e, h4.1, h4.2.trans h3⟩)
                have V8 : Hid (∀ k, k < m → ∃ nb, Av = some ⟨nb, 0, none⟩ ∧ nb < W8.heap.size ∧ W8.cell? ⟨nb, k, none⟩ = (fs.map txt)[k]?) := Lib.hid (fun k hk => by
                  obtain ⟨nb, e, h1, h2, h3⟩ := row_cell HW.out hk
                  have h4 := cell8 nb k (by omega) h2
                  exact ⟨nb, e, h4.1, h4.2.trans h3⟩)
                clear e8 hrow8 hS7 k7 cell8 hb8 HK67 HRr HW HO hbw HR4 HB4 HS3 HY1 HY2
                go_wp2
                go_loopw [14] (fun i u => ∃ k : Nat, k ≤ m ∧ i = .int .i64 k ∧ Below W8.heap.size W8 u) (fun i _ => m - (intOf i).toNat)
                case atStart => exact ⟨0, by omega, rfl, Below.refl _ _⟩
                case round =>
                  obtain ⟨k, hk, rfl, hbu⟩ := hrel
                  by_cases hkm : k < m
                  · have hkf : k < fs.length := by rw [← Hm.out]; exact hkm
                    obtain ⟨nb, rfl, hbl, hcell⟩ := N8.out k hkm
                    obtain ⟨vb, rfl, hvl, hcelv⟩ := V8.out k hkm
                    obtain ⟨q, hq⟩ : ∃ q, q = fs[k] := ⟨_, rfl⟩
                    have hqm : q ∈ fs := by rw [hq]; exact List.getElem_mem hkf
                    have hnk : (fs.map nam)[k]? = some (.string ⟨q.name.toArray⟩) := by rw [hq]; simp [hkf, nam]
                    have hvk : (fs.map txt)[k]? = some (.string ⟨q.bs.toArray⟩) := by rw [hq]; simp [hkf, txt]
                    rw [hnk] at hcell
                    rw [hvk] at hcelv
                    have n0 : wr.cell? ⟨nb, k, none⟩ = some (.string ⟨q.name.toArray⟩) := (hbu.cell (p := ⟨nb, k, none⟩) hbl).trans hcell
                    have v0 : wr.cell? ⟨vb, k, none⟩ = some (.string ⟨q.bs.toArray⟩) := (hbu.cell (p := ⟨vb, k, none⟩) hvl).trans hcelv
                    obtain ⟨s, hs⟩ : ∃ s : ByteArray, s = ⟨q.name.toArray⟩ := ⟨_, rfl⟩
                    rw [← hs] at n0
                    have hsl : s.data.toList = q.name := by rw [hs]
                    have hss : s.size ≤ 1073741824 := by rw [size_of' s, hsl]; exact (HOk.out.good q hqm).2
                    have hSr := HS8.out.below (hbu.mono (Nat.le_refl _))
                    obtain ⟨r1, r2⟩ := read_at HOk.out rfl hqm hsl
                    have HC := Lib.hid (read_any g Y _ s wr hSr hss)
                    have HR1 := Lib.hid r1
                    have HR2 := Lib.hid r2
                    have hvu : vb < wr.heap.size := Nat.lt_of_lt_of_le hvl hbu.size
                    clear hq hqm hnk hvk hcell hcelv hs hsl hSr r1 r2
                    go_wp2_with fail
                    refine HC.out.mono ?_
                    intro e W9 hD
                    obtain ⟨A9, c9, rfl, hby, hc9, hb9⟩ := read_to hD HR1.out (z := 0) (by rw [HR2.out]; rfl)
                    have v9 : W9.cell? ⟨vb, k, none⟩ = some (.string ⟨q.bs.toArray⟩) := (hb9.cell (p := ⟨vb, k, none⟩) hvu).trans v0
                    have tx : ∀ u, (Below W9.heap.size W9 u ∧ u.cell? ⟨vb, k, none⟩ = some (.string ⟨q.bs.toArray⟩)) → (convert 28 9 (.slice A9 q.bs.length c9)).run Try.prog u = .ok (.string ⟨q.bs.toArray⟩) u := fun u hu =>
                      (hby.below hu.1).text (P := Try.prog) 28 5 9 Try.underlying28 Try.underlying5 Try.underlying9 c9
                    have hbu9 := hbu.trans (hb9.mono hbu.size)
                    clear hD HC hby n0 v0 hbu hb9
                    go_wp2
                    go_region_held3 (fun w' => Below W9.heap.size W9 w' ∧ w'.cell? ⟨vb, k, none⟩ = some (.string ⟨q.bs.toArray⟩)) (first | exact ⟨Below.refl _ _, v9⟩ | exact ⟨Below.drew (Below.refl _ _), v9⟩ | assumption)
                      (fail)
                    all_goals
                      clear tx
                      go_wp2
                      go_roundw
                      case rel => exact ⟨k + 1, by omega, by go_num, hbu9.drew⟩
                      case measure => simp [intOf]; omega
                  · obtain rfl : m = k := by omega
                    go_wp2
                    go_ret
                    exact ⟨rfl, k8.trans (hbu.mono k8.size)⟩

set_option maxRecDepth 1000000 in
theorem lifted (os : Os) (started : os.Started) (H : Type) (enc : TypeId × Value → H) :
    ReturnsInHanded {} Try.checked os 6 .any (Rows.storeAgainSpec.pre6 enc Try.prog Try.f6 Rows.storeAgainRow.domain false) (Rows.storeAgainSpec.post enc Try.prog Try.f6 false true false false) := by
  refine returnsInHanded_of_change_sized (C := Try.checked) own started (by kernel_rfl) Try.func6
    (ChangeSpec.witness6 (enc := enc) (C := Try.checked) false ⟨#[], #[.slice none 0 0, .slice none 0 0, .slice none 0 0], []⟩ 8 (by kernel_rfl) (by kernel_rfl) (by kernel_rfl) (by kernel_rfl)) ?_
  intro W base args ds gs before hval0 hW _ _ _
  have hval : ∀ (j : Nat) t v, Try.f6.params[j]? = some t → args[j]? = some v → Value.okWide Try.prog W .any base t v := hval0
  have hW' := hW
  obtain ⟨p, q, hA0, hV, rfl, _, _⟩ := hW
  have hA : DataW.TrodAll enc Try.prog W 0 (fun _ => true) true Try.f6.params.toList args.toList ds p := hA0
  rw [Try.params6] at hA hval
  obtain ⟨rfl, rfl⟩ := trodVars_none hV
  obtain ⟨v0, vs0, d0, ds0, p0, q0, hargs, rfl, rfl, h0, r0⟩ := trodAll_cons hA
  obtain ⟨v1, vs1, d1, ds1, p1, q1, rfl, rfl, rfl, h1, r1⟩ := trodAll_cons r0
  obtain ⟨v2, vs2, d2, ds2, p2, q2, rfl, rfl, rfl, h2, r2⟩ := trodAll_cons r1
  obtain ⟨rfl, rfl, rfl⟩ := trodAll_nil r2
  obtain rfl : args = #[v0, v1, v2] := by cases args; simp_all
  obtain ⟨a0, len, cap, rfl⟩ := okWide_slice Try.underlying22 (hval 0 22 v0 rfl rfl)
  obtain ⟨a1, len1, cap1, rfl⟩ := okWide_slice Try.underlying29 (hval 1 29 v1 rfl rfl)
  obtain ⟨a2, len2, cap2, rfl⟩ := okWide_slice Try.underlying29 (hval 2 29 v2 rfl rfl)
  clear hA0 hval0
  simp only [List.append_nil] at hW'
  have hlt0 : ∀ x ∈ p0, x.block < W.heap.size := fun x hx => by simpa using hW'.lt x (by simp [hx])
  have hlt1 : ∀ x ∈ p1, x.block < W.heap.size := fun x hx => by simpa using hW'.lt x (by simp [hx])
  have hlt2 : ∀ x ∈ p2, x.block < W.heap.size := fun x hx => by simpa using hW'.lt x (by simp [hx])
  obtain ⟨f, hc0, hm0, hat⟩ := arg_acts h0
  obtain ⟨ks, hkl, hk1, hk⟩ := arg_nums h1
  obtain ⟨ms, hml, hm1, hm⟩ := arg_nums h2
  subst hkl hml
  refine (walk a0 len cap f a1 a2 ks ms cap1 cap2 W hm0 hat hk hm hk1 hm1).mono fun e W' ⟨he, bel⟩ => ?_
  subst he
  exact ⟨_, rfl, _, _, _, [], _, [], hW', trodAll_mk1 (shut_bool Try.underlying4 _), (trodAll_cons_mk (Below.trod laidOut (by kernel_rfl) (of_decide_eq_true (by kernel_rfl)) h0 bel hlt0) (trodAll_cons_mk (Below.trod laidOut (by kernel_rfl) (of_decide_eq_true (by kernel_rfl)) h1 bel hlt1) (trodAll_cons_mk (Below.trod laidOut (by kernel_rfl) (of_decide_eq_true (by kernel_rfl)) h2 bel hlt2) trodAll_mk0))), rfl, bel.frame _, fun h => by cases h⟩

/-- the statement -/
theorem proved : Rows.StoreAgainSaid :=
  OpenClaim.holds_of_wide 6 Try.f6 rfl rfl rfl rfl rfl rfl rfl ⟨rfl, rfl, rfl, rfl, rfl⟩ rfl rfl rfl rfl rfl (by kernel_rfl) Try.func6 (by kernel_rfl)
    (of_decide_eq_true (by kernel_rfl)) (by unfold Func.isWrapper; first | (rw [if_pos (by decide +kernel)]; kernel_rfl) | (rw [if_neg (by decide +kernel)]; exact ⟨rfl, rfl⟩))
    (fun os started H enc _ => lifted os started H enc)
#print axioms proved
end Go.Proofs.Ythfekmmcdfkigaa.storeAgain
