/-
  What the document's Boot leaves of files.
  Conditions: at most 300 files, 100 numbers.
-/
import Derived.Test.YthfekmmcdfkigaaStoRef2
namespace Go.Proofs.Ythfekmmcdfkigaa
open Go.RowKit

theorem wpList_append_fils {P : Program} (w : World) {ops : Array Oper} {rest : List Oper} {o : Oper} {a : Act} {Q : Exit → Act → World → Prop} (hgd : o.guard = none) (s x : Operand) (t : TypeId)
    (ho : o.op = .call { callee := .builtin .append, args := #[s, x], argTypes := #[t, t] })
    (base : Nat) (e : TypeId) (i : TypeInfo) (z : Value) (ht : P.underlying t = some (.slice e)) (hi : P.info? e = some i) (hz : i.zero = some z) (hsize : i.size = 4) (hby : i.bytes = 48) (hzs : z.cells.size = 4)
    (v : Value) (n : Nat) (xs : List Value) (hs : a.eval s = v) (hown : w.ownsRow base e 4 v n xs) (B : Nat) (A : Option Addr) (m c : Nat) (l : List Fl) (hx : a.eval x = .slice A m c) (hm : m = l.length) (hr : Fils w B A l)
    (hb : n + l.length ≤ 1000000) (hbase : base ≤ w.heap.size)
    (h : ∀ v' w', w'.ownsRow base e 4 v' (n + l.length) (xs ++ cellsF l) → w.grownBy w' v.ownBlock → (v'.ownBlock = v.ownBlock ∨ v'.ownBlock = some w.heap.size) → wpList P ops Q rest (a.put o.dst v') w') : wpList P ops Q (o :: rest) a w :=
  wpList_plain hgd fun _ hK => wp_append_fils w s x t ho base e i z ht hi hz hsize hby hzs v n xs hs hown B A m c l hx hm hr hb hbase fun v' w' h2 h3 h4 => hK _ _ (h v' w' h2 h3 h4)
theorem own_below4 {w w' : World} {base : Nat} {e : TypeId} {v : Value} {n : Nat} {xs : List Value} (h : w.ownsRow base e 4 v n xs) (hb : Below w.heap.size w w') : w'.ownsRow base e 4 v n xs := by
  refine ⟨h.1, h.2.imp id ?_⟩
  rintro ⟨g, cap, cur, hv, hg, hh, r⟩
  exact ⟨g, cap, cur, hv, hg, (hb.block g (Array.getElem?_eq_some_iff.1 hh).1).trans hh, r⟩
theorem cut_str (W : World) (l : List UInt8) (k : Nat) (hk : k ≤ l.length) : (Instr.slice 9 (.string (str l)) none (some (.int .i64 (k : Int))) none).run Try.prog W = .ok (.string (str (l.take k))) W := by
  have e := run_slice_string_h (P := Try.prog) W 9 (str l) Try.underlying9 .i64 (k : Int) (by omega) (by rw [str_size]; omega)
  rw [e]
  have e2 : ((str l).extract 0 k).data.toList = l.take k := by
    rw [ByteArray.data_extract]
    simp only [Array.toList_extract, List.extract, Nat.sub_zero, List.drop_zero]
    rfl
  have e3 : (str l).extract 0 k = str (l.take k) := by rw [← e2]; rfl
  simp [e3]

theorem own_form4 {w : World} {base : Nat} {e : TypeId} {v : Value} {n : Nat} {xs : List Value} (h : w.ownsRow base e 4 v n xs) : ∃ A c, v = .slice A n c ∧ n ≤ c := by
  rcases h.2 with ⟨e1, e0⟩ | ⟨g, cap, cur, e1, _, _, hc, _⟩
  · exact ⟨_, _, by rw [e1, e0], Nat.le_of_eq e0⟩
  · exact ⟨_, _, e1, hc⟩
theorem cell_alloc {u : World} {b i : Nat} {v : Value} (h : u.cell? ⟨b, i, none⟩ = some v) (o : Obj) : (u.alloc o).cell? ⟨b, i, none⟩ = some v := by
  have hlt : b < u.heap.size := by simpa using World.block_lt_of_cell? _ _ h
  exact (((Below.refl u.heap.size u).alloc (Nat.le_refl _) o).cell (p := ⟨b, i, none⟩) hlt).trans h
theorem cell_grown {u u' : World} {row : Option Nat} {b i : Nat} {v : Value} (h : u.cell? ⟨b, i, none⟩ = some v) (hg : u.grownBy u' row) (hne : some b ≠ row) : u'.cell? ⟨b, i, none⟩ = some v := by
  have hlt : b < u.heap.size := by simpa using World.block_lt_of_cell? _ _ h
  exact (World.cell?_of_block (hg.block b hlt hne)).trans h
/-- where the loop stands -/
structure BtAt (w wr : World) (v : Value) (l : List Fl) : Prop where
  row : wr.ownsRow w.heap.size 44 4 v l.length (cellsF l)
  bel : Below w.heap.size w wr

set_option maxHeartbeats 8000000 in
set_option maxRecDepth 100000 in
theorem rboot_any (A : Option Addr) (fs : List Fl) (c : Nat) (KA : Option Addr) (ks : List Int) (kc : Nat) (w : World) (h : Fils w w.heap.size A fs) (hn : fs.length ≤ 300) (hk : Ints w (fun i => i < w.heap.size) KA ks) (hkl : ks.length ≤ 100) (hs : ∀ f ∈ fs, f.safe ≤ f.bs.length) (hb : ∀ f ∈ fs, f.bs.length ≤ 16777216) :
    Calls Try.prog 25 #[.slice A fs.length c, .slice KA ks.length kc] w (FilesAre w (bootF fs ks)) := by
  obtain ⟨i0, hi0, hz0, hz1, hz2⟩ := info_parts info44
  have HF := Lib.hid h
  have HK := Lib.hid hk
  have HS := Lib.hid hs
  have HB := Lib.hid hb
  obtain ⟨n, hnn⟩ : ∃ n, n = fs.length := ⟨_, rfl⟩
  rw [← hnn] at hn ⊢
  have Hn := Lib.hid hnn
  clear h hk hs hb hnn
  go_enter Try.func25, Try.ntmps25
  go_wp2
  go_loopw [5, 6] (fun v i wr => ∃ k : Nat, k ≤ n ∧ i = .int .i64 k ∧ BtAt w wr v (bootK fs ks k)) (fun _ i _ => n - (intOf i).toNat)
  case atStart => exact ⟨0, by omega, rfl, ⟨World.ownsRow_nil _ _ _ _, Below.refl _ _⟩⟩
  case round =>
    obtain ⟨k, hk, rfl, hR⟩ := hrel
    obtain ⟨Av, cv, rfl, hcv⟩ := own_form4 hR.row
    by_cases hkn : k < n
    · have hkf : k < fs.length := by rw [← Hn.out]; exact hkn
      obtain ⟨b, o, rfl, hbl, c0, c1, c2, c3⟩ := (HF.out.below hR.bel).four hkf
      have hnext := bootK_next (ks := ks) hkf
      have hlen := boot_len (fs.take k) ks
      obtain ⟨q, hq⟩ : ∃ q, q = fs[k] := ⟨_, rfl⟩
      have hqs : q.safe ≤ q.bs.length := by rw [hq]; exact HS.out _ (List.getElem_mem hkf)
      have hqb : q.bs.length ≤ 16777216 := by rw [hq]; exact HB.out _ (List.getElem_mem hkf)
      rw [← hq] at c0 c1 c2 c3 hnext
      have hlk : (bootK fs ks k).length ≤ 300 := by
        have : (fs.take k).length ≤ fs.length := List.length_take_le' _ _
        have := Hn.out
        unfold bootK
        omega
      obtain ⟨t, ht⟩ : ∃ t, t = ks.getD k 0 := ⟨_, rfl⟩
      rw [← ht] at hnext
      obtain ⟨L, hL⟩ : ∃ L, L = leftF q t := ⟨_, rfl⟩
      have hLl : L ≤ q.bs.length := by rw [hL]; exact left_le hqs t
      have hkept : keptF q t = if L = 0 ∧ q.stays = false then none else some (sureF q L) := by unfold keptF; rw [← hL]
      have hLm : L = q.safe + min t.toNat (q.bs.length - q.safe) := hL
      have hcut := fun W => cut_str W q.bs L hLl
      obtain ⟨s1, hs1⟩ : ∃ s, s = str q.name := ⟨_, rfl⟩
      obtain ⟨s2, hs2⟩ : ∃ s, s = str q.bs := ⟨_, rfl⟩
      have hs2z : s2.size = q.bs.length := by rw [hs2]; exact str_size _
      obtain ⟨s5, hs5⟩ : ∃ s, s = str (q.bs.take L) := ⟨_, rfl⟩
      rw [← hs1] at c0
      rw [← hs2] at c1
      rw [← hs2, ← hs5] at hcut
      have HF1 : Hid (∀ (u : World) (ty : TypeId), Fils (u.alloc (.cells #[.string s1, .string s5, .int .i64 (L : Int), .bool true] ty)) (u.heap.size + 1) (some ⟨u.heap.size, 0, none⟩) [sureF q L]) := Lib.hid (fun u ty => by rw [hs1, hs5]; exact Fils.one u ty (sureF q L))
      have Hnx := Lib.hid hnext
      have Hkp := Lib.hid hkept
      obtain ⟨sf, hsf⟩ : ∃ x, x = q.safe := ⟨_, rfl⟩
      obtain ⟨sy, hsy⟩ : ∃ x, x = q.stays := ⟨_, rfl⟩
      obtain ⟨ln, hln⟩ : ∃ x, x = q.bs.length := ⟨_, rfl⟩
      rw [← hsf] at c2 hLm hqs
      rw [← hsy] at c3 Hkp
      rw [← hln] at hLm hqs hqb hLl hs2z
      have hss : s2.size ≤ 16777216 := by omega
      have Hz := Lib.hid hs2z
      have hRow := hR.row
      have hbw := hR.bel
      obtain ⟨l0, hl0⟩ : ∃ l, l = bootK fs ks k := ⟨_, rfl⟩
      rw [← hl0] at hRow hlk Hnx hcv ⊢
      have HRow := Lib.hid hRow
      have hfold : ∀ m : Int, (s2.size : Int) - m = (ln : Int) - m := fun m => by rw [Hz.out]
      have keys : (k < ks.length → ∃ kb ko, KA = some ⟨kb, ko, none⟩ ∧ kb < wr.heap.size ∧ wr.cell? ⟨kb, ko + k, none⟩ = some (.int .i64 t) ∧ -9223372036854775808 ≤ t ∧ t ≤ 9223372036854775807) ∧ (¬ k < ks.length → t = 0) := by
        constructor
        · intro hkk
          have hgd : t = ks[k] := by rw [ht]; simp [List.getD, hkk]
          obtain ⟨kb, ko, e, hx, _, hcc⟩ := HK.out.at' (by rintro rfl; simp at hkk)
          have hbd := HK.out.bd ks[k] (List.getElem_mem hkk)
          rw [hgd]
          exact ⟨kb, ko, e, Nat.lt_of_lt_of_le hx hbw.size, (hbw.cell (p := ⟨kb, ko + k, none⟩) hx).trans (hcc k hkk), hbd.1, hbd.2⟩
        · intro hkk
          rw [ht]
          simp [List.getD, List.getElem?_eq_none (Nat.le_of_not_lt hkk)]
      obtain ⟨kin, kout⟩ := keys
      clear hq hnext hkept hL hs1 hs2 hs5 hsf hsy hln ht hR hRow hl0 hs2z hlen hfold
      by_cases hkk : k < ks.length
      · have hkd : decide (k < ks.length) = true := by simpa using hkk
        obtain ⟨kb, ko, rfl, tbl, t0, tb1, tb2⟩ := kin hkk
        clear kin kout
        by_cases htp : 0 < t
        · have htd : decide (0 < t) = true := by simpa using htp
          by_cases hgt : (ln : Int) - (sf : Int) < t
          · have hgd : decide ((s2.size : Int) - (sf : Int) < t) = true := by rw [Hz.out]; simpa using hgt
            have hsum : (sf : Int) + ((s2.size : Int) - (sf : Int)) = (L : Int) := by rw [Hz.out]; omega
            have hsz2 : sf ≤ s2.size := by rw [Hz.out]; exact hqs
            clear hLm
            cases sy with
            | true =>
              have hk2 : bootK fs ks (k + 1) = l0 ++ [sureF q L] := by rw [Hnx.out, Hkp.out, if_neg (by simp)]; rfl
              have Hk2 := Lib.hid hk2
              clear hk2
              go_wp2
              have hbx := Box.new wr 44 #[.string s1, .string s2, .int .i64 (sf : Int), .bool true]
              have hb1 := hbw.alloc hbw.size (.cells #[.string s1, .string s2, .int .i64 (sf : Int), .bool true] 44)
              have hrow1 := HRow.out.alloc (.cells #[.string s1, .string s2, .int .i64 (sf : Int), .bool true] 44)
              generalize (wr.alloc (.cells #[.string s1, .string s2, .int .i64 (sf : Int), .bool true] 44)) = V at hbx hb1 hrow1 ⊢
              have e0 : V.cell? ⟨wr.heap.size, 0, none⟩ = some (.string s1) := hbx.cell 0
              have e1 : V.cell? ⟨wr.heap.size, 1, none⟩ = some (.string s2) := hbx.cell 1
              have hrowD : V.drew.ownsRow w.heap.size 44 4 (.slice Av l0.length cv) l0.length (cellsF l0) := hrow1
              have hb1D := hb1.drew
              clear hbx hrow1 hb1 c0 c1 c2 c3
              have hnr : some wr.heap.size ≠ (Value.slice Av l0.length cv).ownBlock := fun e => by have := (HRow.out.lt _ e.symm).2; omega
              go_region_held3 (fun u => u.cell? ⟨wr.heap.size, 0, none⟩ = some (.string s1) ∧ u.cell? ⟨wr.heap.size, 1, none⟩ = some (.string s2)) (first | exact ⟨e0, e1⟩ | assumption | exact ⟨cell_alloc (u := V.drew) e0 _, cell_alloc (u := V.drew) e1 _⟩)
                (first
                  | (refine step_append_fils _ rfl (.tmp 60) (.tmp 69) 27 rfl w.heap.size 44 i0 _ Try.underlying27 hi0 hz0 hz1 hz2 rfl _ l0.length _ rfl (hrowD.alloc _) _ _ _ _ [sureF q L] rfl rfl (HF1.out V.drew 44) (by simp only [List.length_cons, List.length_nil]; omega) (Nat.le_trans hb1D.size (by simp)) ?_; intro v6 w6 hown6 hg6 hat6; have hS6 : w6.cell? ⟨wr.heap.size, 0, none⟩ = some (.string s1) ∧ w6.cell? ⟨wr.heap.size, 1, none⟩ = some (.string s2) := ⟨cell_grown (cell_alloc (u := V.drew) e0 _) hg6 hnr, cell_grown (cell_alloc (u := V.drew) e1 _) hg6 hnr⟩))
              all_goals
                have hb6 : Below w.heap.size w w6 := (hb1D.alloc hb1D.size _).grown hg6 (Nat.le_trans hb1D.size (by simp)) (fun j hj => (hrowD.lt j hj).1)
                have hN : BtAt w w6 v6 (bootK fs ks (k + 1)) := ⟨by rw [Hk2.out, cellsF_app, List.length_append]; exact hown6, hb6⟩
                clear hown6 hg6 hat6 hb6 hrowD hb1D hS6 e0 e1
                go_wp2
                go_roundw
                case rel => exact ⟨k + 1, by omega, by go_num, hN⟩
                case measure => simp [intOf]; omega
            | false =>
              by_cases hz : L = 0
              · have z1 : decide (0 < L) = false := by simp; omega
                have hk2 : bootK fs ks (k + 1) = l0 := by rw [Hnx.out, Hkp.out, if_pos ⟨by omega, rfl⟩]; simp
                have Hk2 := Lib.hid hk2
                clear hk2 hz
                go_wp2
                refine ⟨⟨k + 1, by omega, by go_num, ?_⟩, by simp [intOf]; omega⟩
                rw [Hk2.out]
                exact ⟨HRow.out.alloc _, hbw.alloc hbw.size _⟩
              · have z1 : decide (0 < L) = true := by simp; omega
                have hk2 : bootK fs ks (k + 1) = l0 ++ [sureF q L] := by rw [Hnx.out, Hkp.out, if_neg (by omega)]; rfl
                have Hk2 := Lib.hid hk2
                clear hk2
                go_wp2
                have hbx := Box.new wr 44 #[.string s1, .string s2, .int .i64 (sf : Int), .bool false]
                have hb1 := hbw.alloc hbw.size (.cells #[.string s1, .string s2, .int .i64 (sf : Int), .bool false] 44)
                have hrow1 := HRow.out.alloc (.cells #[.string s1, .string s2, .int .i64 (sf : Int), .bool false] 44)
                generalize (wr.alloc (.cells #[.string s1, .string s2, .int .i64 (sf : Int), .bool false] 44)) = V at hbx hb1 hrow1 ⊢
                have e0 : V.cell? ⟨wr.heap.size, 0, none⟩ = some (.string s1) := hbx.cell 0
                have e1 : V.cell? ⟨wr.heap.size, 1, none⟩ = some (.string s2) := hbx.cell 1
                have hrowD : V.drew.ownsRow w.heap.size 44 4 (.slice Av l0.length cv) l0.length (cellsF l0) := hrow1
                have hb1D := hb1.drew
                clear hbx hrow1 hb1 c0 c1 c2 c3
                have hnr : some wr.heap.size ≠ (Value.slice Av l0.length cv).ownBlock := fun e => by have := (HRow.out.lt _ e.symm).2; omega
                go_region_held3 (fun u => u.cell? ⟨wr.heap.size, 0, none⟩ = some (.string s1) ∧ u.cell? ⟨wr.heap.size, 1, none⟩ = some (.string s2)) (first | exact ⟨e0, e1⟩ | assumption | exact ⟨cell_alloc (u := V.drew) e0 _, cell_alloc (u := V.drew) e1 _⟩)
                  (first
                    | (refine step_append_fils _ rfl (.tmp 60) (.tmp 69) 27 rfl w.heap.size 44 i0 _ Try.underlying27 hi0 hz0 hz1 hz2 rfl _ l0.length _ rfl (hrowD.alloc _) _ _ _ _ [sureF q L] rfl rfl (HF1.out V.drew 44) (by simp only [List.length_cons, List.length_nil]; omega) (Nat.le_trans hb1D.size (by simp)) ?_; intro v6 w6 hown6 hg6 hat6; have hS6 : w6.cell? ⟨wr.heap.size, 0, none⟩ = some (.string s1) ∧ w6.cell? ⟨wr.heap.size, 1, none⟩ = some (.string s2) := ⟨cell_grown (cell_alloc (u := V.drew) e0 _) hg6 hnr, cell_grown (cell_alloc (u := V.drew) e1 _) hg6 hnr⟩))
                all_goals
                  have hb6 : Below w.heap.size w w6 := (hb1D.alloc hb1D.size _).grown hg6 (Nat.le_trans hb1D.size (by simp)) (fun j hj => (hrowD.lt j hj).1)
                  have hN : BtAt w w6 v6 (bootK fs ks (k + 1)) := ⟨by rw [Hk2.out, cellsF_app, List.length_append]; exact hown6, hb6⟩
                  clear hown6 hg6 hat6 hb6 hrowD hb1D hS6 e0 e1
                  go_wp2
                  go_roundw
                  case rel => exact ⟨k + 1, by omega, by go_num, hN⟩
                  case measure => simp [intOf]; omega
          · have hgd : decide ((s2.size : Int) - (sf : Int) < t) = false := by rw [Hz.out]; simpa using hgt
            have hsum : (sf : Int) + t = (L : Int) := by omega
            have hsz2 : sf ≤ s2.size := by rw [Hz.out]; exact hqs
            have htb : t ≤ 16777216 := by omega
            clear hLm
            cases sy with
            | true =>
              have hk2 : bootK fs ks (k + 1) = l0 ++ [sureF q L] := by rw [Hnx.out, Hkp.out, if_neg (by simp)]; rfl
              have Hk2 := Lib.hid hk2
              clear hk2
              go_wp2
              have hbx := Box.new wr 44 #[.string s1, .string s2, .int .i64 (sf : Int), .bool true]
              have hb1 := hbw.alloc hbw.size (.cells #[.string s1, .string s2, .int .i64 (sf : Int), .bool true] 44)
              have hrow1 := HRow.out.alloc (.cells #[.string s1, .string s2, .int .i64 (sf : Int), .bool true] 44)
              generalize (wr.alloc (.cells #[.string s1, .string s2, .int .i64 (sf : Int), .bool true] 44)) = V at hbx hb1 hrow1 ⊢
              have e0 : V.cell? ⟨wr.heap.size, 0, none⟩ = some (.string s1) := hbx.cell 0
              have e1 : V.cell? ⟨wr.heap.size, 1, none⟩ = some (.string s2) := hbx.cell 1
              have hrowD : V.drew.ownsRow w.heap.size 44 4 (.slice Av l0.length cv) l0.length (cellsF l0) := hrow1
              have hb1D := hb1.drew
              clear hbx hrow1 hb1 c0 c1 c2 c3
              have hnr : some wr.heap.size ≠ (Value.slice Av l0.length cv).ownBlock := fun e => by have := (HRow.out.lt _ e.symm).2; omega
              go_region_held3 (fun u => u.cell? ⟨wr.heap.size, 0, none⟩ = some (.string s1) ∧ u.cell? ⟨wr.heap.size, 1, none⟩ = some (.string s2)) (first | exact ⟨e0, e1⟩ | assumption | exact ⟨cell_alloc (u := V.drew) e0 _, cell_alloc (u := V.drew) e1 _⟩)
                (first
                  | (refine step_append_fils _ rfl (.tmp 60) (.tmp 69) 27 rfl w.heap.size 44 i0 _ Try.underlying27 hi0 hz0 hz1 hz2 rfl _ l0.length _ rfl (hrowD.alloc _) _ _ _ _ [sureF q L] rfl rfl (HF1.out V.drew 44) (by simp only [List.length_cons, List.length_nil]; omega) (Nat.le_trans hb1D.size (by simp)) ?_; intro v6 w6 hown6 hg6 hat6; have hS6 : w6.cell? ⟨wr.heap.size, 0, none⟩ = some (.string s1) ∧ w6.cell? ⟨wr.heap.size, 1, none⟩ = some (.string s2) := ⟨cell_grown (cell_alloc (u := V.drew) e0 _) hg6 hnr, cell_grown (cell_alloc (u := V.drew) e1 _) hg6 hnr⟩))
              all_goals
                have hb6 : Below w.heap.size w w6 := (hb1D.alloc hb1D.size _).grown hg6 (Nat.le_trans hb1D.size (by simp)) (fun j hj => (hrowD.lt j hj).1)
                have hN : BtAt w w6 v6 (bootK fs ks (k + 1)) := ⟨by rw [Hk2.out, cellsF_app, List.length_append]; exact hown6, hb6⟩
                clear hown6 hg6 hat6 hb6 hrowD hb1D hS6 e0 e1
                go_wp2
                go_roundw
                case rel => exact ⟨k + 1, by omega, by go_num, hN⟩
                case measure => simp [intOf]; omega
            | false =>
              by_cases hz : L = 0
              · have z1 : decide (0 < L) = false := by simp; omega
                have hk2 : bootK fs ks (k + 1) = l0 := by rw [Hnx.out, Hkp.out, if_pos ⟨by omega, rfl⟩]; simp
                have Hk2 := Lib.hid hk2
                clear hk2 hz
                go_wp2
                refine ⟨⟨k + 1, by omega, by go_num, ?_⟩, by simp [intOf]; omega⟩
                rw [Hk2.out]
                exact ⟨HRow.out.alloc _, hbw.alloc hbw.size _⟩
              · have z1 : decide (0 < L) = true := by simp; omega
                have hk2 : bootK fs ks (k + 1) = l0 ++ [sureF q L] := by rw [Hnx.out, Hkp.out, if_neg (by omega)]; rfl
                have Hk2 := Lib.hid hk2
                clear hk2
                go_wp2
                have hbx := Box.new wr 44 #[.string s1, .string s2, .int .i64 (sf : Int), .bool false]
                have hb1 := hbw.alloc hbw.size (.cells #[.string s1, .string s2, .int .i64 (sf : Int), .bool false] 44)
                have hrow1 := HRow.out.alloc (.cells #[.string s1, .string s2, .int .i64 (sf : Int), .bool false] 44)
                generalize (wr.alloc (.cells #[.string s1, .string s2, .int .i64 (sf : Int), .bool false] 44)) = V at hbx hb1 hrow1 ⊢
                have e0 : V.cell? ⟨wr.heap.size, 0, none⟩ = some (.string s1) := hbx.cell 0
                have e1 : V.cell? ⟨wr.heap.size, 1, none⟩ = some (.string s2) := hbx.cell 1
                have hrowD : V.drew.ownsRow w.heap.size 44 4 (.slice Av l0.length cv) l0.length (cellsF l0) := hrow1
                have hb1D := hb1.drew
                clear hbx hrow1 hb1 c0 c1 c2 c3
                have hnr : some wr.heap.size ≠ (Value.slice Av l0.length cv).ownBlock := fun e => by have := (HRow.out.lt _ e.symm).2; omega
                go_region_held3 (fun u => u.cell? ⟨wr.heap.size, 0, none⟩ = some (.string s1) ∧ u.cell? ⟨wr.heap.size, 1, none⟩ = some (.string s2)) (first | exact ⟨e0, e1⟩ | assumption | exact ⟨cell_alloc (u := V.drew) e0 _, cell_alloc (u := V.drew) e1 _⟩)
                  (first
                    | (refine step_append_fils _ rfl (.tmp 60) (.tmp 69) 27 rfl w.heap.size 44 i0 _ Try.underlying27 hi0 hz0 hz1 hz2 rfl _ l0.length _ rfl (hrowD.alloc _) _ _ _ _ [sureF q L] rfl rfl (HF1.out V.drew 44) (by simp only [List.length_cons, List.length_nil]; omega) (Nat.le_trans hb1D.size (by simp)) ?_; intro v6 w6 hown6 hg6 hat6; have hS6 : w6.cell? ⟨wr.heap.size, 0, none⟩ = some (.string s1) ∧ w6.cell? ⟨wr.heap.size, 1, none⟩ = some (.string s2) := ⟨cell_grown (cell_alloc (u := V.drew) e0 _) hg6 hnr, cell_grown (cell_alloc (u := V.drew) e1 _) hg6 hnr⟩))
                all_goals
                  have hb6 : Below w.heap.size w w6 := (hb1D.alloc hb1D.size _).grown hg6 (Nat.le_trans hb1D.size (by simp)) (fun j hj => (hrowD.lt j hj).1)
                  have hN : BtAt w w6 v6 (bootK fs ks (k + 1)) := ⟨by rw [Hk2.out, cellsF_app, List.length_append]; exact hown6, hb6⟩
                  clear hown6 hg6 hat6 hb6 hrowD hb1D hS6 e0 e1
                  go_wp2
                  go_roundw
                  case rel => exact ⟨k + 1, by omega, by go_num, hN⟩
                  case measure => simp [intOf]; omega
        · have htd : decide (0 < t) = false := by simpa using htp
          obtain rfl : sf = L := by omega
          clear hLm
          cases sy with
          | true =>
            have hk2 : bootK fs ks (k + 1) = l0 ++ [sureF q sf] := by rw [Hnx.out, Hkp.out, if_neg (by simp)]; rfl
            have Hk2 := Lib.hid hk2
            clear hk2
            go_wp2
            have hbx := Box.new wr 44 #[.string s1, .string s2, .int .i64 (sf : Int), .bool true]
            have hb1 := hbw.alloc hbw.size (.cells #[.string s1, .string s2, .int .i64 (sf : Int), .bool true] 44)
            have hrow1 := HRow.out.alloc (.cells #[.string s1, .string s2, .int .i64 (sf : Int), .bool true] 44)
            generalize (wr.alloc (.cells #[.string s1, .string s2, .int .i64 (sf : Int), .bool true] 44)) = V at hbx hb1 hrow1 ⊢
            have e0 : V.cell? ⟨wr.heap.size, 0, none⟩ = some (.string s1) := hbx.cell 0
            have e1 : V.cell? ⟨wr.heap.size, 1, none⟩ = some (.string s2) := hbx.cell 1
            have hrowD : V.drew.ownsRow w.heap.size 44 4 (.slice Av l0.length cv) l0.length (cellsF l0) := hrow1
            have hb1D := hb1.drew
            clear hbx hrow1 hb1 c0 c1 c2 c3
            have hnr : some wr.heap.size ≠ (Value.slice Av l0.length cv).ownBlock := fun e => by have := (HRow.out.lt _ e.symm).2; omega
            go_region_held3 (fun u => u.cell? ⟨wr.heap.size, 0, none⟩ = some (.string s1) ∧ u.cell? ⟨wr.heap.size, 1, none⟩ = some (.string s2)) (first | exact ⟨e0, e1⟩ | assumption | exact ⟨cell_alloc (u := V.drew) e0 _, cell_alloc (u := V.drew) e1 _⟩)
              (first
                | (refine step_append_fils _ rfl (.tmp 60) (.tmp 69) 27 rfl w.heap.size 44 i0 _ Try.underlying27 hi0 hz0 hz1 hz2 rfl _ l0.length _ rfl (hrowD.alloc _) _ _ _ _ [sureF q sf] rfl rfl (HF1.out V.drew 44) (by simp only [List.length_cons, List.length_nil]; omega) (Nat.le_trans hb1D.size (by simp)) ?_; intro v6 w6 hown6 hg6 hat6; have hS6 : w6.cell? ⟨wr.heap.size, 0, none⟩ = some (.string s1) ∧ w6.cell? ⟨wr.heap.size, 1, none⟩ = some (.string s2) := ⟨cell_grown (cell_alloc (u := V.drew) e0 _) hg6 hnr, cell_grown (cell_alloc (u := V.drew) e1 _) hg6 hnr⟩))
            all_goals
              have hb6 : Below w.heap.size w w6 := (hb1D.alloc hb1D.size _).grown hg6 (Nat.le_trans hb1D.size (by simp)) (fun j hj => (hrowD.lt j hj).1)
              have hN : BtAt w w6 v6 (bootK fs ks (k + 1)) := ⟨by rw [Hk2.out, cellsF_app, List.length_append]; exact hown6, hb6⟩
              clear hown6 hg6 hat6 hb6 hrowD hb1D hS6 e0 e1
              go_wp2
              go_roundw
              case rel => exact ⟨k + 1, by omega, by go_num, hN⟩
              case measure => simp [intOf]; omega
          | false =>
            by_cases hz : sf = 0
            · have z1 : decide (0 < sf) = false := by simp; omega
              have hk2 : bootK fs ks (k + 1) = l0 := by rw [Hnx.out, Hkp.out, if_pos ⟨by omega, rfl⟩]; simp
              have Hk2 := Lib.hid hk2
              clear hk2 hz
              go_wp2
              refine ⟨⟨k + 1, by omega, by go_num, ?_⟩, by simp [intOf]; omega⟩
              rw [Hk2.out]
              exact ⟨HRow.out.alloc _, hbw.alloc hbw.size _⟩
            · have z1 : decide (0 < sf) = true := by simp; omega
              have hk2 : bootK fs ks (k + 1) = l0 ++ [sureF q sf] := by rw [Hnx.out, Hkp.out, if_neg (by omega)]; rfl
              have Hk2 := Lib.hid hk2
              clear hk2
              go_wp2
              have hbx := Box.new wr 44 #[.string s1, .string s2, .int .i64 (sf : Int), .bool false]
              have hb1 := hbw.alloc hbw.size (.cells #[.string s1, .string s2, .int .i64 (sf : Int), .bool false] 44)
              have hrow1 := HRow.out.alloc (.cells #[.string s1, .string s2, .int .i64 (sf : Int), .bool false] 44)
              generalize (wr.alloc (.cells #[.string s1, .string s2, .int .i64 (sf : Int), .bool false] 44)) = V at hbx hb1 hrow1 ⊢
              have e0 : V.cell? ⟨wr.heap.size, 0, none⟩ = some (.string s1) := hbx.cell 0
              have e1 : V.cell? ⟨wr.heap.size, 1, none⟩ = some (.string s2) := hbx.cell 1
              have hrowD : V.drew.ownsRow w.heap.size 44 4 (.slice Av l0.length cv) l0.length (cellsF l0) := hrow1
              have hb1D := hb1.drew
              clear hbx hrow1 hb1 c0 c1 c2 c3
              have hnr : some wr.heap.size ≠ (Value.slice Av l0.length cv).ownBlock := fun e => by have := (HRow.out.lt _ e.symm).2; omega
              go_region_held3 (fun u => u.cell? ⟨wr.heap.size, 0, none⟩ = some (.string s1) ∧ u.cell? ⟨wr.heap.size, 1, none⟩ = some (.string s2)) (first | exact ⟨e0, e1⟩ | assumption | exact ⟨cell_alloc (u := V.drew) e0 _, cell_alloc (u := V.drew) e1 _⟩)
                (first
                  | (refine step_append_fils _ rfl (.tmp 60) (.tmp 69) 27 rfl w.heap.size 44 i0 _ Try.underlying27 hi0 hz0 hz1 hz2 rfl _ l0.length _ rfl (hrowD.alloc _) _ _ _ _ [sureF q sf] rfl rfl (HF1.out V.drew 44) (by simp only [List.length_cons, List.length_nil]; omega) (Nat.le_trans hb1D.size (by simp)) ?_; intro v6 w6 hown6 hg6 hat6; have hS6 : w6.cell? ⟨wr.heap.size, 0, none⟩ = some (.string s1) ∧ w6.cell? ⟨wr.heap.size, 1, none⟩ = some (.string s2) := ⟨cell_grown (cell_alloc (u := V.drew) e0 _) hg6 hnr, cell_grown (cell_alloc (u := V.drew) e1 _) hg6 hnr⟩))
              all_goals
                have hb6 : Below w.heap.size w w6 := (hb1D.alloc hb1D.size _).grown hg6 (Nat.le_trans hb1D.size (by simp)) (fun j hj => (hrowD.lt j hj).1)
                have hN : BtAt w w6 v6 (bootK fs ks (k + 1)) := ⟨by rw [Hk2.out, cellsF_app, List.length_append]; exact hown6, hb6⟩
                clear hown6 hg6 hat6 hb6 hrowD hb1D hS6 e0 e1
                go_wp2
                go_roundw
                case rel => exact ⟨k + 1, by omega, by go_num, hN⟩
                case measure => simp [intOf]; omega
      · have hkd : decide (k < ks.length) = false := by simpa using hkk
        have ht0 := kout hkk
        obtain rfl : sf = L := by rw [ht0] at hLm; simp at hLm; omega
        clear kin kout ht0 hLm
        cases sy with
        | true =>
          have hk2 : bootK fs ks (k + 1) = l0 ++ [sureF q sf] := by rw [Hnx.out, Hkp.out, if_neg (by simp)]; rfl
          have Hk2 := Lib.hid hk2
          clear hk2
          go_wp2
          have hbx := Box.new wr 44 #[.string s1, .string s2, .int .i64 (sf : Int), .bool true]
          have hb1 := hbw.alloc hbw.size (.cells #[.string s1, .string s2, .int .i64 (sf : Int), .bool true] 44)
          have hrow1 := HRow.out.alloc (.cells #[.string s1, .string s2, .int .i64 (sf : Int), .bool true] 44)
          generalize (wr.alloc (.cells #[.string s1, .string s2, .int .i64 (sf : Int), .bool true] 44)) = V at hbx hb1 hrow1 ⊢
          have e0 : V.cell? ⟨wr.heap.size, 0, none⟩ = some (.string s1) := hbx.cell 0
          have e1 : V.cell? ⟨wr.heap.size, 1, none⟩ = some (.string s2) := hbx.cell 1
          have hrowD : V.drew.ownsRow w.heap.size 44 4 (.slice Av l0.length cv) l0.length (cellsF l0) := hrow1
          have hb1D := hb1.drew
          clear hbx hrow1 hb1 c0 c1 c2 c3
          have hnr : some wr.heap.size ≠ (Value.slice Av l0.length cv).ownBlock := fun e => by have := (HRow.out.lt _ e.symm).2; omega
          go_region_held3 (fun u => u.cell? ⟨wr.heap.size, 0, none⟩ = some (.string s1) ∧ u.cell? ⟨wr.heap.size, 1, none⟩ = some (.string s2)) (first | exact ⟨e0, e1⟩ | assumption | exact ⟨cell_alloc (u := V.drew) e0 _, cell_alloc (u := V.drew) e1 _⟩)
            (first
              | (refine step_append_fils _ rfl (.tmp 60) (.tmp 69) 27 rfl w.heap.size 44 i0 _ Try.underlying27 hi0 hz0 hz1 hz2 rfl _ l0.length _ rfl (hrowD.alloc _) _ _ _ _ [sureF q sf] rfl rfl (HF1.out V.drew 44) (by simp only [List.length_cons, List.length_nil]; omega) (Nat.le_trans hb1D.size (by simp)) ?_; intro v6 w6 hown6 hg6 hat6; have hS6 : w6.cell? ⟨wr.heap.size, 0, none⟩ = some (.string s1) ∧ w6.cell? ⟨wr.heap.size, 1, none⟩ = some (.string s2) := ⟨cell_grown (cell_alloc (u := V.drew) e0 _) hg6 hnr, cell_grown (cell_alloc (u := V.drew) e1 _) hg6 hnr⟩))
          all_goals
            have hb6 : Below w.heap.size w w6 := (hb1D.alloc hb1D.size _).grown hg6 (Nat.le_trans hb1D.size (by simp)) (fun j hj => (hrowD.lt j hj).1)
            have hN : BtAt w w6 v6 (bootK fs ks (k + 1)) := ⟨by rw [Hk2.out, cellsF_app, List.length_append]; exact hown6, hb6⟩
            clear hown6 hg6 hat6 hb6 hrowD hb1D hS6 e0 e1
            go_wp2
            go_roundw
            case rel => exact ⟨k + 1, by omega, by go_num, hN⟩
            case measure => simp [intOf]; omega
        | false =>
          by_cases hz : sf = 0
          · have z1 : decide (0 < sf) = false := by simp; omega
            have hk2 : bootK fs ks (k + 1) = l0 := by rw [Hnx.out, Hkp.out, if_pos ⟨by omega, rfl⟩]; simp
            have Hk2 := Lib.hid hk2
            clear hk2 hz
            go_wp2
            refine ⟨⟨k + 1, by omega, by go_num, ?_⟩, by simp [intOf]; omega⟩
            rw [Hk2.out]
            exact ⟨HRow.out.alloc _, hbw.alloc hbw.size _⟩
          · have z1 : decide (0 < sf) = true := by simp; omega
            have hk2 : bootK fs ks (k + 1) = l0 ++ [sureF q sf] := by rw [Hnx.out, Hkp.out, if_neg (by omega)]; rfl
            have Hk2 := Lib.hid hk2
            clear hk2
            go_wp2
            have hbx := Box.new wr 44 #[.string s1, .string s2, .int .i64 (sf : Int), .bool false]
            have hb1 := hbw.alloc hbw.size (.cells #[.string s1, .string s2, .int .i64 (sf : Int), .bool false] 44)
            have hrow1 := HRow.out.alloc (.cells #[.string s1, .string s2, .int .i64 (sf : Int), .bool false] 44)
            generalize (wr.alloc (.cells #[.string s1, .string s2, .int .i64 (sf : Int), .bool false] 44)) = V at hbx hb1 hrow1 ⊢
            have e0 : V.cell? ⟨wr.heap.size, 0, none⟩ = some (.string s1) := hbx.cell 0
            have e1 : V.cell? ⟨wr.heap.size, 1, none⟩ = some (.string s2) := hbx.cell 1
            have hrowD : V.drew.ownsRow w.heap.size 44 4 (.slice Av l0.length cv) l0.length (cellsF l0) := hrow1
            have hb1D := hb1.drew
            clear hbx hrow1 hb1 c0 c1 c2 c3
            have hnr : some wr.heap.size ≠ (Value.slice Av l0.length cv).ownBlock := fun e => by have := (HRow.out.lt _ e.symm).2; omega
            go_region_held3 (fun u => u.cell? ⟨wr.heap.size, 0, none⟩ = some (.string s1) ∧ u.cell? ⟨wr.heap.size, 1, none⟩ = some (.string s2)) (first | exact ⟨e0, e1⟩ | assumption | exact ⟨cell_alloc (u := V.drew) e0 _, cell_alloc (u := V.drew) e1 _⟩)
              (first
                | (refine step_append_fils _ rfl (.tmp 60) (.tmp 69) 27 rfl w.heap.size 44 i0 _ Try.underlying27 hi0 hz0 hz1 hz2 rfl _ l0.length _ rfl (hrowD.alloc _) _ _ _ _ [sureF q sf] rfl rfl (HF1.out V.drew 44) (by simp only [List.length_cons, List.length_nil]; omega) (Nat.le_trans hb1D.size (by simp)) ?_; intro v6 w6 hown6 hg6 hat6; have hS6 : w6.cell? ⟨wr.heap.size, 0, none⟩ = some (.string s1) ∧ w6.cell? ⟨wr.heap.size, 1, none⟩ = some (.string s2) := ⟨cell_grown (cell_alloc (u := V.drew) e0 _) hg6 hnr, cell_grown (cell_alloc (u := V.drew) e1 _) hg6 hnr⟩))
            all_goals
              have hb6 : Below w.heap.size w w6 := (hb1D.alloc hb1D.size _).grown hg6 (Nat.le_trans hb1D.size (by simp)) (fun j hj => (hrowD.lt j hj).1)
              have hN : BtAt w w6 v6 (bootK fs ks (k + 1)) := ⟨by rw [Hk2.out, cellsF_app, List.length_append]; exact hown6, hb6⟩
              clear hown6 hg6 hat6 hb6 hrowD hb1D hS6 e0 e1
              go_wp2
              go_roundw
              case rel => exact ⟨k + 1, by omega, by go_num, hN⟩
              case measure => simp [intOf]; omega
    · obtain rfl : n = k := by omega
      go_wp2
      go_ret
      have e : bootK fs ks n = bootF fs ks := by unfold bootK; rw [Hn.out, List.take_length]
      rw [e] at hR
      exact ⟨_, rfl, by rw [← e]; exact (by rw [e]; exact hR.row), hR.bel⟩
end Go.Proofs.Ythfekmmcdfkigaa
