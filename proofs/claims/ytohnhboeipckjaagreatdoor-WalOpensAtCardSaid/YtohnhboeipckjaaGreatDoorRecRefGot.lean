/-
  The document's own answer of layer 6: the record at the beginning of bytes (Get), where a head is there.
  Conditions: the text has at most 1000 bytes.
-/
import Derived.Test.YtohnhboeipckjaaGreatDoorRecRefGet
import Derived.Deep.WholeRow
namespace Go.Proofs.YtohnhboeipckjaaGreatDoor
open Go.RowKit

theorem run_ext (s : ByteArray) (p q : Int) (h0 : 0 ≤ p) (h1 : p ≤ q) (h2 : q ≤ s.size) (W : World) : (Instr.slice 9 (.string s) (some (.int .i64 p)) (some (.int .i64 q)) none).run Tryz.prog W = .ok (.string (s.extract p.toNat q.toNat)) W :=
  run_slice_string (P := Tryz.prog) W 9 s .i64 .i64 p q Tryz.underlying9 h0 h1 h2
theorem four_eq {x : Nat} {t : ByteArray} {m : List UInt8} (hx : x < 4294967296) (ht : t.data.toList = m) (h4 : m.length = 4) : ((str (be4 x)).toList == t.toList) = (x == valB m) := by
  rw [toList_data, toList_data, str_list, ht, be4_ne hx h4]
theorem len_step (s : ByteArray) (j : Nat) (h1 : 1 ≤ j) (h5 : j < 5) (h9 : 9 ≤ s.size) :
    valB (((s.data.toList.drop 1).take 4).take (j + 1 - 1)) = 256 * valB (((s.data.toList.drop 1).take 4).take (j - 1)) + (s[j]'(by omega)).toNat := by
  have hn : s.data.toList.length = s.size := Array.length_toList
  have hm : ((s.data.toList.drop 1).take 4).length = 4 := by rw [List.length_take, List.length_drop]; omega
  have h := valB_take ((s.data.toList.drop 1).take 4) (j - 1) (by omega)
  rw [show j + 1 - 1 = j - 1 + 1 by omega, h, Nat.mul_comm]
  have e : ((s.data.toList.drop 1).take 4)[j - 1]'(by omega) = s[j]'(by omega) := by
    rw [List.getElem_take, List.getElem_drop, Array.getElem_toList]
    show s[1 + (j - 1)]'(by omega) = s[j]'(by omega)
    congr 1
    omega
  rw [e]
theorem len_lt (s : ByteArray) (j : Nat) (h9 : 9 ≤ s.size) : valB (((s.data.toList.drop 1).take 4).take (j - 1)) < 4294967296 := by
  have hn : s.data.toList.length = s.size := Array.length_toList
  have hm : ((s.data.toList.drop 1).take 4).length = 4 := by rw [List.length_take, List.length_drop]; omega
  by_cases h : j - 1 < 4
  · exact Nat.lt_trans (valB_lt_take hm h) (by omega)
  · rw [List.take_of_length_le (by omega)]
    exact valB_lt4 hm

set_option maxHeartbeats 8000000 in
set_option maxRecDepth 100000 in
theorem refGet_long (s : ByteArray) (w : World) (hs : s.size ≤ 1000) (hh : s.data.toList.head? = some 90) (h9 : 9 ≤ s.size) :
    Calls Tryz.prog 40 #[.string s] w (RefGot w s.data.toList) := by
  have hz := (zero_of_info infoGot).1
  unfold gotV at hz
  have h0 : 0 < s.size := by omega
  have hE := not_empty s h0
  have hx : some (s[0]'h0) = some 90 := by rw [← head_str s h0, hh]
  have hd0 : (((s[0]'h0).toNat : Int) != 90) = false := by rw [Option.some.inj hx]; rfl
  have hn : s.data.toList.length = s.size := Array.length_toList
  have hr1 : ∀ W, (Instr.slice 9 (.string s) (some (.int .i64 1)) (some (.int .i64 5)) none).run Tryz.prog W = .ok (.string (s.extract 1 5)) W := run_ext s 1 5 (by omega) (by omega) (by omega)
  have hr2 : ∀ W, (Instr.slice 9 (.string s) (some (.int .i64 5)) (some (.int .i64 9)) none).run Tryz.prog W = .ok (.string (s.extract 5 9)) W := run_ext s 5 9 (by omega) (by omega) (by omega)
  have e1 : (s.extract 1 5).data.toList = (s.data.toList.drop 1).take 4 := extract_take s 1 4
  have e2 : (s.extract 5 9).data.toList = (s.data.toList.drop 5).take 4 := extract_take s 5 4
  have n1 : ((s.data.toList.drop 1).take 4).length = 4 := by rw [List.length_take, List.length_drop]; omega
  have n2 : ((s.data.toList.drop 5).take 4).length = 4 := by rw [List.length_take, List.length_drop]; omega
  have hq := four_eq (crc_lt ((s.data.toList.drop 1).take 4)) e2 n2
  have z1 : (s.extract 1 5).size = 4 := by rw [size_of e1]; exact n1
  generalize s.extract 1 5 = t1 at *
  generalize s.extract 5 9 = t2 at *
  have HOF2 : Hid (∀ (A : Option Addr) (c : Nat) (W : World), Byt W W.heap.size A t1.data.toList → Calls Tryz.prog 36 #[.slice A 4 c] W fun e w' => e = .returned (.int .u32 (crc ((s.data.toList.drop 1).take 4) : Nat)) ∧ W = w') := fun A c W hb => by
    have h := conv_of t1 c A hb (by omega)
    rw [z1, e1] at h
    exact h
  obtain ⟨x1, hx1⟩ : ∃ x, x = crc ((s.data.toList.drop 1).take 4) := ⟨_, rfl⟩
  have hxl : x1 < 4294967296 := by rw [hx1]; exact crc_lt _
  rw [← hx1] at HOF2 hq
  have HX1 := Lib.hid hx1
  clear hx1
  have HH := Lib.hid hh
  clear hx hh n1 n2 e1 e2
  go_enter Tryz.func40, Tryz.ntmps40
  go_wp2_with fail
  have hbox := heap_alloc_last w (.cells #[.string ⟨#[]⟩, .int .i64 0, .int .i64 0] 74)
  have hB1 : Below w.heap.size w (w.alloc (.cells #[.string ⟨#[]⟩, .int .i64 0, .int .i64 0] 74)) := (Below.refl _ _).alloc (Nat.le_refl _) _
  have hsz1 : (w.alloc (.cells #[.string ⟨#[]⟩, .int .i64 0, .int .i64 0] 74)).heap.size = w.heap.size + 1 := by simp
  generalize w.alloc (.cells #[.string ⟨#[]⟩, .int .i64 0, .int .i64 0] 74) = w1 at *
  have HSZ := Lib.hid hsz1
  clear hsz1
  cases hf : (x1 == valB ((s.data.toList.drop 5).take 4)) with
  | false =>
    rw [hf] at hq
    have HG := Lib.hid (show getE s.data.toList = 5 by
      have h2 : headE s.data.toList = 5 := by unfold headE; rw [if_neg (by rw [HH.out]; simp), if_neg (by omega), if_pos (by rw [← HX1.out]; simpa using hf)]
      unfold getE; rw [if_pos (by rw [h2]; decide), h2])
    clear hf
    refine wp_region_held_drew (S := fun u => Below w1.heap.size w1 u) (by kernel_rfl) (Below.drew (Below.refl _ _)) (fun hHeld => ?_)
    refine wpAnyH_take (i := 0) (oi := ⟨some 16, _, _, _, _, _⟩) (v := ?_) rfl (by kernel_rfl) (by kernel_rfl) (by kernel_rfl) (fun _ _ _ h => h) (Or.inl ⟨by rfl, ?_⟩) (by assumption) ?_
    rotate_left
    · (intro u hu; (try dsimp only at hu); go_simp; (try with_reducible rfl))
    (try simp only [Act.put, List.setIfInBounds_toArray, List.set_cons_zero, List.set_cons_succ])
    refine wpAnyH_take (i := 1) (oi := ⟨some 17, _, _, _, _, _⟩) (v := ?_) rfl (by kernel_rfl) (by kernel_rfl) (by kernel_rfl) (fun _ _ _ h => h) (Or.inl ⟨by rfl, ?_⟩) (by assumption) ?_
    rotate_left
    · (intro u hu; (try dsimp only at hu); go_simp; (try with_reducible rfl))
    (try simp only [Act.put, List.setIfInBounds_toArray, List.set_cons_zero, List.set_cons_succ])
    refine wpAnyH_take (i := 5) (oi := ⟨some 21, _, _, _, _, _⟩) (v := ?_) rfl (by kernel_rfl) (by kernel_rfl) (by kernel_rfl) (fun _ _ _ h => h) (Or.inl ⟨by rfl, ?_⟩) (by assumption) ?_
    rotate_left
    · (intro u hu; (try dsimp only at hu); go_simp; (try with_reducible rfl))
    (try simp only [Act.put, List.setIfInBounds_toArray, List.set_cons_zero, List.set_cons_succ])
    refine wpAnyH_take (i := 6) (oi := ⟨some 22, _, _, _, _, _⟩) (v := ?_) rfl (by kernel_rfl) (by kernel_rfl) (by kernel_rfl) (fun _ _ _ h => h) (Or.inl ⟨by rfl, ?_⟩) (by assumption) ?_
    rotate_left
    · (intro u hu; (try dsimp only at hu); go_simp; (try with_reducible rfl))
    (try simp only [Act.put, List.setIfInBounds_toArray, List.set_cons_zero, List.set_cons_succ])
    refine wpAnyH_ready (rs := [2]) (by kernel_rfl) (by simp) ?_
    refine AllReadyH.cons (o := ⟨some 18, _, _, _, _, _⟩) rfl (fun K hK => ?_) AllReadyH.nil
    refine step_conv _ rfl (.tmp 17) rfl t1 rfl ?_
    intro c2 u2 hb2 hB2
    have hS2 : Below w1.heap.size w1 u2 := (Below.drew (Below.refl _ w1)).trans (hB2.mono (Nat.le_refl _))
    have HO2 := Lib.hid (HOF2.out (some ⟨w1.heap.size, 0, none⟩) c2 u2 hb2)
    clear hb2
    refine hK.out _ _ ?_ (fun hHeld => ?_)
    · exact hS2
    clear hK K
    (try simp only [Act.put, List.setIfInBounds_toArray, List.set_cons_zero, List.set_cons_succ])
    refine wpAnyH_ready (rs := [3]) (by kernel_rfl) (by simp) ?_
    refine AllReadyH.cons (o := ⟨some 19, _, _, _, _, _⟩) rfl (fun K hK => ?_) AllReadyH.nil
    go_simp
    (with_reducible refine HO2.out.mono ?_)
    rintro e x2 ⟨rfl, rfl⟩
    go_wp2_with fail
    refine hK.out _ _ ?_ (fun hHeld => ?_)
    · exact hS2
    clear hK K
    (try simp only [Act.put, List.setIfInBounds_toArray, List.set_cons_zero, List.set_cons_succ])
    refine wpAnyH_ready (rs := [4]) (by kernel_rfl) (by simp) ?_
    refine AllReadyH.cons (o := ⟨some 20, _, _, _, _, _⟩) rfl (fun K hK => ?_) AllReadyH.nil
    go_simp
    (with_reducible refine (four_any (x1) u2 hxl).mono ?_)
    rintro e W2 ⟨rfl, bb2⟩
    have hT2 : Below w1.heap.size w1 W2 := hS2.trans (bb2.mono hS2.size)
    go_wp2_with fail
    refine hK.out _ _ ?_ (fun hHeld => ?_)
    · exact hT2
    clear hK K
    (try simp only [Act.put, List.setIfInBounds_toArray, List.set_cons_zero, List.set_cons_succ])
    refine wpAnyH_take (i := 7) (oi := ⟨some 23, _, _, _, _, _⟩) (v := ?_) rfl (by kernel_rfl) (by kernel_rfl) (by kernel_rfl) (fun _ _ _ h => h) (Or.inl ⟨by rfl, ?_⟩) (by assumption) ?_
    rotate_left
    · (intro u hu; (try dsimp only at hu); go_simp; (try with_reducible rfl))
    (try simp only [Act.put, List.setIfInBounds_toArray, List.set_cons_zero, List.set_cons_succ])
    refine wpAnyH_done (by kernel_rfl) ?_ _
    have hbx : W2.heap[w.heap.size]? = some (.cells #[.string ⟨#[]⟩, .int .i64 0, .int .i64 0] 74 (0, 0)) := (hT2.block _ (by rw [HSZ.out]; omega)).trans hbox
    have hBW := hB1.trans (hT2.mono hB1.size)
    go_wp2_with (refine wpList_store_row rfl 74 (.tmp 2) (.tmp 24) rfl w.heap.size 74 #[.string ⟨#[]⟩, .int .i64 0, .int .i64 0] #[.string ⟨#[]⟩, .int .i64 0, .int .i64 5] rfl rfl hbx sizeGot rfl (by simp [Value.oneCell']) ?_)
    refine bodyPost_ret (results_cell_row rfl _ _ w.heap.size 74 #[.string ⟨#[]⟩, .int .i64 0, .int .i64 5] (0, 0) _ rfl (setRow_heap _ _ _ _ _ _ hbx) Tryz.underlying74 rfl sizeGot) rfl ?_
    exact refGot_no (n := 5) HG.out (by decide) (below_putRow hBW (Nat.le_refl _) _)
  | true =>
    rw [hf] at hq
    have HF := Lib.hid (show crc ((s.data.toList.drop 1).take 4) = valB ((s.data.toList.drop 5).take 4) by rw [← HX1.out]; simpa using hf)
    clear hf
    refine wp_region_held_drew (S := fun u => Below w1.heap.size w1 u) (by kernel_rfl) (Below.drew (Below.refl _ _)) (fun hHeld => ?_)
    refine wpAnyH_take (i := 0) (oi := ⟨some 16, _, _, _, _, _⟩) (v := ?_) rfl (by kernel_rfl) (by kernel_rfl) (by kernel_rfl) (fun _ _ _ h => h) (Or.inl ⟨by rfl, ?_⟩) (by assumption) ?_
    rotate_left
    · (intro u hu; (try dsimp only at hu); go_simp; (try with_reducible rfl))
    (try simp only [Act.put, List.setIfInBounds_toArray, List.set_cons_zero, List.set_cons_succ])
    refine wpAnyH_take (i := 1) (oi := ⟨some 17, _, _, _, _, _⟩) (v := ?_) rfl (by kernel_rfl) (by kernel_rfl) (by kernel_rfl) (fun _ _ _ h => h) (Or.inl ⟨by rfl, ?_⟩) (by assumption) ?_
    rotate_left
    · (intro u hu; (try dsimp only at hu); go_simp; (try with_reducible rfl))
    (try simp only [Act.put, List.setIfInBounds_toArray, List.set_cons_zero, List.set_cons_succ])
    refine wpAnyH_take (i := 5) (oi := ⟨some 21, _, _, _, _, _⟩) (v := ?_) rfl (by kernel_rfl) (by kernel_rfl) (by kernel_rfl) (fun _ _ _ h => h) (Or.inl ⟨by rfl, ?_⟩) (by assumption) ?_
    rotate_left
    · (intro u hu; (try dsimp only at hu); go_simp; (try with_reducible rfl))
    (try simp only [Act.put, List.setIfInBounds_toArray, List.set_cons_zero, List.set_cons_succ])
    refine wpAnyH_take (i := 6) (oi := ⟨some 22, _, _, _, _, _⟩) (v := ?_) rfl (by kernel_rfl) (by kernel_rfl) (by kernel_rfl) (fun _ _ _ h => h) (Or.inl ⟨by rfl, ?_⟩) (by assumption) ?_
    rotate_left
    · (intro u hu; (try dsimp only at hu); go_simp; (try with_reducible rfl))
    (try simp only [Act.put, List.setIfInBounds_toArray, List.set_cons_zero, List.set_cons_succ])
    refine wpAnyH_ready (rs := [2]) (by kernel_rfl) (by simp) ?_
    refine AllReadyH.cons (o := ⟨some 18, _, _, _, _, _⟩) rfl (fun K hK => ?_) AllReadyH.nil
    refine step_conv _ rfl (.tmp 17) rfl t1 rfl ?_
    intro c2 u2 hb2 hB2
    have hS2 : Below w1.heap.size w1 u2 := (Below.drew (Below.refl _ w1)).trans (hB2.mono (Nat.le_refl _))
    have HO2 := Lib.hid (HOF2.out (some ⟨w1.heap.size, 0, none⟩) c2 u2 hb2)
    clear hb2
    refine hK.out _ _ ?_ (fun hHeld => ?_)
    · exact hS2
    clear hK K
    (try simp only [Act.put, List.setIfInBounds_toArray, List.set_cons_zero, List.set_cons_succ])
    refine wpAnyH_ready (rs := [3]) (by kernel_rfl) (by simp) ?_
    refine AllReadyH.cons (o := ⟨some 19, _, _, _, _, _⟩) rfl (fun K hK => ?_) AllReadyH.nil
    go_simp
    (with_reducible refine HO2.out.mono ?_)
    rintro e x2 ⟨rfl, rfl⟩
    go_wp2_with fail
    refine hK.out _ _ ?_ (fun hHeld => ?_)
    · exact hS2
    clear hK K
    (try simp only [Act.put, List.setIfInBounds_toArray, List.set_cons_zero, List.set_cons_succ])
    refine wpAnyH_ready (rs := [4]) (by kernel_rfl) (by simp) ?_
    refine AllReadyH.cons (o := ⟨some 20, _, _, _, _, _⟩) rfl (fun K hK => ?_) AllReadyH.nil
    go_simp
    (with_reducible refine (four_any (x1) u2 hxl).mono ?_)
    rintro e W2 ⟨rfl, bb2⟩
    have hT2 : Below w1.heap.size w1 W2 := hS2.trans (bb2.mono hS2.size)
    go_wp2_with fail
    refine hK.out _ _ ?_ (fun hHeld => ?_)
    · exact hT2
    clear hK K
    (try simp only [Act.put, List.setIfInBounds_toArray, List.set_cons_zero, List.set_cons_succ])
    refine wpAnyH_take (i := 7) (oi := ⟨some 23, _, _, _, _, _⟩) (v := ?_) rfl (by kernel_rfl) (by kernel_rfl) (by kernel_rfl) (fun _ _ _ h => h) (Or.inl ⟨by rfl, ?_⟩) (by assumption) ?_
    rotate_left
    · (intro u hu; (try dsimp only at hu); go_simp; (try with_reducible rfl))
    (try simp only [Act.put, List.setIfInBounds_toArray, List.set_cons_zero, List.set_cons_succ])
    refine wpAnyH_done (by kernel_rfl) ?_ _
    have hbx : W2.heap[w.heap.size]? = some (.cells #[.string ⟨#[]⟩, .int .i64 0, .int .i64 0] 74 (0, 0)) := (hT2.block _ (by rw [HSZ.out]; omega)).trans hbox
    have hBW := hB1.trans (hT2.mono hB1.size)
    have hsz2 : w.heap.size < W2.heap.size := by have := hT2.size; have := HSZ.out; omega
    clear hq HO2 HOF2 hS2 hB2 bb2 hHeld hT2 hbox hB1 HSZ
    go_wp2
    go_loop [3, 4] (fun v i => ∃ j : Nat, 1 ≤ j ∧ j ≤ 5 ∧ i = .int .i64 j ∧ v = .int .i64 (valB (((s.data.toList.drop 1).take 4).take (j - 1)) : Nat)) (fun _ i => 5 - (intOf i).toNat)
    case atStart => exact ⟨1, by omega, by omega, rfl, rfl⟩
    case round =>
      obtain ⟨j, hj1, hj5, rfl, rfl⟩ := hrel
      have hlt := len_lt s j h9
      by_cases h8 : j < 5
      · have hst := Lib.hid (len_step s j hj1 h8 h9)
        have hu := UInt8.toNat_lt (s[j]'(by omega))
        have hjs : j < s.size := by omega
        obtain ⟨t, ht⟩ : ∃ t, t = valB (((s.data.toList.drop 1).take 4).take (j - 1)) := ⟨_, rfl⟩
        rw [← ht] at hst hlt ⊢
        clear ht
        go_wp2
        go_round
        case rel => exact ⟨j + 1, by omega, by omega, by go_num, by rw [hst.out]; go_num⟩
        case measure => simp [intOf]; omega
      · obtain rfl : j = 5 := by omega
        have hlen : valB (((s.data.toList.drop 1).take 4).take (5 - 1)) = lenB s.data.toList := by unfold lenB; rw [List.take_take]; rfl
        rw [hlen] at hlt ⊢
        clear hj1 hj5 h8 hlen
        by_cases hbig : 65536 < lenB s.data.toList
        · have HG := Lib.hid (show getE s.data.toList = 4 by
            have h2 : headE s.data.toList = 4 := by unfold headE; rw [if_neg (by rw [HH.out]; simp), if_neg (by omega), if_neg (by simpa using HF.out), if_pos hbig]
            unfold getE; rw [if_pos (by rw [h2]; decide), h2])
          generalize lenB s.data.toList = n at *
          go_wp2_with (refine wpList_store_row rfl 74 (.tmp 2) (.tmp 38) rfl w.heap.size 74 #[.string ⟨#[]⟩, .int .i64 0, .int .i64 0] #[.string ⟨#[]⟩, .int .i64 0, .int .i64 4] rfl rfl hbx sizeGot rfl (by simp [Value.oneCell']) ?_)
          refine bodyPost_ret (results_cell_row rfl _ _ w.heap.size 74 #[.string ⟨#[]⟩, .int .i64 0, .int .i64 4] (0, 0) _ rfl (setRow_heap _ _ _ _ _ _ hbx) Tryz.underlying74 rfl sizeGot) rfl ?_
          exact refGot_no (n := 4) HG.out (by decide) (below_putRow hBW (Nat.le_refl _) _)
        · have HZ := Lib.hid (show headE s.data.toList = 0 by unfold headE; rw [if_neg (by rw [HH.out]; simp), if_neg (by omega), if_neg (by simpa using HF.out), if_neg hbig])
          by_cases hsh : s.size < 13 + lenB s.data.toList
          · have HG := Lib.hid (show getE s.data.toList = 2 by unfold getE; rw [if_neg (by rw [HZ.out]; simp), if_pos (by omega)])
            generalize lenB s.data.toList = n at *
            go_wp2_with (refine wpList_store_row rfl 74 (.tmp 2) (.tmp 44) rfl w.heap.size 74 #[.string ⟨#[]⟩, .int .i64 0, .int .i64 0] #[.string ⟨#[]⟩, .int .i64 0, .int .i64 2] rfl rfl hbx sizeGot rfl (by simp [Value.oneCell']) ?_)
            refine bodyPost_ret (results_cell_row rfl _ _ w.heap.size 74 #[.string ⟨#[]⟩, .int .i64 0, .int .i64 2] (0, 0) _ rfl (setRow_heap _ _ _ _ _ _ hbx) Tryz.underlying74 rfl sizeGot) rfl ?_
            exact refGot_no (n := 2) HG.out (by decide) (below_putRow hBW (Nat.le_refl _) _)
          · have hr3 : ∀ W, (Instr.slice 9 (.string s) (some (.int .i64 9)) (some (.int .i64 (9 + (lenB s.data.toList : Int)))) none).run Tryz.prog W = .ok (.string (s.extract 9 (9 + lenB s.data.toList))) W := fun W => by
              have h := run_ext s 9 (9 + (lenB s.data.toList : Int)) (by omega) (by omega) (by omega) W
              rw [show (9 + (lenB s.data.toList : Int)).toNat = 9 + lenB s.data.toList by omega] at h
              exact h
            have hr4 : ∀ W, (Instr.slice 9 (.string s) (some (.int .i64 (9 + (lenB s.data.toList : Int)))) (some (.int .i64 (13 + (lenB s.data.toList : Int)))) none).run Tryz.prog W = .ok (.string (s.extract (9 + lenB s.data.toList) (9 + lenB s.data.toList + 4))) W := fun W => by
              have h := run_ext s (9 + (lenB s.data.toList : Int)) (13 + (lenB s.data.toList : Int)) (by omega) (by omega) (by omega) W
              rw [show (9 + (lenB s.data.toList : Int)).toNat = 9 + lenB s.data.toList by omega, show (13 + (lenB s.data.toList : Int)).toNat = 9 + lenB s.data.toList + 4 by omega] at h
              exact h
            have e3 : (s.extract 9 (9 + lenB s.data.toList)).data.toList = payL s.data.toList := extract_take s 9 (lenB s.data.toList)
            have e4 : (s.extract (9 + lenB s.data.toList) (9 + lenB s.data.toList + 4)).data.toList = (s.data.toList.drop (9 + lenB s.data.toList)).take 4 := extract_take s (9 + lenB s.data.toList) 4
            have n4 : ((s.data.toList.drop (9 + lenB s.data.toList)).take 4).length = 4 := by rw [List.length_take, List.length_drop]; omega
            have hq := four_eq (crc_lt (payL s.data.toList)) e4 n4
            have z3 : (s.extract 9 (9 + lenB s.data.toList)).size = lenB s.data.toList := by rw [size_of e3]; exact payL_len (by omega)
            generalize s.extract 9 (9 + lenB s.data.toList) = t3 at *
            generalize s.extract (9 + lenB s.data.toList) (9 + lenB s.data.toList + 4) = t4 at *
            have HOF6 : Hid (∀ (A : Option Addr) (c : Nat) (W : World), Byt W W.heap.size A t3.data.toList → Calls Tryz.prog 36 #[.slice A t3.size c] W fun e w' => e = .returned (.int .u32 (crc (payL s.data.toList) : Nat)) ∧ W = w') := fun A c W hb => by
              have h := conv_of t3 c A hb (by omega)
              rw [e3] at h
              exact h
            have HE3 := Lib.hid e3
            clear n4 e3 e4 z3
            cases hf : (crc (payL s.data.toList) == valB ((s.data.toList.drop (9 + lenB s.data.toList)).take 4)) with
            | false =>
              rw [hf] at hq
              have HG := Lib.hid (show getE s.data.toList = 5 by unfold getE; rw [if_neg (by rw [HZ.out]; simp), if_neg (by omega), if_pos (by simpa using hf)])
              clear hf
              generalize lenB s.data.toList = n at *
              have hw9 : IntKind.i64.wrap (9 + (n : Int)) = 9 + n := IntWalk.i64_in _ (by omega)
              have hw13 : IntKind.i64.wrap (13 + (n : Int)) = 13 + n := IntWalk.i64_in _ (by omega)
              go_wp2_with fail
              refine wp_region_held_drew (S := fun u => Below W2.heap.size W2 u) (by kernel_rfl) (Below.drew (Below.refl _ _)) (fun hHeld => ?_)
              refine wpAnyH_take (i := 0) (oi := ⟨some 45, _, _, _, _, _⟩) (v := ?_) rfl (by kernel_rfl) (by kernel_rfl) (by kernel_rfl) (fun _ _ _ h => h) (Or.inl ⟨by rfl, ?_⟩) (by assumption) ?_
              rotate_left
              · (intro u hu; (try dsimp only at hu); go_simp; (try with_reducible rfl))
              (try simp only [Act.put, List.setIfInBounds_toArray, List.set_cons_zero, List.set_cons_succ])
              refine wpAnyH_take (i := 1) (oi := ⟨some 46, _, _, _, _, _⟩) (v := ?_) rfl (by kernel_rfl) (by kernel_rfl) (by kernel_rfl) (fun _ _ _ h => h) (Or.inl ⟨by rfl, ?_⟩) (by assumption) ?_
              rotate_left
              · (intro u hu; (try dsimp only at hu); go_simp; (try with_reducible rfl))
              (try simp only [Act.put, List.setIfInBounds_toArray, List.set_cons_zero, List.set_cons_succ])
              refine wpAnyH_take (i := 2) (oi := ⟨some 47, _, _, _, _, _⟩) (v := ?_) rfl (by kernel_rfl) (by kernel_rfl) (by kernel_rfl) (fun _ _ _ h => h) (Or.inl ⟨by rfl, ?_⟩) (by assumption) ?_
              rotate_left
              · (intro u hu; (try dsimp only at hu); go_simp; (try with_reducible rfl))
              (try simp only [Act.put, List.setIfInBounds_toArray, List.set_cons_zero, List.set_cons_succ])
              refine wpAnyH_take (i := 3) (oi := ⟨some 48, _, _, _, _, _⟩) (v := ?_) rfl (by kernel_rfl) (by kernel_rfl) (by kernel_rfl) (fun _ _ _ h => h) (Or.inl ⟨by rfl, ?_⟩) (by assumption) ?_
              rotate_left
              · (intro u hu; (try dsimp only at hu); go_simp; (try with_reducible rfl))
              (try simp only [Act.put, List.setIfInBounds_toArray, List.set_cons_zero, List.set_cons_succ])
              refine wpAnyH_take (i := 7) (oi := ⟨some 52, _, _, _, _, _⟩) (v := ?_) rfl (by kernel_rfl) (by kernel_rfl) (by kernel_rfl) (fun _ _ _ h => h) (Or.inl ⟨by rfl, ?_⟩) (by assumption) ?_
              rotate_left
              · (intro u hu; (try dsimp only at hu); go_simp; (try with_reducible rfl))
              (try simp only [Act.put, List.setIfInBounds_toArray, List.set_cons_zero, List.set_cons_succ])
              refine wpAnyH_take (i := 8) (oi := ⟨some 53, _, _, _, _, _⟩) (v := ?_) rfl (by kernel_rfl) (by kernel_rfl) (by kernel_rfl) (fun _ _ _ h => h) (Or.inl ⟨by rfl, ?_⟩) (by assumption) ?_
              rotate_left
              · (intro u hu; (try dsimp only at hu); go_simp; (try with_reducible rfl))
              (try simp only [Act.put, List.setIfInBounds_toArray, List.set_cons_zero, List.set_cons_succ])
              refine wpAnyH_take (i := 9) (oi := ⟨some 54, _, _, _, _, _⟩) (v := ?_) rfl (by kernel_rfl) (by kernel_rfl) (by kernel_rfl) (fun _ _ _ h => h) (Or.inl ⟨by rfl, ?_⟩) (by assumption) ?_
              rotate_left
              · (intro u hu; (try dsimp only at hu); go_simp; (try with_reducible rfl))
              (try simp only [Act.put, List.setIfInBounds_toArray, List.set_cons_zero, List.set_cons_succ])
              refine wpAnyH_take (i := 10) (oi := ⟨some 55, _, _, _, _, _⟩) (v := ?_) rfl (by kernel_rfl) (by kernel_rfl) (by kernel_rfl) (fun _ _ _ h => h) (Or.inl ⟨by rfl, ?_⟩) (by assumption) ?_
              rotate_left
              · (intro u hu; (try dsimp only at hu); go_simp; (try with_reducible rfl))
              (try simp only [Act.put, List.setIfInBounds_toArray, List.set_cons_zero, List.set_cons_succ])
              refine wpAnyH_take (i := 11) (oi := ⟨some 56, _, _, _, _, _⟩) (v := ?_) rfl (by kernel_rfl) (by kernel_rfl) (by kernel_rfl) (fun _ _ _ h => h) (Or.inl ⟨by rfl, ?_⟩) (by assumption) ?_
              rotate_left
              · (intro u hu; (try dsimp only at hu); go_simp; (try with_reducible rfl))
              (try simp only [Act.put, List.setIfInBounds_toArray, List.set_cons_zero, List.set_cons_succ])
              refine wpAnyH_take (i := 12) (oi := ⟨some 57, _, _, _, _, _⟩) (v := ?_) rfl (by kernel_rfl) (by kernel_rfl) (by kernel_rfl) (fun _ _ _ h => h) (Or.inl ⟨by rfl, ?_⟩) (by assumption) ?_
              rotate_left
              · (intro u hu; (try dsimp only at hu); go_simp; (try with_reducible rfl))
              (try simp only [Act.put, List.setIfInBounds_toArray, List.set_cons_zero, List.set_cons_succ])
              refine wpAnyH_ready (rs := [4]) (by kernel_rfl) (by simp) ?_
              refine AllReadyH.cons (o := ⟨some 49, _, _, _, _, _⟩) rfl (fun K hK => ?_) AllReadyH.nil
              refine step_conv _ rfl (.tmp 48) rfl t3 rfl ?_
              intro c6 u6 hb6 hB6
              have hS6 : Below W2.heap.size W2 u6 := (Below.drew (Below.refl _ W2)).trans (hB6.mono (Nat.le_refl _))
              have HO6 := Lib.hid (HOF6.out (some ⟨W2.heap.size, 0, none⟩) c6 u6 hb6)
              clear hb6
              refine hK.out _ _ ?_ (fun hHeld => ?_)
              · exact hS6
              clear hK K
              (try simp only [Act.put, List.setIfInBounds_toArray, List.set_cons_zero, List.set_cons_succ])
              refine wpAnyH_ready (rs := [5]) (by kernel_rfl) (by simp) ?_
              refine AllReadyH.cons (o := ⟨some 50, _, _, _, _, _⟩) rfl (fun K hK => ?_) AllReadyH.nil
              go_simp
              (with_reducible refine HO6.out.mono ?_)
              rintro e x6 ⟨rfl, rfl⟩
              go_wp2_with fail
              refine hK.out _ _ ?_ (fun hHeld => ?_)
              · exact hS6
              clear hK K
              (try simp only [Act.put, List.setIfInBounds_toArray, List.set_cons_zero, List.set_cons_succ])
              refine wpAnyH_ready (rs := [6]) (by kernel_rfl) (by simp) ?_
              refine AllReadyH.cons (o := ⟨some 51, _, _, _, _, _⟩) rfl (fun K hK => ?_) AllReadyH.nil
              go_simp
              (with_reducible refine (four_any (crc (payL s.data.toList)) u6 (crc_lt _)).mono ?_)
              rintro e W6 ⟨rfl, bb6⟩
              have hT6 : Below W2.heap.size W2 W6 := hS6.trans (bb6.mono hS6.size)
              go_wp2_with fail
              refine hK.out _ _ ?_ (fun hHeld => ?_)
              · exact hT6
              clear hK K
              (try simp only [Act.put, List.setIfInBounds_toArray, List.set_cons_zero, List.set_cons_succ])
              refine wpAnyH_take (i := 13) (oi := ⟨some 58, _, _, _, _, _⟩) (v := ?_) rfl (by kernel_rfl) (by kernel_rfl) (by kernel_rfl) (fun _ _ _ h => h) (Or.inl ⟨by rfl, ?_⟩) (by assumption) ?_
              rotate_left
              · (intro u hu; (try dsimp only at hu); go_simp; (try with_reducible rfl))
              (try simp only [Act.put, List.setIfInBounds_toArray, List.set_cons_zero, List.set_cons_succ])
              refine wpAnyH_done (by kernel_rfl) ?_ _
              have hbx6 : W6.heap[w.heap.size]? = some (.cells #[.string ⟨#[]⟩, .int .i64 0, .int .i64 0] 74 (0, 0)) := (hT6.block _ hsz2).trans hbx
              have hBW6 := hBW.trans (hT6.mono hBW.size)
              go_wp2_with (refine wpList_store_row rfl 74 (.tmp 2) (.tmp 59) rfl w.heap.size 74 #[.string ⟨#[]⟩, .int .i64 0, .int .i64 0] #[.string ⟨#[]⟩, .int .i64 0, .int .i64 5] rfl rfl hbx6 sizeGot rfl (by simp [Value.oneCell']) ?_)
              refine bodyPost_ret (results_cell_row rfl _ _ w.heap.size 74 #[.string ⟨#[]⟩, .int .i64 0, .int .i64 5] (0, 0) _ rfl (setRow_heap _ _ _ _ _ _ hbx6) Tryz.underlying74 rfl sizeGot) rfl ?_
              exact refGot_no (n := 5) HG.out (by decide) (below_putRow hBW6 (Nat.le_refl _) _)
            | true =>
              rw [hf] at hq
              have HG := Lib.hid (show getE s.data.toList = 0 by unfold getE; rw [if_neg (by rw [HZ.out]; simp), if_neg (by omega), if_neg (by simpa using hf)])
              have HN := Lib.hid (getN_yes HG.out)
              clear hf
              generalize lenB s.data.toList = n at *
              have hw9 : IntKind.i64.wrap (9 + (n : Int)) = 9 + n := IntWalk.i64_in _ (by omega)
              have hw13 : IntKind.i64.wrap (13 + (n : Int)) = 13 + n := IntWalk.i64_in _ (by omega)
              go_wp2_with fail
              refine wp_region_held_drew (S := fun u => Below W2.heap.size W2 u) (by kernel_rfl) (Below.drew (Below.refl _ _)) (fun hHeld => ?_)
              refine wpAnyH_take (i := 0) (oi := ⟨some 45, _, _, _, _, _⟩) (v := ?_) rfl (by kernel_rfl) (by kernel_rfl) (by kernel_rfl) (fun _ _ _ h => h) (Or.inl ⟨by rfl, ?_⟩) (by assumption) ?_
              rotate_left
              · (intro u hu; (try dsimp only at hu); go_simp; (try with_reducible rfl))
              (try simp only [Act.put, List.setIfInBounds_toArray, List.set_cons_zero, List.set_cons_succ])
              refine wpAnyH_take (i := 1) (oi := ⟨some 46, _, _, _, _, _⟩) (v := ?_) rfl (by kernel_rfl) (by kernel_rfl) (by kernel_rfl) (fun _ _ _ h => h) (Or.inl ⟨by rfl, ?_⟩) (by assumption) ?_
              rotate_left
              · (intro u hu; (try dsimp only at hu); go_simp; (try with_reducible rfl))
              (try simp only [Act.put, List.setIfInBounds_toArray, List.set_cons_zero, List.set_cons_succ])
              refine wpAnyH_take (i := 2) (oi := ⟨some 47, _, _, _, _, _⟩) (v := ?_) rfl (by kernel_rfl) (by kernel_rfl) (by kernel_rfl) (fun _ _ _ h => h) (Or.inl ⟨by rfl, ?_⟩) (by assumption) ?_
              rotate_left
              · (intro u hu; (try dsimp only at hu); go_simp; (try with_reducible rfl))
              (try simp only [Act.put, List.setIfInBounds_toArray, List.set_cons_zero, List.set_cons_succ])
              refine wpAnyH_take (i := 3) (oi := ⟨some 48, _, _, _, _, _⟩) (v := ?_) rfl (by kernel_rfl) (by kernel_rfl) (by kernel_rfl) (fun _ _ _ h => h) (Or.inl ⟨by rfl, ?_⟩) (by assumption) ?_
              rotate_left
              · (intro u hu; (try dsimp only at hu); go_simp; (try with_reducible rfl))
              (try simp only [Act.put, List.setIfInBounds_toArray, List.set_cons_zero, List.set_cons_succ])
              refine wpAnyH_take (i := 7) (oi := ⟨some 52, _, _, _, _, _⟩) (v := ?_) rfl (by kernel_rfl) (by kernel_rfl) (by kernel_rfl) (fun _ _ _ h => h) (Or.inl ⟨by rfl, ?_⟩) (by assumption) ?_
              rotate_left
              · (intro u hu; (try dsimp only at hu); go_simp; (try with_reducible rfl))
              (try simp only [Act.put, List.setIfInBounds_toArray, List.set_cons_zero, List.set_cons_succ])
              refine wpAnyH_take (i := 8) (oi := ⟨some 53, _, _, _, _, _⟩) (v := ?_) rfl (by kernel_rfl) (by kernel_rfl) (by kernel_rfl) (fun _ _ _ h => h) (Or.inl ⟨by rfl, ?_⟩) (by assumption) ?_
              rotate_left
              · (intro u hu; (try dsimp only at hu); go_simp; (try with_reducible rfl))
              (try simp only [Act.put, List.setIfInBounds_toArray, List.set_cons_zero, List.set_cons_succ])
              refine wpAnyH_take (i := 9) (oi := ⟨some 54, _, _, _, _, _⟩) (v := ?_) rfl (by kernel_rfl) (by kernel_rfl) (by kernel_rfl) (fun _ _ _ h => h) (Or.inl ⟨by rfl, ?_⟩) (by assumption) ?_
              rotate_left
              · (intro u hu; (try dsimp only at hu); go_simp; (try with_reducible rfl))
              (try simp only [Act.put, List.setIfInBounds_toArray, List.set_cons_zero, List.set_cons_succ])
              refine wpAnyH_take (i := 10) (oi := ⟨some 55, _, _, _, _, _⟩) (v := ?_) rfl (by kernel_rfl) (by kernel_rfl) (by kernel_rfl) (fun _ _ _ h => h) (Or.inl ⟨by rfl, ?_⟩) (by assumption) ?_
              rotate_left
              · (intro u hu; (try dsimp only at hu); go_simp; (try with_reducible rfl))
              (try simp only [Act.put, List.setIfInBounds_toArray, List.set_cons_zero, List.set_cons_succ])
              refine wpAnyH_take (i := 11) (oi := ⟨some 56, _, _, _, _, _⟩) (v := ?_) rfl (by kernel_rfl) (by kernel_rfl) (by kernel_rfl) (fun _ _ _ h => h) (Or.inl ⟨by rfl, ?_⟩) (by assumption) ?_
              rotate_left
              · (intro u hu; (try dsimp only at hu); go_simp; (try with_reducible rfl))
              (try simp only [Act.put, List.setIfInBounds_toArray, List.set_cons_zero, List.set_cons_succ])
              refine wpAnyH_take (i := 12) (oi := ⟨some 57, _, _, _, _, _⟩) (v := ?_) rfl (by kernel_rfl) (by kernel_rfl) (by kernel_rfl) (fun _ _ _ h => h) (Or.inl ⟨by rfl, ?_⟩) (by assumption) ?_
              rotate_left
              · (intro u hu; (try dsimp only at hu); go_simp; (try with_reducible rfl))
              (try simp only [Act.put, List.setIfInBounds_toArray, List.set_cons_zero, List.set_cons_succ])
              refine wpAnyH_ready (rs := [4]) (by kernel_rfl) (by simp) ?_
              refine AllReadyH.cons (o := ⟨some 49, _, _, _, _, _⟩) rfl (fun K hK => ?_) AllReadyH.nil
              refine step_conv _ rfl (.tmp 48) rfl t3 rfl ?_
              intro c6 u6 hb6 hB6
              have hS6 : Below W2.heap.size W2 u6 := (Below.drew (Below.refl _ W2)).trans (hB6.mono (Nat.le_refl _))
              have HO6 := Lib.hid (HOF6.out (some ⟨W2.heap.size, 0, none⟩) c6 u6 hb6)
              clear hb6
              refine hK.out _ _ ?_ (fun hHeld => ?_)
              · exact hS6
              clear hK K
              (try simp only [Act.put, List.setIfInBounds_toArray, List.set_cons_zero, List.set_cons_succ])
              refine wpAnyH_ready (rs := [5]) (by kernel_rfl) (by simp) ?_
              refine AllReadyH.cons (o := ⟨some 50, _, _, _, _, _⟩) rfl (fun K hK => ?_) AllReadyH.nil
              go_simp
              (with_reducible refine HO6.out.mono ?_)
              rintro e x6 ⟨rfl, rfl⟩
              go_wp2_with fail
              refine hK.out _ _ ?_ (fun hHeld => ?_)
              · exact hS6
              clear hK K
              (try simp only [Act.put, List.setIfInBounds_toArray, List.set_cons_zero, List.set_cons_succ])
              refine wpAnyH_ready (rs := [6]) (by kernel_rfl) (by simp) ?_
              refine AllReadyH.cons (o := ⟨some 51, _, _, _, _, _⟩) rfl (fun K hK => ?_) AllReadyH.nil
              go_simp
              (with_reducible refine (four_any (crc (payL s.data.toList)) u6 (crc_lt _)).mono ?_)
              rintro e W6 ⟨rfl, bb6⟩
              have hT6 : Below W2.heap.size W2 W6 := hS6.trans (bb6.mono hS6.size)
              go_wp2_with fail
              refine hK.out _ _ ?_ (fun hHeld => ?_)
              · exact hT6
              clear hK K
              (try simp only [Act.put, List.setIfInBounds_toArray, List.set_cons_zero, List.set_cons_succ])
              refine wpAnyH_take (i := 13) (oi := ⟨some 58, _, _, _, _, _⟩) (v := ?_) rfl (by kernel_rfl) (by kernel_rfl) (by kernel_rfl) (fun _ _ _ h => h) (Or.inl ⟨by rfl, ?_⟩) (by assumption) ?_
              rotate_left
              · (intro u hu; (try dsimp only at hu); go_simp; (try with_reducible rfl))
              (try simp only [Act.put, List.setIfInBounds_toArray, List.set_cons_zero, List.set_cons_succ])
              refine wpAnyH_done (by kernel_rfl) ?_ _
              have hbx6 : W6.heap[w.heap.size]? = some (.cells #[.string ⟨#[]⟩, .int .i64 0, .int .i64 0] 74 (0, 0)) := (hT6.block _ hsz2).trans hbx
              have hBW6 := hBW.trans (hT6.mono hBW.size)
              go_wp2_with (refine wpList_store_row rfl 74 (.tmp 2) (.tmp 66) rfl w.heap.size 74 #[.string ⟨#[]⟩, .int .i64 0, .int .i64 0] #[.string t3, .int .i64 (13 + (n : Int)), .int .i64 0] rfl rfl hbx6 sizeGot rfl (by simp [Value.oneCell']) ?_)
              refine bodyPost_ret (results_cell_row rfl _ _ w.heap.size 74 #[.string t3, .int .i64 (13 + (n : Int)), .int .i64 0] (0, 0) _ rfl (setRow_heap _ _ _ _ _ _ hbx6) Tryz.underlying74 rfl sizeGot) rfl ?_
              refine ⟨t3, ?_, ?_, below_putRow hBW6 (Nat.le_refl _) _⟩
              · rw [HN.out, HG.out]; rfl
              · rw [getP_yes HG.out]; exact HE3.out

theorem refGet_any (s : ByteArray) (w : World) (hs : s.size ≤ 1000) : Calls Tryz.prog 40 #[.string s] w (RefGot w s.data.toList) := by
  by_cases h : s.data.toList.head? ≠ some 90 ∨ s.size < 9
  · exact refGet_head s w hs h
  · exact refGet_long s w hs (Classical.not_not.1 fun h1 => h (.inl h1)) (Nat.le_of_not_lt fun h1 => h (.inr h1))
end Go.Proofs.YtohnhboeipckjaaGreatDoor
