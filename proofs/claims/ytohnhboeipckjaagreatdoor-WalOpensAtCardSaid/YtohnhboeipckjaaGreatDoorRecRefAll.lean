/-
  The document's own answer of layer 6: the records of the whole part (All).
  Conditions: the text has at most 1000 bytes.
-/
import Derived.Test.YtohnhboeipckjaaGreatDoorRecRefGot
import Derived.Maps.AppendAt
namespace Go.Proofs.YtohnhboeipckjaaGreatDoor
open Go.RowKit

theorem infoStr : (Tryz.prog.info? 9).map (fun i => (i.zero, i.size, i.bytes)) = some (some (.string ⟨#[]⟩), 1, 16) := by kernel_rfl
abbrev strV (xs : List ByteArray) : List Value := xs.map Value.string
abbrev strL (xs : List ByteArray) : List (List UInt8) := xs.map (·.data.toList)
theorem own_ge {w : World} {base n : Nat} {e : TypeId} {v : Value} {xs : List Value} (h : w.ownsRow base e 1 v n xs) : ∀ g, v.ownBlock = some g → base ≤ g := by
  intro g hg
  rcases h.2 with ⟨rfl, _⟩ | ⟨g', cap, cur, rfl, hb, _⟩
  · simp [Value.ownBlock] at hg
  · simp [Value.ownBlock] at hg
    omega
theorem own_next {B : Nat} {w wr w1 : World} {o : Obj} {v : Value} {n : Nat} {e : TypeId} {xs : List Value} (hb : Below B w wr) (hB : B ≤ wr.heap.size) (hown : wr.ownsRow B e 1 v n xs) (hg : (wr.alloc o).grownBy w1 v.ownBlock) : Below B w w1 :=
  (hb.alloc hB o).grown hg (by simp; omega) (own_ge hown)
theorem extract_dropS (s : ByteArray) (pos : Nat) : (s.extract pos s.size).data.toList = s.data.toList.drop pos := by
  rw [ByteArray.data_extract]
  simp only [Array.toList_extract, List.extract]
  refine List.take_of_length_le ?_
  rw [List.length_drop, Array.length_toList]
  exact Nat.le_refl _
theorem run_from (s : ByteArray) (k : Nat) (h : k ≤ s.size) (W : World) : (Instr.slice 9 (.string s) (some (.int .i64 (k : Int))) none none).run Tryz.prog W = .ok (.string (s.extract k s.size)) W := by
  rw [run_slice_string_from_if (P := Tryz.prog) W 9 s .i64 (k : Int) Tryz.underlying9, if_pos ⟨by omega, by omega⟩]
  rfl

theorem cell_one_to {w : World} {g : Nat} (h : w.heap.size = g) (x : Value) (t : TypeId) : ∀ j u, [x][j]? = some u → (w.alloc (.cells #[x] t)).cell? ((⟨g, 0, none⟩ : Addr).add j) = some u := by
  subst h
  exact cell_one_new w x t
theorem kept_got {B n : Nat} {W1 w2 : World} {v p : Value} {a b : Value} {o : Obj} {e t : TypeId} {xs : List Value} (hown : W1.ownsRow B e 1 v n xs) (hg : ((W1.alloc (.cells #[p, a, b] t)).alloc o).grownBy w2 v.ownBlock) : w2.cell? ⟨W1.heap.size, 1, none⟩ = some a := by
  have h : w2.heap[W1.heap.size]? = some (.cells #[p, a, b] t (0, 0)) := by
    rw [hg.block _ (by simp; omega) (fun h => by have := (hown.lt _ h.symm).2; omega), Below.heap_alloc _ _ _ (by simp)]
    exact heap_alloc_last W1 _
  rw [cell_of_row _ _ _ _ _ _ h]
  rfl
/-- what the document's All answers -/
def RefAllIs (w : World) (l : List UInt8) (e : Ending) (w' : World) : Prop :=
  ∃ (ps : List ByteArray) (v : Value) (n : Nat), e = .returned (.tuple #[v, .int .i64 (n : Nat), .int .i64 (restE l n : Nat)]) ∧ Whole l (strL ps) n ∧ w'.ownsRow w.heap.size 9 1 v ps.length (strV ps) ∧ Below w.heap.size w w'
theorem restE_end (l : List UInt8) {n : Nat} (h : n = l.length) : restE l n = 0 := by unfold restE; rw [if_pos h]
theorem restE_two {l : List UInt8} {n : Nat} (h : n ≠ l.length) (h2 : getE (l.drop n) = 2) : restE l n = 2 := by unfold restE; rw [if_neg h, if_pos h2]
theorem restE_torn {l : List UInt8} {n : Nat} (h : n ≠ l.length) (h2 : getE (l.drop n) ≠ 2) : restE l n = 18 := by unfold restE; rw [if_neg h, if_neg h2]

set_option maxHeartbeats 4000000 in
set_option maxRecDepth 100000 in
theorem refAll_any (s : ByteArray) (w : World) (hs : s.size ≤ 1000) :
    Calls Tryz.prog 19 #[.string s] w (RefAllIs w s.data.toList) := by
  obtain ⟨i0, hi0, hz0, hz1, hz2⟩ := info_parts infoStr
  have hzg := (zero_of_info infoGot).1
  unfold gotV at hzg
  have hln : Hid (s.data.toList.length = s.size) := Array.length_toList
  go_enter Tryz.func19, Tryz.ntmps19
  go_wp2_with fail
  go_loopw [5, 6] (fun v p wr => ∃ (k m : Nat) (ps : List ByteArray), p = .int .i64 k ∧ k ≤ s.size ∧ m ≤ k ∧ Hid (ps.length = m) ∧ Hid (wr.ownsRow w.heap.size 9 1 v m (strV ps)) ∧ Below w.heap.size w wr ∧ Hid (Rds s.data.toList (strL ps) k)) (fun _ p _ => s.size - (intOf p).toNat)
  case atStart => exact ⟨0, 0, [], rfl, by omega, by omega, Lib.hid rfl, Lib.hid (World.ownsRow_nil _ _ _ _), Below.refl _ _, Lib.hid (Rds.start _)⟩
  case round =>
    obtain ⟨k, m, ps, rfl, hk, hmk, hm, hown, hbw, hrd⟩ := hrel
    have hbs := hbw.size
    by_cases hlt : k < s.size
    · have hsl := run_from s k (by omega)
      have HX := Lib.hid (extract_dropS s k)
      have hts : (s.extract k s.size).size ≤ 1000 := by rw [size_of HX.out, List.length_drop, hln.out]; omega
      generalize s.extract k s.size = t at *
      have HG := Lib.hid (refGet_any t wr hts)
      rw [HX.out] at HG
      unfold RefGot gotV at HG
      have Hne := Lib.hid (show k ≠ s.data.toList.length by rw [hln.out]; omega)
      have hle := getE_le (s.data.toList.drop k)
      by_cases h0 : getE (s.data.toList.drop k) = 0
      · have Hsn := Lib.hid (hrd.out.snoc h0)
        have hNl := getN_le h0
        have hNp := getN_yes h0
        rw [List.length_drop, hln.out] at hNl
        have hN : 13 ≤ getN (s.data.toList.drop k) := by omega
        rw [h0] at HG
        clear hNp h0 hle
        generalize getN (s.data.toList.drop k) = N at *
        go_wp2_with (first
          | (go_at_call 40; refine HG.out.mono ?_; rintro e W1 ⟨p, rfl, hp, b1⟩; have HP := Lib.hid hp; have hown1 := Lib.hid (own_belowS hown.out b1); have b1' := hbw.trans (b1.mono hbs); have hs1 := b1'.size; clear hp b1)
          | (at_builtin; refine wpList_append_own_at _ rfl (.tmp 26) (.tmp 29) 40 rfl w.heap.size 9 i0 (.string ⟨#[]⟩) 1 16 Tryz.underlying40 hi0 hz0 hz1 hz2 rfl (by decide) _ m (strV ps) rfl ((hown1.out.alloc _).alloc _) ⟨W1.heap.size + 1, 0, none⟩ 1 1 [.string p] rfl rfl (cell_one_to (by simp) _ _) (by simp [Value.oneCell']) (by unfold maxLen; omega) (by omega) (by simp; omega) ?_; intro v2 w2 hown2 hgrow2 _ _; have hc2 := kept_got hown1.out hgrow2; have Hown2 := Lib.hid hown2; have Hgrow2 := Lib.hid hgrow2; clear hown2 hgrow2))
        have hb2 : Below w.heap.size w w2 := own_next (b1'.alloc hs1 _) (by simp; omega) (hown1.out.alloc _) Hgrow2.out
        go_roundw
        case rel => exact ⟨k + N, m + 1, ps ++ [p], by go_num, by omega, by omega, Lib.hid (by rw [List.length_append, hm.out]; rfl), Lib.hid (by have h := Hown2.out; unfold strV at h ⊢; rw [List.map_append]; exact h), hb2, Lib.hid (by have h := Hsn.out; rw [← HP.out] at h; unfold strL at h ⊢; rw [List.map_append]; exact h)⟩
        case measure => simp [intOf]; omega
      · have Hno := Lib.hid h0
        rw [getN_no h0] at HG
        by_cases h2 : getE (s.data.toList.drop k) = 2
        · have HR := Lib.hid (restE_two Hne.out h2)
          rw [h2] at HG
          clear h0 h2 hle
          go_wp2_with (go_at_call 40; refine HG.out.mono ?_; rintro e W1 ⟨p, rfl, hp, b1⟩; have hown1 := Lib.hid (own_belowS hown.out b1); have b1' := hbw.trans (b1.mono hbs); clear hp b1)
          go_ret3
          refine ⟨ps, u5, k, ?_, ⟨hrd.out, Hno.out⟩, ?_, b1'.alloc b1'.size _⟩
          · rw [HR.out]; rfl
          · rw [hm.out]; exact hown1.out.alloc _
        · have HR := Lib.hid (restE_torn Hne.out h2)
          have HW := Lib.hid (show Whole s.data.toList (strL ps) k from ⟨hrd.out, h0⟩)
          have e2 : ((getE (s.data.toList.drop k) : Int) == 2) = false := by simp; omega
          have e0 : ((getE (s.data.toList.drop k) : Int) != 0) = true := by simp; omega
          clear h0 h2
          generalize getE (s.data.toList.drop k) = n0 at *
          go_wp2_with (go_at_call 40; refine HG.out.mono ?_; rintro e W1 ⟨p, rfl, hp, b1⟩; have hown1 := Lib.hid (own_belowS hown.out b1); have b1' := hbw.trans (b1.mono hbs); clear hp b1)
          go_ret3
          refine ⟨ps, u5, k, ?_, HW.out, ?_, b1'.alloc b1'.size _⟩
          · rw [HR.out]; rfl
          · rw [hm.out]; exact hown1.out.alloc _
    · have Hz := Lib.hid (show k = s.data.toList.length by rw [hln.out]; omega)
      go_wp2
      go_ret3
      refine ⟨ps, u5, k, ?_, ⟨hrd.out, ?_⟩, ?_, hbw⟩
      · rw [restE_end _ Hz.out]; rfl
      · rw [Hz.out, List.drop_length, getE_nil]; decide
      · rw [hm.out]; exact hown.out
end Go.Proofs.YtohnhboeipckjaaGreatDoor
