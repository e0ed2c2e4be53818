/-
  What Cut answers: what a text is the key of.
  Conditions: the text has at most 1,000,000 bytes; the library's variable that SplitN's search reads holds some number.
-/
import Derived.Test.YtkmldgcnbjjbcaaDoorDefNum
import Derived.BigQuiet
import Derived.Deep.QuietTactic
import Derived.Deep.Draws
namespace Go.Proofs.YtkmldgcnbjjbcaaDoor.Df
open Go.RowKit
open Go.Proofs.YtkmldgcnbjjbcaaDoor.El
open Go.Proofs.YtkmldgcnbjjbcaaDoor.Bo (P Made)

theorem results_tmp4 {fn : Func} {t u v x : Tmp} (h : fn.results = #[.tmp t, .tmp u, .tmp v, .tmp x]) (tmps : Array Value) (P : Program) (w : World) :
    (results fn tmps).run P w = .ok (.tuple #[tmps.getD t undef, tmps.getD u undef, tmps.getD v undef, tmps.getD x undef]) w := by
  simp [results, h]
theorem splitB_size (sep : ByteArray) (save : Nat) : ∀ (k : Nat) (s : ByteArray), ∀ x ∈ Lib.splitB sep save k s, x.size ≤ s.size
  | 0, s => by intro x hx; rw [Lib.splitB_zero] at hx; simp at hx; rw [hx]; exact Nat.le_refl _
  | k + 1, s => by
    intro x hx
    unfold Lib.splitB at hx
    split at hx
    · simp at hx; rw [hx]; exact Nat.le_refl _
    · rcases List.mem_cons.1 hx with rfl | hx
      · simp only [ByteArray.size_extract]; omega
      · have := splitB_size sep save k _ x hx
        simp only [ByteArray.size_extract] at this
        omega
/-- what SplitN answers, and leaves -/
def SplitPost (s : ByteArray) (w : World) (e : Ending) (w' : World) : Prop :=
  e = .returned (.slice (some ⟨w.heap.size, 0, none⟩) (pcs4 s).length (min 4 (s.size + 1))) ∧ (∀ j x, (pcs4 s)[j]? = some x → w'.cell? ⟨w.heap.size, j, none⟩ = some (.string x)) ∧ Below w.heap.size w w' ∧ w'.heap.size = w.heap.size + 1
theorem split_any (s : ByteArray) (m : Int) (w : World) (hs : s.size ≤ 1000000) (hm : w.cell? ⟨0, 0, none⟩ = some (.int .i64 m)) :
    Calls Tryd.prog 47 #[.string s, .string ⟨#[47]⟩, .int .i64 4] w (SplitPost s w) := by
  have h := Tryd.strings_SplitN s ⟨#[47]⟩ 4 m w (by omega) hm (by decide) (by omega) (by omega)
  refine Calls.mono h ?_
  rintro e w' ⟨rfl, rfl⟩
  refine ⟨rfl, fun j x hx => ?_, (Below.refl _ _).alloc (Nat.le_refl _) _, by simp⟩
  have hh := heap_alloc_new w (.cells (Lib.cellsOf (pcs4 s) (min 4 (s.size + 1))) 9)
  show (w.alloc (.cells (Lib.cellsOf (pcs4 s) (min 4 (s.size + 1))) 9)).cell? _ = _
  rw [cell_of_row _ w.heap.size j _ 9 (0, 0) hh]
  have hj : j < (pcs4 s).length := at_lt hx
  unfold Lib.cellsOf
  rw [List.getElem?_toArray, List.getElem?_append_left (by simp; omega), List.getElem?_map, hx]
  rfl
/-- what Cut answers, and leaves -/
def CutPost (s : ByteArray) (w : World) (e : Ending) (w' : World) : Prop :=
  ∃ n x u ok, e = .returned (.tuple #[.int .i64 n, .string x, .bool u, .bool ok]) ∧ CutIs s.data.toList n x u ok ∧ Below w.heap.size w w'
theorem cut_not {s : ByteArray} {w w' : World} (h : ¬ ∃ m x u, KeyOf s.data.toList m x u) (hb : Below w.heap.size w w') : CutPost s w (.returned (.tuple #[.int .i64 0, .string ⟨#[]⟩, .bool false, .bool false])) w' :=
  ⟨0, ⟨#[]⟩, false, false, rfl, .inr ⟨rfl, rfl, rfl, rfl, h⟩, hb⟩
theorem cut_yes {s x : ByteArray} {w w' : World} {m : Nat} {u : Bool} (h : KeyOf s.data.toList m x.data.toList u) (hb : Below w.heap.size w w') : CutPost s w (.returned (.tuple #[.int .i64 m, .string x, .bool u, .bool true])) w' :=
  ⟨m, x, u, true, rfl, .inl ⟨rfl, m, rfl, h⟩, hb⟩
theorem str_eq {c : ByteArray} {l : List UInt8} {v : Bool} (h : decide (c.data.toList = l) = v) : (c.toList == l) = v := by
  rw [ByteArray.toList_eq, ← h, Bool.eq_iff_iff, beq_iff_eq, decide_eq_true_eq]
set_option maxRecDepth 100000 in
set_option maxHeartbeats 4000000 in
theorem cut_any (s : ByteArray) (m : Int) (w : World) (hs : s.size ≤ 1000000) (hm : w.cell? ⟨0, 0, none⟩ = some (.int .i64 m)) : Calls Tryd.prog 20 #[.string s] w (CutPost s w) := by
  have hsp := split_any s m w hs hm
  unfold SplitPost at hsp
  have hpc := pcs4_pieces s
  have hsz : ∀ x ∈ pcs4 s, x.size ≤ 1000000 := fun x hx => Nat.le_trans (splitB_size _ _ _ _ x hx) hs
  have hl4 : (pcs4 s).length ≤ 4 := by
    have := Lib.splitB_length_le ⟨#[47]⟩ 0 (min 4 (s.size + 1) - 1) s
    unfold pcs4
    omega
  clear hm
  generalize min 4 (s.size + 1) = cap at hsp
  by_cases h3 : (pcs4 s).length = 3
  · obtain ⟨a, b, c, habc⟩ : ∃ a b c, pcs4 s = [a, b, c] := by
      match hq : pcs4 s, h3 with
      | [a, b, c], _ => exact ⟨a, b, c, rfl⟩
    have hp : pieces [] s.data.toList = [a.data.toList, b.data.toList, c.data.toList] := by
      have := hpc.1 h3
      rw [habc] at this
      exact this.symm
    have HK := Lib.hid (key_three hp)
    rw [habc] at hsp hsz
    have hsa := hsz a (by simp)
    have hsb := hsz b (by simp)
    have HSP : Hid (Calls Tryd.prog 47 #[.string s, .string ⟨#[47]⟩, .int .i64 4] w fun e w' => e = .returned (.slice (some ⟨w.heap.size, 0, none⟩) 3 cap) ∧ (w'.cell? ⟨w.heap.size, 0, none⟩ = some (.string a) ∧ w'.cell? ⟨w.heap.size, 1, none⟩ = some (.string b) ∧ w'.cell? ⟨w.heap.size, 2, none⟩ = some (.string c)) ∧ Below w.heap.size w w' ∧ w'.heap.size = w.heap.size + 1) :=
      Lib.hid (hsp.mono fun e w' ⟨h1, h2, h3, h4⟩ => ⟨h1, ⟨h2 0 a rfl, h2 1 b rfl, h2 2 c rfl⟩, h3, h4⟩)
    have HNum := Lib.hid (fun w => number_any a w (by omega))
    unfold NumPost at HNum
    have HG := Lib.hid (fun w => good_any b w (by omega))
    clear hsp hpc hsz hl4 h3 habc hp
    go_enter Tryd.func20, Tryd.ntmps20
    go_wp2_with (first
      | (go_at_call 47; (with_reducible refine HSP.out.mono ?_); rintro e w1 ⟨rfl, ⟨c0, c1, c2⟩, hb1, hz1⟩; have HB1 := Lib.hid hb1; clear hb1)
      | (go_at_call 48; (with_reducible refine (HNum.out _).mono ?_); rintro e w2 ⟨n, ok, rfl, hI, hb2⟩; have HI := Lib.hid hI; have HB2 := Lib.hid (HB1.out.trans (hb2.mono (by omega))); have d1 := (hb2.cell (p := ⟨w.heap.size, 1, none⟩) (by show w.heap.size < _; omega)).trans c1; have d2 := (hb2.cell (p := ⟨w.heap.size, 2, none⟩) (by show w.heap.size < _; omega)).trans c2; clear hI hb2 c0 c1 c2))
    obtain ⟨gu, hgu⟩ : ∃ v, v = decide (c.data.toList = way true) := ⟨_, rfl⟩
    obtain ⟨gd, hgd⟩ : ∃ v, v = decide (c.data.toList = way false) := ⟨_, rfl⟩
    have eu : (c.toList == [117, 110, 100, 111]) = gu := str_eq hgu.symm
    have ed : (c.toList == [100, 111]) = gd := str_eq hgd.symm
    have HU := Lib.hid (And.intro hgu hgd)
    clear hgu hgd HB1 HSP HNum
    go_quiet (fail)
    have HB := Lib.hid (show Below w.heap.size w (w2.drewN nq) from HB2.out.trans ⟨rfl, rfl, rfl, Nat.le_refl _, fun _ _ => rfl⟩)
    have f2 : (w2.drewN nq).cell? ⟨w.heap.size, 2, none⟩ = some (.string c) := d2
    have hlt : w.heap.size < (w2.drewN nq).heap.size := World.block_lt_of_cell? _ _ f2
    generalize w2.drewN nq = w3 at *
    clear HB2 d1 d2
    rcases HI.out with ⟨rfl, mm, rfl, hnum⟩ | ⟨rfl, rfl, hno⟩
    · have HM := Lib.hid hnum
      clear HI hnum
      cases hg : nameB b.data.toList with
      | false =>
        rw [hg] at HG
        have HN : Hid (¬ ∃ m x u, KeyOf s.data.toList m x u) := Lib.hid fun ⟨m, x, u, hk⟩ => by
          obtain ⟨_, h2, h3, _⟩ := (HK.out m x u).1 hk
          rw [← h3, hg] at h2
          cases h2
        clear hg
        go_wp2_with (go_at_call 36; (with_reducible refine (HG.out _).mono ?_); rintro e w4 ⟨rfl, hb4⟩; have HB4 := Lib.hid (HB.out.trans (hb4.mono HB.out.size)); have f4 := (hb4.cell (p := ⟨w.heap.size, 2, none⟩) hlt).trans f2; clear hb4)
        (try simp only [Exit.inBlock, Exit.then]); refine bodyPost_ret (results_tmp4 rfl _ _ _) rfl ?_
        exact cut_not HN.out HB4.out
      | true =>
        rw [hg] at HG
        have HY : Hid (∀ u, c.data.toList = way u → KeyOf s.data.toList mm b.data.toList u) := Lib.hid fun u hu => (HK.out mm _ u).2 ⟨HM.out, hg, rfl, hu⟩
        clear hg
        cases gu with
        | true =>
          have HT : Hid (KeyOf s.data.toList mm b.data.toList true) := Lib.hid (HY.out true (of_decide_eq_true HU.out.1.symm))
          clear HU
          go_wp2_with (go_at_call 36; (with_reducible refine (HG.out _).mono ?_); rintro e w4 ⟨rfl, hb4⟩; have HB4 := Lib.hid (HB.out.trans (hb4.mono HB.out.size)); have f4 := (hb4.cell (p := ⟨w.heap.size, 2, none⟩) hlt).trans f2; clear hb4)
          (try simp only [Exit.inBlock, Exit.then]); refine bodyPost_ret (results_tmp4 rfl _ _ _) rfl ?_
          exact cut_yes HT.out HB4.out
        | false =>
          cases gd with
          | true =>
            have HT : Hid (KeyOf s.data.toList mm b.data.toList false) := Lib.hid (HY.out false (of_decide_eq_true HU.out.2.symm))
            clear HU
            go_wp2_with (go_at_call 36; (with_reducible refine (HG.out _).mono ?_); rintro e w4 ⟨rfl, hb4⟩; have HB4 := Lib.hid (HB.out.trans (hb4.mono HB.out.size)); have f4 := (hb4.cell (p := ⟨w.heap.size, 2, none⟩) hlt).trans f2; clear hb4)
            (try simp only [Exit.inBlock, Exit.then]); refine bodyPost_ret (results_tmp4 rfl _ _ _) rfl ?_
            exact cut_yes HT.out HB4.out
          | false =>
            have HN : Hid (¬ ∃ m x u, KeyOf s.data.toList m x u) := Lib.hid fun ⟨m, x, u, hk⟩ => by
              obtain ⟨_, _, _, h4⟩ := (HK.out m x u).1 hk
              cases u with
              | true => exact of_decide_eq_false HU.out.1.symm h4
              | false => exact of_decide_eq_false HU.out.2.symm h4
            clear HU
            go_wp2_with (go_at_call 36; (with_reducible refine (HG.out _).mono ?_); rintro e w4 ⟨rfl, hb4⟩; have HB4 := Lib.hid (HB.out.trans (hb4.mono HB.out.size)); have f4 := (hb4.cell (p := ⟨w.heap.size, 2, none⟩) hlt).trans f2; clear hb4)
            (try simp only [Exit.inBlock, Exit.then]); refine bodyPost_ret (results_tmp4 rfl _ _ _) rfl ?_
            exact cut_not HN.out HB4.out
    · have HN : Hid (¬ ∃ m x u, KeyOf s.data.toList m x u) := Lib.hid fun ⟨m, x, u, hk⟩ => hno ⟨m, ((HK.out m x u).1 hk).1⟩
      clear HI hno HU
      go_wp2
      (try simp only [Exit.inBlock, Exit.then]); refine bodyPost_ret (results_tmp4 rfl _ _ _) rfl ?_
      exact cut_not HN.out HB.out
  · have HN := Lib.hid (key_not (hpc.2 h3))
    have g3 : (((pcs4 s).length : Int) != 3) = true := by simpa using fun e => h3 (by omega)
    have HSP : Hid (Calls Tryd.prog 47 #[.string s, .string ⟨#[47]⟩, .int .i64 4] w fun e w' => e = .returned (.slice (some ⟨w.heap.size, 0, none⟩) (pcs4 s).length cap) ∧ Below w.heap.size w w') :=
      Lib.hid (hsp.mono fun e w' ⟨h1, h2, h3, h4⟩ => ⟨h1, h3⟩)
    clear hsp hpc hsz h3
    generalize (pcs4 s).length = len at *
    go_enter Tryd.func20, Tryd.ntmps20
    go_wp2_with (go_at_call 47; (with_reducible refine HSP.out.mono ?_); rintro e w1 ⟨rfl, hb1⟩; have HB1 := Lib.hid hb1; clear hb1)
    (try simp only [Exit.inBlock, Exit.then]); refine bodyPost_ret (results_tmp4 rfl _ _ _) rfl ?_
    exact cut_not HN.out HB1.out
end Go.Proofs.YtkmldgcnbjjbcaaDoor.Df
