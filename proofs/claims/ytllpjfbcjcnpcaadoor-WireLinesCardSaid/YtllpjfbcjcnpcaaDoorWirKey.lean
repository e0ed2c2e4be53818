/-
  What a cut without definitions calls of layers 13: number, Cut, the document's Read and Decimal; strconv.Itoa.
  Conditions: as each theorem names them.
-/
import Derived.Test.YtllpjfbcjcnpcaaDoorDefMath
import Derived.Test.YtllpjfbcjcnpcaaDoorEls
import Derived.Test.YtllpjfbcjcnpcaaDoorFldMem
import Derived.Test.YtllpjfbcjcnpcaaDoorLabRefs
import Derived.LoopTactic
import Derived.WalkMore
import Derived.BigQuiet
import Derived.Deep.QuietTactic
import Derived.Deep.Draws
import Derived.Deep.RegionHeld3
import Derived.RegionTactic
import Derived.Lib.AppendIntMem
import Derived.Lib.ItoaLen
namespace Go.Proofs.YtllpjfbcjcnpcaaDoor.Wi
open Go.RowKit
open Go.Proofs.YtllpjfbcjcnpcaaDoor.El
open Go.Proofs.YtllpjfbcjcnpcaaDoor.Df
open Go.Lib (decDigits)

theorem len_is (s : ByteArray) : s.data.toList.length = s.size := Array.length_toList
theorem below_put {B : Nat} {w wr : World} (h : Below B w wr) {g : Nat} (hg : B ≤ g) (i : Nat) (u : Value) : Below B w (wr.setCell ⟨g, i, none⟩ u) :=
  h.trans ⟨rfl, rfl, rfl, by simp [World.setCell], fun k hk => Below.heap_setCell wr ⟨g, i, none⟩ u k (by show k ≠ g; omega)⟩
theorem dec_ascii {b : UInt8} (h : b.toNat < 128) (t : List UInt8) : dec (b :: t) = (b.toNat, 1) := by
  unfold dec d4
  have : byt (b :: t) 0 = b.toNat := rfl
  rw [this, if_pos h]
theorem rng_one {b : UInt8} {t : List UInt8} (h : b.toNat < 128) : rngI (b :: t) = (b.toNat : Int) := by unfold rngI; rw [dec_ascii h, if_neg (by simp)]
theorem wd_one {b : UInt8} {t : List UInt8} (h : b.toNat < 128) : wd (b :: t) = 1 := by unfold wd; rw [dec_ascii h]; rfl
theorem rng_big {b : UInt8} {t : List UInt8} (h : ¬ b.toNat < 128) : 128 ≤ rngI (b :: t) := by
  unfold rngI dec
  have h0 : byt (b :: t) 0 = b.toNat := rfl
  rw [h0]
  rcases d4_cases b.toNat (byt (b :: t) 1) (byt (b :: t) 2) (byt (b :: t) 3) with ⟨p, e⟩ | ⟨p, q, r, e⟩ | ⟨p, q, r, s, u, e⟩ | ⟨p, q, r, s, u, v, e⟩ | ⟨p, e⟩ <;> rw [e] <;> simp only
  · omega
  · rw [if_neg (by omega)]; omega
  · rw [if_neg (by omega)]; omega
  · rw [if_neg (by omega)]; omega
  · simp
theorem toList_nil (s : ByteArray) (h : s.size = 0) : (s.toList == []) = true := by
  rw [ByteArray.toList_eq, beq_iff_eq]
  exact List.eq_nil_of_length_eq_zero (by rw [len_is]; exact h)
theorem toList_some (s : ByteArray) (h : s.size ≠ 0) : (s.toList == []) = false := by
  rw [ByteArray.toList_eq, beq_eq_false_iff_ne]
  intro e
  have := congrArg List.length e
  rw [len_is] at this
  exact h this
theorem at_byte {s : ByteArray} {k : Nat} (h : k < s.size) : s.data.toList[k]? = some (s[k]'h) := by
  have hl : k < s.data.toList.length := by rw [len_is]; exact h
  rw [List.getElem?_eq_getElem hl, Array.getElem_toList]
  rfl
theorem head_byte {s : ByteArray} (h : 0 < s.size) : s.data.toList.head? = some (s[0]'h) := by rw [List.head?_eq_getElem?]; exact at_byte h
/-- what 'number' answers, and leaves -/
def NumPost (s : ByteArray) (w : World) (e : Ending) (w' : World) : Prop := ∃ n ok, e = .returned (.tuple #[.int .i64 n, .bool ok]) ∧ NumIs s.data.toList n ok ∧ Below w.heap.size w w'
theorem num_no {s : ByteArray} {w w' : World} (h : ¬ ∃ m, Num s.data.toList m) (hb : Below w.heap.size w w') : NumPost s w (.returned (.tuple #[.int .i64 0, .bool false])) w' := ⟨0, false, rfl, .inr ⟨rfl, rfl, h⟩, hb⟩
set_option maxRecDepth 100000 in
set_option maxHeartbeats 4000000 in
theorem number_any (s : ByteArray) (w : World) (hs : s.size ≤ 1099511627776) : Calls Tryd.prog 46 #[.string s] w (NumPost s w) := by
  by_cases h0 : s.size = 0
  · have g0 := toList_nil s h0
    have HN := Lib.hid (num_no (w := w) (w' := w) (s := s) (by rw [show s.data.toList = [] from List.eq_nil_of_length_eq_zero (by rw [len_is]; exact h0)]; exact num_empty) (Below.refl _ _))
    clear h0
    go_enter Tryd.func46, Tryd.ntmps46
    go_wp2
    go_ret2
    exact HN.out
  have g0 := toList_some s h0
  have hp0 : 0 < s.size := by omega
  by_cases h18 : 18 < s.size
  · have HN := Lib.hid (num_no (w := w) (w' := w) (s := s) (num_long (by rw [len_is]; exact h18)) (Below.refl _ _))
    go_enter Tryd.func46, Tryd.ntmps46
    go_wp2
    go_ret2
    exact HN.out
  by_cases hz : (s[0]'hp0).toNat = 48 ∧ 1 < s.size
  · obtain ⟨hz, h1⟩ := hz
    have gz : (((s[0]'hp0).toNat : Int) == 48) = true := by simp [hz]
    have HN := Lib.hid (num_no (w := w) (w' := w) (s := s) (num_zero (by rw [head_byte hp0, show s[0]'hp0 = 48 from UInt8.toNat_inj.1 hz]) (by rw [len_is]; exact h1)) (Below.refl _ _))
    clear hz
    go_enter Tryd.func46, Tryd.ntmps46
    go_wp2
    go_ret2
    exact HN.out
  have HZ : Hid (s.size = 1 ∨ s.data.toList.head? ≠ some 48) := Lib.hid (by
    by_cases h1 : 1 < s.size
    · refine .inr fun e => hz ⟨?_, h1⟩
      rw [head_byte hp0] at e
      injection e with e
      rw [e]
      rfl
    · exact .inl (by omega))
  have gz : (((s[0]'hp0).toNat : Int) == 48) = false ∨ ((((s[0]'hp0).toNat : Int) == 48) = true ∧ ¬ 1 < s.size) := by
    by_cases e : (s[0]'hp0).toNat = 48
    · exact .inr ⟨by simp [e], fun h1 => hz ⟨e, h1⟩⟩
    · exact .inl (by simp; omega)
  clear hz
  rcases gz with gz | ⟨gz, gz1⟩
  all_goals
    go_enter Tryd.func46, Tryd.ntmps46
    go_wp2
    go_loopw [4] (fun vn wr => ∃ (pos acc : Nat), vn = .int .i64 acc ∧ wr.heap[w.heap.size]? = some (.stringIter s pos) ∧ Below w.heap.size w wr ∧ Hid (NumRel s.data.toList pos acc) ∧ pos ≤ s.size) (fun _ wr => s.size - wr.iterPos w.heap.size)
    case atStart =>
      refine ⟨0, 0, rfl, ?_, (Below.refl _ w).alloc (Nat.le_refl _) _, Lib.hid (.inl ⟨rfl, rfl⟩), by omega⟩
      have := World.iter_heap w s 0
      simpa using this
    case round =>
      obtain ⟨pos, acc, rfl, hit, hbw, HR, hpos⟩ := hrel
      by_cases hp : pos < s.size
      · have hnx : ∀ ty, (Instr.next (.pointer (some ⟨w.heap.size, 0, none⟩)) true ty).run Tryd.prog wr = _ := fun ty => Lib.run_next_any_at wr w.heap.size s pos ty hit hp
        have hit2 := Lib.iterAt_heap wr w.heap.size s pos (pos + (Utf8.decode s pos).2) hit
        have hbw2 := Lib.below_iterAt hbw (k := w.heap.size) (Nat.le_refl _) s (pos + (Utf8.decode s pos).2)
        have hwd : (Utf8.decode s pos).2 = wd (s.data.toList.drop pos) := decode_wd s pos
        have hwp : 1 ≤ (Utf8.decode s pos).2 := by rw [hwd]; exact wd_pos _
        have hws : pos + (Utf8.decode s pos).2 ≤ s.size := by rw [hwd]; exact wd_size hp
        have hpl : pos < s.data.toList.length := by rw [Array.length_toList]; exact hp
        have hr := rng_eq s pos
        have hdc := List.drop_eq_getElem_cons hpl
        obtain ⟨b, hb⟩ : ∃ b, b = s.data.toList[pos] := ⟨_, rfl⟩
        have HB : Hid (s.data.toList[pos]? = some b) := Lib.hid (by rw [hb]; exact List.getElem?_eq_getElem hpl)
        rw [← hb] at hdc
        rw [hdc] at hr hwd
        obtain ⟨r, hre⟩ : ∃ r : Int, r = ((Utf8.decode s pos).1 : Int) := ⟨_, rfl⟩
        rw [← hre] at hr
        simp only [← hre] at hnx
        have hbig : ¬ b.toNat < 128 → 128 ≤ r := fun h => by rw [hr]; exact rng_big h
        have hone : b.toNat < 128 → r = b.toNat ∧ (Utf8.decode s pos).2 = 1 := fun h => ⟨by rw [hr]; exact rng_one h, by rw [hwd]; exact wd_one h⟩
        have hlo : 0 ≤ r := by rw [hr]; exact rngI_lo _
        have hhi : r ≤ 1114111 := by rw [hr]; exact rngI_hi _
        have hacc : acc < 100000000000000000 := num_lt17 HR.out (by rw [len_is]; omega) (by omega)
        clear hr hre hwd hb hdc
        generalize (Utf8.decode s pos).2 = wid at *
        by_cases hbad : b.toNat < 48 ∨ 57 < b.toNat
        · have HN := Lib.hid (num_bad (List.mem_of_getElem? HB.out) hbad)
          have hr2 : r < 48 ∨ 57 < r := by
            by_cases h128 : b.toNat < 128
            · have := (hone h128).1
              omega
            · have := hbig h128
              omega
          clear hbig hone hbad
          rcases hr2 with hr2 | hr2
          · go_wp2
            go_ret2
            exact num_no HN.out hbw2
          · have hr3 : ¬ r < 48 := by omega
            go_wp2
            go_ret2
            exact num_no HN.out hbw2
        · obtain ⟨hr1, hw1⟩ := hone (by omega)
          have hr3 : ¬ r < 48 := by omega
          have hr4 : ¬ 57 < r := by omega
          obtain ⟨d, hde⟩ : ∃ d, d = b.toNat - 48 := ⟨_, rfl⟩
          have hd9 : d < 10 := by omega
          have HD : Hid (b.toNat = 48 + d) := Lib.hid (by omega)
          obtain rfl : r = (d : Int) + 48 := by omega
          have HW := Lib.hid hw1
          have HS : Hid (NumRel s.data.toList (pos + 1) (acc * 10 + d)) := Lib.hid (num_step HR.out HB.out HD.out hd9 (by
            rcases HZ.out with h | h
            · exact .inl (by omega)
            · exact .inr h))
          have hs48 : (d : Int) + 48 - 48 = d := by omega
          clear hbig hone hbad hr1 hw1 hde
          go_wp2
          go_roundw
          case rel => exact ⟨pos + wid, acc * 10 + d, by go_num, hit2, hbw2, by rw [HW.out]; exact HS, hws⟩
          case measure =>
            simp only [World.iterPos, hit2, hit]
            omega
      · have hnx : ∀ ty, (Instr.next (.pointer (some ⟨w.heap.size, 0, none⟩)) true ty).run Tryd.prog wr = _ := fun ty => Lib.run_next_end_at wr w.heap.size s pos ty hit hp
        have HN : Hid (Num s.data.toList acc) := Lib.hid (num_end (by rw [len_is, show s.size = pos by omega]; exact HR.out) (fun e => by have h := congrArg List.length e; rw [len_is] at h; have h' : s.size = 0 := h; omega) (by rw [len_is]; omega))
        go_wp2
        go_ret2
        exact ⟨_, _, rfl, .inl ⟨rfl, acc, rfl, HN.out⟩, hbw⟩
theorem results_tmp4 {fn : Func} {t u v x : Tmp} (h : fn.results = #[.tmp t, .tmp u, .tmp v, .tmp x]) (tmps : Array Value) (P : Program) (w : World) :
    (results fn tmps).run P w = .ok (.tuple #[tmps.getD t undef, tmps.getD u undef, tmps.getD v undef, tmps.getD x undef]) w := by
  simp [results, h]
theorem splitB_size (sep : ByteArray) (save : Nat) : ∀ (k : Nat) (s : ByteArray), ∀ x ∈ Lib.splitB sep save k s, x.size ≤ s.size
  | 0, s => by intro x hx; rw [Lib.splitB_zero] at hx; simp at hx; rw [hx]; exact Nat.le_refl _
  | k + 1, s => by
    intro x hx
    unfold Lib.splitB at hx
    split at hx
    · simp at hx; rw [hx]; exact Nat.le_refl _
    · rcases List.mem_cons.1 hx with rfl | hx
      · simp only [ByteArray.size_extract]; omega
      · have := splitB_size sep save k _ x hx
        simp only [ByteArray.size_extract] at this
        omega
/-- what SplitN answers, and leaves -/
def SplitPost (s : ByteArray) (w : World) (e : Ending) (w' : World) : Prop :=
  e = .returned (.slice (some ⟨w.heap.size, 0, none⟩) (pcs4 s).length (min 4 (s.size + 1))) ∧ (∀ j x, (pcs4 s)[j]? = some x → w'.cell? ⟨w.heap.size, j, none⟩ = some (.string x)) ∧ Below w.heap.size w w' ∧ w'.heap.size = w.heap.size + 1
theorem split_any (s : ByteArray) (m : Int) (w : World) (hs : s.size ≤ 1000000) (hm : w.cell? ⟨0, 0, none⟩ = some (.int .i64 m)) :
    Calls Tryd.prog 45 #[.string s, .string ⟨#[47]⟩, .int .i64 4] w (SplitPost s w) := by
  have h := Tryd.strings_SplitN s ⟨#[47]⟩ 4 m w (by omega) hm (by decide) (by omega) (by omega)
  refine Calls.mono h ?_
  rintro e w' ⟨rfl, rfl⟩
  refine ⟨rfl, fun j x hx => ?_, (Below.refl _ _).alloc (Nat.le_refl _) _, by simp⟩
  have hh := heap_alloc_new w (.cells (Lib.cellsOf (pcs4 s) (min 4 (s.size + 1))) 9)
  show (w.alloc (.cells (Lib.cellsOf (pcs4 s) (min 4 (s.size + 1))) 9)).cell? _ = _
  rw [cell_of_row _ w.heap.size j _ 9 (0, 0) hh]
  have hj : j < (pcs4 s).length := at_lt hx
  unfold Lib.cellsOf
  rw [List.getElem?_toArray, List.getElem?_append_left (by simp; omega), List.getElem?_map, hx]
  rfl
/-- what Cut answers, and leaves -/
def CutPost (s : ByteArray) (w : World) (e : Ending) (w' : World) : Prop :=
  ∃ n x u ok, e = .returned (.tuple #[.int .i64 n, .string x, .bool u, .bool ok]) ∧ CutIs s.data.toList n x u ok ∧ Below w.heap.size w w'
theorem cut_not {s : ByteArray} {w w' : World} (h : ¬ ∃ m x u, KeyOf s.data.toList m x u) (hb : Below w.heap.size w w') : CutPost s w (.returned (.tuple #[.int .i64 0, .string ⟨#[]⟩, .bool false, .bool false])) w' :=
  ⟨0, ⟨#[]⟩, false, false, rfl, .inr ⟨rfl, rfl, rfl, rfl, h⟩, hb⟩
theorem cut_yes {s x : ByteArray} {w w' : World} {m : Nat} {u : Bool} (h : KeyOf s.data.toList m x.data.toList u) (hb : Below w.heap.size w w') : CutPost s w (.returned (.tuple #[.int .i64 m, .string x, .bool u, .bool true])) w' :=
  ⟨m, x, u, true, rfl, .inl ⟨rfl, m, rfl, h⟩, hb⟩
theorem str_eq {c : ByteArray} {l : List UInt8} {v : Bool} (h : decide (c.data.toList = l) = v) : (c.toList == l) = v := by
  rw [ByteArray.toList_eq, ← h, Bool.eq_iff_iff, beq_iff_eq, decide_eq_true_eq]
set_option maxRecDepth 100000 in
set_option maxHeartbeats 4000000 in
theorem cut_any (s : ByteArray) (m : Int) (w : World) (hs : s.size ≤ 1000000) (hm : w.cell? ⟨0, 0, none⟩ = some (.int .i64 m)) : Calls Tryd.prog 34 #[.string s] w (CutPost s w) := by
  have hsp := split_any s m w hs hm
  unfold SplitPost at hsp
  have hpc := pcs4_pieces s
  have hsz : ∀ x ∈ pcs4 s, x.size ≤ 1000000 := fun x hx => Nat.le_trans (splitB_size _ _ _ _ x hx) hs
  have hl4 : (pcs4 s).length ≤ 4 := by
    have := Lib.splitB_length_le ⟨#[47]⟩ 0 (min 4 (s.size + 1) - 1) s
    unfold pcs4
    omega
  clear hm
  generalize min 4 (s.size + 1) = cap at hsp
  by_cases h3 : (pcs4 s).length = 3
  · obtain ⟨a, b, c, habc⟩ : ∃ a b c, pcs4 s = [a, b, c] := by
      match hq : pcs4 s, h3 with
      | [a, b, c], _ => exact ⟨a, b, c, rfl⟩
    have hp : pieces [] s.data.toList = [a.data.toList, b.data.toList, c.data.toList] := by
      have := hpc.1 h3
      rw [habc] at this
      exact this.symm
    have HK := Lib.hid (key_three hp)
    rw [habc] at hsp hsz
    have hsa := hsz a (by simp)
    have hsb := hsz b (by simp)
    have HSP : Hid (Calls Tryd.prog 45 #[.string s, .string ⟨#[47]⟩, .int .i64 4] w fun e w' => e = .returned (.slice (some ⟨w.heap.size, 0, none⟩) 3 cap) ∧ (w'.cell? ⟨w.heap.size, 0, none⟩ = some (.string a) ∧ w'.cell? ⟨w.heap.size, 1, none⟩ = some (.string b) ∧ w'.cell? ⟨w.heap.size, 2, none⟩ = some (.string c)) ∧ Below w.heap.size w w' ∧ w'.heap.size = w.heap.size + 1) :=
      Lib.hid (hsp.mono fun e w' ⟨h1, h2, h3, h4⟩ => ⟨h1, ⟨h2 0 a rfl, h2 1 b rfl, h2 2 c rfl⟩, h3, h4⟩)
    have HNum := Lib.hid (fun w => number_any a w (by omega))
    unfold NumPost at HNum
    have HG := Lib.hid (fun w => good_any b w (by omega))
    clear hsp hpc hsz hl4 h3 habc hp
    go_enter Tryd.func34, Tryd.ntmps34
    go_wp2_with (first
      | (go_at_call 45; (with_reducible refine HSP.out.mono ?_); rintro e w1 ⟨rfl, ⟨c0, c1, c2⟩, hb1, hz1⟩; have HB1 := Lib.hid hb1; clear hb1)
      | (go_at_call 46; (with_reducible refine (HNum.out _).mono ?_); rintro e w2 ⟨n, ok, rfl, hI, hb2⟩; have HI := Lib.hid hI; have HB2 := Lib.hid (HB1.out.trans (hb2.mono (by omega))); have d1 := (hb2.cell (p := ⟨w.heap.size, 1, none⟩) (by show w.heap.size < _; omega)).trans c1; have d2 := (hb2.cell (p := ⟨w.heap.size, 2, none⟩) (by show w.heap.size < _; omega)).trans c2; clear hI hb2 c0 c1 c2))
    obtain ⟨gu, hgu⟩ : ∃ v, v = decide (c.data.toList = way true) := ⟨_, rfl⟩
    obtain ⟨gd, hgd⟩ : ∃ v, v = decide (c.data.toList = way false) := ⟨_, rfl⟩
    have eu : (c.toList == [117, 110, 100, 111]) = gu := str_eq hgu.symm
    have ed : (c.toList == [100, 111]) = gd := str_eq hgd.symm
    have HU := Lib.hid (And.intro hgu hgd)
    clear hgu hgd HB1 HSP HNum
    go_quiet (fail)
    have HB := Lib.hid (show Below w.heap.size w (w2.drewN nq) from HB2.out.trans ⟨rfl, rfl, rfl, Nat.le_refl _, fun _ _ => rfl⟩)
    have f2 : (w2.drewN nq).cell? ⟨w.heap.size, 2, none⟩ = some (.string c) := d2
    have hlt : w.heap.size < (w2.drewN nq).heap.size := World.block_lt_of_cell? _ _ f2
    generalize w2.drewN nq = w3 at *
    clear HB2 d1 d2
    rcases HI.out with ⟨rfl, mm, rfl, hnum⟩ | ⟨rfl, rfl, hno⟩
    · have HM := Lib.hid hnum
      clear HI hnum
      cases hg : nameB b.data.toList with
      | false =>
        rw [hg] at HG
        have HN : Hid (¬ ∃ m x u, KeyOf s.data.toList m x u) := Lib.hid fun ⟨m, x, u, hk⟩ => by
          obtain ⟨_, h2, h3, _⟩ := (HK.out m x u).1 hk
          rw [← h3, hg] at h2
          cases h2
        clear hg
        go_wp2_with (go_at_call 18; (with_reducible refine (HG.out _).mono ?_); rintro e w4 ⟨rfl, hb4⟩; have HB4 := Lib.hid (HB.out.trans (hb4.mono HB.out.size)); have f4 := (hb4.cell (p := ⟨w.heap.size, 2, none⟩) hlt).trans f2; clear hb4)
        (try simp only [Exit.inBlock, Exit.then]); refine bodyPost_ret (results_tmp4 rfl _ _ _) rfl ?_
        exact cut_not HN.out HB4.out
      | true =>
        rw [hg] at HG
        have HY : Hid (∀ u, c.data.toList = way u → KeyOf s.data.toList mm b.data.toList u) := Lib.hid fun u hu => (HK.out mm _ u).2 ⟨HM.out, hg, rfl, hu⟩
        clear hg
        cases gu with
        | true =>
          have HT : Hid (KeyOf s.data.toList mm b.data.toList true) := Lib.hid (HY.out true (of_decide_eq_true HU.out.1.symm))
          clear HU
          go_wp2_with (go_at_call 18; (with_reducible refine (HG.out _).mono ?_); rintro e w4 ⟨rfl, hb4⟩; have HB4 := Lib.hid (HB.out.trans (hb4.mono HB.out.size)); have f4 := (hb4.cell (p := ⟨w.heap.size, 2, none⟩) hlt).trans f2; clear hb4)
          (try simp only [Exit.inBlock, Exit.then]); refine bodyPost_ret (results_tmp4 rfl _ _ _) rfl ?_
          exact cut_yes HT.out HB4.out
        | false =>
          cases gd with
          | true =>
            have HT : Hid (KeyOf s.data.toList mm b.data.toList false) := Lib.hid (HY.out false (of_decide_eq_true HU.out.2.symm))
            clear HU
            go_wp2_with (go_at_call 18; (with_reducible refine (HG.out _).mono ?_); rintro e w4 ⟨rfl, hb4⟩; have HB4 := Lib.hid (HB.out.trans (hb4.mono HB.out.size)); have f4 := (hb4.cell (p := ⟨w.heap.size, 2, none⟩) hlt).trans f2; clear hb4)
            (try simp only [Exit.inBlock, Exit.then]); refine bodyPost_ret (results_tmp4 rfl _ _ _) rfl ?_
            exact cut_yes HT.out HB4.out
          | false =>
            have HN : Hid (¬ ∃ m x u, KeyOf s.data.toList m x u) := Lib.hid fun ⟨m, x, u, hk⟩ => by
              obtain ⟨_, _, _, h4⟩ := (HK.out m x u).1 hk
              cases u with
              | true => exact of_decide_eq_false HU.out.1.symm h4
              | false => exact of_decide_eq_false HU.out.2.symm h4
            clear HU
            go_wp2_with (go_at_call 18; (with_reducible refine (HG.out _).mono ?_); rintro e w4 ⟨rfl, hb4⟩; have HB4 := Lib.hid (HB.out.trans (hb4.mono HB.out.size)); have f4 := (hb4.cell (p := ⟨w.heap.size, 2, none⟩) hlt).trans f2; clear hb4)
            (try simp only [Exit.inBlock, Exit.then]); refine bodyPost_ret (results_tmp4 rfl _ _ _) rfl ?_
            exact cut_not HN.out HB4.out
    · have HN : Hid (¬ ∃ m x u, KeyOf s.data.toList m x u) := Lib.hid fun ⟨m, x, u, hk⟩ => hno ⟨m, ((HK.out m x u).1 hk).1⟩
      clear HI hno HU
      go_wp2
      (try simp only [Exit.inBlock, Exit.then]); refine bodyPost_ret (results_tmp4 rfl _ _ _) rfl ?_
      exact cut_not HN.out HB.out
  · have HN := Lib.hid (key_not (hpc.2 h3))
    have g3 : (((pcs4 s).length : Int) != 3) = true := by simpa using fun e => h3 (by omega)
    have HSP : Hid (Calls Tryd.prog 45 #[.string s, .string ⟨#[47]⟩, .int .i64 4] w fun e w' => e = .returned (.slice (some ⟨w.heap.size, 0, none⟩) (pcs4 s).length cap) ∧ Below w.heap.size w w') :=
      Lib.hid (hsp.mono fun e w' ⟨h1, h2, h3, h4⟩ => ⟨h1, h3⟩)
    clear hsp hpc hsz h3
    generalize (pcs4 s).length = len at *
    go_enter Tryd.func34, Tryd.ntmps34
    go_wp2_with (go_at_call 45; (with_reducible refine HSP.out.mono ?_); rintro e w1 ⟨rfl, hb1⟩; have HB1 := Lib.hid hb1; clear hb1)
    (try simp only [Exit.inBlock, Exit.then]); refine bodyPost_ret (results_tmp4 rfl _ _ _) rfl ?_
    exact cut_not HN.out HB1.out
/-- what Read answers, and leaves -/
def ReadPost (s : ByteArray) (w : World) (e : Ending) (w' : World) : Prop :=
  ∃ n x u ok, e = .returned (.agg #[.int .i64 n, .string x, .bool u, .bool ok]) ∧ CutIs s.data.toList n x u ok ∧ Below w.heap.size w w'
theorem extract_is (s : ByteArray) (i k : Nat) : (s.extract i k).data.toList = (s.data.toList.take k).drop i := by
  rw [ByteArray.data_extract]
  simp only [Array.toList_extract, List.extract]
  rw [List.drop_take]
theorem extract_end (s : ByteArray) (k : Nat) : (s.extract k s.size).data.toList = s.data.toList.drop k := extract_drop s k
theorem run_mid (s : ByteArray) (i k : Nat) (h : i + 2 ≤ k) (hk : k ≤ s.size) (W : World) : (Instr.slice 9 (.string s) (some (.int .i64 ((i : Int) + 2))) (some (.int .i64 (k : Int))) none).run Tryd.prog W = .ok (.string (s.extract (i + 2) k)) W := by
  have e := run_slice_string (P := Tryd.prog) W 9 s .i64 .i64 ((i : Int) + 2) (k : Int) Tryd.underlying9 (by omega) (by omega) (by omega)
  rw [show ((i : Int) + 2).toNat = i + 2 by omega, show ((k : Int)).toNat = k by omega] at e
  exact e
def cutV (n : Int) (x : ByteArray) (u ok : Bool) : Array Value := #[.int .i64 n, .string x, .bool u, .bool ok]
theorem sizeC : (Tryd.prog.info? 41).map (·.size) = some 4 := by kernel_rfl
theorem size_cut (n : Int) (x : ByteArray) (u ok : Bool) : (Tryd.prog.info? 41).map (·.size) = some (cutV n x u ok).size := sizeC
theorem read_no {s : ByteArray} {w w' : World} (h : ¬ ∃ m x u, KeyOf s.data.toList m x u) (hb : Below w.heap.size w w') : ReadPost s w (.returned (.agg (cutV 0 ⟨#[]⟩ false false))) w' :=
  ⟨0, ⟨#[]⟩, false, false, rfl, .inr ⟨rfl, rfl, rfl, rfl, h⟩, hb⟩
theorem read_yes {s x : ByteArray} {w w' : World} {m : Nat} {n : Int} {u : Bool} (hn : n = m) (h : KeyOf s.data.toList m x.data.toList u) (hb : Below w.heap.size w w') : ReadPost s w (.returned (.agg (cutV n x u true))) w' :=
  ⟨n, x, u, true, rfl, .inl ⟨rfl, m, hn, h⟩, hb⟩
theorem hit_at {key : List UInt8} {i k : Nat} {u : Bool} (h : Hit key i k u) : key[k]? = some 47 := by
  have h3 := h.2.2
  have := congrArg List.head? h3
  rw [List.head?_drop] at this
  exact this
theorem hit_47 {key : List UInt8} {k : Nat} {b : UInt8} (hb : key[k]? = some b) (h : b.toNat ≠ 47) : key[k]? ≠ some 47 := fun e => by
  rw [hb] at e
  injection e with e
  rw [e] at h
  exact h rfl
theorem cut_box {w : World} {g : Nat} {a b c d : Value} (h : Box w g 41 #[a, b, c, d]) (n : Int) (x : ByteArray) (u ok : Bool) :
    Box ((((w.setCell ⟨g, 0, none⟩ (.int .i64 n)).setCell ⟨g, 1, none⟩ (.string x)).setCell ⟨g, 2, none⟩ (.bool u)).setCell ⟨g, 3, none⟩ (.bool ok)) g 41 (cutV n x u ok) := (((h.put 0 _).put 1 _).put 2 _).put 3 _
theorem cut_below {w W : World} (h : Below w.heap.size w W) (n : Int) (x : ByteArray) (u ok : Bool) :
    Below w.heap.size w ((((W.setCell ⟨w.heap.size, 0, none⟩ (.int .i64 n)).setCell ⟨w.heap.size, 1, none⟩ (.string x)).setCell ⟨w.heap.size, 2, none⟩ (.bool u)).setCell ⟨w.heap.size, 3, none⟩ (.bool ok)) :=
  below_put (below_put (below_put (below_put h (Nat.le_refl _) _ _) (Nat.le_refl _) _ _) (Nat.le_refl _) _ _) (Nat.le_refl _) _ _
set_option maxRecDepth 100000 in
set_option maxHeartbeats 4000000 in
theorem read_any (s : ByteArray) (w : World) (hs : s.size ≤ 1000000) : Calls Tryd.prog 20 #[.string s] w (ReadPost s w) := by
  go_enter Tryd.func20, Tryd.ntmps20
  go_wp2
  have HM := Lib.hid ((Below.refl w.heap.size w).alloc (Nat.le_refl _) (.cells (cutV 0 ⟨#[]⟩ false false) 41))
  have HB := Lib.hid (Box.new w 41 (cutV 0 ⟨#[]⟩ false false))
  unfold cutV at HM HB
  generalize w.alloc _ = W0 at *
  have c0 : W0.cell? ⟨w.heap.size, 0, none⟩ = some (.int .i64 0) := HB.out.cell 0
  have c1 : W0.cell? ⟨w.heap.size, 1, none⟩ = some (.string ⟨#[]⟩) := HB.out.cell 1
  have c2 : W0.cell? ⟨w.heap.size, 2, none⟩ = some (.bool false) := HB.out.cell 2
  have c3 : W0.cell? ⟨w.heap.size, 3, none⟩ = some (.bool false) := HB.out.cell 3
  have f0 := HB.out.frozen 0
  have f1 := HB.out.frozen 1
  have f2 := HB.out.frozen 2
  have f3 := HB.out.frozen 3
  go_loopw [3, 4] (fun vn vi wr => ∃ (i n : Nat), vi = .int .i64 (i : Int) ∧ vn = .int .i64 (n : Int) ∧ i ≤ s.size ∧ i ≤ 18 ∧ wr = W0 ∧ Hid (ReadRel s.data.toList i n)) (fun _ vi _ => 18 - (intOf vi).toNat)
  case atStart => exact ⟨0, 0, rfl, rfl, by omega, by omega, rfl, Lib.hid (read_start _)⟩
  case round =>
    obtain ⟨i, n, rfl, rfl, hi, hi18, rfl, HR⟩ := hrel
    by_cases h1 : i < s.size
    · by_cases h18 : i < 18
      · have HBy := Lib.hid (at_byte h1)
        by_cases hlo : 48 ≤ (s[i]'h1).toNat
        · by_cases hhi : (s[i]'h1).toNat ≤ 57
          · have hp0 : 0 < s.size := by omega
            obtain ⟨d, hd⟩ : ∃ d, (s[i]'h1).toNat = 48 + d := ⟨(s[i]'h1).toNat - 48, by omega⟩
            have hd9 : d < 10 := by omega
            have hacc : n < 100000000000000000 := num_lt17 HR.out.num (by rw [len_is]; omega) (by omega)
            have hsum : (10 : Int) * (n : Int) + ((s[i]'h1).toNat : Int) - 48 = ((n * 10 + d : Nat) : Int) := by omega
            have HD := Lib.hid hd
            have HS := Lib.hid hsum
            have e57 : decide (((s[i]'h1).toNat : Int) ≤ 57) = true := decide_eq_true (by omega)
            have e48 : decide ((48 : Int) ≤ ((s[i]'h1).toNat : Int)) = true := decide_eq_true (by omega)
            clear hd hsum
            by_cases hz : 0 < i ∧ (s[0]'hp0).toNat = 48
            · obtain ⟨hz1, hz2⟩ := hz
              have HN := Lib.hid (read_zero HR.out (by omega) (by rw [at_byte hp0, show s[0]'hp0 = 48 from UInt8.toNat_inj.1 hz2]) HBy.out ⟨hlo, hhi⟩)
              have gz : (((s[0]'hp0).toNat : Int) == 48) = true := by simp [hz2]
              clear hz2
              go_wp2
              (try simp only [Exit.inBlock, Exit.then]); refine bodyPost_ret (results_cell_row rfl _ _ w.heap.size 41 (cutV 0 ⟨#[]⟩ false false) (0, 0) _ rfl (cut_box HB.out _ _ _ _) Tryd.underlying41 rfl (size_cut _ _ _ _)) rfl (read_no HN.out (cut_below HM.out _ _ _ _))
            · have HZ : Hid (i = 0 ∨ s.data.toList[0]? ≠ some 48) := Lib.hid (by
                by_cases h0 : i = 0
                · exact .inl h0
                · refine .inr fun e => hz ⟨by omega, ?_⟩
                  rw [at_byte hp0] at e
                  injection e with e
                  rw [e]
                  rfl)
              have gz : ¬ 0 < i ∨ 0 < i ∧ (((s[0]'hp0).toNat : Int) == 48) = false := by
                by_cases h0 : i = 0
                · exact .inl (by omega)
                · exact .inr ⟨by omega, beq_eq_false_iff_ne.2 fun e => hz ⟨by omega, by omega⟩⟩
              clear hz
              rcases gz with gz | ⟨gz0, gz⟩
              all_goals
                go_wp2
                go_loopw [5] (fun vk wr2 => ∃ k : Nat, vk = .int .i64 (k : Int) ∧ i + 2 ≤ k ∧ k ≤ s.size + 1 ∧ wr2 = wr ∧ Hid (∀ (k' : Nat) (u : Bool), i + 2 ≤ k' → k' < k → ¬ Hit s.data.toList i k' u)) (fun vk _ => s.size + 1 - (intOf vk).toNat)
                case atStart => exact ⟨i + 2, by go_num, Nat.le_refl _, by omega, rfl, Lib.hid fun k' u h1 h2 => by omega⟩
                case round =>
                  obtain ⟨k, rfl, hik, hks, rfl, HK⟩ := hrel
                  by_cases hk : k < s.size
                  · have hi1 : i + 1 < s.size := by omega
                    have HB1 := Lib.hid (at_byte hi1)
                    have HBk := Lib.hid (at_byte hk)
                    by_cases q1 : (s[i + 1]'hi1).toNat = 47
                    · have g1 : (((s[i + 1]'hi1).toNat : Int) != 47) = false := by simp [q1]
                      by_cases q2 : (s[k]'hk).toNat = 47
                      · have g2 : (((s[k]'hk).toNat : Int) != 47) = false := by simp [q2]
                        have hmid := run_mid s i k hik (by omega)
                        have HG := Lib.hid (fun w => rgood_any (s.extract (i + 2) k) w (by rw [ByteArray.size_extract]; omega))
                        cases hg : nameB (s.extract (i + 2) k).data.toList with
                        | false =>
                          rw [hg] at HG
                          have HX : Hid (∀ u, ¬ Hit s.data.toList i k u) := Lib.hid fun u h => by rw [extract_is] at hg; rw [h.2.1] at hg; cases hg
                          have HK2 : Hid (∀ k' u, i + 2 ≤ k' → k' < k + 1 → ¬ Hit s.data.toList i k' u) := Lib.hid fun k' u h1 h2 => by
                            by_cases e : k' = k
                            · subst e; exact HX.out u
                            · exact HK.out k' u h1 (by omega)
                          clear q1 q2 hg HB1 HBk
                          go_wp2_with (go_at_call 22; (with_reducible refine (HG.out _).mono ?_); rintro e w' ⟨rfl, rfl⟩)
                          go_roundw
                          case rel => exact ⟨k + 1, by go_num, by omega, by omega, trivial, HK2⟩
                          case measure => simp only [intOf]; omega
                        | true =>
                          rw [hg] at HG
                          obtain ⟨gu, hgu⟩ : ∃ v, v = decide (s.data.toList.drop k = 47 :: way true) := ⟨_, rfl⟩
                          obtain ⟨gd, hgd⟩ : ∃ v, v = decide (s.data.toList.drop k = 47 :: way false) := ⟨_, rfl⟩
                          have eu : ((s.extract k s.size).toList == [47, 117, 110, 100, 111]) = gu := str_eq (by rw [extract_end]; exact hgu.symm)
                          have ed : ((s.extract k s.size).toList == [47, 100, 111]) = gd := str_eq (by rw [extract_end]; exact hgd.symm)
                          cases gd with
                          | true =>
                            cases gu with
                            | true =>
                              exfalso
                              have h1 := of_decide_eq_true hgu.symm
                              have h2 := of_decide_eq_true hgd.symm
                              rw [h1] at h2
                              simp [way] at h2
                            | false =>
                              have HH : Hid (KeyOf s.data.toList (n * 10 + d) (s.extract (i + 2) k).data.toList false) := Lib.hid (by
                                have h := hit_key (read_here HR.out HBy.out HD.out hd9 HZ.out) h18 hik (u := false) ⟨by rw [HB1.out, show s[i + 1]'hi1 = 47 from UInt8.toNat_inj.1 q1], by rw [← extract_is]; exact hg, of_decide_eq_true hgd.symm⟩
                                rw [← extract_is] at h
                                exact h)
                              clear q1 q2 hg hgu hgd
                              go_wp2_with (go_at_call 22; (with_reducible refine (HG.out _).mono ?_); rintro e w' ⟨rfl, rfl⟩)
                              go_region
                              go_wp2
                              (try simp only [Exit.inBlock, Exit.then]); refine bodyPost_ret (results_cell_row rfl _ _ w.heap.size 41 (cutV _ (s.extract (i + 2) k) false true) (0, 0) _ rfl (cut_box (HB.out.drewN 1) _ _ _ _) Tryd.underlying41 rfl (size_cut _ _ _ _)) rfl (read_yes HS.out HH.out (Below.drew (cut_below HM.out _ _ _ _)))
                          | false =>
                            cases gu with
                            | true =>
                              have HH : Hid (KeyOf s.data.toList (n * 10 + d) (s.extract (i + 2) k).data.toList true) := Lib.hid (by
                                have h := hit_key (read_here HR.out HBy.out HD.out hd9 HZ.out) h18 hik (u := true) ⟨by rw [HB1.out, show s[i + 1]'hi1 = 47 from UInt8.toNat_inj.1 q1], by rw [← extract_is]; exact hg, of_decide_eq_true hgu.symm⟩
                                rw [← extract_is] at h
                                exact h)
                              clear q1 q2 hg hgu hgd
                              go_wp2_with (go_at_call 22; (with_reducible refine (HG.out _).mono ?_); rintro e w' ⟨rfl, rfl⟩)
                              go_region
                              go_wp2
                              (try simp only [Exit.inBlock, Exit.then]); refine bodyPost_ret (results_cell_row rfl _ _ w.heap.size 41 (cutV _ (s.extract (i + 2) k) true true) (0, 0) _ rfl (cut_box (HB.out.drewN 1) _ _ _ _) Tryd.underlying41 rfl (size_cut _ _ _ _)) rfl (read_yes HS.out HH.out (Below.drew (cut_below HM.out _ _ _ _)))
                            | false =>
                              have HX : Hid (∀ u, ¬ Hit s.data.toList i k u) := Lib.hid fun u h => by
                                  cases u with
                                  | true => exact of_decide_eq_false hgu.symm h.2.2
                                  | false => exact of_decide_eq_false hgd.symm h.2.2
                              have HK2 : Hid (∀ k' u, i + 2 ≤ k' → k' < k + 1 → ¬ Hit s.data.toList i k' u) := Lib.hid fun k' u h1 h2 => by
                                by_cases e : k' = k
                                · subst e; exact HX.out u
                                · exact HK.out k' u h1 (by omega)
                              clear q1 q2 hg HB1 HBk hgu hgd
                              go_wp2_with (go_at_call 22; (with_reducible refine (HG.out _).mono ?_); rintro e w' ⟨rfl, rfl⟩)
                              go_roundw
                              case rel => exact ⟨k + 1, by go_num, by omega, by omega, trivial, HK2⟩
                              case measure => simp only [intOf]; omega
                      · have g2 : (((s[k]'hk).toNat : Int) != 47) = true := by simpa using fun e => q2 (by omega)
                        have HX : Hid (∀ u, ¬ Hit s.data.toList i k u) := Lib.hid fun u h => hit_47 HBk.out q2 (hit_at h)
                        have HK2 : Hid (∀ k' u, i + 2 ≤ k' → k' < k + 1 → ¬ Hit s.data.toList i k' u) := Lib.hid fun k' u h1 h2 => by
                          by_cases e : k' = k
                          · subst e; exact HX.out u
                          · exact HK.out k' u h1 (by omega)
                        clear q1 q2 HB1 HBk
                        go_wp2_with (fail)
                        go_roundw
                        case rel => exact ⟨k + 1, by go_num, by omega, by omega, trivial, HK2⟩
                        case measure => simp only [intOf]; omega
                    · have g1 : (((s[i + 1]'hi1).toNat : Int) != 47) = true := by simpa using fun e => q1 (by omega)
                      have HX : Hid (∀ u, ¬ Hit s.data.toList i k u) := Lib.hid fun u h => hit_47 HB1.out q1 h.1
                      have HK2 : Hid (∀ k' u, i + 2 ≤ k' → k' < k + 1 → ¬ Hit s.data.toList i k' u) := Lib.hid fun k' u h1 h2 => by
                        by_cases e : k' = k
                        · subst e; exact HX.out u
                        · exact HK.out k' u h1 (by omega)
                      clear q1 HB1 HBk
                      go_wp2_with (fail)
                      go_roundw
                      case rel => exact ⟨k + 1, by go_num, by omega, by omega, trivial, HK2⟩
                      case measure => simp only [intOf]; omega
                  · have HN : Hid (ReadRel s.data.toList (i + 1) (n * 10 + d)) := Lib.hid (read_step HR.out HBy.out HD.out hd9 HZ.out fun k' u h1 h2 => by
                      rcases Nat.lt_or_ge k' k with h3 | h3
                      · exact HK.out k' u h1 h3 h2
                      · have := at_lt (hit_at h2)
                        rw [len_is] at this
                        omega)
                    go_wp2
                    go_roundw
                    case rel => exact ⟨i + 1, n * 10 + d, by go_num, by rw [HS.out], by omega, by omega, trivial, HN⟩
                    case measure => simp only [intOf]; omega
          · have HN := Lib.hid (read_end HR.out (.inr (.inr ⟨_, HBy.out, .inr (by omega)⟩)))
            go_wp2
            (try simp only [Exit.inBlock, Exit.then]); refine bodyPost_ret (results_cell_row rfl _ _ w.heap.size 41 (cutV 0 ⟨#[]⟩ false false) (0, 0) _ rfl (cut_box HB.out _ _ _ _) Tryd.underlying41 rfl (size_cut _ _ _ _)) rfl (read_no HN.out (cut_below HM.out _ _ _ _))
        · have HN := Lib.hid (read_end HR.out (.inr (.inr ⟨_, HBy.out, .inl (by omega)⟩)))
          go_wp2
          (try simp only [Exit.inBlock, Exit.then]); refine bodyPost_ret (results_cell_row rfl _ _ w.heap.size 41 (cutV 0 ⟨#[]⟩ false false) (0, 0) _ rfl (cut_box HB.out _ _ _ _) Tryd.underlying41 rfl (size_cut _ _ _ _)) rfl (read_no HN.out (cut_below HM.out _ _ _ _))
      · have HN := Lib.hid (read_end HR.out (.inr (.inl (by omega))))
        go_wp2
        (try simp only [Exit.inBlock, Exit.then]); refine bodyPost_ret (results_cell_row rfl _ _ w.heap.size 41 (cutV 0 ⟨#[]⟩ false false) (0, 0) _ rfl (cut_box HB.out _ _ _ _) Tryd.underlying41 rfl (size_cut _ _ _ _)) rfl (read_no HN.out (cut_below HM.out _ _ _ _))
    · have HN := Lib.hid (read_end HR.out (.inl (by rw [len_is]; omega)))
      go_wp2
      (try simp only [Exit.inBlock, Exit.then]); refine bodyPost_ret (results_cell_row rfl _ _ w.heap.size 41 (cutV 0 ⟨#[]⟩ false false) (0, 0) _ rfl (cut_box HB.out _ _ _ _) Tryd.underlying41 rfl (size_cut _ _ _ _)) rfl (read_no HN.out (cut_below HM.out _ _ _ _))
abbrev Tab (w : World) : Prop := Lib.TabIs Tryd.prog w "internal/strconv.uint64pow10" .u64 Lib.pow10Tab
theorem tab_below {w w' : World} (h : Tab w) (hb : Below w.heap.size w w') : Tab w' := Lib.tabBelow_of_tabIs h _ hb
theorem itoa_nat {n : Int} (h : 0 ≤ n) : Lib.itoa n = decDigits n.toNat := by unfold Lib.itoa; rw [if_neg (by omega)]
theorem itoa_any (n : Int) (w : World) (hT : Tab w) (h0 : 0 ≤ n) (h1 : n ≤ 9223372036854775807) : Calls Tryd.prog 40 #[.int .i64 n] w fun e w' => e = .returned (.string ⟨(decDigits n.toNat).toArray⟩) ∧ Below w.heap.size w w' := by
  refine (Tryd.strconv_Itoa n (by omega) h1 w hT).mono ?_
  rintro e w' ⟨rfl, k, os, rfl⟩
  rw [itoa_nat h0]
  exact ⟨rfl, Lib.below_grow _ _ (Nat.le_refl _) _ _⟩
theorem dec_size (n : Nat) (h : n < 18446744073709551616) : (decDigits n).length ≤ 20 := by
  rw [Go.Lib.decDigits_length]
  exact Go.Lib.nDigits_le20 n h
def digB (m : Nat) : UInt8 := UInt8.ofNat (48 + m % 10)
theorem digB_nat (m : Nat) : (digB m).toNat = 48 + m % 10 := dig_nat (Nat.mod_lt _ (by decide))
theorem dig_text (w : World) (m : Nat) : (convert 68 9 (.slice (some ⟨w.heap.size, 0, none⟩) 1 1)).run Tryd.prog (w.alloc (.cells #[.int .u8 (48 + (m : Int) % 10)] 5)) = .ok (.string ⟨#[digB m]⟩) (w.alloc (.cells #[.int .u8 (48 + (m : Int) % 10)] 5)) := by
  have hb : Byt (w.alloc (.cells #[.int .u8 (48 + (m : Int) % 10)] 5)) (w.alloc (.cells #[.int .u8 (48 + (m : Int) % 10)] 5)).heap.size (some ⟨w.heap.size, 0, none⟩) [digB m] := fun _ => by
    refine ⟨w.heap.size, 0, rfl, by simp, fun k hk => ?_⟩
    obtain rfl : k = 0 := by simpa using hk
    rw [Nat.zero_add, (Box.new w 5 _).cell 0]
    show some (Value.int .u8 (48 + (m : Int) % 10)) = some (.int .u8 ((digB m).toNat : Int))
    rw [digB_nat]
    congr 2
  exact hb.text _ _ _ Tryd.underlying68 Tryd.underlying5 Tryd.underlying9 1
set_option maxRecDepth 100000 in
set_option maxHeartbeats 4000000 in
theorem decimal_any (m0 : Nat) (w : World) (h1 : m0 ≤ 9223372036854775807) :
    Calls Tryd.prog 29 #[.int .i64 (m0 : Int)] w fun e w' => e = .returned (.string ⟨(decDigits m0).toArray⟩) ∧ Below w.heap.size w w' := by
  go_enter Tryd.func29, Tryd.ntmps29
  go_wp2
  go_loopw [0, 3] (fun vn vs wr => ∃ (m : Nat) (l : List UInt8), vn = .int .i64 (m : Int) ∧ vs = .string ⟨l.toArray⟩ ∧ m ≤ m0 ∧ Below w.heap.size w wr ∧ Hid (decDigits m0 = decDigits m ++ l)) (fun vn _ _ => (intOf vn).toNat)
  case atStart => exact ⟨m0, [], rfl, rfl, Nat.le_refl _, Below.refl _ _, Lib.hid (by simp)⟩
  case round =>
    obtain ⟨m, l, rfl, rfl, hm, hbw, HD⟩ := hrel
    have hcv : (convert 68 9 (.slice (some ⟨wr.heap.size, 0, none⟩) 1 1)).run Tryd.prog (wr.alloc (.cells #[.int .u8 (48 + (m : Int) % 10)] 5)) = .ok (.string ⟨#[digB m]⟩) (wr.alloc (.cells #[.int .u8 (48 + (m : Int) % 10)] 5)) := dig_text wr m
    have hl := dec_size m0 (by omega)
    rw [HD.out, List.length_append] at hl
    have hln : ¬ 9223372036854775807 < (ByteArray.mk #[digB m]).size + (ByteArray.mk l.toArray).size := by
      show ¬ 9223372036854775807 < 1 + l.toArray.size
      rw [List.size_toArray]
      omega
    have HC : Hid ((ByteArray.mk #[digB m]) ++ (ByteArray.mk l.toArray) = ⟨(digB m :: l).toArray⟩) := Lib.hid (by
      ext1
      simp [ByteArray.data_append])
    by_cases h9 : m < 10
    · have HE : Hid (decDigits m0 = digB m :: l) := Lib.hid (by
        rw [HD.out, Go.Lib.decDigits_one h9]
        show UInt8.ofNat (48 + m) :: l = UInt8.ofNat (48 + m % 10) :: l
        rw [Nat.mod_eq_of_lt h9])
      have hz : ((m : Int) / 10 == 0) = true := by simp; omega
      go_wp2
      go_ret
      refine ⟨?_, hbw.alloc hbw.size _⟩
      show Ending.returned (.string _) = _
      rw [HC.out, HE.out]
    · have HE : Hid (decDigits m0 = decDigits (m / 10) ++ digB m :: l) := Lib.hid (by
        rw [HD.out, dec_big h9, List.append_assoc]
        rfl)
      have hz : ((m : Int) / 10 == 0) = false := by simp; omega
      go_wp2
      go_roundw
      case rel => exact ⟨m / 10, digB m :: l, by rw [show ((m : Int) / 10) = ((m / 10 : Nat) : Int) by omega], by rw [HC.out], by omega, hbw.alloc hbw.size _, HE⟩
      case measure => simp only [intOf]; omega
/-! ### Key -/
end Go.Proofs.YtllpjfbcjcnpcaaDoor.Wi
