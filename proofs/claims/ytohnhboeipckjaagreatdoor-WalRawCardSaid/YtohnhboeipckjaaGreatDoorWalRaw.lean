/-
  The statement WalRawCardSaid: for every input the law function WalRaw returns true (of any bytes in segments, the log opens with records that are whole, one segment behind the other, and opens likewise again; other files stay), and the arguments read afterwards as before.
  Conditions: none beyond the statement's own (the listed tables of the library hold what its text lays).
-/
import Derived.Test.YtohnhboeipckjaaGreatDoorWalBegins
import Derived.IntWalk
namespace Go.Proofs.YtohnhboeipckjaaGreatDoor.walRaw
open Go.ChangeShapes Go.WideShapes Go.ChangeAt Go.RowKit
attribute [local go_sem] Oper.semAt_some

/-! ### The files -/
def other : List UInt8 := [111, 116, 104, 101, 114]
theorem other_no : numL other = 0 := by decide
theorem other_name : nameB other = true := by decide
/-- the number of a segment -/
def num (first gap j : Nat) : Nat := 1 + first + j + (if gap < j then 1 else 0)
theorem num_lt {first gap j i : Nat} (h : j < i) : num first gap j < num first gap i := by unfold num; split <;> split <;> omega
structure RawFs (fs : List Fl) (first gap : Nat) (ls : List (List UInt8)) (i : Nat) : Prop where
  con : ∀ j (h : j < ls.length), j < i → conF (segL (num first gap j)) fs = some ls[j]
  no : ∀ m, okN m → (∀ j, j < i → num first gap j ≠ m) → lookBy Fl.name (segL m) fs = none
  oth : conF other fs = some [120]
  used : usedF fs ≤ 1 + 100 * i
  many : fs.length ≤ 1 + i
theorem RawFs.next {fs : List Fl} (hr : Rise Fl.name fs) {first gap i : Nat} {ls : List (List UInt8)} (h : RawFs fs first gap ls i) (hi : i < ls.length) (hok : ∀ j, j ≤ i → okN (num first gap j)) (hl : ls[i].length ≤ 100) :
    RawFs (appF (segL (num first gap i)) ls[i] fs) first gap ls (i + 1) := by
  have hnone := h.no (num first gap i) (hok i (Nat.le_refl _)) (fun j hj => by have := num_lt (first := first) (gap := gap) hj; omega)
  have hu := used_app hr (segL (num first gap i)) ls[i]
  have h1 := h.used
  have h2 := h.many
  refine ⟨fun j hj hji => ?_, fun m hm hno => ?_, ?_, by omega, by omega⟩
  · unfold conF
    rw [look_app hr]
    by_cases e : j = i
    · subst e
      rw [if_pos rfl, hnone]
      rfl
    · have := num_lt (first := first) (gap := gap) (show j < i by omega)
      rw [if_neg (fun e2 => by have := seg_inj (hok j (by omega)) (hok i (Nat.le_refl _)) e2; omega)]
      exact h.con j hj (by omega)
  · rw [look_app hr, if_neg (fun e => hno i (by omega) (seg_inj (hok i (Nat.le_refl _)) hm e.symm))]
    exact h.no m hm (fun j hj => hno j (by omega))
  · unfold conF
    rw [look_app hr, if_neg (not_seg other_no (hok i (Nat.le_refl _)))]
    exact h.oth
/-- the texts that are wanted, and whether more may come -/
structure WantIs (ws : List (List UInt8)) (o : Bool) (gap : Nat) (ls : List (List UInt8)) (i : Nat) : Prop where
  is : ws = (runC (ls.take (min i (gap + 1)))).flatten
  op : o = true ↔ i ≤ gap + 1 ∧ AllWhole (ls.take i)
theorem want_gap {ws : List (List UInt8)} {o : Bool} {gap i : Nat} {ls : List (List UInt8)} (h : WantIs ws o gap ls i) (hg : gap < i) : WantIs ws false gap ls (i + 1) :=
  ⟨by rw [h.is, show min (i + 1) (gap + 1) = min i (gap + 1) by omega], by simp; intro _; omega⟩
theorem want_yes {ws : List (List UInt8)} {gap i : Nat} {ls : List (List UInt8)} (h : WantIs ws true gap ls i) (hg : ¬ gap < i) (hi : i < ls.length) : WantIs (ws ++ allP ls[i]) (decide (allN ls[i] = ls[i].length)) gap ls (i + 1) := by
  have hw := (h.op.1 rfl).2
  have ht := List.take_succ_eq_append_getElem hi
  refine ⟨?_, ?_⟩
  · rw [h.is, show min (i + 1) (gap + 1) = i + 1 by omega, show min i (gap + 1) = i by omega, ht, runC_app hw, List.flatten_append]
    simp
  · rw [ht, whole_app, decide_eq_true_eq]
    constructor
    · intro h1; exact ⟨by omega, hw, h1⟩
    · intro h1; exact h1.2.2
theorem want_no {ws : List (List UInt8)} {gap i : Nat} {ls : List (List UInt8)} (h : WantIs ws false gap ls i) (hg : ¬ gap < i) (hi : i < ls.length) : WantIs ws false gap ls (i + 1) := by
  have hw : ¬ AllWhole (ls.take i) := fun hw => by have := h.op.2 ⟨by omega, hw⟩; cases this
  have ht := List.take_succ_eq_append_getElem hi
  refine ⟨?_, ?_⟩
  · rw [h.is, show min (i + 1) (gap + 1) = i + 1 by omega, show min i (gap + 1) = i by omega, ht, runC_not hw]
  · rw [ht, whole_app]
    simp
    intro _ h1
    exact absurd h1 hw
theorem raw_ready {fs : List Fl} {first gap : Nat} {ls : List (List UInt8)} (h : RawFs fs first gap ls ls.length) (hf : first < 65536) (hn : ls.length ≤ 4) :
    ∃ f0 ds, Least fs f0 ∧ Run fs f0 ds ∧ runC ds = runC (ls.take (min ls.length (gap + 1))) := by
  by_cases h0 : ls.length = 0
  · have hnil : ls = [] := List.eq_nil_of_length_eq_zero h0
    have hno : ∀ m, okN m → lookBy Fl.name (segL m) fs = none := fun m hm => h.no m hm (fun j hj => by omega)
    exact ⟨1, [], .inr ⟨rfl, hno⟩, ⟨fun k hk => by simp at hk, fun k hk => by simp at hk, fun hm => hno _ hm⟩, by rw [hnil]; rfl⟩
  · have hlen : (ls.take (min ls.length (gap + 1))).length = min ls.length (gap + 1) := by rw [List.length_take]; omega
    have hat : ∀ k, k < min ls.length (gap + 1) → num first gap k = 1 + first + k := fun k hk => by unfold num; rw [if_neg (by omega)]; rfl
    refine ⟨1 + first, ls.take (min ls.length (gap + 1)), .inl ⟨⟨by omega, by omega⟩, ?_, fun m hm hs => ?_⟩, ⟨fun k hk => ⟨by omega, by rw [hlen] at hk; omega⟩, fun k hk => ?_, fun hm => ?_⟩, rfl⟩
    · have := h.con 0 (by omega) (by omega)
      rw [hat 0 (by omega)] at this
      obtain ⟨q, hq, _⟩ := con_some this
      rw [Nat.add_zero] at hq
      rw [hq]
      rfl
    · refine Classical.byContradiction fun hlt => ?_
      rw [h.no m hm (fun j _ => by unfold num; omega)] at hs
      cases hs
    · rw [hlen] at hk
      rw [List.getElem_take, ← hat k hk]
      exact h.con k (by omega) (by omega)
    · rw [hlen]
      rw [hlen] at hm
      refine h.no _ hm fun j hj => ?_
      unfold num
      split <;> omega
theorem open_ready {fs : List Fl} {n0 : Nat} {cs : List (List (List UInt8))} (h : SegAre fs n0 (cs.map catL)) : ∃ f0, Least fs f0 ∧ Run fs f0 (cs.map catL) := by
  by_cases hc : cs = []
  · subst hc
    have hno : ∀ n, okN n → lookBy Fl.name (segL n) fs = none := fun n hn => h.no n hn (by simp)
    exact ⟨1, .inr ⟨rfl, hno⟩, ⟨fun k hk => by simp at hk, fun k hk => by simp at hk, fun hn => hno _ hn⟩⟩
  · have hp := List.length_pos_iff.2 hc
    obtain ⟨q, hq, _⟩ := con_some (h.con 0 (by simpa using hp))
    have hok := h.ok 0 (by simpa using hp)
    refine ⟨n0, .inl ⟨hok, by rw [Nat.add_zero] at hq; rw [hq]; rfl, fun n hn hs => ?_⟩, h.run⟩
    refine Classical.byContradiction fun hlt => ?_
    rw [h.no n hn (by omega)] at hs
    cases hs

/-! ### Where the loops stand -/
structure RawAt (w : World) (g : Nat) (fs : List Fl) (ws : List ByteArray) (v : Value) (X : Nat → Prop) (wr : World) : Prop where
  sto : Sto wr g X ⟨fs, 16000, 0, false⟩
  more : ∀ i, i < w.heap.size → X i
  row : wr.ownsRow w.heap.size 9 1 v ws.length (strV ws)
  rowX : ∀ j, v.ownBlock = some j → X j
  bel : Below w.heap.size w wr
theorem RawAt.below {w wr w' : World} {g : Nat} {fs : List Fl} {ws : List ByteArray} {v : Value} {X : Nat → Prop} (h : RawAt w g fs ws v X wr) (hb : Below wr.heap.size wr w') : RawAt w g fs ws v X w' :=
  ⟨h.sto.below hb, h.more, own_below h.row hb, h.rowX, h.bel.trans (hb.mono h.bel.size)⟩
theorem raw_append {w W6 W7 w8 : World} {g : Nat} {fs : List Fl} {ws ps : List ByteArray} {v v8 : Value} {X : Nat → Prop} {m k : Nat} (h : RawAt w g fs ws v X W6) (hb : Below W6.heap.size W6 W7) (hm : ws.length = m) (hk : ps.length = k)
    (hO : w8.ownsRow w.heap.size 9 1 v8 (m + k) (strV ws ++ strV ps)) (hG : W7.grownBy w8 v.ownBlock) (hAt : v8.ownBlock = v.ownBlock ∨ v8.ownBlock = some W7.heap.size) : ∃ X8, RawAt w g fs (ws ++ ps) v8 X8 w8 := by
  have h7 := h.below hb
  refine ⟨fun j => (X j ∨ W6.heap.size ≤ j ∧ j < W7.heap.size) ∨ W7.heap.size ≤ j ∧ j < w8.heap.size, (h.sto.wide hb).wideG hG (fun j hj => .inl (h.rowX j hj)), fun j hj => .inl (.inl (h.more j hj)), ?_, fun j hj => ?_, ?_⟩
  · rw [List.length_append, hm, hk]
    unfold strV at hO ⊢
    rw [List.map_append]
    exact hO
  · rcases hAt with e | e
    · exact .inl (.inl (h.rowX j (by rw [← e]; exact hj)))
    · rw [e] at hj
      injection hj with hj
      have := (hO.lt j (by rw [e, hj])).2
      exact .inr ⟨by omega, this⟩
  · exact h7.bel.grown hG h7.bel.size (own_ge h7.row)

/-- what the document's All answers, by the bytes -/
theorem refAll_is (l : List UInt8) (w : World) (hl : l.length ≤ 1000) :
    Calls Tryz.prog 19 #[.string ⟨l.toArray⟩] w fun e w' => ∃ (A : Option Addr) (c : Nat) (ps : List ByteArray) (r : Nat), e = .returned (.tuple #[.slice A ps.length c, .int .i64 (allN l : Int), .int .i64 (r : Int)]) ∧ strL ps = allP l ∧
      w'.ownsRow w.heap.size 9 1 (.slice A ps.length c) ps.length (strV ps) ∧ Below w.heap.size w w' := by
  refine (refAll_any ⟨l.toArray⟩ w (by show l.toArray.size ≤ _; rw [List.size_toArray]; exact hl)).mono ?_
  rintro e w' ⟨ps, v, n, rfl, hW, ho, hb⟩
  obtain ⟨e1, e2⟩ := all_eq hW
  rw [show (⟨l.toArray⟩ : ByteArray).data.toList = l from rfl] at e1 e2
  obtain ⟨A, c, rfl, _⟩ := own_form ho
  exact ⟨A, c, ps, _, by rw [e2], e1.symm, ho, hb⟩

set_option maxHeartbeats 8000000 in
set_option maxRecDepth 1000000 in
theorem walk (a b : Nat) (A : Option Addr) (xs : List El) (cp : Nat) (w : World) (ha : a < 65536) (hbb : b < 256) (hx : ∀ i (hi : i < xs.length), RowAt w w.heap.size A i xs[i]) (hl : xs.length ≤ 9223372036854775807) (hT : Lib.TabIs Tryz.prog w "internal/strconv.uint64pow10" .u64 Lib.pow10Tab) :
    Calls Tryz.prog 4 #[.int .u16 (a : Int), .slice A xs.length cp, .int .u8 (b : Int)] w fun e w' => e = .returned (.bool true) ∧ Below w.heap.size w w' := by
  obtain ⟨s0, hs0, hsz0, hsz1, hsz2⟩ := info_parts infoStr
  have hcv := fun (W : World) (C : Array Value) (n c : Nat) => Lib.run_convert_bytes_const (P := Tryz.prog) W 31 5 C n c Tryz.underlying31 Tryz.underlying5
  have HA := Lib.hid (walAwake_any w hT)
  have HT := Lib.hid (Tab.of hT)
  clear hT
  by_cases hs : 4 < xs.length
  · go_enter Tryz.func4, Tryz.ntmps4
    go_wp2_with (go_at_call 8; (with_reducible refine HA.out.mono ?_); rintro e W1 ⟨rfl, b1⟩)
    go_ret
    exact ⟨rfl, b1⟩
  have HX := Lib.hid hx
  clear hx
  obtain ⟨ls, hls⟩ : ∃ ls, ls = xs.map El.l := ⟨_, rfl⟩
  have HLS := Lib.hid hls
  have HLN : Hid (ls.length = xs.length) := Lib.hid (by rw [hls, List.length_map])
  clear hls
  go_enter Tryz.func4, Tryz.ntmps4
  go_wp2_with fail
  (with_reducible refine HA.out.mono ?_)
  rintro e W1 ⟨rfl, b1⟩
  have HB1 := Lib.hid b1
  have HN := Lib.hid (new_any 16000 W1 (by omega) (by omega))
  clear HA b1
  go_wp2_with fail
  refine HN.out.mono ?_
  rintro e W2 ⟨rfl, hS2, b2⟩
  obtain ⟨g, hg⟩ : ∃ g, g = W1.heap.size + 1 := ⟨_, rfl⟩
  rw [← hg] at hS2 ⊢
  have HS2 := Lib.hid hS2
  have HB2 := Lib.hid (HB1.out.trans (b2.mono HB1.out.size))
  have HX0 : Hid (∀ i, i < w.heap.size → i < W1.heap.size) := Lib.hid fun i hi => Nat.lt_of_lt_of_le hi HB1.out.size
  have hb12 := b2.size
  clear HN hS2 hg
  go_wp2_with fail
  have b3 := (Below.refl W2.heap.size W2).alloc (Nat.le_refl _) (.cells #[.int .u8 120] 5 (1, 2))
  refine (append_any g _ _ ⟨#[111, 116, 104, 101, 114]⟩ _ [120] 1 _ (HS2.out.below b3) (by decide) ((Byt.lit W2 5 (1, 2) [120]).more (by simp))).mono ?_
  intro e W3 hD
  have hap := app_up (st := ⟨[], 16000, 0, false⟩) ⟨rfl, rfl⟩ (x := other) (b := [120]) other_name (fun _ => by show ([] : List Fl).length < 256; simp) (by show _ ≤ 16000 - usedF []; simp [usedF])
  obtain ⟨rfl, hS3, hK3⟩ := done_up hD hap rfl
  have hfs3 : RawFs (appF other [120] []) a b ls 0 := by
    refine ⟨fun j _ hj => by omega, fun m hm _ => ?_, rfl, by decide, by decide⟩
    rw [look_app List.Pairwise.nil, if_neg (fun e => not_seg other_no hm e.symm)]
    rfl
  have HST : Hid (∃ fs ws X, RawAt w g fs ws (.slice none 0 0) X W3 ∧ RawFs fs a b ls 0 ∧ WantIs (strL ws) true b ls 0 ∧ ws.length = 0) := Lib.hid ⟨_, [], fun i => i < W1.heap.size, ⟨hS3, HX0.out, World.ownsRow_nil _ _ _ _, fun j hj => by simp [Value.ownBlock] at hj,
    HB2.out.trans (((Keep.of_below b3).trans hK3).below HB2.out.size (fun i hi => HX0.out i hi))⟩, hfs3, ⟨by simp [runC], by simp [AllWhole]⟩, rfl⟩
  clear hD hS3 hK3 hap hfs3 b3 HS2 HB2 HX0 HB1 b2 hb12
  go_wp2_with fail
  go_loopw [8, 9, 10] (fun v q p wr => ∃ (i m : Nat) (o : Bool), p = .int .i64 i ∧ q = .bool o ∧ i ≤ xs.length ∧ m ≤ 8 * i ∧ Hid (∃ fs ws X, RawAt w g fs ws v X wr ∧ RawFs fs a b ls i ∧ WantIs (strL ws) o b ls i ∧ ws.length = m)) (fun _ _ p _ => xs.length - (intOf p).toNat)
  case atStart => exact ⟨0, 0, true, rfl, rfl, by omega, by omega, HST⟩
  case round =>
    obtain ⟨i, m, o, rfl, rfl, hi, hm8, HG⟩ := hrel
    obtain ⟨fs, ws, X, hRA, hRF, hWI, hwm⟩ := HG.out
    have HRA := Lib.hid hRA
    have HRF := Lib.hid hRF
    have HWI := Lib.hid hWI
    have HWM := Lib.hid hwm
    clear hRA hRF hWI hwm HG HST
    by_cases hlt : i < xs.length
    · obtain ⟨⟨hxl, hxb⟩, b0, o0, rfl, hb0, hc0⟩ := (HX.out i hlt).below HRA.out.bel
      have HR := HX.out i hlt
      have hil : i < ls.length := by rw [HLN.out]; exact hlt
      have hli : ls[i] = (xs[i]).l := by simp [HLS.out]
      have HLI := Lib.hid hli
      generalize xs[i] = x at *
      rw [show x.val = .slice x.A x.l.length x.c from rfl] at hc0
      have HR := Lib.hid HR
      obtain ⟨n, hn⟩ : ∃ n, n = x.l.length := ⟨_, rfl⟩
      rw [← hn] at hc0 hxl
      have HNL := Lib.hid hn
      clear hn
      by_cases h100 : 100 < n
      · have hbel := HRA.out.bel
        clear hxb hli
        go_wp2
        go_ret
        exact ⟨rfl, hbel⟩
      · have hbs := HRA.out.bel.size
        have hri : Rise Fl.name fs := HRA.out.sto.ok.rise
        have hused := HRF.out.used
        have hmany := HRF.out.many
        have hoks : ∀ j, j ≤ i → okN (num a b j) := fun j hj => by unfold num okN; split <;> omega
        have hRF2 := HRF.out.next hri hil hoks (by rw [hli, ← HNL.out]; omega)
        rw [hli] at hRF2
        obtain ⟨q, hq⟩ : ∃ q, q = num a b i := ⟨_, rfl⟩
        have hokq : okN q := by rw [hq]; exact hoks i (Nat.le_refl _)
        rw [← hq] at hRF2
        have hap := app_up (st := ⟨fs, 16000, 0, false⟩) ⟨rfl, rfl⟩ (x := segL q) (b := x.l) (seg_name hokq) (fun _ => by show fs.length < 256; omega) (by show _ ≤ 16000 - usedF fs; rw [← HNL.out]; omega)
        have hXk : ∀ u, Below w.heap.size w u → Tab u X := fun u hu => HT.out.on (Keep.of_below hu) HRA.out.more
        have bd := (Below.refl wr.heap.size wr).drew
        have hRd := HRA.out.below bd
        have hcl : ∀ u, Below w.heap.size w u → u.cell? ⟨b0, o0 + i, none⟩ = some (.slice x.A n x.c) := fun u hu => by
          obtain ⟨_, b', o', e0, hb', hc⟩ := HR.out.below hu
          injection e0 with e0
          injection e0 with e1 e2
          subst e1 e2
          rw [hc, HNL.out]
          rfl
        have T3 : ∀ u, Below w.heap.size w u → (convert 31 9 (.slice x.A n x.c)).run Tryz.prog u = .ok (.string ⟨x.l.toArray⟩) u := fun u hu => by
          obtain ⟨⟨_, hb⟩, _⟩ := HR.out.below hu
          have h := Byt.text (P := Tryz.prog) hb 31 5 9 Tryz.underlying31 Tryz.underlying5 Tryz.underlying9 x.c
          rw [← HNL.out] at h
          exact h
        have HNM : ∀ z : Int, z = (q : Int) → Hid (Calls Tryz.prog 18 #[.int .i64 z] wr.drew fun e w' => e = .returned (.string ⟨(segL q).toArray⟩) ∧ RawAt w g fs ws u8 X w') := fun z hz => Lib.hid (by
          subst hz
          exact (name_ok X wr.drew (hXk _ hRd.bel) hokq).mono fun e w' ⟨he, hb⟩ => ⟨he, hRd.below hb⟩)
        have HAP : ∀ u, RawAt w g fs ws u8 X u → Hid (Calls Tryz.prog 17 #[.pointer (some ⟨g, 0, none⟩), .string ⟨(segL q).toArray⟩, .slice x.A n x.c] u fun e w' => e = .returned (.int .i64 0) ∧ RawAt w g (appF (segL q) x.l fs) ws u8 X w') := fun u hu => Lib.hid (by
          obtain ⟨⟨_, hb⟩, _⟩ := HR.out.below hu.bel
          have h := append_any g X _ ⟨(segL q).toArray⟩ x.A x.l x.c u hu.sto (seg_size hokq) (hb.more hu.bel.size)
          rw [← HNL.out] at h
          refine h.mono fun e w' hD => ?_
          obtain ⟨rfl, h1, h2⟩ := done_up hD hap rfl
          exact ⟨rfl, h1, hu.more, own_keep hu.row hu.rowX h2, hu.rowX, hu.bel.trans (h2.below hu.bel.size hu.more)⟩)
        have hcount := all_count x.l
        have hNle := allN_le x.l
        rw [← HNL.out] at hcount hNle
        have HCL := Lib.hid hcl
        have HT3 := Lib.hid T3
        have HRF2 := Lib.hid hRF2
        have hbd := hRd.bel
        clear hxb hli hri hused hmany hoks hRF2 hap hXk hRd bd hcl T3
        by_cases hg : b < i
        · have hq1 : q ≤ 1 + a + i + 1 := by rw [hq]; unfold num; rw [if_pos hg]; omega
          have hq2 : 1 + a + i + 1 ≤ q := by rw [hq]; unfold num; rw [if_pos hg]; omega
          have HG := Lib.hid hg
          clear hq hNle hcount
          have hcl := HCL.out
          go_wp2_with fail
          go_region_held3 (fun u => Below w.heap.size w u) (first | exact hbd | assumption | exact (RawAt.bel (by assumption)))
            (first
              | (go_at_call 18; (with_reducible refine (HNM _ (by omega)).out.mono ?_); rintro e w5 ⟨rfl, hR5⟩; have hb5 := hR5.bel)
              | (go_at_call 17; (with_reducible refine (HAP _ hR5).out.mono ?_); rintro e w6 ⟨rfl, hR6⟩; have hb6 := hR6.bel))
          have c6 := HCL.out w6 hb6
          have t6 := HT3.out w6 hb6
          have HR6 := Lib.hid hR6
          clear hcl hR5 hb5 hR6 HNM HAP
          go_wp2_with fail
          refine (refAll_is x.l w6 (by rw [← HNL.out]; omega)).mono ?_
          rintro e W7 ⟨A7, c7, ps, r7, rfl, hps, ho7, b7⟩
          have HPS := Lib.hid hps
          have HB7 := Lib.hid b7
          obtain ⟨k, hk⟩ : ∃ k, k = ps.length := ⟨_, rfl⟩
          rw [← hk] at ho7 ⊢
          have HK := Lib.hid hk
          have HO7 := Lib.hid ho7
          clear hps b7 hk ho7 c6 t6
          go_wp2
          go_roundw
          case rel => exact ⟨i + 1, m, false, by go_num, rfl, by omega, by omega, Lib.hid ⟨_, ws, X, HR6.out.below HB7.out, HRF2.out, want_gap HWI.out HG.out, HWM.out⟩⟩
          case measure => simp [intOf]; omega
        · have hq1 : q ≤ 1 + a + i := by rw [hq]; unfold num; rw [if_neg hg]; omega
          have hq2 : 1 + a + i ≤ q := by rw [hq]; unfold num; rw [if_neg hg]; omega
          have HG := Lib.hid hg
          clear hq
          cases o with
          | false =>
            clear hNle hcount
            have hcl := HCL.out
            go_wp2_with fail
            go_region_held3 (fun u => Below w.heap.size w u) (first | exact hbd | assumption | exact (RawAt.bel (by assumption)))
              (first
                | (go_at_call 18; (with_reducible refine (HNM _ (by omega)).out.mono ?_); rintro e w5 ⟨rfl, hR5⟩; have hb5 := hR5.bel)
                | (go_at_call 17; (with_reducible refine (HAP _ hR5).out.mono ?_); rintro e w6 ⟨rfl, hR6⟩; have hb6 := hR6.bel))
            have c6 := HCL.out w6 hb6
            have t6 := HT3.out w6 hb6
            have HR6 := Lib.hid hR6
            clear hcl hR5 hb5 hR6 HNM HAP
            go_wp2_with fail
            refine (refAll_is x.l w6 (by rw [← HNL.out]; omega)).mono ?_
            rintro e W7 ⟨A7, c7, ps, r7, rfl, hps, ho7, b7⟩
            have HPS := Lib.hid hps
            have HB7 := Lib.hid b7
            obtain ⟨k, hk⟩ : ∃ k, k = ps.length := ⟨_, rfl⟩
            rw [← hk] at ho7 ⊢
            have HK := Lib.hid hk
            have HO7 := Lib.hid ho7
            clear hps b7 hk ho7 c6 t6
            go_wp2
            go_roundw
            case rel => exact ⟨i + 1, m, false, by go_num, rfl, by omega, by omega, Lib.hid ⟨_, ws, X, HR6.out.below HB7.out, HRF2.out, want_no HWI.out HG.out hil, HWM.out⟩⟩
            case measure => simp [intOf]; omega
          | true =>
            have hcl := HCL.out
            go_wp2_with fail
            go_region_held3 (fun u => Below w.heap.size w u) (first | exact hbd | assumption | exact (RawAt.bel (by assumption)))
              (first
                | (go_at_call 18; (with_reducible refine (HNM _ (by omega)).out.mono ?_); rintro e w5 ⟨rfl, hR5⟩; have hb5 := hR5.bel)
                | (go_at_call 17; (with_reducible refine (HAP _ hR5).out.mono ?_); rintro e w6 ⟨rfl, hR6⟩; have hb6 := hR6.bel))
            have c6 := HCL.out w6 hb6
            have t6 := HT3.out w6 hb6
            have HR6 := Lib.hid hR6
            clear hcl hR5 hb5 hR6 HNM HAP
            go_wp2_with fail
            refine (refAll_is x.l w6 (by rw [← HNL.out]; omega)).mono ?_
            rintro e W7 ⟨A7, c7, ps, r7, rfl, hps, ho7, b7⟩
            have HPS := Lib.hid hps
            have HB7 := Lib.hid b7
            obtain ⟨k, hk⟩ : ∃ k, k = ps.length := ⟨_, rfl⟩
            rw [← hk] at ho7 ⊢
            have HK := Lib.hid hk
            have HO7 := Lib.hid ho7
            clear hps b7 hk ho7 c6 t6
            have hrw := (HR6.out.below HB7.out).row
            rw [HWM.out] at hrw
            have HRW := Lib.hid hrw
            have hs7 := (HR6.out.below HB7.out).bel.size
            have hkb : k * 13 ≤ n := by
              have : k = (allP x.l).length := by rw [← HPS.out, HK.out]; unfold strL; rw [List.length_map]
              rw [this]
              exact hcount
            have HWY := Lib.hid (want_yes HWI.out HG.out hil)
            obtain ⟨z, hz⟩ : ∃ z, z = allN x.l := ⟨_, rfl⟩
            have HZ := Lib.hid hz
            rw [← hz] at hNle ⊢
            clear hrw hz hcount
            by_cases hwh : z = n
            · have hzn : ((z : Int) == (n : Int)) = true := by simp; omega
              have HD : Hid (decide (allN ls[i] = ls[i].length) = true) := Lib.hid (decide_eq_true (by rw [HLI.out, ← HZ.out, ← HNL.out]; exact hwh))
              clear hwh
              go_wp2_with (at_builtin; refine wpList_append_rows _ rfl (.tmp 78) (.tmp 79) 40 rfl w.heap.size 9 s0 _ 16 Tryz.underlying40 hs0 hsz0 hsz1 hsz2 rfl _ m (strV ws) rfl HRW.out w6.heap.size A7 k c7 (strV ps) rfl HO7.out (fun u hu => by obtain ⟨y, _, rfl⟩ := List.mem_map.1 hu; rfl) (by unfold maxLen; omega) (by omega) hs7 ?_; intro v8 w8 hown8 hg8 hat8; obtain ⟨X8, hR8⟩ := raw_append HR6.out HB7.out HWM.out HK.out.symm hown8 hg8 hat8; have HR8 := Lib.hid hR8; have c8 := HCL.out w8 hR8.bel; clear hown8 hg8 hat8 hR8)
              go_roundw
              case rel =>
                refine ⟨i + 1, m + k, true, by go_num, rfl, by omega, by omega, Lib.hid ⟨_, ws ++ ps, X8, HR8.out, HRF2.out, ?_, by rw [List.length_append, HWM.out, HK.out]⟩⟩
                have h := HWY.out
                rw [HD.out, HLI.out, ← HPS.out] at h
                unfold strL at h ⊢
                rw [List.map_append]
                exact h
              case measure => simp [intOf]; omega
            · have hzn : ((z : Int) == (n : Int)) = false := by simp; omega
              have HD : Hid (decide (allN ls[i] = ls[i].length) = false) := Lib.hid (decide_eq_false (by rw [HLI.out, ← HZ.out, ← HNL.out]; exact hwh))
              clear hwh
              go_wp2_with (at_builtin; refine wpList_append_rows _ rfl (.tmp 78) (.tmp 79) 40 rfl w.heap.size 9 s0 _ 16 Tryz.underlying40 hs0 hsz0 hsz1 hsz2 rfl _ m (strV ws) rfl HRW.out w6.heap.size A7 k c7 (strV ps) rfl HO7.out (fun u hu => by obtain ⟨y, _, rfl⟩ := List.mem_map.1 hu; rfl) (by unfold maxLen; omega) (by omega) hs7 ?_; intro v8 w8 hown8 hg8 hat8; obtain ⟨X8, hR8⟩ := raw_append HR6.out HB7.out HWM.out HK.out.symm hown8 hg8 hat8; have HR8 := Lib.hid hR8; have c8 := HCL.out w8 hR8.bel; clear hown8 hg8 hat8 hR8)
              go_roundw
              case rel =>
                refine ⟨i + 1, m + k, false, by go_num, rfl, by omega, by omega, Lib.hid ⟨_, ws ++ ps, X8, HR8.out, HRF2.out, ?_, by rw [List.length_append, HWM.out, HK.out]⟩⟩
                have h := HWY.out
                rw [HD.out, HLI.out, ← HPS.out] at h
                unfold strL at h ⊢
                rw [List.map_append]
                exact h
              case measure => simp [intOf]; omega
    · obtain rfl : i = xs.length := by omega
      have hRFn : RawFs fs a b ls ls.length := by rw [HLN.out]; exact HRF.out
      obtain ⟨f0, ds, hLe, hRu, hrc⟩ := raw_ready hRFn ha (by rw [HLN.out]; omega)
      have hws := HWI.out.is
      rw [← HLN.out, ← hrc] at hws
      obtain ⟨AW, cW, hu8, _⟩ := own_form HRA.out.row
      have hRA := HRA.out
      rw [hu8, HWM.out] at hRA
      rw [HWM.out] at hu8
      subst hu8
      have HST2 : Hid (∃ fs X, RawAt w g fs ws (.slice AW m cW) X wr ∧ (∃ f0 ds, Least fs f0 ∧ Run fs f0 ds ∧ (runC ds).flatten = strL ws) ∧ conF other fs = some [120]) := Lib.hid ⟨fs, X, hRA, ⟨f0, ds, hLe, hRu, hws.symm⟩, HRF.out.oth⟩
      have hm32 : m ≤ 32 := by omega
      have hHLw : Hid ((strL ws).length = m) := Lib.hid (by unfold strL; rw [List.length_map]; exact HWM.out)
      clear hRFn hLe hRu hrc hws hRA HRA HRF HWI
      go_wp2_with fail
      go_loopw [15] (fun p wr => ∃ t : Nat, p = .int .i64 t ∧ t ≤ 2 ∧ Hid (∃ fs X, RawAt w g fs ws (.slice AW m cW) X wr ∧ (∃ f0 ds, Least fs f0 ∧ Run fs f0 ds ∧ (runC ds).flatten = strL ws) ∧ conF other fs = some [120])) (fun p _ => 2 - (intOf p).toNat)
      case atStart => exact ⟨0, rfl, by omega, HST2⟩
      case round =>
        obtain ⟨t, rfl, ht, HS2⟩ := hrel
        obtain ⟨fs9, X9, hRA9, ⟨f0, ds, hLe, hRu, hws⟩, hoth⟩ := HS2.out
        clear HST2
        by_cases ht2 : t < 2
        · have HO := Lib.hid (open_any g X9 ⟨fs9, 16000, 0, false⟩ 100 f0 ds wr hRA9.sto (HT.out.on (Keep.of_below hRA9.bel) hRA9.more) ⟨rfl, rfl⟩ hLe hRu (by omega) (by omega))
          have HR9 := Lib.hid hRA9
          have HWS := Lib.hid hws
          have HOT := Lib.hid hoth
          clear hRA9 hLe hRu hws hoth HS2
          go_wp2_with fail
          refine HO.out.mono ?_
          rintro e W8 ⟨gl8, v8, ps, X8, fs8, rfl, _, hL8, hR8, hE8, hA8, hF8, hXX8, hK8⟩
          rw [HWS.out] at hE8
          have hpl : ps.length = m := by
            have := congrArg List.length hE8
            rw [List.length_map, hHLw.out] at this
            exact this
          obtain ⟨AP, cP, rfl, _⟩ := own_form hR8.own
          have hrow8 := own_keep HR9.out.row HR9.out.rowX hK8
          have hsl := hR8.sls rfl
          rw [hE8] at hsl
          rw [hpl] at *
          have hst : StrAt W8 AW (strL ws) := by
            have h := hrow8
            rw [HWM.out] at h
            exact strAt_of h HWM.out.symm
          have HBG := Lib.hid (begins_any AP AW (strL ws) m cP cW W8 hsl hst hHLw.out.symm (by rw [hHLw.out]; omega))
          obtain ⟨f1, hLe1, hRu1⟩ := open_ready hA8
          have hRA8 : RawAt w g fs8 ws (.slice AW m cW) X8 W8 := ⟨hL8.sto, fun i hi => hXX8 i (HR9.out.more i hi), hrow8, fun j hj => hXX8 j (HR9.out.rowX j hj), HR9.out.bel.trans (hK8.below HR9.out.bel.size HR9.out.more)⟩
          have hot8 : conF other fs8 = some [120] := by
            rw [← HOT.out]
            unfold conF
            rw [hF8.same other other_no]
          have HNX : Hid (∀ W9, Below W8.heap.size W8 W9 → ∃ fs X, RawAt w g fs ws (.slice AW m cW) X W9 ∧ (∃ f0 ds, Least fs f0 ∧ Run fs f0 ds ∧ (runC ds).flatten = strL ws) ∧ conF other fs = some [120]) := Lib.hid fun W9 hb =>
            ⟨fs8, X8, hRA8.below hb, ⟨f1, _, hLe1, hRu1, by rw [runC_cat (runC_small ds)]; exact HWS.out⟩, hot8⟩
          clear HO hL8 hR8 hE8 hA8 hF8 hXX8 hK8 hpl hrow8 hsl hst hLe1 hRu1 hRA8 hot8 HR9 HWS HOT
          go_wp2_with (go_at_call 20; (with_reducible refine HBG.out.mono ?_); rintro e W9 ⟨rfl, b9⟩)
          go_roundw
          case rel => exact ⟨t + 1, by go_num, by omega, Lib.hid (HNX.out W9 b9)⟩
          case measure => simp [intOf]; omega
        · obtain rfl : t = 2 := by omega
          have hrb : readB ⟨fs9, 16000, 0, false⟩ other = [120] ∧ readE ⟨fs9, 16000, 0, false⟩ other = 0 := by
            rw [readB_up ⟨rfl, rfl⟩, read_up ⟨rfl, rfl⟩, isSome_con]
            show (conF other fs9).getD [] = [120] ∧ (if (conF other fs9).isSome = true then 0 else 7) = 0
            rw [hoth]
            exact ⟨rfl, rfl⟩
          have HRD := Lib.hid (read_any g X9 ⟨fs9, 16000, 0, false⟩ ⟨#[111, 116, 104, 101, 114]⟩ wr hRA9.sto (by decide))
          rw [show (⟨#[111, 116, 104, 101, 114]⟩ : ByteArray).data.toList = other from rfl, hrb.1, hrb.2] at HRD
          have HB := Lib.hid hRA9.bel
          clear hRA9 hLe hRu hws hoth HS2 hrb
          go_wp2_with fail
          refine HRD.out.mono ?_
          intro e W8 hD
          obtain ⟨A8, c8, rfl, hby, _, b8⟩ := read_is hD
          have htx := hby.text (P := Tryz.prog) 31 5 9 Tryz.underlying31 Tryz.underlying5 Tryz.underlying9 c8
          simp only [List.length_cons, List.length_nil, Nat.zero_add] at htx ⊢
          clear hD hby hcv
          go_wp2
          go_ret
          exact ⟨rfl, HB.out.trans (b8.mono HB.out.size)⟩

set_option maxRecDepth 100000 in
theorem lifted (os : Os) (started : os.Started) (H : Type) (enc : TypeId × Value → H) :
    ReturnsInHanded {} Tryz.checked os 4 .any (fun w args => (Rows.walRawSpec.pre enc Tryz.prog Tryz.f4 Rows.walRawRow.domain false w args ∧ laidMetH Tryz.prog Rows.walRawRow.laid w) ∧ sizedMet enc Tryz.prog Tryz.f4 (OpenSpec.ofChange Rows.walRawSpec) false w args)
      (Rows.walRawSpec.post enc Tryz.prog Tryz.f4 false true false false) := by
  refine returns_both (C := Tryz.checked) (X := fun w _ => laidMetH Tryz.prog Rows.walRawRow.laid w) (fun _ _ _ hh h => h.of_heap hh) own started (by kernel_rfl) Tryz.func4
    (ChangeSpec.witness_shaped (enc := enc) (C := Tryz.checked) (os := os) (X := fun w _ => laidMetH Tryz.prog Rows.walRawRow.laid w) false (World.laidAll Tryz.prog os Rows.walRawRow.laid) #[.int .u16 0, .slice none 0 0, .int .u8 0] 8 (World.laidAll_os _ _ _)
      (World.shaped_of_ZipB (by kernel_rfl) (by kernel_rfl)) (by kernel_rfl) (by kernel_rfl) (by kernel_rfl)
      (by rw [MakeChecks.laidMetH_plain _ _ _ (by kernel_rfl)]; exact laidMet_laidAll _ (by kernel_rfl) (by kernel_rfl))) ?_
  intro W base args ds gs before hval0 hW _ hlaid hsh
  have hval : ∀ (j : Nat) t v, Tryz.f4.params[j]? = some t → args[j]? = some v → Value.okWide Tryz.prog W .any base t v := hval0
  have hW' := hW
  obtain ⟨p, q, hA0, hV, rfl, _, _⟩ := hW
  have hA : DataW.TrodAll enc Tryz.prog W 0 (fun _ => true) true Tryz.f4.params.toList args.toList ds p := hA0
  rw [Tryz.params4] at hA hval
  obtain ⟨rfl, rfl⟩ := trodVars_none hV
  obtain ⟨v0, vs0, d0, ds0, p0, q0, hargs, rfl, rfl, h0, r0⟩ := trodAll_cons hA
  obtain ⟨v1, vs1, d1, ds1, p1, q1, rfl, rfl, rfl, h1, r1⟩ := trodAll_cons r0
  obtain ⟨v2, vs2, d2, ds2, p2, q2, rfl, rfl, rfl, h2, r2⟩ := trodAll_cons r1
  obtain ⟨rfl, rfl, rfl⟩ := trodAll_nil r2
  obtain rfl : args = #[v0, v1, v2] := by cases args; simp_all
  obtain ⟨a0, rfl, rfl, rfl, w0⟩ := open_int Tryz.underlying22 (hval 0 22 v0 rfl rfl) h0
  obtain ⟨a1, len1, cap1, rfl⟩ := okWide_slice Tryz.underlying23 (hval 1 23 v1 rfl rfl)
  obtain ⟨a2, rfl, rfl, rfl, w2⟩ := open_int Tryz.underlying5 (hval 2 5 v2 rfl rfl) h2
  clear hA0 hval0
  simp only [List.append_nil, List.nil_append] at hW'
  have hlt1 : ∀ x ∈ p1, x.block < W.heap.size := fun x hx => by simpa using hW'.lt x (by simp [hx])
  have hw0 := word_wf w0
  obtain ⟨n0, rfl⟩ : ∃ n : Nat, a0 = (n : Int) := ⟨a0.toNat, by omega⟩
  obtain ⟨xs1, rfl, hm1, hx1⟩ := arg_rows h1
  have hw2 := byte_wf w2
  obtain ⟨n2, rfl⟩ : ∃ n : Nat, a2 = (n : Int) := ⟨a2.toNat, by omega⟩
  refine (walk n0 n2 a1 xs1 cap1 W (by omega) (by omega) hx1 hm1 (tab_of_laid hlaid)).mono fun e W' ⟨he, bel⟩ => ?_
  subst he
  exact ⟨_, rfl, _, _, _, [], _, [], hW', trodAll_mk1 (shut_bool Tryz.underlying4 _), (trodAll_cons_mk (shut_int Tryz.underlying22 w0) (trodAll_cons_mk (Below.trod laidOut (by kernel_rfl) (of_decide_eq_true (by kernel_rfl)) h1 bel hlt1) (trodAll_cons_mk (shut_int Tryz.underlying5 w2) trodAll_mk0))), rfl, bel.frame _, fun h => by cases h⟩

theorem over : Rows.walRawRow.holds Tryz.pinned (OpenSpec.ofChange Rows.walRawSpec) :=
  OpenClaim.holds_of_wide 4 Tryz.f4 rfl rfl rfl rfl rfl rfl rfl ⟨rfl, rfl, rfl, rfl, rfl⟩ rfl rfl rfl rfl rfl (by kernel_rfl) Tryz.func4 (by kernel_rfl)
    (of_decide_eq_true (by kernel_rfl)) (by unfold Func.isWrapper; first | (rw [if_pos (by decide +kernel)]; kernel_rfl) | (rw [if_neg (by decide +kernel)]; exact ⟨rfl, rfl⟩))
    (fun os started H enc _ => lifted os started H enc)

/-- the statement -/
theorem proved : Rows.WalRawCardSaid :=
  Claim7.holds_tied_plain_at .later [] [.data, .data, .data] true Rows.walRawCard.stood.harness false over (fun _ h => by cases h) (by kernel_rfl) (fun _ h => by cases h) walRaw_row_tie rfl ⟨rfl, rfl⟩ (by kernel_rfl) rfl
    (fun f fn hf hfn => by
      obtain rfl : f = 4 := Option.some.inj ((show Tryz.prog.funcNamed Rows.walRawRow.func = some 4 by kernel_rfl).symm.trans hf) |>.symm
      obtain rfl : fn = Tryz.f4 := (Option.some.inj (Tryz.func4.symm.trans hfn)).symm
      exact ⟨by kernel_rfl, fun j t ht => by
        rw [Tryz.params4] at ht
        have hm : t ∈ [22, 23, 5] := by simpa using Array.mem_of_getElem? ht
        have hall : ([22, 23, 5].all fun u => !Tryz.prog.wantsStandIn u) = true := by kernel_rfl
        exact (show Tryz.prog.wantsStandIn t = false by simpa using List.all_eq_true.1 hall t hm)⟩)
    (by kernel_rfl)
#print axioms proved
end Go.Proofs.YtohnhboeipckjaaGreatDoor.walRaw
