/-
  The statement WalOpensAtCardSaid: for every input the law function WalOpensAt returns true (from a segment on, the log has just what it has of those from that one on; those below are there no more; without that segment nothing is left, and it begins there), and the arguments read afterwards as before.
  Conditions: none beyond the statement's own (the listed tables of the library hold what its text lays).
-/
import Derived.Test.YtohnhboeipckjaaGreatDoorWalBegins
import Derived.IntWalk
namespace Go.Proofs.YtohnhboeipckjaaGreatDoor.walOpensAt
open Go.ChangeShapes Go.WideShapes Go.ChangeAt Go.RowKit
attribute [local go_sem] Oper.semAt_some

/-! ### The files -/
structure AtFs (fs : List Fl) (f : Nat) (ls : List (List UInt8)) (i : Nat) : Prop where
  segs : SegAre fs f (ls.take i)
  oth : ∀ x, numL x = 0 → lookBy Fl.name x fs = none
  used : usedF fs ≤ 60 * i
  many : fs.length ≤ i
theorem AtFs.next {fs : List Fl} (hr : Rise Fl.name fs) {f i : Nat} {ls : List (List UInt8)} (h : AtFs fs f ls i) (hi : i < ls.length) (hok : okN (f + i)) (hl : ls[i].length ≤ 60) : AtFs (appF (segL (f + i)) ls[i] fs) f ls (i + 1) := by
  have hu := used_app hr (segL (f + i)) ls[i]
  have h1 := h.used
  have h2 := h.many
  refine ⟨?_, fun x hx => ?_, by omega, by omega⟩
  · rw [List.take_succ_eq_append_getElem hi]
    exact h.segs.further hr (by rw [List.length_take]; omega) hok _
  · rw [look_app hr, if_neg (not_seg hx hok)]
    exact h.oth x hx
/-- the texts that are wanted, and whether more may come -/
structure WantAt (ws : List (List UInt8)) (o : Bool) (V : Prop) (D : Nat) (ls : List (List UInt8)) (i : Nat) : Prop where
  yes : V → ws = (runC ((ls.take i).drop D)).flatten ∧ (o = true ↔ AllWhole ((ls.take i).drop D))
  no : ¬ V → ws = [] ∧ o = false
theorem take_drop {ls : List (List UInt8)} {i D : Nat} (hi : i < ls.length) (hD : D ≤ i) : (ls.take (i + 1)).drop D = (ls.take i).drop D ++ [ls[i]] := by
  rw [List.take_succ_eq_append_getElem hi, List.drop_append_of_le_length (by rw [List.length_take]; omega)]
theorem want_low {ws : List (List UInt8)} {o : Bool} {V : Prop} {D i : Nat} {ls : List (List UInt8)} (h : WantAt ws o V D ls i) (hD : V → i < D) : WantAt ws o V D ls (i + 1) := by
  refine ⟨fun hv => ?_, h.no⟩
  have hD := hD hv
  have e1 : (ls.take i).drop D = [] := List.drop_eq_nil_of_le (by rw [List.length_take]; omega)
  have e2 : (ls.take (i + 1)).drop D = [] := List.drop_eq_nil_of_le (by rw [List.length_take]; omega)
  rw [e2, ← e1]
  exact h.yes hv
theorem want_shut {ws : List (List UInt8)} {V : Prop} {D i : Nat} {ls : List (List UInt8)} (h : WantAt ws false V D ls i) (hi : i < ls.length) : WantAt ws false V D ls (i + 1) := by
  by_cases hD : i < D
  · exact want_low h (fun _ => hD)
  · refine ⟨fun hv => ?_, h.no⟩
    obtain ⟨h1, h2⟩ := h.yes hv
    have hw : ¬ AllWhole ((ls.take i).drop D) := fun hw => by have := h2.2 hw; cases this
    rw [take_drop hi (by omega), runC_not hw, whole_app]
    exact ⟨h1, ⟨(fun hc => by cases hc), (fun hc => absurd hc.1 hw)⟩⟩
theorem want_open {ws : List (List UInt8)} {V : Prop} {D i : Nat} {ls : List (List UInt8)} (h : WantAt ws true V D ls i) (hD : D ≤ i) (hi : i < ls.length) : WantAt (ws ++ allP ls[i]) (decide (allN ls[i] = ls[i].length)) V D ls (i + 1) := by
  have hv : V := Classical.byContradiction fun hv => by have := (h.no hv).2; cases this
  obtain ⟨h1, h2⟩ := h.yes hv
  have hw := h2.1 rfl
  refine ⟨fun _ => ?_, fun hn => absurd hv hn⟩
  rw [take_drop hi hD, runC_app hw, whole_app, List.flatten_append, ← h1, decide_eq_true_eq]
  exact ⟨by simp, ⟨fun hc => ⟨hw, hc⟩, fun hc => hc.2⟩⟩
/-- what an opening at a number finds -/
theorem at_ready {fs : List Fl} {f K : Nat} {ls ws : List (List UInt8)} {o : Bool} (h : AtFs fs f ls ls.length) (hw : WantAt ws o (f ≤ K ∧ K < f + ls.length) (K - f) ls ls.length) : ∃ ds, Run fs K ds ∧ (runC ds).flatten = ws ∧ ds.length ≤ ls.length := by
  have hs := h.segs
  have ht : ls.take ls.length = ls := List.take_length
  rw [ht] at hs
  by_cases hV : f ≤ K ∧ K < f + ls.length
  · have h1 := (hw.yes hV).1
    rw [ht] at h1
    have hlen : (ls.drop (K - f)).length = ls.length - (K - f) := List.length_drop
    refine ⟨ls.drop (K - f), ⟨fun k hk => ?_, fun k hk => ?_, fun hok => ?_⟩, h1.symm, by omega⟩
    · rw [hlen] at hk
      have := hs.ok (K - f + k) (by omega)
      rwa [show f + (K - f + k) = K + k by omega] at this
    · rw [hlen] at hk
      have := hs.con (K - f + k) (by omega)
      rw [show f + (K - f + k) = K + k by omega] at this
      rw [List.getElem_drop]
      exact this
    · exact hs.no _ hok (by omega)
  · exact ⟨[], ⟨fun k hk => by simp at hk, fun k hk => by simp at hk, fun hok => hs.no _ hok (by simpa using hV)⟩, (hw.no hV).1.symm, by simp⟩
/-- all files that are left are segments of that number or above -/
theorem all_above {fs fs' : List Fl} (hr : Rise Fl.name fs') {K : Nat} {ds : List (List UInt8)} (ho : ∀ x, numL x = 0 → lookBy Fl.name x fs = none) (hF : Fewer fs fs') (hA : SegAre fs' K ds) : ∀ x ∈ fs'.map Fl.name, K ≤ numL x ∧ numL x ≤ 1073741824 := by
  intro x hx
  obtain ⟨f, hf, rfl⟩ := List.mem_map.1 hx
  have hlk := lookBy_mem hr hf
  by_cases h0 : numL f.name = 0
  · rw [hF.same _ h0, ho _ h0] at hlk
    cases hlk
  · obtain ⟨e, hok⟩ := seg_num h0
    refine ⟨Classical.byContradiction fun hlt => ?_, hok.2⟩
    have := hA.no _ hok (by omega)
    rw [← e, hlk] at this
    cases this

/-! ### Where the loops stand -/
structure RawAt (w : World) (g : Nat) (fs : List Fl) (ws : List ByteArray) (v : Value) (X : Nat → Prop) (wr : World) : Prop where
  sto : Sto wr g X ⟨fs, 16000, 0, false⟩
  more : ∀ i, i < w.heap.size → X i
  row : wr.ownsRow w.heap.size 9 1 v ws.length (strV ws)
  rowX : ∀ j, v.ownBlock = some j → X j
  bel : Below w.heap.size w wr
theorem RawAt.below {w wr w' : World} {g : Nat} {fs : List Fl} {ws : List ByteArray} {v : Value} {X : Nat → Prop} (h : RawAt w g fs ws v X wr) (hb : Below wr.heap.size wr w') : RawAt w g fs ws v X w' :=
  ⟨h.sto.below hb, h.more, own_below h.row hb, h.rowX, h.bel.trans (hb.mono h.bel.size)⟩
theorem raw_append {w W6 W7 w8 : World} {g : Nat} {fs : List Fl} {ws ps : List ByteArray} {v v8 : Value} {X : Nat → Prop} {m k : Nat} (h : RawAt w g fs ws v X W6) (hb : Below W6.heap.size W6 W7) (hm : ws.length = m) (hk : ps.length = k)
    (hO : w8.ownsRow w.heap.size 9 1 v8 (m + k) (strV ws ++ strV ps)) (hG : W7.grownBy w8 v.ownBlock) (hAt : v8.ownBlock = v.ownBlock ∨ v8.ownBlock = some W7.heap.size) : ∃ X8, RawAt w g fs (ws ++ ps) v8 X8 w8 := by
  have h7 := h.below hb
  refine ⟨fun j => (X j ∨ W6.heap.size ≤ j ∧ j < W7.heap.size) ∨ W7.heap.size ≤ j ∧ j < w8.heap.size, (h.sto.wide hb).wideG hG (fun j hj => .inl (h.rowX j hj)), fun j hj => .inl (.inl (h.more j hj)), ?_, fun j hj => ?_, ?_⟩
  · rw [List.length_append, hm, hk]
    unfold strV at hO ⊢
    rw [List.map_append]
    exact hO
  · rcases hAt with e | e
    · exact .inl (.inl (h.rowX j (by rw [← e]; exact hj)))
    · rw [e] at hj
      injection hj with hj
      have := (hO.lt j (by rw [e, hj])).2
      exact .inr ⟨by omega, this⟩
  · exact h7.bel.grown hG h7.bel.size (own_ge h7.row)

/-- what the document's All answers, by the bytes -/
theorem refAll_is (l : List UInt8) (w : World) (hl : l.length ≤ 1000) :
    Calls Tryz.prog 19 #[.string ⟨l.toArray⟩] w fun e w' => ∃ (A : Option Addr) (c : Nat) (ps : List ByteArray) (r : Nat), e = .returned (.tuple #[.slice A ps.length c, .int .i64 (allN l : Int), .int .i64 (r : Int)]) ∧ strL ps = allP l ∧
      w'.ownsRow w.heap.size 9 1 (.slice A ps.length c) ps.length (strV ps) ∧ Below w.heap.size w w' := by
  refine (refAll_any ⟨l.toArray⟩ w (by show l.toArray.size ≤ _; rw [List.size_toArray]; exact hl)).mono ?_
  rintro e w' ⟨ps, v, n, rfl, hW, ho, hb⟩
  obtain ⟨e1, e2⟩ := all_eq hW
  rw [show (⟨l.toArray⟩ : ByteArray).data.toList = l from rfl] at e1 e2
  obtain ⟨A, c, rfl, _⟩ := own_form ho
  exact ⟨A, c, ps, _, by rw [e2], e1.symm, ho, hb⟩

set_option maxHeartbeats 8000000 in
set_option maxRecDepth 1000000 in
theorem walk (a b : Nat) (A B : Option Addr) (xs : List El) (ms : List UInt8) (cp dp : Nat) (w : World) (ha : a < 256) (hbb : b < 256) (hx : ∀ i (hi : i < xs.length), RowAt w w.heap.size A i xs[i]) (hl : xs.length ≤ 9223372036854775807) (hm : Byt w w.heap.size B ms) (hml : ms.length ≤ 9223372036854775807)
    (hT : Lib.TabIs Tryz.prog w "internal/strconv.uint64pow10" .u64 Lib.pow10Tab) :
    Calls Tryz.prog 6 #[.int .u8 (a : Int), .slice A xs.length cp, .int .u8 (b : Int), .slice B ms.length dp] w fun e w' => e = .returned (.bool true) ∧ Below w.heap.size w w' := by
  obtain ⟨s0, hs0, hsz0, hsz1, hsz2⟩ := info_parts infoStr
  have HA := Lib.hid (walAwake_any w hT)
  have HT := Lib.hid (Tab.of hT)
  clear hT
  obtain ⟨ml, hmle⟩ : ∃ ml, ml = ms.length := ⟨_, rfl⟩
  have HML := Lib.hid hmle
  rw [← hmle] at hml ⊢
  clear hmle
  by_cases hs : 6 < xs.length
  · clear hm
    go_enter Tryz.func6, Tryz.ntmps6
    go_wp2_with (go_at_call 8; (with_reducible refine HA.out.mono ?_); rintro e W1 ⟨rfl, b1⟩)
    go_ret
    exact ⟨rfl, b1⟩
  by_cases hs2 : 60 < ml
  · clear hm
    go_enter Tryz.func6, Tryz.ntmps6
    go_wp2_with (go_at_call 8; (with_reducible refine HA.out.mono ?_); rintro e W1 ⟨rfl, b1⟩)
    go_ret
    exact ⟨rfl, b1⟩
  have HX := Lib.hid hx
  have HM := Lib.hid hm
  clear hx hm
  obtain ⟨ls, hls⟩ : ∃ ls, ls = xs.map El.l := ⟨_, rfl⟩
  have HLS := Lib.hid hls
  have HLN : Hid (ls.length = xs.length) := Lib.hid (by rw [hls, List.length_map])
  clear hls
  have hNl : xs.length ≤ 6 := by omega
  have hV : (¬ a ≤ b) ∨ (a ≤ b ∧ ¬ b < a + xs.length) ∨ (a ≤ b ∧ b < a + xs.length) := by omega
  obtain ⟨o0, ho0⟩ : ∃ o0 : Bool, o0 = decide (a ≤ b ∧ b < a + xs.length) := ⟨_, rfl⟩
  have HO0 := Lib.hid ho0
  clear ho0
  go_enter Tryz.func6, Tryz.ntmps6
  go_wp2_with fail
  (with_reducible refine HA.out.mono ?_)
  rintro e W1 ⟨rfl, b1⟩
  have HB1 := Lib.hid b1
  have HN := Lib.hid (new_any 16000 W1 (by omega) (by omega))
  clear HA b1
  go_wp2_with fail
  refine HN.out.mono ?_
  rintro e W2 ⟨rfl, hS2, b2⟩
  obtain ⟨g, hg⟩ : ∃ g, g = W1.heap.size + 1 := ⟨_, rfl⟩
  rw [← hg] at hS2 ⊢
  have HB2 := Lib.hid (HB1.out.trans (b2.mono HB1.out.size))
  have HX0 : Hid (∀ i, i < w.heap.size → i < W1.heap.size) := Lib.hid fun i hi => Nat.lt_of_lt_of_le hi HB1.out.size
  have HST : Hid (∃ fs ws X, RawAt w g fs ws (.slice none 0 0) X W2 ∧ AtFs fs (1 + a) ls 0 ∧ WantAt (strL ws) o0 (1 + a ≤ 1 + b ∧ 1 + b < 1 + a + ls.length) (1 + b - (1 + a)) ls 0 ∧ ws.length = 0) := Lib.hid ⟨[], [], fun i => i < W1.heap.size, ⟨hS2, HX0.out, World.ownsRow_nil _ _ _ _, fun j hj => by simp [Value.ownBlock] at hj, HB2.out⟩,
    ⟨⟨fun k hk => by simp at hk, fun k hk => by simp at hk, fun _ _ _ => rfl⟩, fun _ _ => rfl, by decide, by decide⟩, ⟨fun hv => ⟨by simp [runC], by rw [HO0.out]; simp [AllWhole]; rw [← HLN.out]; omega⟩, fun hv => ⟨rfl, by rw [HO0.out]; simp; rw [← HLN.out]; omega⟩⟩, rfl⟩
  clear HN hS2 b2 hg HB2 HX0 HB1
  rcases hV with hV | ⟨hV, hV2⟩ | ⟨hV, hV2⟩
  case' inl =>
    obtain rfl : o0 = false := by rw [HO0.out]; simp; omega
    go_wp2_with fail
  case' inr.inl =>
    obtain rfl : o0 = false := by rw [HO0.out]; simp; omega
    have hd1 : decide ((1 : Int) + (b : Int) < 1 + (a : Int) + (xs.length : Int)) = false := decide_eq_false (by omega)
    go_wp2_with fail
    clear hd1
  case' inr.inr =>
    obtain rfl : o0 = true := by rw [HO0.out]; simp; omega
    have hd1 : (1 : Int) + (b : Int) < 1 + (a : Int) + (xs.length : Int) := by omega
    go_wp2_with fail
    clear hd1
  all_goals
    go_loopw [12, 13, 14] (fun v q p wr => ∃ (i m : Nat) (o : Bool), p = .int .i64 i ∧ q = .bool o ∧ i ≤ xs.length ∧ m ≤ 8 * i ∧ Hid (∃ fs ws X, RawAt w g fs ws v X wr ∧ AtFs fs (1 + a) ls i ∧ WantAt (strL ws) o (1 + a ≤ 1 + b ∧ 1 + b < 1 + a + ls.length) (1 + b - (1 + a)) ls i ∧ ws.length = m)) (fun _ _ p _ => xs.length - (intOf p).toNat)
    case atStart => exact ⟨0, 0, _, rfl, rfl, by omega, by omega, HST⟩
    case round =>
      obtain ⟨i, m, o, rfl, rfl, hi, hm8, HG⟩ := hrel
      obtain ⟨fs, ws, X, hRA, hRF, hWI, hwm⟩ := HG.out
      have HRA := Lib.hid hRA
      have HRF := Lib.hid hRF
      have HWI := Lib.hid hWI
      have HWM := Lib.hid hwm
      clear hRA hRF hWI hwm HG HST
      by_cases hlt : i < xs.length
      · obtain ⟨⟨hxl, hxb⟩, b0, p0, rfl, hb0, hc0⟩ := (HX.out i hlt).below HRA.out.bel
        have HR := HX.out i hlt
        have hil : i < ls.length := by rw [HLN.out]; exact hlt
        have hli : ls[i] = (xs[i]).l := by simp [HLS.out]
        have HLI := Lib.hid hli
        generalize xs[i] = x at *
        rw [show x.val = .slice x.A x.l.length x.c from rfl] at hc0
        have HR := Lib.hid HR
        obtain ⟨n, hn⟩ : ∃ n, n = x.l.length := ⟨_, rfl⟩
        rw [← hn] at hc0 hxl
        have HNL := Lib.hid hn
        clear hn
        by_cases h60 : 60 < n
        · have hbel := HRA.out.bel
          clear hxb hli
          go_wp2
          go_ret
          exact ⟨rfl, hbel⟩
        · have hbs := HRA.out.bel.size
          have hri : Rise Fl.name fs := HRA.out.sto.ok.rise
          have hused := HRF.out.used
          have hmany := HRF.out.many
          obtain ⟨q, hq⟩ : ∃ q, q = 1 + a + i := ⟨_, rfl⟩
          have hokq : okN q := ⟨by omega, by omega⟩
          have hRF2 := HRF.out.next hri hil (by rw [← hq]; exact hokq) (by rw [hli, ← HNL.out]; omega)
          rw [hli, ← hq] at hRF2
          have hap := app_up (st := ⟨fs, 16000, 0, false⟩) ⟨rfl, rfl⟩ (x := segL q) (b := x.l) (seg_name hokq) (fun _ => by show fs.length < 256; omega) (by show _ ≤ 16000 - usedF fs; rw [← HNL.out]; omega)
          have hXk : ∀ u, Below w.heap.size w u → Tab u X := fun u hu => HT.out.on (Keep.of_below hu) HRA.out.more
          have bd := (Below.refl wr.heap.size wr).drew
          have hRd := HRA.out.below bd
          have hcl : ∀ u, Below w.heap.size w u → u.cell? ⟨b0, p0 + i, none⟩ = some (.slice x.A n x.c) := fun u hu => by
            obtain ⟨_, b', o', e0, hb', hc⟩ := HR.out.below hu
            injection e0 with e0
            injection e0 with e1 e2
            subst e1 e2
            rw [hc, HNL.out]
            rfl
          have T3 : ∀ u, Below w.heap.size w u → (convert 31 9 (.slice x.A n x.c)).run Tryz.prog u = .ok (.string ⟨x.l.toArray⟩) u := fun u hu => by
            obtain ⟨⟨_, hb⟩, _⟩ := HR.out.below hu
            have h := Byt.text (P := Tryz.prog) hb 31 5 9 Tryz.underlying31 Tryz.underlying5 Tryz.underlying9 x.c
            rw [← HNL.out] at h
            exact h
          have HNM : ∀ z : Int, z = (q : Int) → Hid (Calls Tryz.prog 18 #[.int .i64 z] wr.drew fun e w' => e = .returned (.string ⟨(segL q).toArray⟩) ∧ RawAt w g fs ws u12 X w') := fun z hz => Lib.hid (by
            subst hz
            exact (name_ok X wr.drew (hXk _ hRd.bel) hokq).mono fun e w' ⟨he, hb⟩ => ⟨he, hRd.below hb⟩)
          have HAP : ∀ u, RawAt w g fs ws u12 X u → Hid (Calls Tryz.prog 17 #[.pointer (some ⟨g, 0, none⟩), .string ⟨(segL q).toArray⟩, .slice x.A n x.c] u fun e w' => e = .returned (.int .i64 0) ∧ RawAt w g (appF (segL q) x.l fs) ws u12 X w') := fun u hu => Lib.hid (by
            obtain ⟨⟨_, hb⟩, _⟩ := HR.out.below hu.bel
            have h := append_any g X _ ⟨(segL q).toArray⟩ x.A x.l x.c u hu.sto (seg_size hokq) (hb.more hu.bel.size)
            rw [← HNL.out] at h
            refine h.mono fun e w' hD => ?_
            obtain ⟨rfl, h1, h2⟩ := done_up hD hap rfl
            exact ⟨rfl, h1, hu.more, own_keep hu.row hu.rowX h2, hu.rowX, hu.bel.trans (h2.below hu.bel.size hu.more)⟩)
          have hcount := all_count x.l
          have hNle := allN_le x.l
          rw [← HNL.out] at hcount hNle
          have HCL := Lib.hid hcl
          have HT3 := Lib.hid T3
          have HRF2 := Lib.hid hRF2
          have hbd := hRd.bel
          have hq1 : q ≤ 1 + a + i := by omega
          have hq2 : 1 + a + i ≤ q := by omega
          have hwr : IntKind.i64.wrap (1 + (a : Int) + (i : Int)) = 1 + (a : Int) + (i : Int) := IntWalk.i64_in _ (by omega)
          clear hxb hli hri hused hmany hRF2 hap hXk hRd bd hcl T3 hq
          by_cases hg : 1 + a + i < 1 + b
          · have hgi : ¬ (1 : Int) + (b : Int) ≤ 1 + (a : Int) + (i : Int) := by omega
            (first | (exfalso; omega) | skip)
            all_goals
              have HG : Hid (1 + a ≤ 1 + b ∧ 1 + b < 1 + a + ls.length → i < 1 + b - (1 + a)) := Lib.hid (fun _ => by omega)
              clear hNle hcount hg
              have hcl := HCL.out
              go_wp2_with fail
              go_region_held3 (fun u => Below w.heap.size w u) (first | exact hbd | assumption | exact (RawAt.bel (by assumption)))
                (first
                  | (go_at_call 18; (with_reducible refine (HNM _ (by omega)).out.mono ?_); rintro e w5 ⟨rfl, hR5⟩; have hb5 := hR5.bel)
                  | (go_at_call 17; (with_reducible refine (HAP _ hR5).out.mono ?_); rintro e w6 ⟨rfl, hR6⟩; have hb6 := hR6.bel))
              have c6 := HCL.out w6 hb6
              have t6 := HT3.out w6 hb6
              have HR6 := Lib.hid hR6
              clear hcl hR5 hb5 hR6 HNM HAP hwr
              go_wp2_with fail
              refine (refAll_is x.l w6 (by rw [← HNL.out]; omega)).mono ?_
              rintro e W7 ⟨A7, c7, ps, r7, rfl, hps, ho7, b7⟩
              have HPS := Lib.hid hps
              have HB7 := Lib.hid b7
              obtain ⟨k, hk⟩ : ∃ k, k = ps.length := ⟨_, rfl⟩
              rw [← hk] at ho7 ⊢
              have HK := Lib.hid hk
              have HO7 := Lib.hid ho7
              clear hps b7 hk ho7 c6 t6
              go_wp2
              go_roundw
              case rel => exact ⟨i + 1, m, o, by go_num, rfl, by omega, by omega, Lib.hid ⟨_, ws, X, HR6.out.below HB7.out, HRF2.out, want_low HWI.out HG.out, HWM.out⟩⟩
              case measure => simp [intOf]; omega
          · have hgi : (1 : Int) + (b : Int) ≤ 1 + (a : Int) + (i : Int) := by omega
            (first | (exfalso; omega) | skip)
            all_goals
              have HG : Hid (1 + b - (1 + a) ≤ i) := Lib.hid (by omega)
              clear hg
              cases o with
              | false =>
                clear hNle hcount
                have hcl := HCL.out
                go_wp2_with fail
                go_region_held3 (fun u => Below w.heap.size w u) (first | exact hbd | assumption | exact (RawAt.bel (by assumption)))
                  (first
                    | (go_at_call 18; (with_reducible refine (HNM _ (by omega)).out.mono ?_); rintro e w5 ⟨rfl, hR5⟩; have hb5 := hR5.bel)
                    | (go_at_call 17; (with_reducible refine (HAP _ hR5).out.mono ?_); rintro e w6 ⟨rfl, hR6⟩; have hb6 := hR6.bel))
                have c6 := HCL.out w6 hb6
                have t6 := HT3.out w6 hb6
                have HR6 := Lib.hid hR6
                clear hcl hR5 hb5 hR6 HNM HAP hwr
                go_wp2_with fail
                refine (refAll_is x.l w6 (by rw [← HNL.out]; omega)).mono ?_
                rintro e W7 ⟨A7, c7, ps, r7, rfl, hps, ho7, b7⟩
                have HPS := Lib.hid hps
                have HB7 := Lib.hid b7
                obtain ⟨k, hk⟩ : ∃ k, k = ps.length := ⟨_, rfl⟩
                rw [← hk] at ho7 ⊢
                have HK := Lib.hid hk
                have HO7 := Lib.hid ho7
                clear hps b7 hk ho7 c6 t6
                go_wp2
                go_roundw
                case rel => exact ⟨i + 1, m, false, by go_num, rfl, by omega, by omega, Lib.hid ⟨_, ws, X, HR6.out.below HB7.out, HRF2.out, want_shut HWI.out hil, HWM.out⟩⟩
                case measure => simp [intOf]; omega
              | true =>
                have hcl := HCL.out
                go_wp2_with fail
                go_region_held3 (fun u => Below w.heap.size w u) (first | exact hbd | assumption | exact (RawAt.bel (by assumption)))
                  (first
                    | (go_at_call 18; (with_reducible refine (HNM _ (by omega)).out.mono ?_); rintro e w5 ⟨rfl, hR5⟩; have hb5 := hR5.bel)
                    | (go_at_call 17; (with_reducible refine (HAP _ hR5).out.mono ?_); rintro e w6 ⟨rfl, hR6⟩; have hb6 := hR6.bel))
                have c6 := HCL.out w6 hb6
                have t6 := HT3.out w6 hb6
                have HR6 := Lib.hid hR6
                clear hcl hR5 hb5 hR6 HNM HAP hwr
                go_wp2_with fail
                refine (refAll_is x.l w6 (by rw [← HNL.out]; omega)).mono ?_
                rintro e W7 ⟨A7, c7, ps, r7, rfl, hps, ho7, b7⟩
                have HPS := Lib.hid hps
                have HB7 := Lib.hid b7
                obtain ⟨k, hk⟩ : ∃ k, k = ps.length := ⟨_, rfl⟩
                rw [← hk] at ho7 ⊢
                have HK := Lib.hid hk
                have HO7 := Lib.hid ho7
                clear hps b7 hk ho7 c6 t6
                have hrw := (HR6.out.below HB7.out).row
                rw [HWM.out] at hrw
                have HRW := Lib.hid hrw
                have hs7 := (HR6.out.below HB7.out).bel.size
                have hkb : k * 13 ≤ n := by
                  have : k = (allP x.l).length := by rw [← HPS.out, HK.out]; unfold strL; rw [List.length_map]
                  rw [this]
                  exact hcount
                have HWY := Lib.hid (want_open HWI.out HG.out hil)
                obtain ⟨z, hz⟩ : ∃ z, z = allN x.l := ⟨_, rfl⟩
                have HZ := Lib.hid hz
                rw [← hz] at hNle ⊢
                clear hrw hz hcount
                by_cases hwh : z = n
                · have hzn : ((z : Int) == (n : Int)) = true := by simp; omega
                  have HD : Hid (decide (allN ls[i] = ls[i].length) = true) := Lib.hid (decide_eq_true (by rw [HLI.out, ← HZ.out, ← HNL.out]; exact hwh))
                  clear hwh
                  go_wp2_with (at_builtin; refine wpList_append_rows _ rfl (.tmp 96) (.tmp 97) 40 rfl w.heap.size 9 s0 _ 16 Tryz.underlying40 hs0 hsz0 hsz1 hsz2 rfl _ m (strV ws) rfl HRW.out w6.heap.size A7 k c7 (strV ps) rfl HO7.out (fun u hu => by obtain ⟨y, _, rfl⟩ := List.mem_map.1 hu; rfl) (by unfold maxLen; omega) (by omega) hs7 ?_; intro v8 w8 hown8 hg8 hat8; obtain ⟨X8, hR8⟩ := raw_append HR6.out HB7.out HWM.out HK.out.symm hown8 hg8 hat8; have HR8 := Lib.hid hR8; have c8 := HCL.out w8 hR8.bel; clear hown8 hg8 hat8 hR8)
                  go_roundw
                  case rel =>
                    refine ⟨i + 1, m + k, true, by go_num, rfl, by omega, by omega, Lib.hid ⟨_, ws ++ ps, X8, HR8.out, HRF2.out, ?_, by rw [List.length_append, HWM.out, HK.out]⟩⟩
                    have h := HWY.out
                    rw [HD.out, HLI.out, ← HPS.out] at h
                    unfold strL at h ⊢
                    rw [List.map_append]
                    exact h
                  case measure => simp [intOf]; omega
                · have hzn : ((z : Int) == (n : Int)) = false := by simp; omega
                  have HD : Hid (decide (allN ls[i] = ls[i].length) = false) := Lib.hid (decide_eq_false (by rw [HLI.out, ← HZ.out, ← HNL.out]; exact hwh))
                  clear hwh
                  go_wp2_with (at_builtin; refine wpList_append_rows _ rfl (.tmp 96) (.tmp 97) 40 rfl w.heap.size 9 s0 _ 16 Tryz.underlying40 hs0 hsz0 hsz1 hsz2 rfl _ m (strV ws) rfl HRW.out w6.heap.size A7 k c7 (strV ps) rfl HO7.out (fun u hu => by obtain ⟨y, _, rfl⟩ := List.mem_map.1 hu; rfl) (by unfold maxLen; omega) (by omega) hs7 ?_; intro v8 w8 hown8 hg8 hat8; obtain ⟨X8, hR8⟩ := raw_append HR6.out HB7.out HWM.out HK.out.symm hown8 hg8 hat8; have HR8 := Lib.hid hR8; have c8 := HCL.out w8 hR8.bel; clear hown8 hg8 hat8 hR8)
                  go_roundw
                  case rel =>
                    refine ⟨i + 1, m + k, false, by go_num, rfl, by omega, by omega, Lib.hid ⟨_, ws ++ ps, X8, HR8.out, HRF2.out, ?_, by rw [List.length_append, HWM.out, HK.out]⟩⟩
                    have h := HWY.out
                    rw [HD.out, HLI.out, ← HPS.out] at h
                    unfold strL at h ⊢
                    rw [List.map_append]
                    exact h
                  case measure => simp [intOf]; omega
      · obtain rfl : i = xs.length := by omega
        have hRFn : AtFs fs (1 + a) ls ls.length := by rw [HLN.out]; exact HRF.out
        have hWIn : WantAt (strL ws) o (1 + a ≤ 1 + b ∧ 1 + b < 1 + a + ls.length) (1 + b - (1 + a)) ls ls.length := by
          have h := HWI.out
          rw [← HLN.out] at h
          exact h
        obtain ⟨ds, hRu, hws, hdl⟩ := at_ready hRFn hWIn
        obtain ⟨K, hK⟩ : ∃ K, K = 1 + b := ⟨_, rfl⟩
        rw [← hK] at hRu
        have hokK : okN K := ⟨by omega, by omega⟩
        have hK1 : K ≤ 1 + b := by omega
        have hK2 : 1 + b ≤ K := by omega
        obtain ⟨AW, cW, hu8, _⟩ := own_form HRA.out.row
        have hRA := HRA.out
        rw [hu8, HWM.out] at hRA
        rw [HWM.out] at hu8
        subst hu8
        have HO : Hid (∀ z : Int, z = (K : Int) → Calls Tryz.prog 23 #[.pointer (some ⟨g, 0, none⟩), .int .i64 100, .int .i64 z] wr (OpenedIs wr g X ⟨fs, 16000, 0, false⟩ 100 K ds)) := Lib.hid (by
          rintro z rfl
          exact openAt_any g X ⟨fs, 16000, 0, false⟩ 100 K ds wr hRA.sto (HT.out.on (Keep.of_below hRA.bel) hRA.more) ⟨rfl, rfl⟩ hRu hokK (by omega) (by omega))
        have HR9 := Lib.hid hRA
        have HRN := Lib.hid hRFn
        have HWS := Lib.hid hws
        have hm48 : m ≤ 48 := by omega
        have hHLw : Hid ((strL ws).length = m) := Lib.hid (by unfold strL; rw [List.length_map]; exact HWM.out)
        have hdl6 : ds.length ≤ 6 := by rw [HLN.out] at hdl; omega
        clear hRFn hWIn hRu hws hK hRA HRA HRF HWI hdl
        go_wp2_with fail
        refine (HO.out _ (by omega)).mono ?_
        rintro e W8 ⟨gl8, v8, ps, X8, fs8, rfl, hgl8, hL8, hR8, hE8, hA8, hF8, hXX8, hK8⟩
        rw [HWS.out] at hE8
        have hpl : ps.length = m := by
          have := congrArg List.length hE8
          rw [List.length_map, hHLw.out] at this
          exact this
        obtain ⟨AP, cP, rfl, _⟩ := own_form hR8.own
        have hrow8 := own_keep HR9.out.row HR9.out.rowX hK8
        have hsl := hR8.sls rfl
        rw [hE8] at hsl
        rw [hpl] at *
        have hst : StrAt W8 AW (strL ws) := by
          have h := hrow8
          rw [HWM.out] at h
          exact strAt_of h HWM.out.symm
        have HBG := Lib.hid (begins_any AP AW (strL ws) m cP cW W8 hsl hst hHLw.out.symm (by rw [hHLw.out]; omega))
        have hb9 := HR9.out.bel.size
        have HXX : Hid (∀ i, i < w.heap.size → X8 i ∧ i ≠ gl8) := Lib.hid fun i hi => ⟨hXX8 i (HR9.out.more i hi), by omega⟩
        have HB8 : Hid (Below w.heap.size w W8) := Lib.hid (HR9.out.bel.trans (hK8.below HR9.out.bel.size HR9.out.more))
        have hrl := runC_len ds
        have hri8 : Rise Fl.name fs8 := hL8.sto.ok.rise
        have HAB := Lib.hid (all_above hri8 HRN.out.oth hF8 hA8)
        have hus8 : usedF fs8 ≤ 360 := by
          have h1 := hF8.used
          have h2 := HRN.out.used
          rw [HLN.out] at h2
          have h3 : usedF fs8 ≤ usedF fs := h1
          omega
        have hmn8 : fs8.length ≤ 6 := by
          have h1 : fs8.length ≤ fs.length := hF8.many
          have h2 := HRN.out.many
          rw [HLN.out] at h2
          omega
        obtain ⟨last, hlast⟩ : ∃ last, last = K + ((runC ds).length - 1) := ⟨_, rfl⟩
        rw [← hlast] at hL8
        have HL8 : Hid (Lg W8 gl8 g X8 ⟨fs8, 16000, 0, false⟩ 100 last) := Lib.hid hL8
        obtain ⟨cs', hA9, hl9, hf9, hc91, hc92⟩ := seg_next hri8 hA8 hlast hokK.1 (by omega) (show 1 ≤ 100 by omega) ms
        have hsm9 : ∀ c ∈ cs', ∀ p ∈ c, p.length ≤ 65536 := fun c hc p hp => by
          have h1 : p ∈ cs'.flatten := List.mem_flatten.2 ⟨c, hc, hp⟩
          rw [hf9] at h1
          rcases List.mem_append.1 h1 with h1 | h1
          · obtain ⟨c', hc', hp'⟩ := List.mem_flatten.1 h1
            exact runC_small ds c' hc' p hp'
          · rw [List.mem_singleton.1 h1, ← HML.out]; omega
        have hrc9 := runC_cat hsm9
        have hfl9 : (runC (cs'.map catL)).flatten = strL ws ++ [ms] := by rw [hrc9, hf9, HWS.out]
        have hlx : last ≤ K + 6 := by omega
        have hlk : K ≤ last := by omega
        have hls1 := last_le 100 last fs8
        obtain ⟨L9, hL9⟩ : ∃ L9, L9 = lastS 100 last fs8 := ⟨_, rfl⟩
        rw [← hL9] at hls1
        have HL9 := Lib.hid hL9
        have HA9 := Lib.hid hA9
        have HF9 := Lib.hid hfl9
        have HRI8 := Lib.hid hri8
        have hnl : ¬ (last : Int) < 1 + (b : Int) := by omega
        have HTX : Hid (∀ u, Below w.heap.size w u → Tab u (fun i => X8 i ∧ i ≠ gl8)) := Lib.hid fun u hu => HT.out.on (Keep.of_below hu) HXX.out
        clear HO hL8 hR8 hE8 hA8 hF8 hXX8 hK8 hpl hrow8 hsl hst HR9 HRN HWS hgl8 hb9 hrl hri8 hlast hl9 hf9 hc91 hc92 hsm9 hrc9 hfl9 hA9 hL9 hdl6
        go_wp2_with (first
          | (go_at_call 20; (with_reducible refine HBG.out.mono ?_); rintro e W9 ⟨rfl, b9⟩; have hLg9 := HL8.out.below b9)
          | (go_at_call 13; (with_reducible refine (last_any gl8 g X8 _ 100 last _ hLg9).mono ?_); rintro e W10 ⟨rfl, rfl⟩))
        have HB9 := Lib.hid (HB8.out.trans (b9.mono HB8.out.size))
        have HLg9 := Lib.hid hLg9
        have HNN := Lib.hid (names_any g X8 ⟨fs8, 16000, 0, false⟩ W9 hLg9.sto)
        rw [show namesS ⟨fs8, 16000, 0, false⟩ = fs8.map Fl.name from rfl] at HNN
        have HSM : Hid (∀ x ∈ fs8.map Fl.name, x.length ≤ 1073741824) := Lib.hid fun x hx => by
          obtain ⟨f, hf, rfl⟩ := List.mem_map.1 hx
          exact (hLg9.sto.ok.good f hf).2
        obtain ⟨M, hM⟩ : ∃ M, M = (fs8.map Fl.name).length := ⟨_, rfl⟩
        have hM6 : M ≤ 6 := by rw [hM, List.length_map]; exact hmn8
        have HMM := Lib.hid hM
        clear hLg9 b9 HBG HL8 HB8 hM hnl
        go_wp2_with fail
        refine HNN.out.mono ?_
        rintro e W10 ⟨vN, rfl, hownN, b10⟩
        rw [← HMM.out] at hownN
        obtain ⟨AN, cN, rfl, _⟩ := own_form hownN
        have HON := Lib.hid hownN
        have HB10 := Lib.hid (HB9.out.trans (b10.mono HB9.out.size))
        have HLg10 := Lib.hid (HLg9.out.below b10)
        clear hownN b10 HNN HB9 HLg9
        go_wp2_with fail
        go_loopw [22] (fun p wr => ∃ k : Nat, p = .int .i64 k ∧ k ≤ M ∧ Hid (Below W10.heap.size W10 wr)) (fun p _ => M - (intOf p).toNat)
        case atStart => exact ⟨0, rfl, by omega, Lib.hid (Below.refl _ _)⟩
        case round =>
          obtain ⟨k, rfl, hk, HBW⟩ := hrel
          by_cases hkM : k < M
          · obtain ⟨b5, rfl, _, hb5, hc5⟩ := row_cell (own_below HON.out HBW.out) hkM
            have hkn : k < (fs8.map Fl.name).length := by rw [← HMM.out]; exact hkM
            have hc6 : wr.cell? ⟨b5, k, none⟩ = some (.string ⟨((fs8.map Fl.name)[k]).toArray⟩) := by rw [hc5, List.getElem?_map, List.getElem?_eq_getElem hkn]; rfl
            have hxs := HSM.out _ (List.getElem_mem hkn)
            have hab := HAB.out _ (List.getElem_mem hkn)
            generalize (fs8.map Fl.name)[k] = x at *
            have HNU := Lib.hid (number_any ⟨x.toArray⟩ wr (by show x.toArray.size ≤ _; rw [List.size_toArray]; omega))
            rw [show (⟨x.toArray⟩ : ByteArray).data.toList = x from rfl] at HNU
            have hnk : ¬ (numL x : Int) < 1 + (b : Int) := by omega
            have hbs := HBW.out.size
            clear hc5 hxs hab
            go_wp2_with (go_at_call 22; (with_reducible refine HNU.out.mono ?_); rintro e W11 ⟨rfl, b11⟩)
            go_roundw
            case rel => exact ⟨k + 1, by go_num, by omega, Lib.hid (HBW.out.trans (b11.mono hbs))⟩
            case measure => simp [intOf]; omega
          · obtain rfl : k = M := by omega
            have hLg := HLg10.out.below HBW.out
            have hBw := HB10.out.trans (HBW.out.mono HB10.out.size)
            have hbym : Byt wr wr.heap.size B ms := (HM.out.below hBw).more hBw.size
            have hap := wappend_any gl8 g X8 _ 100 last B ms dp ml wr hLg (HTX.out _ hBw) ⟨rfl, rfl⟩ ⟨by have := hokK.1; omega, by omega⟩ (by omega) (by omega) hbym HML.out (by rw [← HML.out]; omega) (by show _ ≤ 16000 - usedF fs8; rw [← HML.out]; omega) (by show fs8.length < 256; omega)
            have HAP := Lib.hid hap
            have HBw := Lib.hid hBw
            clear hap hLg hBw hbym HLg10 HB10 HON HAB HSM
            go_wp2_with fail
            (with_reducible refine HAP.out.mono ?_)
            rintro e W11 ⟨rfl, hL11, hK11⟩
            have hB11 : Below w.heap.size w W11 := HBw.out.trans ((hK11.mono HXX.out).below HBw.out.size (fun i hi => hi))
            rw [← HL9.out] at hL11
            have HSY := Lib.hid (wsync_any gl8 g X8 _ 100 L9 W11 hL11 ((HTX.out _ hB11).more fun _ h => h.1) ⟨rfl, rfl⟩ ⟨by have := hokK.1; omega, by omega⟩)
            have HB11 := Lib.hid hB11
            clear HAP hL11 hK11 hB11 HBw
            go_wp2_with fail
            (with_reducible refine HSY.out.mono ?_)
            rintro e W12 ⟨rfl, hL12, hK12⟩
            have hB12 : Below w.heap.size w W12 := HB11.out.trans (hK12.below HB11.out.size (fun i hi => (HXX.out i hi).1))
            have hA12 : SegAre (syncF (segL L9) (appS 100 last fs8 ms)) K (cs'.map catL) := HA9.out.sync (by unfold appS; exact putBy_rise (rise_roll 100 last HRI8.out)) _
            have HO : Hid (∀ z : Int, z = (K : Int) → Calls Tryz.prog 23 #[.pointer (some ⟨g, 0, none⟩), .int .i64 100, .int .i64 z] W12 (OpenedIs W12 g X8 ⟨syncF (segL L9) (appS 100 last fs8 ms), 16000, 0, false⟩ 100 K (cs'.map catL))) := Lib.hid (by
              rintro z rfl
              exact openAt_any g X8 _ 100 K _ W12 hL12.sto ((HTX.out _ hB12).more fun _ h => h.1) ⟨rfl, rfl⟩ hA12.run hokK (by omega) (by omega))
            have HB12 := Lib.hid hB12
            clear HSY hL12 hK12 hB12 hA12 HB11
            go_wp2_with fail
            refine (HO.out _ (by omega)).mono ?_
            rintro e W13 ⟨gl13, v13, qs, X13, fs13, rfl, _, _, hR13, hE13, _, _, hXX13, hK13⟩
            rw [HF9.out] at hE13
            have hql : qs.length = m + 1 := by
              have := congrArg List.length hE13
              rw [List.length_map, List.length_append, hHLw.out] at this
              exact this
            have hB13 : Below w.heap.size w W13 := HB12.out.trans (hK13.below HB12.out.size (fun i hi => (HXX.out i hi).1))
            obtain ⟨AQ, cQ, rfl, _⟩ := own_form hR13.own
            have hsl := hR13.sls rfl
            rw [hE13] at hsl
            rw [hql]
            obtain ⟨g1, o1, A1, c1, rfl, hc1, hb1⟩ := hsl m (by rw [List.length_append, hHLw.out]; simp)
            have hat : (strL ws ++ [ms])[m]'(by rw [List.length_append, hHLw.out]; simp) = ms := by
              rw [List.getElem_append_right (by rw [hHLw.out]; exact Nat.le_refl _)]
              simp
            rw [hat] at hc1 hb1
            have hb2 := HM.out.below hB13
            have ht := fun n => Byt.text (P := Tryz.prog) (w := W13.drewN n) (B := W13.heap.size) hb1 31 5 9 Tryz.underlying31 Tryz.underlying5 Tryz.underlying9 c1
            have ht2 := fun n => Byt.text (P := Tryz.prog) (w := W13.drewN n) (B := w.heap.size) hb2 31 5 9 Tryz.underlying31 Tryz.underlying5 Tryz.underlying9 dp
            rw [← HML.out] at hc1
            simp only [← HML.out] at ht ht2
            obtain ⟨mq, hmq⟩ : ∃ mq, mq = m + 1 := ⟨_, rfl⟩
            have hlq : ((mq : Int) == (m : Int) + 1) = true := by simp; omega
            have hwm1 : IntKind.i64.wrap ((m : Int) + 1) = (m : Int) + 1 := IntWalk.i64_in _ (by omega)
            have hmlt : m < mq := by omega
            rw [← hmq]
            have hne : (ms == ms) = true := by simp
            have HB13 := Lib.hid hB13
            clear HO hR13 hE13 hXX13 hK13 hql hB13 hsl hat hb1 hb2 hmq
            go_wp2_with fail
            go_quiet (fail)
            go_wp2
            go_ret
            exact ⟨rfl, HB13.out.trans ((drewN_below W13 nq).mono HB13.out.size)⟩

set_option maxRecDepth 100000 in
theorem lifted (os : Os) (started : os.Started) (H : Type) (enc : TypeId × Value → H) :
    ReturnsInHanded {} Tryz.checked os 6 .any (fun w args => (Rows.walOpensAtSpec.pre enc Tryz.prog Tryz.f6 Rows.walOpensAtRow.domain false w args ∧ laidMetH Tryz.prog Rows.walOpensAtRow.laid w) ∧ sizedMet enc Tryz.prog Tryz.f6 (OpenSpec.ofChange Rows.walOpensAtSpec) false w args)
      (Rows.walOpensAtSpec.post enc Tryz.prog Tryz.f6 false true false false) := by
  refine returns_both (C := Tryz.checked) (X := fun w _ => laidMetH Tryz.prog Rows.walOpensAtRow.laid w) (fun _ _ _ hh h => h.of_heap hh) own started (by kernel_rfl) Tryz.func6
    (ChangeSpec.witness_shaped (enc := enc) (C := Tryz.checked) (os := os) (X := fun w _ => laidMetH Tryz.prog Rows.walOpensAtRow.laid w) false (World.laidAll Tryz.prog os Rows.walOpensAtRow.laid) #[.int .u8 0, .slice none 0 0, .int .u8 0, .slice none 0 0] 8 (World.laidAll_os _ _ _)
      (World.shaped_of_ZipB (by kernel_rfl) (by kernel_rfl)) (by kernel_rfl) (by kernel_rfl) (by kernel_rfl)
      (by rw [MakeChecks.laidMetH_plain _ _ _ (by kernel_rfl)]; exact laidMet_laidAll _ (by kernel_rfl) (by kernel_rfl))) ?_
  intro W base args ds gs before hval0 hW _ hlaid hsh
  have hval : ∀ (j : Nat) t v, Tryz.f6.params[j]? = some t → args[j]? = some v → Value.okWide Tryz.prog W .any base t v := hval0
  have hW' := hW
  obtain ⟨p, q, hA0, hV, rfl, _, _⟩ := hW
  have hA : DataW.TrodAll enc Tryz.prog W 0 (fun _ => true) true Tryz.f6.params.toList args.toList ds p := hA0
  rw [Tryz.params6] at hA hval
  obtain ⟨rfl, rfl⟩ := trodVars_none hV
  obtain ⟨v0, vs0, d0, ds0, p0, q0, hargs, rfl, rfl, h0, r0⟩ := trodAll_cons hA
  obtain ⟨v1, vs1, d1, ds1, p1, q1, rfl, rfl, rfl, h1, r1⟩ := trodAll_cons r0
  obtain ⟨v2, vs2, d2, ds2, p2, q2, rfl, rfl, rfl, h2, r2⟩ := trodAll_cons r1
  obtain ⟨v3, vs3, d3, ds3, p3, q3, rfl, rfl, rfl, h3, r3⟩ := trodAll_cons r2
  obtain ⟨rfl, rfl, rfl⟩ := trodAll_nil r3
  obtain rfl : args = #[v0, v1, v2, v3] := by cases args; simp_all
  obtain ⟨a0, rfl, rfl, rfl, w0⟩ := open_int Tryz.underlying5 (hval 0 5 v0 rfl rfl) h0
  obtain ⟨a1, len1, cap1, rfl⟩ := okWide_slice Tryz.underlying23 (hval 1 23 v1 rfl rfl)
  obtain ⟨a2, rfl, rfl, rfl, w2⟩ := open_int Tryz.underlying5 (hval 2 5 v2 rfl rfl) h2
  obtain ⟨a3, len3, cap3, rfl⟩ := okWide_slice Tryz.underlying31 (hval 3 31 v3 rfl rfl)
  clear hA0 hval0
  simp only [List.append_nil, List.nil_append] at hW'
  have hlt1 : ∀ x ∈ p1, x.block < W.heap.size := fun x hx => by simpa using hW'.lt x (by simp [hx])
  have hlt3 : ∀ x ∈ p3, x.block < W.heap.size := fun x hx => by simpa using hW'.lt x (by simp [hx])
  have hw0 := byte_wf w0
  obtain ⟨n0, rfl⟩ : ∃ n : Nat, a0 = (n : Int) := ⟨a0.toNat, by omega⟩
  obtain ⟨xs1, rfl, hm1, hx1⟩ := arg_rows h1
  have hw2 := byte_wf w2
  obtain ⟨n2, rfl⟩ : ∃ n : Nat, a2 = (n : Int) := ⟨a2.toNat, by omega⟩
  obtain ⟨l3, rfl, hc3, hm3, hx3⟩ := arg_bytes h3
  refine (walk n0 n2 a1 a3 xs1 l3 cap1 cap3 W (by omega) (by omega) hx1 hm1 hx3 hm3 (tab_of_laid hlaid)).mono fun e W' ⟨he, bel⟩ => ?_
  subst he
  exact ⟨_, rfl, _, _, _, [], _, [], hW', trodAll_mk1 (shut_bool Tryz.underlying4 _), (trodAll_cons_mk (shut_int Tryz.underlying5 w0) (trodAll_cons_mk (Below.trod laidOut (by kernel_rfl) (of_decide_eq_true (by kernel_rfl)) h1 bel hlt1) (trodAll_cons_mk (shut_int Tryz.underlying5 w2) (trodAll_cons_mk (Below.trod laidOut (by kernel_rfl) (of_decide_eq_true (by kernel_rfl)) h3 bel hlt3) trodAll_mk0)))), rfl, bel.frame _, fun h => by cases h⟩

theorem over : Rows.walOpensAtRow.holds Tryz.pinned (OpenSpec.ofChange Rows.walOpensAtSpec) :=
  OpenClaim.holds_of_wide 6 Tryz.f6 rfl rfl rfl rfl rfl rfl rfl ⟨rfl, rfl, rfl, rfl, rfl⟩ rfl rfl rfl rfl rfl (by kernel_rfl) Tryz.func6 (by kernel_rfl)
    (of_decide_eq_true (by kernel_rfl)) (by unfold Func.isWrapper; first | (rw [if_pos (by decide +kernel)]; kernel_rfl) | (rw [if_neg (by decide +kernel)]; exact ⟨rfl, rfl⟩))
    (fun os started H enc _ => lifted os started H enc)

/-- the statement -/
theorem proved : Rows.WalOpensAtCardSaid :=
  Claim7.holds_tied_plain_at .later [] [.data, .data, .data] true Rows.walOpensAtCard.stood.harness false over (fun _ h => by cases h) (by kernel_rfl) (fun _ h => by cases h) walOpensAt_row_tie rfl ⟨rfl, rfl⟩ (by kernel_rfl) rfl
    (fun f fn hf hfn => by
      obtain rfl : f = 6 := Option.some.inj ((show Tryz.prog.funcNamed Rows.walOpensAtRow.func = some 6 by kernel_rfl).symm.trans hf) |>.symm
      obtain rfl : fn = Tryz.f6 := (Option.some.inj (Tryz.func6.symm.trans hfn)).symm
      exact ⟨by kernel_rfl, fun j t ht => by
        rw [Tryz.params6] at ht
        have hm : t ∈ [5, 23, 5, 31] := by simpa using Array.mem_of_getElem? ht
        have hall : ([5, 23, 5, 31].all fun u => !Tryz.prog.wantsStandIn u) = true := by kernel_rfl
        exact (show Tryz.prog.wantsStandIn t = false by simpa using List.all_eq_true.1 hall t hm)⟩)
    (by kernel_rfl)
#print axioms proved
end Go.Proofs.YtohnhboeipckjaaGreatDoor.walOpensAt
