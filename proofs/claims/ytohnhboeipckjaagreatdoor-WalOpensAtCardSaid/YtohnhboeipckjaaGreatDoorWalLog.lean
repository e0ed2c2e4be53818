/-
  What the log's Last, Sync, Roll, Append, Prune and Bytes answer while the store's power is there.
  Conditions: the log is one, its store's power is there and no fuse is set; Append: the numbers are not at their end, and there is room; Bytes: no segment has a number above the log's; the library's table of powers of ten holds what its text lays.
-/
import Derived.Test.YtohnhboeipckjaaGreatDoorWalOpen
import Derived.Test.YtohnhboeipckjaaGreatDoorRecPut
namespace Go.Proofs.YtohnhboeipckjaaGreatDoor
section
open Go.RowKit
attribute [local go_sem] Oper.semAt_some

theorem Sto.inX {w w' : World} {g q : Nat} {X : Nat → Prop} {s : St} (h : Sto w g X s) (hg : w.grownBy w' (some q)) (hq : X q) : Sto w' g X s :=
  (h.wideG hg (fun i e => by injection e with e; exact e ▸ hq)).less fun _ h => .inl h
theorem Lg.keep {w w' : World} {gl g : Nat} {X : Nat → Prop} {st st' : St} {size last : Nat} (h : Lg w gl g X st size last) (hk : Keep X w w') (hS : Sto w' g X st') : Lg w' gl g X st' size last :=
  ⟨(hk.block gl h.box.lt h.mine).trans h.box, h.mine, hS⟩
theorem Lg.below {w w' : World} {gl g : Nat} {X : Nat → Prop} {st : St} {size last : Nat} (h : Lg w gl g X st size last) (hb : Below w.heap.size w w') : Lg w' gl g X st size last := h.keep (Keep.of_below hb) (h.sto.below hb)
theorem Lg.wide {w w' : World} {gl g : Nat} {X : Nat → Prop} {st : St} {size last : Nat} (h : Lg w gl g X st size last) (hb : Below w.heap.size w w') : Lg w' gl g (fun i => X i ∨ w.heap.size ≤ i ∧ i < w'.heap.size) st size last :=
  ⟨((Keep.of_below (X := X) hb).block gl h.box.lt h.mine).trans h.box, .inl h.mine, h.sto.wide hb⟩
theorem Lg.less {w : World} {gl g : Nat} {X Y : Nat → Prop} {st : St} {size last : Nat} (h : Lg w gl g X st size last) (hY : ∀ i, Y i → X i) (hgl : Y gl) : Lg w gl g Y st size last := ⟨h.box, hgl, h.sto.less hY⟩
theorem Lg.cells {w : World} {gl g : Nat} {X : Nat → Prop} {st : St} {size last : Nat} (h : Lg w gl g X st size last) :
    w.cell? ⟨gl, 0, none⟩ = some (.pointer (some ⟨g, 0, none⟩)) ∧ w.cell? ⟨gl, 1, none⟩ = some (.int .i64 (size : Int)) ∧ w.cell? ⟨gl, 2, none⟩ = some (.int .i64 (last : Int)) := ⟨h.box.cell 0, h.box.cell 1, h.box.cell 2⟩
/-- all blocks of X but the log's own stay -/
abbrev KeepL (X : Nat → Prop) (gl : Nat) (w w' : World) : Prop := Keep (fun i => X i ∧ i ≠ gl) w w'
theorem Keep.log {X : Nat → Prop} {w w' : World} (h : Keep X w w') (gl : Nat) : KeepL X gl w w' := h.mono fun _ h => h.1
/-- the number is another one -/
theorem Lg.put {w : World} {gl g : Nat} {X : Nat → Prop} {st : St} {size last : Nat} (h : Lg w gl g X st size last) (n : Nat) : Lg (w.setCell ⟨gl, 2, none⟩ (.int .i64 (n : Int))) gl g X st size n ∧ KeepL X gl w (w.setCell ⟨gl, 2, none⟩ (.int .i64 (n : Int))) := by
  have hg := only_put (World.grownBy.refl w (some gl)) 2 (.int .i64 (n : Int))
  exact ⟨⟨h.box.put 2 _, h.mine, h.sto.inX hg h.mine⟩, (Keep.refl _ w).grown hg fun i e ⟨⟨_, h1⟩, _⟩ => by injection e with e; exact h1 e.symm⟩

theorem last_any (gl g : Nat) (X : Nat → Prop) (st : St) (size last : Nat) (w : World) (h : Lg w gl g X st size last) :
    Calls Tryz.prog 13 #[.pointer (some ⟨gl, 0, none⟩)] w fun e w' => e = .returned (.int .i64 (last : Int)) ∧ w = w' := by
  obtain ⟨_, _, h2⟩ := h.cells
  clear h
  go_enter Tryz.func13, Tryz.ntmps13
  go_wp2
  go_ret
  exact ⟨rfl, rfl⟩

set_option maxRecDepth 100000 in
set_option maxHeartbeats 2000000 in
theorem wsync_any (gl g : Nat) (X : Nat → Prop) (st : St) (size last : Nat) (w : World) (h : Lg w gl g X st size last) (hT : Tab w X) (hU : Up st) (hok : okN last) :
    Calls Tryz.prog 25 #[.pointer (some ⟨gl, 0, none⟩)] w fun e w' => e = .returned (.int .i64 0) ∧ Lg w' gl g X (st.with (syncF (segL last) st.fs)) size last ∧ Keep X w w' := by
  obtain ⟨h0, _, h2⟩ := h.cells
  have hgl := h.box.lt
  have bd := (Below.refl w.heap.size w).drew
  have HNM := Lib.hid (name_ok X w.drew (hT.below bd) hok)
  have hs := sync_up hU (segL last)
  obtain ⟨r, hr⟩ : ∃ r, r = if (lookBy Fl.name (segL last) st.fs).isSome = true then 0 else 7 := ⟨_, rfl⟩
  have hs : st.sync (segL last) = (st.with (syncF (segL last) st.fs), r) := by rw [hs, hr]
  have hr07 : r = 0 ∨ r = 7 := by rw [hr]; split <;> simp
  have HSY : ∀ w2, Below w.heap.size w w2 → Hid (Calls Tryz.prog 45 #[.pointer (some ⟨g, 0, none⟩), .string ⟨(segL last).toArray⟩] w2 fun e w' => e = .returned (.int .i64 (r : Int)) ∧ Lg w' gl g X (st.with (syncF (segL last) st.fs)) size last ∧ Keep X w w') := fun w2 hb => Lib.hid (by
    refine (sync_any g X st ⟨(segL last).toArray⟩ w2 (h.sto.below hb) (seg_size hok)).mono fun e w' hD => ?_
    obtain ⟨rfl, h1, h2⟩ := done_up hD hs rfl
    have hk := (Keep.of_below (X := X) hb).trans h2
    exact ⟨rfl, h.keep hk h1, hk⟩)
  clear h hT hU hok hs hr
  rcases hr07 with rfl | rfl
  all_goals
    go_enter Tryz.func25, Tryz.ntmps25
    go_wp2_with fail
    go_region_held3 (fun u => u.cell? ⟨gl, 0, none⟩ = some (.pointer (some ⟨g, 0, none⟩)) ∧ u.cell? ⟨gl, 2, none⟩ = some (.int .i64 (last : Int))) (first | exact ⟨h0, h2⟩ | exact ⟨d0, d2⟩ | exact ⟨(e0 : _), e2⟩ | assumption)
      (first
        | (go_at_call 18; (with_reducible refine HNM.out.mono ?_); rintro e w2 ⟨rfl, b2⟩; have hb2 := bd.trans b2; have d0 := (hb2.cell (p := ⟨gl, 0, none⟩) hgl).trans h0; have d2 := (hb2.cell (p := ⟨gl, 2, none⟩) hgl).trans h2)
        | (go_at_call 45; (with_reducible refine (HSY _ hb2).out.mono ?_); rintro e w3 ⟨rfl, hL3, hK3⟩; obtain ⟨e0, _, e2⟩ := hL3.cells))
    go_wp2
    go_ret
    exact ⟨rfl, hL3, hK3⟩
end

section
open Go.RowKit
attribute [local go_sem] Oper.semAt_some

theorem read_up {st : St} (hU : Up st) (x : List UInt8) : readE st x = if (lookBy Fl.name x st.fs).isSome = true then 0 else 7 := by
  unfold readE
  rw [hU.down]
  rfl
theorem readB_up {st : St} (hU : Up st) (x : List UInt8) : readB st x = (conF x st.fs).getD [] := by
  unfold readB conF
  rw [hU.down]
  rfl
theorem isSome_con (x : List UInt8) (fs : List Fl) : (lookBy Fl.name x fs).isSome = (conF x fs).isSome := by unfold conF; cases lookBy Fl.name x fs <;> rfl
/-- Read of a segment, from a world in which the log was -/
theorem read_seg (gl g : Nat) (X : Nat → Prop) (st : St) (size last n : Nat) (w w2 : World) (h : Lg w gl g X st size last) (hb : Below w.heap.size w w2) (hU : Up st) (hok : okN n) :
    Calls Tryz.prog 21 #[.pointer (some ⟨g, 0, none⟩), .string ⟨(segL n).toArray⟩] w2 fun e w' => ∃ A c, e = .returned (.tuple #[.slice A (lenF (segL n) st.fs) c, .int .i64 (((if (lookBy Fl.name (segL n) st.fs).isSome = true then 0 else 7 : Nat)) : Int)]) ∧ Below w.heap.size w w' ∧ Below w2.heap.size w2 w' := by
  refine (read_any g X st ⟨(segL n).toArray⟩ w2 (h.sto.below hb) (seg_size hok)).mono fun e w' hD => ?_
  obtain ⟨A, c, rfl, _, _, b⟩ := read_is hD
  rw [show (⟨(segL n).toArray⟩ : ByteArray).data.toList = segL n from rfl, read_up hU, readB_up hU]
  refine ⟨A, c, ?_, hb.trans (b.mono hb.size), b⟩
  unfold lenF
  cases conF (segL n) st.fs <;> rfl

set_option maxRecDepth 100000 in
set_option maxHeartbeats 2000000 in
theorem roll_any (gl g : Nat) (X : Nat → Prop) (st : St) (size last L : Nat) (w : World) (h : Lg w gl g X st size last) (hT : Tab w X) (hU : Up st) (hok : okN last) (hlt : last < 1073741824) (hL : L = if (lookBy Fl.name (segL last) st.fs).isSome = true then last + 1 else last) :
    Calls Tryz.prog 12 #[.pointer (some ⟨gl, 0, none⟩)] w fun e w' => e = .returned (.tuple #[.int .i64 (L : Int), .int .i64 0]) ∧ Lg w' gl g X (st.with (syncF (segL last) st.fs)) size L ∧ KeepL X gl w w' := by
  obtain ⟨h0, _, h2⟩ := h.cells
  have hgl := h.box.lt
  have bd := (Below.refl w.heap.size w).drew
  have HNM := Lib.hid (name_ok X w.drew (hT.below bd) hok)
  have HRD := fun w2 hb => Lib.hid (read_seg gl g X st size last last w w2 h hb hU hok)
  have HL := Lib.hid hL
  have H := Lib.hid h
  have HT := Lib.hid hT
  have HU := Lib.hid hU
  generalize lenF (segL last) st.fs = k at HRD
  by_cases hs : (lookBy Fl.name (segL last) st.fs).isSome = true
  · rw [hs] at HRD HL
    simp only [if_true] at HRD HL
    have hmx : ((last : Int) == 1073741824) = false := by simp; omega
    clear h hT hU hL hs
    go_enter Tryz.func12, Tryz.ntmps12
    go_wp2_with fail
    go_region_held3 (fun u => u.cell? ⟨gl, 0, none⟩ = some (.pointer (some ⟨g, 0, none⟩)) ∧ u.cell? ⟨gl, 2, none⟩ = some (.int .i64 (last : Int))) (first | exact ⟨h0, h2⟩ | exact ⟨d0, d2⟩ | exact ⟨e0, e2⟩ | assumption)
      (first
        | (go_at_call 18; (with_reducible refine HNM.out.mono ?_); rintro e w2 ⟨rfl, b2⟩; have hb2 := bd.trans b2; have d0 := (hb2.cell (p := ⟨gl, 0, none⟩) hgl).trans h0; have d2 := (hb2.cell (p := ⟨gl, 2, none⟩) hgl).trans h2)
        | (go_at_call 21; (with_reducible refine (HRD _ hb2).out.mono ?_); rintro e w3 ⟨A3, c3, rfl, hb3, _⟩; have e0 := (hb3.cell (p := ⟨gl, 0, none⟩) hgl).trans h0; have e2 := (hb3.cell (p := ⟨gl, 2, none⟩) hgl).trans h2))
    have HSY := Lib.hid (wsync_any gl g X st size last w3 (H.out.below hb3) (HT.out.below hb3) HU.out hok)
    go_wp2_with fail
    (with_reducible refine HSY.out.mono ?_)
    rintro e w4 ⟨rfl, hL4, hK4⟩
    obtain ⟨c0, _, c2⟩ := hL4.cells
    have f2 := hL4.box.frozen 2
    have hgl4 := hL4.box.lt
    have hpt := hL4.put (last + 1)
    rw [show ((last + 1 : Nat) : Int) = (last : Int) + 1 by omega] at hpt
    have hpc := hpt.1.cells.2.2
    rw [show ((last + 1 : Nat) : Int) = (last : Int) + 1 by omega] at hpc
    have HPT := Lib.hid hpt
    have HK4 := Lib.hid hK4
    have HB3 := Lib.hid hb3
    clear HSY hL4 hK4 hpt hb3 HRD HNM h0 h2 d0 d2 e0 e2 hb2 b2 bd
    go_wp2
    go_ret2
    refine ⟨by rw [HL.out]; rfl, ?_, ((Keep.of_below HB3.out).trans (HK4.out.log gl)).trans HPT.out.2⟩
    rw [HL.out]
    exact HPT.out.1
  · have hs2 : (lookBy Fl.name (segL last) st.fs).isSome = false := by simpa using hs
    rw [hs2] at HRD HL
    simp only [Bool.false_eq_true, if_false] at HRD HL
    have HSN : Hid (syncF (segL last) st.fs = st.fs) := Lib.hid (by
      unfold syncF
      cases hl : lookBy Fl.name (segL last) st.fs with
      | none => rfl
      | some f => rw [hl] at hs2; cases hs2)
    clear h hT hU hL hs hs2
    go_enter Tryz.func12, Tryz.ntmps12
    go_wp2_with fail
    go_region_held3 (fun u => u.cell? ⟨gl, 0, none⟩ = some (.pointer (some ⟨g, 0, none⟩)) ∧ u.cell? ⟨gl, 2, none⟩ = some (.int .i64 (last : Int))) (first | exact ⟨h0, h2⟩ | exact ⟨d0, d2⟩ | exact ⟨e0, e2⟩ | assumption)
      (first
        | (go_at_call 18; (with_reducible refine HNM.out.mono ?_); rintro e w2 ⟨rfl, b2⟩; have hb2 := bd.trans b2; have d0 := (hb2.cell (p := ⟨gl, 0, none⟩) hgl).trans h0; have d2 := (hb2.cell (p := ⟨gl, 2, none⟩) hgl).trans h2)
        | (go_at_call 21; (with_reducible refine (HRD _ hb2).out.mono ?_); rintro e w3 ⟨A3, c3, rfl, hb3, _⟩; have e0 := (hb3.cell (p := ⟨gl, 0, none⟩) hgl).trans h0; have e2 := (hb3.cell (p := ⟨gl, 2, none⟩) hgl).trans h2))
    go_wp2
    go_ret2
    refine ⟨by rw [HL.out]; rfl, ?_, (Keep.of_below hb3)⟩
    rw [HL.out, HSN.out, St.with_self]
    exact H.out.below hb3
end

section
open Go.RowKit
attribute [local go_sem] Oper.semAt_some

/-- the number behind an append -/
def lastS (size last : Nat) (fs : List Fl) : Nat := if size ≤ lenF (segL last) fs then last + 1 else last
/-- the files ahead of it, if it rolls -/
def rollS (size last : Nat) (fs : List Fl) : List Fl := if size ≤ lenF (segL last) fs then syncF (segL last) fs else fs
/-- the files behind it -/
def appS (size last : Nat) (fs : List Fl) (b : List UInt8) : List Fl := appF (segL (lastS size last fs)) (putL b) (rollS size last fs)
theorem used_sync {fs : List Fl} (h : Rise Fl.name fs) (x : List UInt8) : usedF (syncF x fs) = usedF fs ∧ (syncF x fs).length = fs.length := by
  unfold syncF
  cases hl : lookBy Fl.name x fs with
  | none => exact ⟨rfl, rfl⟩
  | some f =>
    have hn := (lookBy_some hl).2
    refine ⟨?_, ?_⟩
    · have := sum_putBy (fun f : Fl => f.bs.length) (f := ({ f with safe := f.bs.length, stays := true } : Fl)) h
      simp only [hn, hl, Option.map_some, Option.getD_some] at this
      unfold usedF
      simp only [hn]
      omega
    · simp only
      rw [len_put h]
      simp [hn, hl]

set_option maxRecDepth 100000 in
set_option maxHeartbeats 4000000 in
theorem wappend_any (gl g : Nat) (X : Nat → Prop) (st : St) (size last : Nat) (B : Option Addr) (b : List UInt8) (cb N : Nat) (w : World) (h : Lg w gl g X st size last) (hT : Tab w (fun i => X i ∧ i ≠ gl)) (hU : Up st) (hok : okN last) (hlt : last < 1073741824) (h1 : 1 ≤ size)
    (hby : Byt w w.heap.size B b) (hN : N = b.length) (hl : b.length ≤ 65536) (hrm : b.length + 13 ≤ st.cap - usedF st.fs) (hmn : st.fs.length < 256) :
    Calls Tryz.prog 11 #[.pointer (some ⟨gl, 0, none⟩), .slice B N cb] w fun e w' => e = .returned (.int .i64 0) ∧ Lg w' gl g X (st.with (appS size last st.fs b)) size (lastS size last st.fs) ∧ KeepL X gl w w' := by
  subst hN
  have hgl := h.box.lt
  have hmine := h.mine
  have HPU := Lib.hid (put_any B b cb w hby hl)
  have hri := h.sto.ok.rise
  have H := Lib.hid h
  have HT := Lib.hid hT
  have HU := Lib.hid hU
  have HUS := Lib.hid (used_sync hri (segL last))
  have hcapl : putL b = putL b := rfl
  have HPL := Lib.hid (putL_len b)
  clear hT hU hby hcapl
  go_enter Tryz.func11, Tryz.ntmps11
  go_wp2_with fail
  refine HPU.out.mono ?_
  rintro e W1 ⟨v1, rfl, hown1, b1⟩
  obtain ⟨A1, c1, rfl, hc1⟩ := own_form hown1
  obtain ⟨Y, hY⟩ : ∃ Y : Nat → Prop, Y = fun i => X i ∨ w.heap.size ≤ i ∧ i < W1.heap.size := ⟨_, rfl⟩
  have hXY : ∀ i, X i → Y i := fun i hi => by rw [hY]; exact .inl hi
  have hvY : ∀ i, (Value.slice A1 (b.length + 13) c1).ownBlock = some i → Y i ∧ i ≠ gl := fun i hi => by
    have h2 := hown1.lt i hi
    rw [hY]
    exact ⟨.inr ⟨h2.1, h2.2⟩, by omega⟩
  have hL1 : Lg W1 gl g Y st size last := by rw [hY]; exact h.wide b1
  have hT1 : Tab W1 (fun i => Y i ∧ i ≠ gl) := HT.out.on (Keep.of_below b1) (fun i hi => ⟨hXY i hi.1, hi.2⟩)
  obtain ⟨c0, c1', c2⟩ := hL1.cells
  have hgl1 := hL1.box.lt
  have bd := (Below.refl W1.heap.size W1).drew
  have HNM := Lib.hid (name_ok _ W1.drew (hT1.below bd) hok)
  have HRD := fun w2 hb => Lib.hid (read_seg gl g Y st size last last W1 w2 hL1 hb HU.out hok)
  have HL1 := Lib.hid hL1
  have HT1 := Lib.hid hT1
  have HO1 := Lib.hid hown1
  have HVY := Lib.hid hvY
  have HB1 := Lib.hid b1
  have HXY := Lib.hid hXY
  obtain ⟨r, hr⟩ : ∃ r, r = if (lookBy Fl.name (segL last) st.fs).isSome = true then 0 else 7 := ⟨_, rfl⟩
  have HIS : Hid (size ≤ lenF (segL last) st.fs → (lookBy Fl.name (segL last) st.fs).isSome = true) := Lib.hid fun hle => by
    rw [isSome_con]
    unfold lenF at hle
    cases e : conF (segL last) st.fs with
    | some _ => rfl
    | none => rw [e] at hle; simp at hle; omega
  obtain ⟨k, hk⟩ : ∃ k, k = lenF (segL last) st.fs := ⟨_, rfl⟩
  rw [← hk] at HIS HRD
  simp only [← hr] at HRD
  have HK := Lib.hid hk
  have HR := Lib.hid hr
  obtain ⟨n1, hn1⟩ : ∃ n1, n1 = b.length + 13 := ⟨_, rfl⟩
  rw [← hn1] at HO1 HVY ⊢
  have HN1 := Lib.hid hn1
  clear HPU hown1 hvY hY hL1 hT1 hXY h b1 hk hr hn1
  go_wp2_with fail
  go_region_held3 (fun u => u.cell? ⟨gl, 0, none⟩ = some (.pointer (some ⟨g, 0, none⟩)) ∧ u.cell? ⟨gl, 2, none⟩ = some (.int .i64 (last : Int))) (first | exact ⟨c0, c2⟩ | exact ⟨d0, d2⟩ | exact ⟨e0, e2⟩ | assumption)
    (first
      | (go_at_call 18; (with_reducible refine HNM.out.mono ?_); rintro e w2 ⟨rfl, b2⟩; have hb2 := bd.trans b2; have d0 := (hb2.cell (p := ⟨gl, 0, none⟩) hgl1).trans c0; have d2 := (hb2.cell (p := ⟨gl, 2, none⟩) hgl1).trans c2)
      | (go_at_call 21; (with_reducible refine (HRD _ hb2).out.mono ?_); rintro e w3 ⟨A3, c3, rfl, hb3, _⟩; have e0 := (hb3.cell (p := ⟨gl, 0, none⟩) hgl1).trans c0; have e1 := (hb3.cell (p := ⟨gl, 1, none⟩) hgl1).trans c1'; have e2 := (hb3.cell (p := ⟨gl, 2, none⟩) hgl1).trans c2))
  have HL3 := Lib.hid (HL1.out.below hb3)
  have HT3 := Lib.hid (HT1.out.below hb3)
  have HO3 := Lib.hid (own_below HO1.out hb3)
  have HK3 := Lib.hid (Keep.of_below (X := Y) hb3)
  clear HRD HNM c0 c1' c2 d0 d2 hb2 b2 bd hb3 HL1 HT1 HO1
  by_cases hro : size ≤ k
  case' pos =>
    have hdz : decide ((size : Int) ≤ (k : Int)) = true := by simpa using hro
    obtain ⟨L4, hL4⟩ : ∃ L4, L4 = last + 1 := ⟨_, rfl⟩
    have HRO := Lib.hid (roll_any gl g Y st size last L4 w3 HL3.out (HT3.out.more (fun i hi => hi.1)) HU.out hok hlt (by rw [HIS.out hro, if_pos rfl]; exact hL4))
    have hok4 : okN L4 := ⟨by omega, by omega⟩
    have HSS : Hid (lastS size last st.fs = L4 ∧ rollS size last st.fs = syncF (segL last) st.fs) := Lib.hid (by
      unfold lastS rollS
      rw [← HK.out, if_pos hro, if_pos hro]
      exact ⟨hL4.symm, rfl⟩)
    clear hL4
    go_wp2_with fail
    (with_reducible refine HRO.out.mono ?_)
    rintro e w4 ⟨rfl, hL4, hK4⟩
    have HL4 : Hid (Lg w4 gl g Y (st.with (rollS size last st.fs)) size L4) := Lib.hid (by rw [HSS.out.2]; exact hL4)
    have HT4 : Hid (Tab w4 (fun i => Y i ∧ i ≠ gl)) := Lib.hid (HT3.out.on hK4 (fun _ h => h))
    have HO4 := Lib.hid (own_keep HO3.out (fun i hi => HVY.out i hi) hK4)
    have HK4 : Hid (KeepL Y gl W1 w4) := Lib.hid ((HK3.out.log gl).trans hK4)
    have HLS : Hid (lastS size last st.fs = L4) := Lib.hid HSS.out.1
    clear HRO e0 e1 e2 hL4 hK4 HSS HK3 HO3 HT3 HL3
    go_wp2_with fail
  case' neg =>
    have hdz : decide ((size : Int) ≤ (k : Int)) = false := by simpa using hro
    obtain ⟨w4, hw4⟩ : ∃ w4, w4 = w3 := ⟨_, rfl⟩
    obtain ⟨L4, hL4⟩ : ∃ L4, L4 = last := ⟨_, rfl⟩
    have HLS : Hid (lastS size last st.fs = L4) := Lib.hid (by unfold lastS; rw [← HK.out, if_neg hro]; exact hL4.symm)
    have HL4 : Hid (Lg w4 gl g Y (st.with (rollS size last st.fs)) size L4) := Lib.hid (by unfold rollS; rw [← HK.out, if_neg hro, hw4, hL4]; exact HL3.out)
    have HT4 : Hid (Tab w4 (fun i => Y i ∧ i ≠ gl)) := Lib.hid (by rw [hw4]; exact HT3.out)
    have HO4 : Hid (w4.ownsRow w.heap.size 5 1 (.slice A1 n1 c1) n1 (cellsB (putL b))) := Lib.hid (by rw [hw4]; exact HO3.out)
    have HK4 : Hid (KeepL Y gl W1 w4) := Lib.hid (by rw [hw4]; exact HK3.out.log gl)
    have hok4 : okN L4 := by rw [hL4]; exact hok
    rw [← hw4] at e0 e1 e2 ⊢
    clear HK3 HO3 HT3 HL3 hw4 hL4
    go_wp2_with fail
    clear e0 e1 e2
  all_goals
    obtain ⟨c0, _, c2⟩ := HL4.out.cells
    have hgl4 := HL4.out.box.lt
    have bd := (Below.refl w4.heap.size w4).drew
    have HNM := Lib.hid (name_ok _ w4.drew (HT4.out.below bd) hok4)
    have hfs : usedF (rollS size last st.fs) = usedF st.fs ∧ (rollS size last st.fs).length = st.fs.length := by
      unfold rollS
      split
      · exact HUS.out
      · exact ⟨rfl, rfl⟩
    have hap := app_up (HU.out.with (rollS size last st.fs)) (x := segL L4) (b := putL b) (seg_name hok4) (fun _ => by show (rollS size last st.fs).length < 256; rw [hfs.2]; exact hmn) (by rw [HPL.out]; show _ ≤ st.cap - usedF (rollS size last st.fs); rw [hfs.1]; exact hrm)
    have HAP : ∀ w5, Below w4.heap.size w4 w5 → Hid (Calls Tryz.prog 17 #[.pointer (some ⟨g, 0, none⟩), .string ⟨(segL L4).toArray⟩, .slice A1 n1 c1] w5 fun e w' => e = .returned (.int .i64 0) ∧ Lg w' gl g Y (st.with (appF (segL L4) (putL b) (rollS size last st.fs))) size L4 ∧ Keep Y w4 w') := fun w5 hb => Lib.hid (by
      have hby := Byt.own (own_below HO4.out hb)
      have hn : n1 = (putL b).length := by rw [HPL.out]; exact HN1.out
      rw [hn]
      refine (append_any g Y _ ⟨(segL L4).toArray⟩ A1 (putL b) c1 w5 (HL4.out.sto.below hb) (seg_size hok4) hby).mono fun e w' hD => ?_
      rw [show (⟨(segL L4).toArray⟩ : ByteArray).data.toList = segL L4 from rfl] at hD
      obtain ⟨rfl, h1, h2⟩ := done_up hD hap rfl
      have hk := (Keep.of_below (X := Y) hb).trans h2
      exact ⟨rfl, HL4.out.keep hk h1, hk⟩)
    clear hfs hap
    go_region_held3 (fun u => u.cell? ⟨gl, 0, none⟩ = some (.pointer (some ⟨g, 0, none⟩)) ∧ u.cell? ⟨gl, 2, none⟩ = some (.int .i64 (L4 : Int))) (first | exact ⟨c0, c2⟩ | exact ⟨d0, d2⟩ | exact ⟨e0, e2⟩ | assumption)
      (first
        | (go_at_call 18; (with_reducible refine HNM.out.mono ?_); rintro e w5 ⟨rfl, b5⟩; have hb5 := bd.trans b5; have d0 := (hb5.cell (p := ⟨gl, 0, none⟩) hgl4).trans c0; have d2 := (hb5.cell (p := ⟨gl, 2, none⟩) hgl4).trans c2)
        | (go_at_call 17; (with_reducible refine (HAP _ hb5).out.mono ?_); rintro e w6 ⟨rfl, hL6, hK6⟩; obtain ⟨e0, _, e2⟩ := hL6.cells))
    go_wp2
    go_ret
    refine ⟨rfl, ?_, ?_⟩
    · unfold appS
      rw [HLS.out]
      exact hL6.less (fun i hi => HXY.out i hi) hmine
    · have h1 : KeepL Y gl w w6 := (((Keep.of_below HB1.out).trans HK4.out).trans (hK6.log gl))
      exact h1.mono fun i hi => ⟨HXY.out i hi.1, hi.2⟩
end

section
open Go.RowKit
attribute [local go_sem] Oper.semAt_some

theorem sorted_take {ns : List Nat} (h : ns.Pairwise (· < ·)) (n : Nat) : ns.take (ns.countP fun x => decide (x < n)) = ns.filter fun x => decide (x < n) := by
  induction ns with
  | nil => rfl
  | cons a t ih =>
    obtain ⟨h1, h2⟩ := List.pairwise_cons.1 h
    by_cases ha : a < n
    · rw [List.countP_cons_of_pos (by simpa using ha), List.filter_cons_of_pos (by simpa using ha), List.take_succ_cons, ih h2]
    · have hz : t.countP (fun x => decide (x < n)) = 0 := List.countP_eq_zero.2 fun x hx => by have := h1 x hx; simp; omega
      have hf : t.filter (fun x => decide (x < n)) = [] := List.filter_eq_nil_iff.2 fun x hx => by have := h1 x hx; simp; omega
      rw [List.countP_cons_of_neg (by simpa using ha), List.filter_cons_of_neg (by simpa using ha), hz, hf, List.take_zero]
theorem prune_no (gl g : Nat) (X : Nat → Prop) (st : St) (size last n : Nat) (w : World) (h : Lg w gl g X st size last) (hn : last < n) :
    Calls Tryz.prog 14 #[.pointer (some ⟨gl, 0, none⟩), .int .i64 (n : Int)] w fun e w' => e = .returned (.int .i64 1) ∧ w = w' := by
  obtain ⟨_, _, h2⟩ := h.cells
  clear h
  go_enter Tryz.func14, Tryz.ntmps14
  go_wp2
  go_ret
  exact ⟨rfl, rfl⟩
/-- the files behind a pruning -/
structure PrunedTo (fs : List Fl) (n : Nat) (fs' : List Fl) : Prop where
  look : ∀ m, okN m → lookBy Fl.name (segL m) fs' = if m < n then none else lookBy Fl.name (segL m) fs
  fewer : Fewer fs fs'
theorem pruned_of {fs : List Fl} (hr : Rise Fl.name fs) {ns : List Nat} (hs : SegsIs fs ns) (n : Nat) : PrunedTo fs n (delN (ns.take (ns.countP fun x => decide (x < n))) fs) := by
  rw [sorted_take hs.rise]
  refine ⟨fun m hm => ?_, fewer_delN (fun k hk => ((hs.mem hr).1 (List.mem_filter.1 hk).1).1) fs⟩
  rw [look_delN]
  by_cases hlt : m < n
  · rw [if_pos hlt]
    split
    · rfl
    · rename_i hno
      cases hl : lookBy Fl.name (segL m) fs with
      | none => rfl
      | some f => exact absurd (List.mem_map.2 ⟨m, List.mem_filter.2 ⟨(hs.mem hr).2 ⟨hm, by rw [hl]; rfl⟩, by simpa using hlt⟩, rfl⟩) hno
  · rw [if_neg hlt, if_neg]
    intro h
    obtain ⟨k, hk, e⟩ := List.mem_map.1 h
    obtain ⟨h1, h2⟩ := List.mem_filter.1 hk
    have := seg_inj ((hs.mem hr).1 h1).1 hm e
    subst this
    exact hlt (by simpa using h2)

set_option maxRecDepth 100000 in
set_option maxHeartbeats 2000000 in
theorem prune_ok (gl g : Nat) (X : Nat → Prop) (st : St) (size last n : Nat) (w : World) (h : Lg w gl g X st size last) (hT : Tab w X) (hU : Up st) (hn : n ≤ last) :
    Calls Tryz.prog 14 #[.pointer (some ⟨gl, 0, none⟩), .int .i64 (n : Int)] w fun e w' => ∃ fs', e = .returned (.int .i64 0) ∧ Lg w' gl g X (st.with fs') size last ∧ PrunedTo st.fs n fs' ∧ Keep X w w' := by
  obtain ⟨c0, _, c2⟩ := h.cells
  have hgl := h.box.lt
  have HDN := Lib.hid (down_any g X st w h.sto)
  rw [hU.down] at HDN
  have HSG := Lib.hid (segments_any g X st w h.sto hU.down)
  have hmany := h.sto.ok.many
  have hri := h.sto.ok.rise
  have HRI := Lib.hid hri
  have H := Lib.hid h
  have HT := Lib.hid hT
  have HU := Lib.hid hU
  clear h hT hU hri
  go_enter Tryz.func14, Tryz.ntmps14
  go_wp2_with fail
  (with_reducible refine HDN.out.mono ?_)
  rintro e W0 ⟨rfl, rfl⟩
  go_wp2_with fail
  refine HSG.out.mono ?_
  rintro e W1 ⟨A, c, ns, rfl, hc, hsg, hN, b1⟩
  have hlen := hsg.len
  obtain ⟨N, hNe⟩ : ∃ N, N = ns.length := ⟨_, rfl⟩
  obtain ⟨F, hF⟩ : ∃ F, F = ns.countP fun x => decide (x < n) := ⟨_, rfl⟩
  have hFN : F ≤ N := by rw [hF, hNe]; exact List.countP_le_length
  have hth := there_take HRI.out hsg (F := F) (k := ns.length) (by omega)
  rw [List.drop_length, delN_nil] at hth
  have hpr := pruned_of HRI.out hsg n
  rw [← hF] at hpr
  have bd := (Below.refl W1.heap.size W1).drew
  have HBL := Lib.hid (below_b A ns c n F N _ W1.drew (hN.keep (Keep.of_below bd)) hsg.rise (by omega) hF hNe)
  obtain ⟨Y, hY⟩ : ∃ Y : Nat → Prop, Y = fun i => X i ∨ w.heap.size ≤ i ∧ i < W1.heap.size := ⟨_, rfl⟩
  have hXY : ∀ i, X i → Y i := fun i hi => by rw [hY]; exact .inl hi
  have hL1 : Lg W1 gl g Y st size last := by rw [hY]; exact H.out.wide b1
  have hN1 : Nums W1 Y A (ns.take F) := (hN.more (fun i hi => by rw [hY]; exact .inr hi)).take F
  have hlF : (ns.take F).length = F := by rw [List.length_take]; omega
  have hc1 := (b1.cell (p := ⟨gl, 0, none⟩) hgl).trans c0
  have hgl1 := hL1.box.lt
  have hsl := fun w => cutI_to w A N c F (by omega)
  have HRM : ∀ w2, Below W1.heap.size W1 w2 → Hid (Calls Tryz.prog 33 #[.pointer (some ⟨g, 0, none⟩), .slice A F c] w2 fun e w' => e = .returned (.int .i64 0) ∧ Lg w' gl g Y (st.with (delN (ns.take F) st.fs)) size last ∧ Keep Y W1 w') := fun w2 hb => Lib.hid (by
    have h := wremove_any g Y st A (ns.take F) c w2 (hL1.sto.below hb) ((HT.out.on (Keep.of_below b1) hXY).below hb) HU.out (hN1.keep (Keep.of_below hb)) hth (by omega)
    rw [hlF] at h
    refine h.mono ?_
    rintro e w' ⟨rfl, h1, h2⟩
    have hk := (Keep.of_below (X := Y) hb).trans h2
    exact ⟨rfl, hL1.keep hk h1, hk⟩)
  rw [← hNe]
  have HXY := Lib.hid hXY
  have HPR := Lib.hid hpr
  have HB1 := Lib.hid b1
  have hmi := H.out.mine
  clear HSG HDN hlen hth hpr hN hNe hF hsg hY hXY hL1 hN1 hlF b1 c0 c2 H
  go_wp2_with fail
  go_region_held3 (fun u => u.cell? ⟨gl, 0, none⟩ = some (.pointer (some ⟨g, 0, none⟩))) (first | exact hc1 | exact d0 | exact e0 | assumption)
    (first
      | (go_at_call 34; (with_reducible refine HBL.out.mono ?_); rintro e w2 ⟨rfl, b2⟩; have hb2 := bd.trans b2; have d0 := (hb2.cell (p := ⟨gl, 0, none⟩) hgl1).trans hc1)
      | (go_at_call 33; (with_reducible refine (HRM _ hb2).out.mono ?_); rintro e w3 ⟨rfl, hL3, hK3⟩; obtain ⟨e0, _, _⟩ := hL3.cells))
  go_wp2
  go_ret
  exact ⟨_, rfl, hL3.less HXY.out hmi, HPR.out, (Keep.of_below HB1.out).trans (hK3.mono HXY.out)⟩

theorem sum_take_le (l : List Nat) (k : Nat) : (l.take k).sum ≤ l.sum := by
  have := congrArg List.sum (List.take_append_drop k l)
  rw [List.sum_append] at this
  omega
theorem seg_used (fs : List Fl) : segBytes fs ≤ usedF fs := by
  unfold segBytes usedF
  induction fs with
  | nil => simp
  | cons f l ih =>
    rw [List.map_cons, List.map_cons, List.sum_cons, List.sum_cons]
    split <;> omega

set_option maxRecDepth 100000 in
set_option maxHeartbeats 4000000 in
theorem bytes_any (gl g : Nat) (X : Nat → Prop) (st : St) (size last : Nat) (w : World) (h : Lg w gl g X st size last) (hT : Tab w X) (hU : Up st) (hlt : last ≤ 1073741824) (hall : ∀ m, okN m → (lookBy Fl.name (segL m) st.fs).isSome = true → m ≤ last) :
    Calls Tryz.prog 15 #[.pointer (some ⟨gl, 0, none⟩)] w fun e w' => e = .returned (.int .i64 (segBytes st.fs : Int)) ∧ Below w.heap.size w w' := by
  obtain ⟨c0, _, c2⟩ := h.cells
  have hgl := h.box.lt
  have HSG := Lib.hid (segments_any g X st w h.sto hU.down)
  have hmany := h.sto.ok.many
  have hri := h.sto.ok.rise
  have HRI := Lib.hid hri
  have H := Lib.hid h
  have HT := Lib.hid hT
  have HU := Lib.hid hU
  have HALL := Lib.hid hall
  have htot : segBytes st.fs ≤ 16777216 := by
    have h1 := seg_used st.fs
    have h2 := h.sto.ok.used
    have h3 := h.sto.ok.cap
    omega
  clear h hT hU hri hall
  go_enter Tryz.func15, Tryz.ntmps15
  go_wp2_with fail
  refine HSG.out.mono ?_
  rintro e W1 ⟨A, c, ns, rfl, hc, hsg, hN, b1⟩
  have hlen := hsg.len
  obtain ⟨N, hNe⟩ : ∃ N, N = ns.length := ⟨_, rfl⟩
  have hF : N = ns.countP fun x => decide (x < last + 1) := by
    rw [hNe]
    exact (List.countP_eq_length.2 fun m hm => by
      obtain ⟨h1, h2⟩ := (hsg.mem HRI.out).1 hm
      have := HALL.out m h1 h2
      simp
      omega).symm
  have HBL := Lib.hid (below_b A ns c (last + 1) N N _ W1 hN hsg.rise (by omega) hF hNe)
  rw [show ((last + 1 : Nat) : Int) = (last : Int) + 1 by omega] at HBL
  have hc1 := (b1.cell (p := ⟨gl, 0, none⟩) hgl).trans c0
  have hc2 := (b1.cell (p := ⟨gl, 2, none⟩) hgl).trans c2
  have hsl := fun w => cutI_to w A N c N (by omega)
  have HN := Lib.hid hN
  have HB1 := Lib.hid b1
  have HE := Lib.hid hNe
  have HSE := Lib.hid hsg
  obtain ⟨T, hTe⟩ : ∃ T, T = segBytes st.fs := ⟨_, rfl⟩
  have HS : Hid ((ns.map fun n => lenF (segL n) st.fs).sum = T) := Lib.hid (by rw [hTe]; exact sum_segs HRI.out hsg)
  have hN256 : N ≤ 256 := by omega
  rw [← hTe] at htot
  rw [← hNe]
  have HTE := Lib.hid hTe
  clear HSG hlen hN hNe hF hsg b1 c0 c2 hmany hTe
  go_wp2_with fail
  (with_reducible refine HBL.out.mono ?_)
  rintro e W2 ⟨rfl, b2⟩
  have HB2 := Lib.hid b2
  clear HBL b2 hc1 hc2
  go_wp2_with fail
  go_loopw [3, 24] (fun v p wr => ∃ k s : Nat, v = .int .i64 s ∧ p = .int .i64 k ∧ k ≤ N ∧ s ≤ T ∧ Hid (s = ((ns.take k).map fun n => lenF (segL n) st.fs).sum) ∧ Hid (Below W1.heap.size W1 wr)) (fun _ p _ => N - (intOf p).toNat)
  case atStart => exact ⟨0, 0, rfl, rfl, by omega, by omega, Lib.hid (by simp), HB2⟩
  case round =>
    obtain ⟨k, s, rfl, rfl, hk, hs, HSU, HBW⟩ := hrel
    by_cases hltk : k < N
    · have hkn : k < ns.length := by rw [← HE.out]; exact hltk
      obtain ⟨b0, o0, rfl, _, hb0, hcell⟩ := (HN.out.keep (Keep.of_below HBW.out)).get hkn
      have hok := ((HSE.out.mem HRI.out).1 (List.getElem_mem hkn)).1
      have HSN : Hid (((ns.take (k + 1)).map fun n => lenF (segL n) st.fs).sum = s + lenF (segL ns[k]) st.fs) := Lib.hid (by
        rw [List.take_succ_eq_append_getElem hkn, List.map_append, List.sum_append, ← HSU.out]
        simp)
      have hle : s + lenF (segL ns[k]) st.fs ≤ T := by
        rw [← HSN.out, List.map_take, ← HS.out]
        exact sum_take_le _ _
      have hbw := HB1.out.trans (HBW.out.mono HB1.out.size)
      have HL := Lib.hid (H.out.below hbw)
      have hcl := HL.out.cells.1
      have hglr := HL.out.box.lt
      have bd := (Below.refl wr.heap.size wr).drew
      have HRD : ∀ w2, Below wr.heap.size wr w2 → Hid (Calls Tryz.prog 21 #[.pointer (some ⟨g, 0, none⟩), .string ⟨(segL ns[k]).toArray⟩] w2 fun e w' => ∃ (A : Option Addr) (c : Nat) (r : Nat), e = .returned (.tuple #[.slice A (lenF (segL ns[k]) st.fs) c, .int .i64 (r : Int)]) ∧ Below wr.heap.size wr w') := fun w2 hb => Lib.hid (by
        refine (read_seg gl g X st size last ns[k] wr w2 HL.out hb HU.out hok).mono ?_
        rintro e w' ⟨A, c, rfl, h1, _⟩
        exact ⟨A, c, _, rfl, h1⟩)
      have HNM := Lib.hid (name_ok X wr.drew ((HT.out.below hbw).below bd) hok)
      generalize lenF (segL ns[k]) st.fs = q at *
      generalize ns[k] = n at *
      clear hok hbw
      go_wp2_with fail
      go_region_held3 (fun u => u.cell? ⟨gl, 0, none⟩ = some (.pointer (some ⟨g, 0, none⟩))) (first | exact hcl | exact d0 | exact e0 | assumption)
        (first
          | (go_at_call 18; (with_reducible refine HNM.out.mono ?_); rintro e w2 ⟨rfl, b2⟩; have hb2 := bd.trans b2; have d0 := (hb2.cell (p := ⟨gl, 0, none⟩) hglr).trans hcl)
          | (go_at_call 21; (with_reducible refine (HRD _ hb2).out.mono ?_); rintro e w3 ⟨A3, c3, r3, rfl, hb3⟩; have e0 := (hb3.cell (p := ⟨gl, 0, none⟩) hglr).trans hcl))
      have hbs := HBW.out.size
      go_wp2
      go_roundw
      case rel => exact ⟨k + 1, s + q, by go_num, by go_num, by omega, hle, Lib.hid HSN.out.symm, Lib.hid (HBW.out.trans (hb3.mono hbs))⟩
      case measure => simp [intOf]; omega
    · obtain rfl : k = N := by omega
      have hfin : s = T := by rw [HSU.out, List.take_of_length_le (by rw [← HE.out]; exact Nat.le_refl _), HS.out]
      have HFI := Lib.hid hfin
      clear hfin
      go_wp2
      go_ret
      exact ⟨ret_int (by rw [HFI.out, HTE.out]), HB1.out.trans (HBW.out.mono HB1.out.size)⟩
end
end Go.Proofs.YtohnhboeipckjaaGreatDoor
