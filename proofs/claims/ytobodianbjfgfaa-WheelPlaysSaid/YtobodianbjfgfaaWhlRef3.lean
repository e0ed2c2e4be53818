/-
  What the document's Go answers: the timers that go, in their order, and those that stay.
  Conditions: at most 300 timers, by rising handles.
-/
import Derived.Test.YtobodianbjfgfaaWhlRef2
namespace Go.Proofs.Ytobodianbjfgfaa.Wh
open Go.RowKit

/-- zs have gone, ys are left -/
structure Sel (xs zs ys : List T) (to : Nat) : Prop where
  perm : (zs ++ ys).Perm xs
  ord : zs.Pairwise ord
  left : ∀ z ∈ zs, z.due ≤ to ∧ ∀ y ∈ ys, Wh.ord z y
  rise : ys.Pairwise fun x y => x.h < y.h
theorem Sel.start {xs : List T} (hr : xs.Pairwise fun x y => x.h < y.h) (to : Nat) : Sel xs [] xs to := ⟨.refl _, .nil, fun _ hz => absurd hz List.not_mem_nil, hr⟩
theorem FstIn.first {xs : List T} {k : Nat} (h : FstIn xs xs.length k) (hr : xs.Pairwise fun x y => x.h < y.h) : ∀ y ∈ xs, y = tth xs k ∨ ord (tth xs k) y := fun y hy => by
  obtain ⟨j, hj, rfl⟩ := List.mem_iff_getElem.1 hy
  rw [← tth_get hj]
  unfold ord
  rcases Nat.lt_trichotomy j k with h1 | h1 | h1
  · have := h.ahead j h1; omega
  · subst h1; exact .inl rfl
  · have := h.behind j (by omega) hj
    have := rise_tth hr h1 hj
    omega
theorem parts {ys : List T} {k : Nat} (hk : k < ys.length) : ys = ys.take k ++ tth ys k :: ys.drop (k + 1) := by
  rw [tth_get hk, ← List.drop_eq_getElem_cons hk, List.take_append_drop]
theorem Sel.next {xs zs ys : List T} {to : Nat} (h : Sel xs zs ys to) {k : Nat} (hf : FstIn ys ys.length k) (hd : (tth ys k).due ≤ to) : Sel xs (zs ++ [tth ys k]) (ys.take k ++ ys.drop (k + 1)) to := by
  have hk := hf.lt
  have hfo := hf.first h.rise
  have e := parts hk
  have hsub : (ys.take k ++ ys.drop (k + 1)).Sublist ys := by
    conv => rhs; rw [e]
    exact List.Sublist.append (List.Sublist.refl _) (List.sublist_cons_self _ _)
  have hm : tth ys k ∈ ys := by rw [tth_get hk]; exact List.getElem_mem _
  refine ⟨?_, ?_, fun z hz => ?_, h.rise.sublist hsub⟩
  · refine List.Perm.trans ?_ h.perm
    rw [List.append_assoc]
    refine List.Perm.append (List.Perm.refl _) ?_
    conv => rhs; rw [e]
    show (tth ys k :: (ys.take k ++ ys.drop (k + 1))).Perm _
    exact List.perm_middle.symm
  · rw [List.pairwise_append]
    refine ⟨h.ord, by simp, fun z hz y hy => ?_⟩
    rw [List.mem_singleton.1 hy]
    exact (h.left z hz).2 _ hm
  · rcases List.mem_append.1 hz with hz | hz
    · exact ⟨(h.left z hz).1, fun y hy => (h.left z hz).2 y (hsub.subset hy)⟩
    · rw [List.mem_singleton.1 hz]
      refine ⟨hd, fun y hy => ?_⟩
      rcases hfo y (hsub.subset hy) with e1 | e1
      · exfalso
        have hn : (ys.map T.h).Nodup := by
          rw [List.Nodup, List.pairwise_map]
          exact h.rise.imp fun h => by omega
        rw [e, List.map_append, List.map_cons] at hn
        have hn2 := (List.perm_middle.nodup_iff).1 hn
        rw [List.nodup_cons] at hn2
        refine hn2.1 ?_
        rw [← List.map_append]
        exact List.mem_map.2 ⟨y, hy, by rw [e1]⟩
      · exact e1
theorem Sel.done {xs zs ys : List T} {to : Nat} (h : Sel xs zs ys to) (hr : xs.Pairwise fun x y => x.h < y.h) (hd : ∀ y ∈ ys, to < y.due) : Gone xs to zs ∧ ys = stays xs to := by
  have e1 : zs.filter (fun x => decide (x.due ≤ to)) = zs := List.filter_eq_self.2 fun z hz => decide_eq_true (h.left z hz).1
  have e2 : ys.filter (fun x => decide (x.due ≤ to)) = [] := List.filter_eq_nil_iff.2 fun y hy => by have := hd y hy; simp; omega
  have e3 : zs.filter (fun x => decide (to < x.due)) = [] := List.filter_eq_nil_iff.2 fun z hz => by have := (h.left z hz).1; simp; omega
  have e4 : ys.filter (fun x => decide (to < x.due)) = ys := List.filter_eq_self.2 fun y hy => decide_eq_true (hd y hy)
  have p1 := h.perm.filter fun x => decide (x.due ≤ to)
  have p2 := h.perm.filter fun x => decide (to < x.due)
  rw [List.filter_append, e1, e2, List.append_nil] at p1
  rw [List.filter_append, e3, e4, List.nil_append] at p2
  exact ⟨⟨p1, h.ord⟩, p2.eq_of_pairwise (fun a b _ _ h1 h2 => by omega) h.rise (hr.filter _)⟩
theorem FstIn.late {ys : List T} {k to : Nat} (h : FstIn ys ys.length k) (hd : to < (tth ys k).due) : ∀ y ∈ ys, to < y.due := fun y hy => by
  obtain ⟨j, hj, rfl⟩ := List.mem_iff_getElem.1 hy
  rw [← tth_get hj]
  rcases Nat.lt_or_ge j k with h1 | h1
  · have := h.ahead j h1
    omega
  · have := h.behind j h1 hj
    omega
/-- what the document's Go answers -/
def RGoEnd (w : World) (A0 : Option Addr) (xs : List T) (to : Nat) (e : Ending) (w' : World) : Prop :=
  ∃ v1 A c ts, e = .returned (.tuple #[v1, .slice A (stays xs to).length c]) ∧ Gone xs to ts ∧ w'.ownsRow w.heap.size 34 3 v1 ts.length (cellsT ts) ∧ w'.ownsRow 0 34 3 (.slice A (stays xs to).length c) (stays xs to).length (cellsT (stays xs to)) ∧ Below w.heap.size w w' ∧ (A = A0 ∨ ∀ b o s, A = some ⟨b, o, s⟩ → w.heap.size ≤ b)
/-- where its loop stands -/
structure GoL (w wr : World) (A0 : Option Addr) (xs : List T) (to : Nat) (zs ys : List T) (v : Value) (A : Option Addr) (c : Nat) : Prop where
  bel : Below w.heap.size w wr
  sel : Sel xs zs ys to
  own : wr.ownsRow 0 34 3 (.slice A ys.length c) ys.length (cellsT ys)
  row : wr.ownsRow w.heap.size 34 3 v zs.length (cellsT zs)
  ne : ys ≠ [] → ∀ b o s, A = some ⟨b, o, s⟩ → v.ownBlock ≠ some b
  pl : A = A0 ∨ ∀ b o s, A = some ⟨b, o, s⟩ → w.heap.size ≤ b
theorem own_form3 {w : World} {base : Nat} {e : TypeId} {size : Nat} {v : Value} {n : Nat} {xs : List Value} (h : w.ownsRow base e size v n xs) : ∃ A c, v = .slice A n c ∧ n ≤ c := by
  rcases h.2 with ⟨rfl, rfl⟩ | ⟨g, cap, cur, rfl, _, _, hc, _⟩
  · exact ⟨none, 0, rfl, Nat.le_refl _⟩
  · exact ⟨_, cap, rfl, hc⟩
theorem GoL.tim {w wr : World} {A0 : Option Addr} {xs : List T} {to : Nat} {zs ys : List T} {v : Value} {A : Option Addr} {c : Nat} (h : GoL w wr A0 xs to zs ys v A c) : Tims wr wr.heap.size A ys := Tims.own h.own
theorem GoL.cap {w wr : World} {A0 : Option Addr} {xs : List T} {to : Nat} {zs ys : List T} {v : Value} {A : Option Addr} {c : Nat} (h : GoL w wr A0 xs to zs ys v A c) : ys.length ≤ c := by
  obtain ⟨A', c', e, hc⟩ := own_form3 h.own
  injection e with _ _ e
  omega
theorem own_to0 {w : World} {base : Nat} {e : TypeId} {size : Nat} {v : Value} {n : Nat} {xs : List Value} (h : w.ownsRow base e size v n xs) : w.ownsRow 0 e size v n xs := by
  refine ⟨h.1, h.2.imp id ?_⟩
  rintro ⟨g, cap, cur, hv, _, r⟩
  exact ⟨g, cap, cur, hv, Nat.zero_le _, r⟩
theorem GoL.drewN {w wr : World} {A0 : Option Addr} {xs : List T} {to : Nat} {zs ys : List T} {v : Value} {A : Option Addr} {c : Nat} (h : GoL w wr A0 xs to zs ys v A c) (q : Nat) : GoL w (wr.drewN q) A0 xs to zs ys v A c :=
  ⟨⟨h.bel.os, h.bel.tape, h.bel.output, h.bel.size, h.bel.block⟩, h.sel, h.own, h.row, h.ne, h.pl⟩
/-- a timer gone -/
theorem GoL.on {w wr w3 : World} {A0 : Option Addr} {xs : List T} {to : Nat} {zs ys : List T} {v v' : Value} {A : Option Addr} {c k : Nat} {o : Obj} (h : GoL w wr A0 xs to zs ys v A c) (hf : FstIn ys ys.length k) (hd : (tth ys k).due ≤ to)
    (hg : (wr.alloc o).grownBy w3 v.ownBlock) (hr : w3.ownsRow w.heap.size 34 3 v' (zs.length + 1) (cellsT zs ++ T.cells (tth ys k))) :
    Below w.heap.size w w3 ∧ Tims w3 w3.heap.size A ys ∧ ∀ e w4, TimsAre w3 (ys.take k ++ ys.drop (k + 1)) e w4 → ∃ A' c', e = .returned (.slice A' (ys.take k ++ ys.drop (k + 1)).length c') ∧ GoL w w4 A0 xs to (zs ++ [tth ys k]) (ys.take k ++ ys.drop (k + 1)) v' A' c' := by
  have hbl : Below w.heap.size w w3 := (h.bel.alloc h.bel.size o).grown hg (by simp; have := h.bel.size; omega) fun q hq => (own_blk h.row hq).1
  have hy : ys ≠ [] := by rintro rfl; exact absurd hf.lt (by simp)
  have hgs := hg.size
  rw [World.size_alloc] at hgs
  have htim : Tims w3 w3.heap.size A ys := fun hl => by
    obtain ⟨b, o', e, hlt, hc⟩ := h.tim hl
    refine ⟨b, o', e, by omega, fun j u hu => ?_⟩
    have hb : w3.heap[b]? = wr.heap[b]? := (hg.block b (by simp; omega) (fun e1 => h.ne hy b o' _ e e1.symm)).trans (Below.heap_alloc wr o b hlt)
    exact (World.cell?_of_block (a := ⟨b, o' + j, none⟩) hb).trans (hc j u hu)
  refine ⟨hbl, htim, fun e w4 ⟨v2, he, hr2, hb4⟩ => ?_⟩
  obtain ⟨A', c', rfl, _⟩ := own_form3 hr2
  have h43 := hb4.size
  refine ⟨A', c', he, hbl.trans (hb4.mono hbl.size), h.sel.next hf hd, own_to0 hr2, ?_, fun _ b o' s' e1 e2 => ?_, .inr fun b o' s' e1 => ?_⟩
  · rw [List.length_append, cellsT_app]
    have e3 : cellsT [tth ys k] = T.cells (tth ys k) := by simp [cellsT]
    rw [e3]
    exact own_stay hr fun i hi => hb4.block i (own_lt hr hi)
  · subst e1
    have h5 := own_lt hr e2
    have h6 := (own_blk hr2 (i := b) rfl).1
    omega
  · subst e1
    have h6 := (own_blk hr2 (i := b) rfl).1
    have := hbl.size
    omega
set_option maxHeartbeats 2000000 in
set_option maxRecDepth 100000 in
theorem rgo_any (A0 : Option Addr) (xs : List T) (c to : Nat) (w : World) (h : w.ownsRow 0 34 3 (.slice A0 xs.length c) xs.length (cellsT xs)) (hr : xs.Pairwise fun x y => x.h < y.h) (hn : xs.length ≤ 300) :
    Calls Try.prog 15 #[.slice A0 xs.length c, .int .i64 (to : Int)] w (RGoEnd w A0 xs to) := by
  obtain ⟨i0, hi0, hz0, hz1, hz2⟩ := info_parts infoA
  have h0 : GoL w w A0 xs to [] xs (.slice none 0 0) A0 c := ⟨Below.refl _ _, Sel.start hr to, h, World.ownsRow_nil _ _ _ _, fun _ b o s _ e => by simp [Value.ownBlock] at e, .inl rfl⟩
  have H0 := Lib.hid h0
  have HR := Lib.hid hr
  clear h h0 hr
  go_enter Try.func15, Try.ntmps15
  go_wp2
  go_loopg [0, 6] xs.length (fun q s0 s6 wr => ∃ A c zs ys, s0 = .slice A ys.length c ∧ ys.length ≤ q ∧ Hid (GoL w wr A0 xs to zs ys s6 A c))
  case atStart => exact ⟨A0, c, [], xs, rfl, Nat.le_refl _, H0.out⟩
  case round =>
    obtain ⟨A, c, zs, ys, rfl, hyq, HL⟩ := hrel
    have hpl := HL.out.sel.perm.length_eq
    rw [List.length_append] at hpl
    by_cases hy : 0 < ys.length
    · cases gk with
      | zero => exfalso; omega
      | succ q =>
        have HN := Lib.hid (rnext_some A ys c wr HL.out.tim (by omega) hy)
        unfold FirstEnd at HN
        obtain ⟨b, o, rfl, hblt⟩ := HL.out.tim.at0 hy
        have hcut : ∀ k, k < ys.length → (ys.take k ++ ys.drop (k + 1)).length ≤ q := fun k hk => by
          rw [List.length_append, List.length_take, List.length_drop]
          omega
        have HCUT := Lib.hid hcut
        clear hcut
        go_wp2_with (first
          | (go_at_call 18; refine HN.out.mono ?_; rintro e w2 ⟨k, hf, rfl, q2, rfl⟩
             have hk := hf.lt
             obtain ⟨b', o', e, _, d0, d1, d2⟩ := HL.out.tim.three hk
             injection e with e
             injection e with e1 e2
             subst e1 e2
             rw [← tth_get hk] at d0 d1 d2
             have hon := fun (hd : (tth ys k).due ≤ to) (w3 : World) (v' : Value) (o : Obj) => (HL.out.drewN q2).on (w3 := w3) (v' := v') (o := o) hf hd
             have hdn := fun (hd : to < (tth ys k).due) => (HL.out.drewN q2).sel.done HR.out (hf.late hd)
             have HRO := Lib.hid (fun (ob : Obj) => own_stay (HL.out.drewN q2).row (w' := (wr.drewN q2).alloc ob) (fun i hi => Below.heap_alloc _ ob i (own_lt (HL.out.drewN q2).row hi)))
             have hws := HL.out.bel.size
             unfold T.cells at hon
             clear hf
             generalize (tth ys k).due = xd at *
             generalize (tth ys k).id = xi at *
             generalize (tth ys k).h = xh at *
             have HON := Lib.hid hon
             have HDN := Lib.hid hdn
             clear hon hdn
             have hcase : (decide (to < xd) = false ∧ Hid (xd ≤ to)) ∨ (decide (to < xd) = true ∧ Hid (to < xd)) := by
               rcases Nat.lt_or_ge to xd with h1 | h1
               · exact .inr ⟨decide_eq_true h1, h1⟩
               · exact .inl ⟨decide_eq_false (by omega), h1⟩
             rcases hcase with ⟨e3, HC⟩ | ⟨e3, HC⟩)
          | (at_builtin; refine wpList_append_own_at _ rfl (.tmp 23) (.tmp 28) 26 rfl w.heap.size 34 i0 (.agg #[.int .i64 0, .int .i64 0, .int .i64 0]) 3 24 Try.underlying26 hi0 hz0 hz1 hz2 rfl (by decide) u6 zs.length (cellsT zs) rfl (HRO.out _) ⟨wr.heap.size, 0, none⟩ 1 1 [.int .i64 (xh : Int), .int .i64 xi, .int .i64 (xd : Int)] rfl rfl (cell_three_to rfl _ _ _ _) (by simp [Value.oneCell']) (by unfold maxLen; omega) (by omega) (by simp; omega) ?_
             intro v1 w3 hown3 hg3 _ _
             obtain ⟨hb3, ht3, hnx⟩ := HON.out HC.out _ _ _ hg3 hown3
             have HW := Lib.hid (rwithout_any (some ⟨b, o, none⟩) ys c k w3 ht3 (by omega) HL.out.cap hk)
             have HNX := Lib.hid hnx
             clear hown3 hg3 hb3 ht3 hnx)
          | (go_at_call 13; refine HW.out.mono ?_; intro e w4 hta
             obtain ⟨A', c', rfl, hgl⟩ := HNX.out _ _ hta
             have HG := Lib.hid hgl
             clear hta hgl))
        · go_roundg q
          case rel => exact ⟨A', c', _, _, by rw [List.length_append, List.length_take, List.length_drop], HCUT.out k hk, HG.out⟩
          case measure => omega
        · go_ret2
          have hD := HDN.out HC.out
          refine ⟨_, some ⟨b, o, none⟩, c, zs, ?_, hD.1, (HL.out.drewN q2).row, ?_, (HL.out.drewN q2).bel, (HL.out.drewN q2).pl⟩
          · rw [← hD.2]; rfl
          · rw [← hD.2]; exact (HL.out.drewN q2).own
    · have hy0 : ys = [] := List.eq_nil_of_length_eq_zero (by omega)
      subst hy0
      have HN := Lib.hid (rnext_none A c wr)
      have hd := HL.out.sel.done HR.out (by simp)
      have HD := Lib.hid hd
      clear hd
      go_wp2_with (go_at_call 18; refine HN.out.mono ?_; rintro e w2 ⟨rfl, rfl⟩)
      go_ret2
      refine ⟨_, A, c, zs, ?_, HD.out.1, HL.out.row, ?_, HL.out.bel, HL.out.pl⟩
      · rw [← HD.out.2]; rfl
      · rw [← HD.out.2]; exact HL.out.own
end Go.Proofs.Ytobodianbjfgfaa.Wh
