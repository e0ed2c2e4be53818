/-
  What the document's Order answers: the handles in the order in which the entries are taken.
  Conditions: at most 300 entries, by rising handles.
-/
import Derived.Test.YtkfkjpabollaoaaRdyRef2
namespace Go.Proofs.Ytkfkjpabollaoaa
open Go.RowKit

theorem row_ne {W : World} {B B' : Nat} {e e' : TypeId} {s s' : Nat} {v v' : Value} {k k' : Nat} {xs xs' : List Value} (h : W.ownsRow B e s v k xs) (h' : W.ownsRow B' e' s' v' k' xs') (hne : e ≠ e') : v.ownBlock = none ∨ v.ownBlock ≠ v'.ownBlock := by
  rcases h.2 with ⟨rfl, _⟩ | ⟨g, c, cur, rfl, _, hg, _⟩
  · exact .inl rfl
  · refine .inr ?_
    rcases h'.2 with ⟨rfl, _⟩ | ⟨g', c', cur', rfl, _, hg', _⟩
    · simp [Value.ownBlock]
    · intro e1
      simp only [Value.ownBlock, Option.some.injEq] at e1
      subst e1
      rw [hg] at hg'
      have e2 := Option.some.inj hg'
      injection e2 with _ e2
      exact hne e2
theorem own_keep {w w' : World} {base : Nat} {e : TypeId} {size : Nat} {v : Value} {n : Nat} {xs : List Value} (h : w.ownsRow base e size v n xs) (hb : Below w.heap.size w w') : w'.ownsRow base e size v n xs := by
  refine ⟨h.1, ?_⟩
  rcases h.2 with h1 | ⟨g, cap, cur, hv, hg, hh, r⟩
  · exact .inl h1
  · exact .inr ⟨g, cap, cur, hv, hg, (hb.block g (Array.getElem?_eq_some_iff.1 hh).1).trans hh, r⟩
theorem own_form3 {w : World} {base : Nat} {e : TypeId} {size : Nat} {v : Value} {n : Nat} {xs : List Value} (h : w.ownsRow base e size v n xs) : ∃ A c, v = .slice A n c ∧ n ≤ c := by
  rcases h.2 with ⟨rfl, rfl⟩ | ⟨g, cap, cur, rfl, _, _, hc, _⟩
  · exact ⟨none, 0, rfl, Nat.le_refl _⟩
  · exact ⟨_, cap, rfl, hc⟩
theorem own_to0 {w : World} {base : Nat} {e : TypeId} {size : Nat} {v : Value} {n : Nat} {xs : List Value} (h : w.ownsRow base e size v n xs) : w.ownsRow 0 e size v n xs := by
  refine ⟨h.1, h.2.imp id ?_⟩
  rintro ⟨g, cap, cur, hv, _, r⟩
  exact ⟨g, cap, cur, hv, Nat.zero_le _, r⟩
def sliceLen : Value → Nat
  | .slice _ n _ => n
  | _ => 0
/-- zs were taken, ys are left -/
structure Sel (xs zs ys : List E) : Prop where
  perm : (zs ++ ys).Perm xs
  ord : zs.Pairwise fun x y => ¬ befE y x
  left : ∀ z ∈ zs, ∀ y ∈ ys, ¬ befE y z
  rise : ys.Pairwise fun x y => x.h < y.h
theorem Sel.start {xs : List E} (hr : xs.Pairwise fun x y => x.h < y.h) : Sel xs [] xs := ⟨List.Perm.refl _, List.Pairwise.nil, fun _ hz => absurd hz List.not_mem_nil, hr⟩
theorem Sel.done {xs zs : List E} (h : Sel xs zs []) : OrderOf xs zs := ⟨by simpa using h.perm, h.ord⟩
theorem Sel.next {xs zs ys : List E} (h : Sel xs zs ys) {k : Nat} (hf : FstIn ys ys.length k) : Sel xs (zs ++ [eth ys k]) (ys.take k ++ ys.drop (k + 1)) := by
  have hk := hf.lt
  have hfo := hf.first h.rise
  have e : ys = ys.take k ++ eth ys k :: ys.drop (k + 1) := by
    rw [eth_get hk, ← List.drop_eq_getElem_cons hk, List.take_append_drop]
  have hsub : (ys.take k ++ ys.drop (k + 1)).Sublist ys := by
    conv => rhs; rw [e]
    exact List.Sublist.append (List.Sublist.refl _) (List.sublist_cons_self _ _)
  refine ⟨?_, ?_, fun z hz y hy => ?_, h.rise.sublist hsub⟩
  · refine List.Perm.trans ?_ h.perm
    rw [List.append_assoc]
    refine List.Perm.append (List.Perm.refl _) ?_
    conv => rhs; rw [e]
    show (eth ys k :: (ys.take k ++ ys.drop (k + 1))).Perm _
    exact List.perm_middle.symm
  · rw [List.pairwise_append]
    refine ⟨h.ord, by simp, fun z hz y hy => ?_⟩
    rw [List.mem_singleton.1 hy]
    exact h.left z hz _ hfo.1
  · have hy' := hsub.subset hy
    rcases List.mem_append.1 hz with h1 | h1
    · exact h.left z h1 y hy'
    · rw [List.mem_singleton.1 h1]
      exact hfo.2 y hy'
structure OrdAt (w : World) (xs ys zs : List E) (A : Option Addr) (c : Nat) (v : Value) (wr : World) : Prop where
  row : wr.ownsRow 0 33 3 (.slice A ys.length c) ys.length (cellsE ys)
  out : wr.ownsRow w.heap.size 3 1 v zs.length (zs.map hcell)
  sel : Sel xs zs ys
  bel : Below w.heap.size w wr
  small : zs.length + ys.length ≤ 300
  cap : ys.length ≤ c
set_option maxHeartbeats 4000000 in
set_option maxRecDepth 100000 in
theorem rorder_any (A : Option Addr) (xs : List E) (c : Nat) (w : World) (h : w.ownsRow 0 33 3 (.slice A xs.length c) xs.length (cellsE xs)) (hn : xs.length ≤ 300) (hr : xs.Pairwise fun x y => x.h < y.h) :
    Calls Try.prog 16 #[.slice A xs.length c] w (OrderEnd w xs) := by
  obtain ⟨i0, hi0, hz0, hz1, hz2⟩ := info_parts infoI
  have hc : xs.length ≤ c := by
    obtain ⟨A1, c1, e, h1⟩ := own_form3 h
    simp only [Value.slice.injEq] at e
    omega
  have HS := Lib.hid (show OrdAt w xs xs [] A c (.slice none 0 0) w from ⟨h, World.ownsRow_nil _ _ _ _, Sel.start hr, Below.refl _ _, by simpa using hn, hc⟩)
  clear h
  go_enter Try.func16, Try.ntmps16
  go_wp2
  go_loopw [0, 3] (fun vl vo wr => ∃ (ys zs : List E) (A' : Option Addr) (c' : Nat), vl = .slice A' ys.length c' ∧ Hid (OrdAt w xs ys zs A' c' vo wr)) (fun vl _ _ => sliceLen vl)
  case atStart => exact ⟨xs, [], A, c, rfl, HS⟩
  case round =>
    obtain ⟨ys, zs, A', c', rfl, HI⟩ := hrel
    by_cases hy : 0 < ys.length
    · have hsm := HI.out.small
      have hE : ∀ q, Ents (wr.drewN q) wr.heap.size A' ys := fun q => (Ents.own HI.out.row).drewN q
      have HF1 := Lib.hid (rfirst_some A' ys c' wr (Ents.own HI.out.row) (by omega) hy)
      have HE := Lib.hid hE
      obtain ⟨b, o1, rfl, hbl⟩ := (hE 0).at0 hy
      obtain ⟨Ao, co, rfl, hco⟩ := own_form3 HI.out.out
      have hyz : (0 : Int) < (ys.length : Int) := by omega
      have hcap := HI.out.cap
      -- what the append and the Without leave
      have hap : ∀ q (o : Obj) w2 v2 hv, ((wr.drewN q).alloc o).grownBy w2 (Value.slice Ao zs.length co).ownBlock → w2.ownsRow w.heap.size 3 1 v2 (zs.length + 1) (zs.map hcell ++ [hv]) → w2.ownsRow 0 33 3 (.slice (some ⟨b, o1, none⟩) ys.length c') ys.length (cellsE ys) ∧ Below w.heap.size w w2 := fun q o w2 v2 hv hg _ => by
        have h1 : ((wr.drewN q).alloc o).ownsRow 0 33 3 (.slice (some ⟨b, o1, none⟩) ys.length c') ys.length (cellsE ys) := World.ownsRow.alloc (w := wr.drewN q) HI.out.row o
        have h2 : ((wr.drewN q).alloc o).ownsRow w.heap.size 3 1 (.slice Ao zs.length co) zs.length (zs.map hcell) := World.ownsRow.alloc (w := wr.drewN q) HI.out.out o
        refine ⟨h1.kept hg (row_ne h1 h2 (by decide)), ?_⟩
        have hb := HI.out.bel
        have hbs := hb.size
        have hb1 : Below w.heap.size w ((wr.drewN q).alloc o) := Below.alloc (w := wr.drewN q) ⟨hb.os, hb.tape, hb.output, hb.size, hb.block⟩ hbs o
        exact hb1.grown hg (by simp; omega) (fun j hj => (h2.lt j hj).1)
      have HAP := Lib.hid hap
      have HOUT := Lib.hid (show ∀ q o, ((wr.drewN q).alloc o).ownsRow w.heap.size 3 1 (.slice Ao zs.length co) zs.length (zs.map hcell) from fun q o => World.ownsRow.alloc (w := wr.drewN q) HI.out.out o)
      have hbs := HI.out.bel.size
      clear hE hap
      go_wp2_with (first
        | (go_at_call 9; refine HF1.out.mono ?_; rintro e w1 ⟨k, hfk, rfl, q, rfl⟩; have hkl := hfk.lt; have c0 := (HE.out q).hd rfl hkl; have HFK := Lib.hid hfk; clear hfk)
        | (at_builtin; refine wpList_append_own_at _ rfl (.tmp 10) (.tmp 16) 42 rfl w.heap.size 3 i0 (.int .i64 0) 1 8 Try.underlying42 hi0 hz0 hz1 hz2 rfl (by decide) (.slice Ao zs.length co) zs.length (zs.map hcell) rfl (HOUT.out q _) ⟨wr.heap.size, 0, none⟩ 1 1 [.int .i64 ((eth ys k).h : Int)] rfl rfl (cell_one_to (by simp) _ _) (by simp [Value.oneCell']) (by unfold maxLen; omega) (by omega) (by simp; omega) ?_; intro v2 w2 hown2 hg2 _ _; obtain ⟨hrow2, hbel2⟩ := HAP.out q _ w2 v2 _ hg2 hown2; have HO2 := Lib.hid hown2; have HR2 := Lib.hid hrow2; have HB2 := Lib.hid hbel2; clear hown2 hg2 hrow2 hbel2)
        | (go_at_call 11; refine (rwithout_any _ ys c' k w2 (Ents.own HR2.out) (by omega) hcap hkl).mono ?_; rintro e w3 ⟨v3, rfl, hown3, hb3⟩; have HO3 := Lib.hid hown3; have HB3 := Lib.hid hb3; clear hown3 hb3))
      obtain ⟨A3, c3, rfl, hc3⟩ := own_form3 HO3.out
      have hl3 : (ys.take k ++ ys.drop (k + 1)).length + 1 = ys.length := by simp; omega
      go_roundw
      case rel =>
        refine ⟨ys.take k ++ ys.drop (k + 1), zs ++ [eth ys k], A3, c3, rfl, Lib.hid ⟨own_to0 HO3.out, ?_, HI.out.sel.next HFK.out, HB2.out.trans (HB3.out.mono HB2.out.size), by rw [List.length_append]; simp only [List.length_cons, List.length_nil]; omega, hc3⟩⟩
        have h1 := own_keep HO2.out HB3.out
        rw [List.map_append, List.length_append]
        exact h1
      case measure => simp only [sliceLen]; show (ys.take k ++ ys.drop (k + 1)).length < ys.length; omega
    · obtain rfl : ys = [] := List.eq_nil_of_length_eq_zero (by omega)
      simp only [List.length_nil]
      obtain ⟨Ao, co, rfl, hco⟩ := own_form3 HI.out.out
      go_wp2
      go_ret
      exact ⟨Ao, co, zs, rfl, HI.out.sel.done, HI.out.out, HI.out.bel⟩
end Go.Proofs.Ytkfkjpabollaoaa
