/-
  What Parties answers: its steps' parties, each once, in the order in which they come first, in a row of the call's own.
  Conditions: the steps lie in memory; texts are of moderate length; there are at most 1,000,000 steps.
-/
import Derived.Test.YtkmldgcnbjjbcaaDoorDefMap
import Derived.Test.YtkmldgcnbjjbcaaDoorDefOwn
import Derived.Test.YtkmldgcnbjjbcaaDoorDefCheck
namespace Go.Proofs.YtkmldgcnbjjbcaaDoor.Df
open Go.RowKit
open Go.Proofs.YtkmldgcnbjjbcaaDoor.El
open Go.Proofs.YtkmldgcnbjjbcaaDoor.Bo (P Made ret_int ret_bool)

def strV (l : List ByteArray) : List Value := l.map Value.string
theorem zeroB (w : World) : (zeroValue 91).run Tryd.prog w = .ok (.agg #[]) w := by kernel_rfl
theorem infoStr : ∃ i : TypeInfo, Tryd.prog.info? 9 = some i ∧ i.zero = some (.string ⟨#[]⟩) ∧ i.size = 1 ∧ i.bytes = 16 := by
  have h : (Tryd.prog.info? 9).map (fun i => (i.zero, i.size, i.bytes)) = some (some (.string ⟨#[]⟩), 1, 16) := by kernel_rfl
  cases hi : Tryd.prog.info? 9 with
  | none => rw [hi] at h; cases h
  | some i =>
    rw [hi] at h
    simp only [Option.map_some, Option.some.injEq, Prod.mk.injEq] at h
    exact ⟨i, rfl, h.1, h.2.1, h.2.2⟩
theorem one_cell (w : World) (x : ByteArray) (t : Nat) : ∀ j u, [Value.string x][j]? = some u → (w.alloc (.cells #[.string x] t)).cell? ((⟨w.heap.size, 0, none⟩ : Addr).add j) = some u := by
  intro j u hj
  match j, hj with
  | 0, hj => simp at hj; subst hj; simp [Addr.add]
theorem one_one (x : ByteArray) : ∀ u ∈ [Value.string x], u.oneCell' = true := by
  intro u hu; simp at hu; subst hu; rfl
/-- where Parties' loop stands -/
structure Prt (w wr : World) (bm : Nat) (v : Value) (ks : List ByteArray) : Prop where
  bel : Below w.heap.size w wr
  set : SetAt wr bm (.agg #[]) ks
  row : wr.ownsRow w.heap.size 9 1 v ks.length (strV ks)
  ge : w.heap.size ≤ bm
theorem Prt.rm {w wr : World} {bm : Nat} {v : Value} {ks : List ByteArray} (h : Prt w wr bm v ks) : v.ownBlock ≠ some bm := fun e => by
  obtain ⟨es, c, hb⟩ := h.set.obj
  rcases h.row.2 with ⟨rfl, _⟩ | ⟨g, cap, cur, rfl, _, hg, _⟩
  · simp [Value.ownBlock] at e
  · simp only [Value.ownBlock, Option.some.injEq] at e
    subst e
    rw [hb] at hg
    cases hg
theorem Prt.alloc {w wr : World} {bm : Nat} {v : Value} {ks : List ByteArray} (h : Prt w wr bm v ks) (o : Obj) : Prt w (wr.alloc o) bm v ks :=
  ⟨h.bel.alloc h.bel.size o, h.set.alloc o, h.row.alloc o, h.ge⟩
/-- what Parties answers, and leaves -/
def PartsPost (w : World) (ss : List Stp) (e : Ending) (w' : World) : Prop :=
  ∃ A c, e = .returned (.slice A (parties (ss.map Stp.pt)).length c) ∧ w'.ownsRow w.heap.size 9 1 (.slice A (parties (ss.map Stp.pt)).length c) (parties (ss.map Stp.pt)).length (strV (parties (ss.map Stp.pt))) ∧ Below w.heap.size w w'
theorem parts_next {ss : List Stp} {k : Nat} {x : Stp} (hx : ss[k]? = some x) : parties ((ss.take (k + 1)).map Stp.pt) = fresh (parties ((ss.take k).map Stp.pt)) x.pt := by
  rw [List.take_add_one, hx, List.map_append]
  exact parties_snoc _ _
theorem own_form1 {w : World} {base : Nat} {e : TypeId} {v : Value} {n k : Nat} {xs : List Value} (h : w.ownsRow base e k v n xs) : ∃ A c, v = .slice A n c := by
  rcases h.2 with ⟨rfl, rfl⟩ | ⟨g, cap, cur, rfl, _⟩
  · exact ⟨_, _, rfl⟩
  · exact ⟨_, _, rfl⟩
theorem own_ge {w : World} {base n k : Nat} {e : TypeId} {v : Value} {xs : List Value} (h : w.ownsRow base e k v n xs) : ∀ g, v.ownBlock = some g → base ≤ g := by
  intro g hg
  rcases h.2 with ⟨rfl, _⟩ | ⟨g', cap, cur, rfl, hb, _⟩
  · simp [Value.ownBlock] at hg
  · simp [Value.ownBlock] at hg
    omega
set_option maxHeartbeats 4000000 in
set_option maxRecDepth 100000 in
theorem parties_any (nm : ByteArray) (dl : Int) (A : Option Addr) (c : Nat) (ss : List Stp) (n : Nat) (w : World) (hn : n = ss.length) (hb : n ≤ 100000) (hS : Steps w w.heap.size A ss) (hz : ∀ s ∈ ss, s.pt.size ≤ 1000000) :
    Calls Tryd.prog 23 #[.agg #[.string nm, .int .i64 dl, .slice A n c]] w (PartsPost w ss) := by
  have hmm := @run_makeMap Tryd.prog
  obtain ⟨i0, hi0, hz0, hz1, hz2⟩ := infoStr
  have HS := Lib.hid hS
  have HN := Lib.hid hn
  have HZ := Lib.hid hz
  clear hS hn hz
  have HP0 : Hid (Prt w ((w.alloc (.cells #[.string nm, .int .i64 dl, .slice A n c] 24)).alloc (.map #[] 0)) (w.heap.size + 1) (.slice none 0 0) []) := Lib.hid
    ⟨((Below.refl _ w).alloc (Nat.le_refl _) _).alloc (by simp) _, by simpa using SetAt.made (w.alloc (.cells #[.string nm, .int .i64 dl, .slice A n c] 24)) (.agg #[]), World.ownsRow_nil _ _ _ _, by omega⟩
  go_enter Tryd.func23, Tryd.ntmps23
  go_wp2
  go_loopw [3, 13] (fun v3 vi wr => ∃ (k p : Nat) (ks : List ByteArray), vi = .int .i64 (k : Int) ∧ k ≤ n ∧ p ≤ k ∧ Hid (p = ks.length ∧ ks = parties ((ss.take k).map Stp.pt) ∧ Prt w wr (w.heap.size + 1) v3 ks)) (fun _ vi _ => n - (intOf vi).toNat)
  case atStart => exact ⟨0, 0, [], rfl, Nat.zero_le _, Nat.le_refl _, Lib.hid ⟨rfl, rfl, HP0.out⟩⟩
  case round =>
    obtain ⟨k, p, ks, rfl, hk, hpk, HI⟩ := hrel
    clear HP0
    by_cases hkn : k < n
    · obtain ⟨x, hx⟩ : ∃ x, ss[k]? = some x := ⟨_, List.getElem?_eq_getElem (by have := HN.out; omega)⟩
      obtain ⟨b, o, rfl, hbl⟩ := HS.out.at_ hx
      have HSr := Lib.hid (HS.out.on HI.out.2.2.bel)
      have c0 : (wr).cell? ⟨b, o + k * 12, none⟩ = some (.string x.nm) := HSr.out.get hx 0 rfl
      have c1 : (wr).cell? ⟨b, o + k * 12 + 1, none⟩ = some (.string x.pt) := HSr.out.get hx 1 rfl
      have c2 : (wr).cell? ⟨b, o + k * 12 + 2, none⟩ = some (.int .i64 x.tm) := HSr.out.get hx 2 rfl
      have c3 : (wr).cell? ⟨b, o + k * 12 + 3, none⟩ = some (.int .i64 x.t.r) := HSr.out.get hx 3 rfl
      have c4 : (wr).cell? ⟨b, o + k * 12 + 4, none⟩ = some (.int .i64 x.t.b) := HSr.out.get hx 4 rfl
      have c5 : (wr).cell? ⟨b, o + k * 12 + 5, none⟩ = some (.int .i64 x.t.f) := HSr.out.get hx 5 rfl
      have c6 : (wr).cell? ⟨b, o + k * 12 + 6, none⟩ = some (.int .i64 x.t.c) := HSr.out.get hx 6 rfl
      have c7 : (wr).cell? ⟨b, o + k * 12 + 7, none⟩ = some (.int .i64 x.u.r) := HSr.out.get hx 7 rfl
      have c8 : (wr).cell? ⟨b, o + k * 12 + 8, none⟩ = some (.int .i64 x.u.b) := HSr.out.get hx 8 rfl
      have c9 : (wr).cell? ⟨b, o + k * 12 + 9, none⟩ = some (.int .i64 x.u.f) := HSr.out.get hx 9 rfl
      have c10 : (wr).cell? ⟨b, o + k * 12 + 10, none⟩ = some (.int .i64 x.u.c) := HSr.out.get hx 10 rfl
      have c11 : (wr).cell? ⟨b, o + k * 12 + 11, none⟩ = some (.int .i64 x.pr) := HSr.out.get hx 11 rfl
      have hxp := HZ.out x (List.mem_of_getElem? hx)
      have HX := Lib.hid hx
      have HP1 : Hid (Prt w (wr.alloc (.cells x.arr 45)) (w.heap.size + 1) u3 ks ∧ Box (wr.alloc (.cells x.arr 45)) wr.heap.size 45 x.arr ∧ w.heap.size + 1 < wr.heap.size) := Lib.hid ⟨HI.out.2.2.alloc _, Box.new _ _ _, HI.out.2.2.set.lt⟩
      have hlk := HP1.out.1.set.look_ok (T := 90) Tryd.underlying90 (zeroB _) x.pt hxp
      have HP2 : Hid (Prt w ((wr.alloc (.cells x.arr 45)).alloc (.cells #[] 91)) (w.heap.size + 1) u3 ks ∧ Box ((wr.alloc (.cells x.arr 45)).alloc (.cells #[] 91)) wr.heap.size 45 x.arr) := Lib.hid ⟨HP1.out.1.alloc _, HP1.out.2.1.alloc _⟩
      cases hs : ks.any (fun y => decide (y = x.pt)) with
      | true =>
        rw [hs, if_pos rfl] at hlk
        have HN2 : Hid (ks = parties ((ss.take (k + 1)).map Stp.pt)) := Lib.hid (by
          rw [parts_next HX.out, ← HI.out.2.1]
          unfold fresh
          rw [if_pos hs])
        unfold Stp.arr at HP1 HP2 hlk
        clear hx hs
        go_wp2
        go_roundw
        case rel => exact ⟨k + 1, p, ks, by go_num, by omega, by omega, Lib.hid ⟨HI.out.1, HN2.out, HP2.out.1⟩⟩
        case measure => simp only [intOf]; omega
      | false =>
        rw [hs, if_neg (by simp)] at hlk
        have hlen : ks.length ≤ 1000000 := by have := HI.out.1; omega
        obtain ⟨W2, hrun, hset, hgr⟩ := HP2.out.1.set.put (T := 90) Tryd.underlying90 x.pt hxp hs hlen
        have HN2 : Hid (ks ++ [x.pt] = parties ((ss.take (k + 1)).map Stp.pt)) := Lib.hid (by
          rw [parts_next HX.out, ← HI.out.2.1]
          unfold fresh
          rw [if_neg (by rw [hs]; simp)])
        have HR2 : Hid (W2.ownsRow w.heap.size 9 1 u3 p (strV ks)) := Lib.hid (by rw [HI.out.1]; exact HP2.out.1.row.kept hgr (.inr HP2.out.1.rm))
        have HB2 : Hid (Below w.heap.size w W2) := Lib.hid (HP2.out.1.bel.grown hgr HP2.out.1.bel.size (fun j hj => by injection hj with hj; omega))
        have HSet := Lib.hid hset
        have d1 : W2.cell? ⟨wr.heap.size, 1, none⟩ = some (.string x.pt) := (HP2.out.2.grown hgr (by intro e; injection e with e; have := HP1.out.2.2; omega)).cell 1
        have HRm := Lib.hid HP2.out.1.rm
        unfold Stp.arr at HP1 HP2 hlk hrun
        clear hx hs hset hgr hlen
        go_wp2_with (at_builtin; refine wpList_append_own _ rfl (.tmp 30) (.tmp 33) 47 rfl w.heap.size 9 i0 (.string ⟨#[]⟩) 1 16 Tryd.underlying47 hi0 hz0 hz1 hz2 rfl (by decide) u3 p (strV ks) rfl (HR2.out.alloc _) ⟨W2.heap.size, 0, none⟩ 1 1 [.string x.pt] rfl rfl (one_cell W2 x.pt _) (one_one x.pt) (by unfold maxLen; omega) (by omega) (by have := HB2.out.size; simp; omega) ?_; intro v1 w1 hown1 hgrow1 _; have Hown1 := Lib.hid hown1; have Hgrow1 := Lib.hid hgrow1; clear hown1 hgrow1)
        go_roundw
        case rel =>
          refine ⟨k + 1, p + 1, ks ++ [x.pt], by go_num, by omega, by omega, Lib.hid ⟨by rw [List.length_append, ← HI.out.1]; rfl, HN2.out, ?_, ?_, ?_, by omega⟩⟩
          · exact (HB2.out.alloc HB2.out.size _).grown Hgrow1.out (by have := HB2.out.size; simp; omega) (fun j hj => own_ge HR2.out j hj)
          · exact (HSet.out.alloc _).grown Hgrow1.out (fun e => HRm.out e.symm)
          · have h := Hown1.out
            rw [List.length_append, ← HI.out.1]
            unfold strV at h ⊢
            rw [List.map_append]
            exact h
        case measure => simp only [intOf]; omega
    · obtain rfl : n = k := by omega
      have HF : Hid (ks = parties (ss.map Stp.pt)) := Lib.hid (by rw [HI.out.2.1, HN.out, List.take_length])
      obtain ⟨A', c', rfl⟩ := own_form1 HI.out.2.2.row
      have HPP : Hid (PartsPost w ss (.returned (.slice A' ks.length c')) wr) := Lib.hid (by
        refine ⟨A', c', ?_, ?_, HI.out.2.2.bel⟩
        · rw [← HF.out]
        · rw [← HF.out]; exact HI.out.2.2.row)
      go_wp2
      go_ret
      exact HPP.out
end Go.Proofs.YtkmldgcnbjjbcaaDoor.Df
