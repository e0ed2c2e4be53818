/-
  What New answers and makes: a guard of parties, or the place of the first one at fault, and which.
  Conditions: the parties lie in memory that was there; each name has at most 2^45 bytes.
-/
import Derived.Test.YtapnnlebokcmgaaGrdPut
namespace Go.Proofs.Ytapnnlebokcmgaa.Gd
open Go.RowKit
open Go.Proofs.Ytapnnlebokcmgaa.Bk (S Brk Aft kind ret_int ret_bool)
/-- a slice of parties that reads as a list, below block B -/
def Ptys (w : World) (B : Nat) (A : Option Addr) (ps : List Pty) : Prop :=
  ∀ i p, ps[i]? = some p → ∃ b o, A = some ⟨b, o, none⟩ ∧ b < B ∧ ∀ j u, p.cells[j]? = some u → w.cell? ⟨b, o + i * 5 + j, none⟩ = some u
theorem Ptys.below {w w' : World} {B : Nat} {A : Option Addr} {ps : List Pty} (h : Ptys w B A ps) (hb : Below B w w') : Ptys w' B A ps := fun i p hp => by
  obtain ⟨b, o, e, hlt, hc⟩ := h i p hp
  exact ⟨b, o, e, hlt, fun j u hu => (hb.cell (p := ⟨b, o + i * 5 + j, none⟩) hlt).trans (hc j u hu)⟩
theorem Ptys.get {w : World} {B b o : Nat} {ps : List Pty} (h : Ptys w B (some ⟨b, o, none⟩) ps) {i : Nat} {p : Pty} (hp : ps[i]? = some p) :
    w.cell? ⟨b, o + i * 5, none⟩ = some (.string p.nm) ∧ w.cell? ⟨b, o + i * 5 + 1, none⟩ = some (.int .i64 p.seats) ∧ w.cell? ⟨b, o + i * 5 + 2, none⟩ = some (.int .i64 p.trip) ∧ w.cell? ⟨b, o + i * 5 + 3, none⟩ = some (.int .i64 p.cool) ∧ w.cell? ⟨b, o + i * 5 + 4, none⟩ = some (.int .i64 p.probes) := by
  obtain ⟨b', o', e, _, hc⟩ := h i p hp
  injection e with e
  injection e with e1 e2
  subst e1 e2
  exact ⟨hc 0 _ rfl, hc 1 _ rfl, hc 2 _ rfl, hc 3 _ rfl, hc 4 _ rfl⟩
theorem Ptys.at_ {w : World} {B : Nat} {A : Option Addr} {ps : List Pty} (h : Ptys w B A ps) {i : Nat} {p : Pty} (hp : ps[i]? = some p) : ∃ b o, A = some ⟨b, o, none⟩ ∧ b < B := by
  obtain ⟨b, o, e, hlt, _⟩ := h i p hp
  exact ⟨b, o, e, hlt⟩
theorem add_grd {w : World} {g : Nat} {X : Nat → Prop} {L : List Gt} (h : Grd w g X L) (hl : L.length ≤ 63) (p : Pty) (hs : p.nm.size ≤ 35184372088832) : Calls Try.prog 14 #[ptr g, p.val] w (Added w g X L p) := by
  obtain ⟨v, rs, h1, rfl⟩ := h
  exact add_any h1 (by simpa using hl) p hs
/-- what New answers -/
def NewIs (w : World) (ps : List Pty) (e : Ending) (w' : World) : Prop := Below w.heap.size w w' ∧
  ((64 < ps.length ∧ e = .returned (.tuple #[.pointer none, .int .i64 64, .int .i64 8])) ∨
   (ps.length ≤ 64 ∧ ∃ k p, Ins ps k ∧ ps[k]? = some p ∧ addE ((ps.take k).map gnew) p ≠ 0 ∧ e = .returned (.tuple #[.pointer none, .int .i64 (k : Int), .int .i64 (addE ((ps.take k).map gnew) p)])) ∨
   (ps.length ≤ 64 ∧ Ins ps ps.length ∧ ∃ g, w.heap.size ≤ g ∧ e = .returned (.tuple #[.pointer (some ⟨g, 0, none⟩), .int .i64 (-1), .int .i64 0]) ∧ Grd w' g (fun i => i < w.heap.size) (ps.map gnew)))
theorem grd_nil (w : World) : Grd (w.alloc (.cells #[.slice none 0 0] 42)) w.heap.size (fun i => i < w.heap.size) [] :=
  ⟨.slice none 0 0, [], ⟨Box.new w _ _, World.ownsRow_nil _ _ _ _, by simp, by simp, by simp, by simp, by simp, fun i hi => by simp [Value.ownBlock] at hi, by simp, fun i hi => by simp; omega⟩, rfl⟩
theorem take_snoc {ps : List Pty} {k : Nat} {p : Pty} (hp : ps[k]? = some p) : (ps.take (k + 1)).map gnew = (ps.take k).map gnew ++ [gnew p] := by
  rw [List.take_add_one, hp, List.map_append]
  rfl
set_option maxHeartbeats 2000000 in
set_option maxRecDepth 100000 in
theorem new_any (A : Option Addr) (ps : List Pty) (c : Nat) (w : World) (h : Ptys w w.heap.size A ps) (hs : ∀ p ∈ ps, p.nm.size ≤ 35184372088832) (hn : ps.length ≤ 9223372036854775807) :
    Calls Try.prog 7 #[.slice A ps.length c] w (NewIs w ps) := by
  obtain ⟨n, hnn⟩ : ∃ n, n = ps.length := ⟨_, rfl⟩
  by_cases h64 : 64 < n
  · have HW : Hid (NewIs w ps (.returned (.tuple #[.pointer none, .int .i64 64, .int .i64 8])) w) := Lib.hid ⟨Below.refl _ _, .inl ⟨by omega, rfl⟩⟩
    rw [← hnn]
    rw [← hnn] at hn
    clear h hs hnn
    go_enter Try.func7, Try.ntmps7
    go_wp2
    go_ret3
    exact HW.out
  have HL := Lib.hid hnn
  have H := Lib.hid h
  have HS := Lib.hid hs
  rw [← hnn]
  rw [← hnn] at hn
  clear h hs hnn
  go_enter Try.func7, Try.ntmps7
  go_wp2
  have h0 := Lib.hid (grd_nil w)
  have hb0 := Lib.hid ((Below.refl w.heap.size w).alloc (Nat.le_refl _) (.cells #[.slice none 0 0] 42))
  go_loopw [2, 15] (fun v2 vi wr => ∃ k : Nat, v2 = .pointer (some ⟨w.heap.size, 0, none⟩) ∧ vi = .int .i64 (k : Int) ∧ k ≤ n ∧ Hid (Below w.heap.size w wr ∧ Ins ps k ∧ Grd wr w.heap.size (fun i => i < w.heap.size) ((ps.take k).map gnew))) (fun _ vi _ => n - (intOf vi).toNat)
  case atStart => exact ⟨0, rfl, rfl, Nat.zero_le _, Lib.hid ⟨hb0.out, Ins.none _, h0.out⟩⟩
  case round =>
    obtain ⟨k, rfl, rfl, hk, HI⟩ := hrel
    by_cases hkn : k < n
    · obtain ⟨p, hp⟩ : ∃ p, ps[k]? = some p := ⟨_, List.getElem?_eq_getElem (by have := HL.out; omega)⟩
      obtain ⟨b, o, rfl, hbl⟩ := H.out.at_ hp
      obtain ⟨c0, c1, c2, c3, c4⟩ := (H.out.below HI.out.1).get hp
      have hb1 := (Below.refl wr.heap.size wr).alloc (Nat.le_refl _) (.cells p.arr 37)
      have hlen : ((ps.take k).map gnew).length ≤ 63 := by simp; omega
      have hA := add_grd (HI.out.2.2.below hb1) hlen p (HS.out p (List.mem_of_getElem? hp))
      have HB := Lib.hid hb1
      have HP := Lib.hid hp
      unfold Pty.val ptr at hA
      unfold Pty.arr at hA HB
      have hwl := HI.out.1.size
      by_cases he : addE ((ps.take k).map gnew) p = 0
      · have HE : Hid (∀ w2, Did (wr.alloc (.cells #[.string p.nm, .int .i64 p.seats, .int .i64 p.trip, .int .i64 p.cool, .int .i64 p.probes] 37)) w.heap.size (fun i => i < w.heap.size) ((ps.take k).map gnew ++ [gnew p]) w2 → Below w.heap.size w w2 ∧ Ins ps (k + 1) ∧ Grd w2 w.heap.size (fun i => i < w.heap.size) ((ps.take (k + 1)).map gnew)) := Lib.hid fun w2 hd =>
          ⟨HI.out.1.trans ((HB.out.mono HI.out.1.size).trans (hd.2.below (by simp; omega) (fun i hi => hi))), HI.out.2.1.one HP.out he, by rw [take_snoc HP.out]; exact hd.1⟩
        unfold Added at hA
        rw [he, if_pos rfl] at hA
        have HA := Lib.hid hA
        clear hp h0 hb0 hb1 hlen hA he
        go_wp2_with (go_at_call 14; refine HA.out.mono ?_; rintro e w2 ⟨rfl, hd⟩; have HD := Lib.hid (HE.out _ hd); clear hd)
        go_roundw
        case rel => exact ⟨k + 1, rfl, by go_num, by omega, HD⟩
        case measure => simp [intOf]; omega
      · have HE : Hid (∀ w2, Did (wr.alloc (.cells #[.string p.nm, .int .i64 p.seats, .int .i64 p.trip, .int .i64 p.cool, .int .i64 p.probes] 37)) w.heap.size (fun i => i < w.heap.size) ((ps.take k).map gnew) w2 → NewIs w ps (.returned (.tuple #[.pointer none, .int .i64 (k : Int), .int .i64 (addE ((ps.take k).map gnew) p)])) w2) := Lib.hid fun w2 hd =>
          ⟨HI.out.1.trans ((HB.out.mono HI.out.1.size).trans (hd.2.below (by simp; omega) (fun i hi => hi))), .inr (.inl ⟨by have := HL.out; omega, k, p, HI.out.2.1, HP.out, he, rfl⟩)⟩
        have heb : (addE ((ps.take k).map gnew) p != 0) = true := by simpa using he
        unfold Added at hA
        rw [if_neg he] at hA
        generalize addE ((ps.take k).map gnew) p = ae at hA HE heb
        have HA := Lib.hid hA
        clear hp h0 hb0 hb1 hlen hA he
        go_wp2_with (go_at_call 14; refine HA.out.mono ?_; rintro e w2 ⟨rfl, hd⟩; have HD := Lib.hid (HE.out _ hd); clear hd)
        go_ret3
        exact HD.out
    · have hkk : n = k := by omega
      have hps : ps.take k = ps := by rw [← hkk, HL.out, List.take_length]
      have HE : Hid (NewIs w ps (.returned (.tuple #[.pointer (some ⟨w.heap.size, 0, none⟩), .int .i64 (-1), .int .i64 0])) wr) := Lib.hid
        ⟨HI.out.1, .inr (.inr ⟨by have := HL.out; omega, by have := HI.out.2.1; rw [← hkk, HL.out] at this; exact this, w.heap.size, Nat.le_refl _, rfl, by have := HI.out.2.2; rw [hps] at this; exact this⟩)⟩
      subst hkk
      clear hps h0 hb0
      go_wp2
      go_ret3
      exact HE.out
end Go.Proofs.Ytapnnlebokcmgaa.Gd
