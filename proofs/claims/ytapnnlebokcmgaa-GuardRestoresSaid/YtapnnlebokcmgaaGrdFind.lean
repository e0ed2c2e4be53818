/-
  What Find answers: the place of a name.
  Conditions: the guard is one.
-/
import Derived.Test.YtapnnlebokcmgaaGrdRes
namespace Go.Proofs.Ytapnnlebokcmgaa.Gd
open Go.RowKit
open Go.Proofs.Ytapnnlebokcmgaa.Bk (S Brk Aft kind ret_int ret_bool)
theorem name_eq (a b : ByteArray) : (a.toList == b.toList) = decide (a = b) := by
  rw [ByteArray.toList_eq, ByteArray.toList_eq, Bool.eq_iff_iff, beq_iff_eq, decide_eq_true_eq]
  constructor
  · intro h
    exact ByteArray.ext (Array.toList_inj.1 h)
  · rintro rfl
    rfl
/-- a gate by value -/
def Rt.val (x : Rt) : Value := .agg #[.pointer (some ⟨x.b, 0, none⟩), .string x.t.p.nm, .int .i64 x.t.p.seats, .int .i64 x.t.p.trip, .int .i64 x.t.p.cool, .int .i64 x.t.p.probes, .int .i64 x.t.fl]
theorem like_any (x : Rt) (b : Nat) (s : ByteArray) (w : World) (h : w.cell? ⟨b, 0, none⟩ = some (.string s)) :
    Calls Try.prog 33 #[x.val, .pointer (some ⟨b, 0, none⟩)] w fun e w' => e = .returned (.bool (decide (x.t.p.nm = s))) ∧ Below w.heap.size w w' := by
  have hb : b < w.heap.size := World.block_lt_of_cell? _ _ h
  have h' : (w.alloc (.cells #[.pointer (some ⟨x.b, 0, none⟩), .string x.t.p.nm, .int .i64 x.t.p.seats, .int .i64 x.t.p.trip, .int .i64 x.t.p.cool, .int .i64 x.t.p.probes, .int .i64 x.t.fl] 48)).cell? ⟨b, 0, none⟩ = some (.string s) := by
    rw [World.cell?_alloc_past _ _ _ hb]; exact h
  have HB := Lib.hid ((Below.refl w.heap.size w).alloc (Nat.le_refl _) (.cells #[.pointer (some ⟨x.b, 0, none⟩), .string x.t.p.nm, .int .i64 x.t.p.seats, .int .i64 x.t.p.trip, .int .i64 x.t.p.cool, .int .i64 x.t.p.probes, .int .i64 x.t.fl] 48))
  unfold Rt.val
  go_enter Try.func33, Try.ntmps33
  go_wp2
  go_ret
  exact ⟨ret_bool (name_eq _ _), HB.out⟩
section
variable {w : World} {g : Nat} {X : Nat → Prop} {v : Value} {rs : List Rt}
theorem find_map {s : ByteArray} {i : Nat} {x : Rt} (hx : rs[i]? = some x) (hs : x.t.p.nm = s) (hno : ∀ j y, j < i → rs[j]? = some y → y.t.p.nm ≠ s) : findI (rs.map Rt.t) s = i := by
  refine findI_at (x := x.t) (by rw [List.getElem?_map, hx]; rfl) hs fun j y hj hy => ?_
  rw [List.getElem?_map] at hy
  cases e : rs[j]? with
  | none => rw [e] at hy; cases hy
  | some z =>
    rw [e] at hy
    simp only [Option.map_some, Option.some.injEq] at hy
    rw [← hy]
    exact hno j z hj e
set_option maxHeartbeats 1000000 in
theorem index_any (h : Raw w g X v rs) (b : Nat) (s : ByteArray) (hs : w.cell? ⟨b, 0, none⟩ = some (.string s)) :
    Calls Try.prog 32 #[v, .func (.func 33) #[] #[.pointer (some ⟨b, 0, none⟩)]] w fun e w' => e = .returned (.int .i64 (findI (rs.map Rt.t) s)) ∧ Below w.heap.size w w' := by
  obtain ⟨A, c, rfl⟩ := h.vform
  have hfew := h.few
  have hbl : b < w.heap.size := World.block_lt_of_cell? _ _ hs
  have eg : ∀ args w, (callFunc 33 args).run Try.prog w = .ok (.enter 33 args) w := enters_of Try.func33 (by kernel_rfl) rfl
  have HR := Lib.hid h
  have HS := Lib.hid hs
  clear h hs
  go_enter Try.func32, Try.ntmps32
  go_wp2
  go_loopw [8] (fun vi wr => ∃ k : Nat, vi = .int .i64 (k : Int) ∧ k ≤ rs.length ∧ Below w.heap.size w wr ∧ ∀ j y, j < k → rs[j]? = some y → y.t.p.nm ≠ s) (fun vi _ => rs.length - (intOf vi).toNat)
  case atStart => exact ⟨0, rfl, Nat.zero_le _, Below.refl _ _, fun j y hj => absurd hj (by omega)⟩
  case round =>
    obtain ⟨k, rfl, hk, hbw, hno⟩ := hrel
    by_cases hkn : k < rs.length
    · obtain ⟨x, hx⟩ : ∃ x, rs[k]? = some x := ⟨_, List.getElem?_eq_getElem hkn⟩
      have hRr := HR.out.below hbw
      obtain ⟨r, c', hv, _⟩ := hRr.live (by omega)
      injection hv with hv1 _ hv2
      subst hv1 hv2
      have hcs := hRr.cs hx
      have c0 := hcs.c0; have c1 := hcs.c1; have c2 := hcs.c2; have c3 := hcs.c3; have c4 := hcs.c4; have c5 := hcs.c5; have c6 := hcs.c6
      have hcb : wr.cell? ⟨b, 0, none⟩ = some (.string s) := (hbw.cell (p := ⟨b, 0, none⟩) hbl).trans HS.out
      have hlk := like_any x b s wr hcb
      by_cases he : x.t.p.nm = s
      · rw [decide_eq_true he] at hlk
        have HL := Lib.hid hlk
        have HF := Lib.hid (find_map hx he hno)
        have HB := Lib.hid hbw
        clear hlk he hx hRr hcs hno hbw hcb
        unfold Rt.val at HL
        go_wp2_with (go_at_call 33; refine HL.out.mono ?_; rintro e w1 ⟨rfl, hb1⟩)
        go_ret
        exact ⟨ret_int HF.out.symm, HB.out.trans (hb1.mono HB.out.size)⟩
      · rw [decide_eq_false he] at hlk
        have HL := Lib.hid hlk
        have HB := Lib.hid hbw
        have HN : Hid (∀ j y, j < k + 1 → rs[j]? = some y → y.t.p.nm ≠ s) := Lib.hid fun j y hj hy => by
          by_cases e : j = k
          · subst e
            rw [hx] at hy
            injection hy with hy
            subst hy
            exact he
          · exact hno j y (by omega) hy
        clear hlk he hx hRr hcs hno hbw hcb
        unfold Rt.val at HL
        go_wp2_with (go_at_call 33; refine HL.out.mono ?_; rintro e w1 ⟨rfl, hb1⟩)
        go_roundw
        case rel => exact ⟨k + 1, by go_num, by omega, HB.out.trans (hb1.mono HB.out.size), HN.out⟩
        case measure => simp [intOf]; omega
    · obtain rfl : rs.length = k := by omega
      have HF : Hid (findI (rs.map Rt.t) s = -1) := Lib.hid (findI_none fun x hx => by
        obtain ⟨y, hy, rfl⟩ := List.mem_map.1 hx
        obtain ⟨j, hj⟩ := List.mem_iff_getElem?.1 hy
        exact hno j y (at_lt hj) hj)
      have HB := Lib.hid hbw
      clear hno hbw
      go_wp2
      go_ret
      exact ⟨ret_int HF.out.symm, HB.out⟩
set_option maxHeartbeats 1000000 in
theorem find_raw (h : Raw w g X v rs) (s : ByteArray) : Calls Try.prog 23 #[ptr g, .string s] w fun e w' => e = .returned (.int .i64 (findI (rs.map Rt.t) s)) ∧ Below w.heap.size w w' := by
  have hb := (Below.refl w.heap.size w).alloc (Nat.le_refl _) (.cells #[.string s] 9)
  have hR := h.below hb
  have c0 : (w.alloc (.cells #[.string s] 9)).cell? ⟨g, 0, none⟩ = some v := hR.box.cell 0
  have HI := Lib.hid (index_any hR w.heap.size s ((Box.new w _ _).cell 0))
  have hmf : ∀ (fn : Fn) (first cap : Array Value) (w : World), (Instr.makeFunc fn first cap).run Try.prog w = .ok (.func fn first cap) w := fun _ _ _ _ => rfl
  have HB := Lib.hid hb
  have hgl := h.box.lt
  clear h hb hR
  unfold ptr
  go_enter Try.func23, Try.ntmps23
  go_wp2_with (go_at_call 32; refine HI.out.mono ?_; rintro e w1 ⟨rfl, hb1⟩)
  go_ret
  exact ⟨rfl, HB.out.trans (hb1.mono (by simp))⟩
end
end Go.Proofs.Ytapnnlebokcmgaa.Gd
