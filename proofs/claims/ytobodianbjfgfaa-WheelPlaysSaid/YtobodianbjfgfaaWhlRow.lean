/-
  What row answers: the place of a tick's slot, in a level that is made where it isn't there.
  Conditions: the wheel is one; the tick is one, at or above the time.
-/
import Derived.Test.YtobodianbjfgfaaWhlMem
import Derived.Laws.BitsAllLaws
import Derived.Laws.BitsLemmas
import Derived.IntWalk
import Derived.Test.YtobodianbjfgfaaWhlF
namespace Go.Proofs.Ytobodianbjfgfaa.Wh
open Go.RowKit Go.Maps

theorem xor_int (a b : Nat) (ha : a < 9223372036854775808) (hb : b < 9223372036854775808) : bits .xor .i64 (a : Int) (b : Int) = ((a ^^^ b : Nat) : Int) := by
  have e : ∀ n : Nat, n < 9223372036854775808 → (BitVec.ofInt 64 (n : Int)).toNat = n := fun n hn => by
    rw [BitVec.ofInt_natCast, BitVec.toNat_ofNat]
    exact Nat.mod_eq_of_lt (by omega)
  have hx : a ^^^ b < 2 ^ 63 := Nat.xor_lt_two_pow (by omega) (by omega)
  show IntKind.i64.wrap ((BitVec.ofInt 64 (a : Int) ^^^ BitVec.ofInt 64 (b : Int)).toNat : Int) = _
  rw [BitVec.toNat_xor, e a ha, e b hb, IntKind.wrap_i64]
  omega
/-- a level as it is made -/
theorem zero_level : ∃ zs : Array Value, zs.size = 1024 ∧ (∀ j, j < 1024 → zs[j]? = some nil_) ∧ ∀ w, (zeroValue 75).run Try.prog w = .ok (.agg zs) w := by
  refine ⟨Array.replicate 1024 (.slice none 0 0), by simp, fun j hj => by simp [hj, nil_], fun w => ?_⟩
  kernel_rfl
section
variable {w w' : World} {g bm : Nat} {X : Nat → Prop} {lev : Nat → Option Nat} {rv : Nat → Nat → Value} {ct : Nat → Nat → List En} {ms : List (Nat × Nat)} {cap now last : Nat}
theorem Raw.c0 (h : Raw w g X bm lev rv ct ms cap now last) : w.cell? ⟨g, 0, none⟩ = some (.int .i64 (cap : Int)) := h.box.cell 0
theorem Raw.c1 (h : Raw w g X bm lev rv ct ms cap now last) : w.cell? ⟨g, 1, none⟩ = some (.int .i64 (now : Int)) := h.box.cell 1
theorem Raw.c2 (h : Raw w g X bm lev rv ct ms cap now last) : w.cell? ⟨g, 2, none⟩ = some (.int .i64 (last : Int)) := h.box.cell 2
theorem Raw.c7 (h : Raw w g X bm lev rv ct ms cap now last) : w.cell? ⟨g, 7, none⟩ = some (.map (some bm)) := h.box.cell 7
theorem Raw.c3 (h : Raw w g X bm lev rv ct ms cap now last) {k : Nat} (hk : k < 4) : w.cell? ⟨g, 3 + k, none⟩ = some (lp (lev k)) := by
  rcases four hk with rfl | rfl | rfl | rfl
  · exact h.box.cell 3
  · exact h.box.cell 4
  · exact h.box.cell 5
  · exact h.box.cell 6
/-- how the program comes to the level: three ways -/
theorem lvl_ways (n a : Nat) (hn : n ≤ 1099511627776) (ha : a ≤ 1099511627776) : (Lib.bitLen (n ^^^ a) = 0 ∧ lvl n a = 0) ∨ ∃ q, Lib.bitLen (n ^^^ a) = q + 1 ∧ q < 64 ∧ ((q < 40 ∧ q / 10 = lvl n a) ∨ (40 ≤ q ∧ lvl n a = 3)) := by
  have hk := lvl_len n a hn ha
  have hL := len_small n a hn ha
  generalize Lib.bitLen (n ^^^ a) = L at *
  rcases Nat.eq_zero_or_pos L with rfl | h
  · exact .inl ⟨rfl, by omega⟩
  · refine .inr ⟨L - 1, by omega, by omega, ?_⟩
    omega
theorem dig0 (a : Nat) : dig 0 a = a % 1024 := by unfold dig; rw [wid0, Nat.div_one]
theorem dig1 (a : Nat) : dig 1 a = a / 1024 % 1024 := by unfold dig; rw [wid1]
theorem dig2 (a : Nat) : dig 2 a = a / 1048576 % 1024 := by unfold dig; rw [wid2]
theorem dig3 (a : Nat) : dig 3 a = a / 1073741824 % 1024 := by unfold dig; rw [wid3]
theorem ret_ptr {b i j : Nat} (h : i = j) : Ending.returned (.pointer (some ⟨b, i, none⟩)) = .returned (.pointer (some ⟨b, j, none⟩)) := by rw [h]
set_option maxHeartbeats 1000000 in
theorem row_have (h : Raw w g X bm lev rv ct ms cap now last) (hn : now ≤ 1099511627776) {a : Nat} (ha : a ≤ 1099511627776) {lb : Nat} (hlb : lev (lvl now a) = some lb)
    (hlen : ∀ w : World, Calls Try.prog 35 #[.int .u64 ((now ^^^ a : Nat) : Int)] w fun e w' => e = .returned (.int .i64 (Lib.bitLen (now ^^^ a) : Nat)) ∧ w = w') :
    Calls Try.prog 29 #[ptr g, .int .i64 (a : Int)] w fun e w' => e = .returned (.pointer (some ⟨lb, dig (lvl now a) a, none⟩)) ∧ ∃ n, w' = w.drewN n := by
  have hx := xor_int now a (by omega) (by omega)
  have hxl : now ^^^ a < 2 ^ 64 := Nat.xor_lt_two_pow (by omega) (by omega)
  have hw := lvl_ways now a hn ha
  have hk4 := lvl_lt now a
  have k1 := h.c1
  have k3 := h.c3 hk4
  rw [hlb] at k3
  unfold lp at k3
  simp only [Option.map_some] at k3
  obtain ⟨j, hd⟩ : ∃ j, j = dig (lvl now a) a := ⟨_, rfl⟩
  rw [← hd]
  have HD := Lib.hid hd
  clear hd
  generalize lvl now a = k at *
  generalize Lib.bitLen (now ^^^ a) = L at *
  generalize now ^^^ a = x at *
  have e3 : IntKind.u64.wrap (x : Int) = x := by simp [IntKind.wrap, IntKind.bits, IntKind.signed]; omega
  have HL := Lib.hid hlen
  have m0 : max (-1 : Int) 0 = 0 := by decide
  have m1 : min (0 : Int) 3 = 0 := by decide
  have m2 : min (1 : Int) 3 = 1 := by decide
  have m3 : min (2 : Int) 3 = 2 := by decide
  have m4 : min (3 : Int) 3 = 3 := by decide
  clear hlen hlb h
  unfold ptr
  rcases hw with ⟨rfl, rfl⟩ | ⟨q, rfl, hq, ⟨hq1, hq2⟩ | ⟨hq1, rfl⟩⟩
  · go_enter Try.func29, Try.ntmps29
    go_wp2_with (go_at_call 35; refine (HL.out _).mono ?_; rintro e w' ⟨rfl, rfl⟩)
    go_quiet (fail)
    go_wp2
    go_ret
    exact ⟨ret_ptr (HD.out.trans (dig0 a)).symm, _, rfl⟩
  · rcases four hk4 with rfl | rfl | rfl | rfl
    · have e5 : (q : Int) / 10 = 0 := by omega
      go_enter Try.func29, Try.ntmps29
      go_wp2_with (go_at_call 35; refine (HL.out _).mono ?_; rintro e w' ⟨rfl, rfl⟩)
      go_quiet (fail)
      go_wp2
      go_ret
      exact ⟨ret_ptr (HD.out.trans (dig0 a)).symm, _, rfl⟩
    · have e5 : (q : Int) / 10 = 1 := by omega
      go_enter Try.func29, Try.ntmps29
      go_wp2_with (go_at_call 35; refine (HL.out _).mono ?_; rintro e w' ⟨rfl, rfl⟩)
      go_quiet (fail)
      go_wp2
      go_ret
      exact ⟨ret_ptr (HD.out.trans (dig1 a)).symm, _, rfl⟩
    · have e5 : (q : Int) / 10 = 2 := by omega
      go_enter Try.func29, Try.ntmps29
      go_wp2_with (go_at_call 35; refine (HL.out _).mono ?_; rintro e w' ⟨rfl, rfl⟩)
      go_quiet (fail)
      go_wp2
      go_ret
      exact ⟨ret_ptr (HD.out.trans (dig2 a)).symm, _, rfl⟩
    · have e5 : (q : Int) / 10 = 3 := by omega
      go_enter Try.func29, Try.ntmps29
      go_wp2_with (go_at_call 35; refine (HL.out _).mono ?_; rintro e w' ⟨rfl, rfl⟩)
      go_quiet (fail)
      go_wp2
      go_ret
      exact ⟨ret_ptr (HD.out.trans (dig3 a)).symm, _, rfl⟩
  · have e5 : 3 < (q : Int) / 10 := by omega
    have e6 : min ((q : Int) / 10) 3 = 3 := by omega
    go_enter Try.func29, Try.ntmps29
    go_wp2_with (go_at_call 35; refine (HL.out _).mono ?_; rintro e w' ⟨rfl, rfl⟩)
    go_quiet (fail)
    go_wp2
    go_ret
    exact ⟨ret_ptr (HD.out.trans (dig3 a)).symm, _, rfl⟩
set_option maxHeartbeats 1000000 in
theorem row_made (h : Raw w g X bm lev rv ct ms cap now last) (hn : now ≤ 1099511627776) {a : Nat} (ha : a ≤ 1099511627776) (hlb : lev (lvl now a) = none) (zs : Array Value) (hz : ∀ w, (zeroValue 75).run Try.prog w = .ok (.agg zs) w)
    (hlen : ∀ w : World, Calls Try.prog 35 #[.int .u64 ((now ^^^ a : Nat) : Int)] w fun e w' => e = .returned (.int .i64 (Lib.bitLen (now ^^^ a) : Nat)) ∧ w = w') :
    Calls Try.prog 29 #[ptr g, .int .i64 (a : Int)] w fun e w' => e = .returned (.pointer (some ⟨w.heap.size, dig (lvl now a) a, none⟩)) ∧ ∃ n, w' = ((w.setCell ⟨g, 3 + lvl now a, none⟩ (ptr w.heap.size)).alloc (.cells zs 75)).drewN n := by
  have hx := xor_int now a (by omega) (by omega)
  have hxl : now ^^^ a < 2 ^ 64 := Nat.xor_lt_two_pow (by omega) (by omega)
  have hw := lvl_ways now a hn ha
  have hk4 := lvl_lt now a
  have k1 := h.c1
  have k3 := h.c3 hk4
  rw [hlb] at k3
  unfold lp at k3
  simp only [Option.map_none] at k3
  have hgl := h.box.lt
  have f3 := h.box.frozen (3 + lvl now a)
  obtain ⟨j, hd⟩ : ∃ j, j = dig (lvl now a) a := ⟨_, rfl⟩
  rw [← hd]
  have HD := Lib.hid hd
  clear hd
  generalize lvl now a = k at *
  generalize Lib.bitLen (now ^^^ a) = L at *
  generalize now ^^^ a = x at *
  have e3 : IntKind.u64.wrap (x : Int) = x := by simp [IntKind.wrap, IntKind.bits, IntKind.signed]; omega
  have HL := Lib.hid hlen
  have m0 : max (-1 : Int) 0 = 0 := by decide
  have m1 : min (0 : Int) 3 = 0 := by decide
  have m2 : min (1 : Int) 3 = 1 := by decide
  have m3 : min (2 : Int) 3 = 2 := by decide
  have m4 : min (3 : Int) 3 = 3 := by decide
  clear hlen hlb h
  unfold ptr
  rcases hw with ⟨rfl, rfl⟩ | ⟨q, rfl, hq, ⟨hq1, hq2⟩ | ⟨hq1, rfl⟩⟩
  · go_enter Try.func29, Try.ntmps29
    go_wp2_with (go_at_call 35; refine (HL.out _).mono ?_; rintro e w' ⟨rfl, rfl⟩)
    go_quiet (fail)
    go_wp2
    go_ret
    exact ⟨ret_ptr (HD.out.trans (dig0 a)).symm, _, rfl⟩
  · rcases four hk4 with rfl | rfl | rfl | rfl
    · have e5 : (q : Int) / 10 = 0 := by omega
      go_enter Try.func29, Try.ntmps29
      go_wp2_with (go_at_call 35; refine (HL.out _).mono ?_; rintro e w' ⟨rfl, rfl⟩)
      go_quiet (fail)
      go_wp2
      go_ret
      exact ⟨ret_ptr (HD.out.trans (dig0 a)).symm, _, rfl⟩
    · have e5 : (q : Int) / 10 = 1 := by omega
      go_enter Try.func29, Try.ntmps29
      go_wp2_with (go_at_call 35; refine (HL.out _).mono ?_; rintro e w' ⟨rfl, rfl⟩)
      go_quiet (fail)
      go_wp2
      go_ret
      exact ⟨ret_ptr (HD.out.trans (dig1 a)).symm, _, rfl⟩
    · have e5 : (q : Int) / 10 = 2 := by omega
      go_enter Try.func29, Try.ntmps29
      go_wp2_with (go_at_call 35; refine (HL.out _).mono ?_; rintro e w' ⟨rfl, rfl⟩)
      go_quiet (fail)
      go_wp2
      go_ret
      exact ⟨ret_ptr (HD.out.trans (dig2 a)).symm, _, rfl⟩
    · have e5 : (q : Int) / 10 = 3 := by omega
      go_enter Try.func29, Try.ntmps29
      go_wp2_with (go_at_call 35; refine (HL.out _).mono ?_; rintro e w' ⟨rfl, rfl⟩)
      go_quiet (fail)
      go_wp2
      go_ret
      exact ⟨ret_ptr (HD.out.trans (dig3 a)).symm, _, rfl⟩
  · have e5 : 3 < (q : Int) / 10 := by omega
    have e6 : min ((q : Int) / 10) 3 = 3 := by omega
    go_enter Try.func29, Try.ntmps29
    go_wp2_with (go_at_call 35; refine (HL.out _).mono ?_; rintro e w' ⟨rfl, rfl⟩)
    go_quiet (fail)
    go_wp2
    go_ret
    exact ⟨ret_ptr (HD.out.trans (dig3 a)).symm, _, rfl⟩
/-- a level more -/
def withLev (lev : Nat → Option Nat) (k b : Nat) : Nat → Option Nat := fun k' => if k' = k then some b else lev k'
theorem withLev_same (lev : Nat → Option Nat) (k b : Nat) : withLev lev k b k = some b := by simp [withLev]
theorem withLev_ne (lev : Nat → Option Nat) {k k' : Nat} (b : Nat) (h : k' ≠ k) : withLev lev k b k' = lev k' := by simp only [withLev, if_neg h]
theorem Raw.level (h : Raw w g X bm lev rv ct ms cap now last) {k : Nat} (hk : k < 4) (hn : lev k = none) {zs : Array Value} (hz : zs.size = 1024) (hz' : ∀ j, j < 1024 → zs[j]? = some nil_) :
    Raw ((w.setCell ⟨g, 3 + k, none⟩ (ptr w.heap.size)).alloc (.cells zs 75)) g X bm (withLev lev k w.heap.size) rv ct ms cap now last ∧
      Keep X w ((w.setCell ⟨g, 3 + k, none⟩ (ptr w.heap.size)).alloc (.cells zs 75)) := by
  have hsz : (w.setCell ⟨g, 3 + k, none⟩ (ptr w.heap.size)).heap.size = w.heap.size := by simp [World.setCell]
  have hb : ∀ i, i < w.heap.size → i ≠ g → ((w.setCell ⟨g, 3 + k, none⟩ (ptr w.heap.size)).alloc (.cells zs 75)).heap[i]? = w.heap[i]? := fun i hi hne =>
    (Below.heap_alloc _ _ i (by rw [hsz]; exact hi)).trans (Below.heap_setCell w ⟨g, 3 + k, none⟩ _ i hne)
  have hnew : Box ((w.setCell ⟨g, 3 + k, none⟩ (ptr w.heap.size)).alloc (.cells zs 75)) w.heap.size 75 zs := by
    have := Box.new (w.setCell ⟨g, 3 + k, none⟩ (ptr w.heap.size)) 75 zs
    rwa [hsz] at this
  have hgl := h.box.lt
  have hlv : ∀ k' b, k' < 4 → lev k' = some b → b < w.heap.size := fun k' b hk' e => by obtain ⟨cs, hc⟩ := h.lbox hk' e; exact hc.lt
  have hle : w.heap.size ≤ ((w.setCell ⟨g, 3 + k, none⟩ (ptr w.heap.size)).alloc (.cells zs 75)).heap.size := by simp [hsz]
  have nobox : ∀ {i : Nat} {t t' : TypeId} {cs cs' : Array Value}, Box w i t cs → Box w i t' cs' → t ≠ t' → False := fun h1 h2 hne => cells_ne h1 h2 hne rfl
  generalize hW : (w.setCell ⟨g, 3 + k, none⟩ (ptr w.heap.size)).alloc (.cells zs 75) = W at *
  refine ⟨⟨?_, ?_, ?_, ?_, ?_, h.nd, h.ap, ?_, h.rap, ?_, h.xg, h.xm, ?_, h.xr, h.xe, fun i hi => Nat.lt_of_lt_of_le (h.xlt i hi) hle⟩, ?_⟩
  · have hB := (h.box.put (3 + k) (ptr w.heap.size)).alloc (.cells zs 75)
    rw [hW] at hB
    rcases four hk with rfl | rfl | rfl | rfl
    all_goals exact hB
  · intro k' b hk' e
    by_cases hkk : k' = k
    · subst hkk
      rw [withLev_same] at e
      injection e with e
      subst e
      refine ⟨zs, hnew, hz, fun j hj => ?_⟩
      rw [(h.nol k' j ⟨hk, hj⟩ hn).1]
      exact hz' j hj
    · rw [withLev_ne _ _ hkk] at e
      obtain ⟨cs, h1, h2⟩ := h.lvl k' b hk' e
      exact ⟨cs, (hb b h1.lt (fun e1 => nobox h1 (e1 ▸ h.box) (by decide))).trans h1, h2⟩
  · intro k' j hk' e
    by_cases hkk : k' = k
    · subst hkk
      rw [withLev_same] at e
      cases e
    · rw [withLev_ne _ _ hkk] at e
      exact h.nol k' j hk' e
  · intro k' j hk'
    exact row_stay (h.row k' j hk') fun i hi => by
      obtain ⟨cs, hc⟩ := h.rbox hk' hi
      exact hb i hc.lt (fun e1 => nobox hc (e1 ▸ h.box) (by decide))
  · intro k' j i hk' hi
    have hB := h.ens k' j i hk' hi
    exact (hb _ hB.lt (fun e1 => nobox hB (e1 ▸ h.box) (by decide))).trans hB
  · intro k1 k2 b hk1 hk2 e1 e2
    by_cases h1 : k1 = k <;> by_cases h2 : k2 = k
    · rw [h1, h2]
    · rw [h1, withLev_same] at e1
      rw [withLev_ne _ _ h2] at e2
      have := hlv k2 b hk2 e2
      injection e1 with e1
      omega
    · rw [h2, withLev_same] at e2
      rw [withLev_ne _ _ h1] at e1
      have := hlv k1 b hk1 e1
      injection e2 with e2
      omega
    · rw [withLev_ne _ _ h1] at e1
      rw [withLev_ne _ _ h2] at e2
      exact h.lvi k1 k2 b hk1 hk2 e1 e2
  · obtain ⟨es, h1, h2⟩ := h.map
    exact ⟨es, map_stay h1 (hb bm h.mlt (Ne.symm h.gm)), h2⟩
  · intro k' b hk' e
    by_cases hkk : k' = k
    · subst hkk
      rw [withLev_same] at e
      injection e with e
      intro hx
      have := h.xlt b hx
      omega
    · rw [withLev_ne _ _ hkk] at e
      exact h.xl k' b hk' e
  · subst hW
    exact ⟨rfl, rfl, rfl, hle, fun i hi hx => hb i hi fun e => h.xg (e ▸ hx)⟩
/-- what row leaves: the slot's level is there -/
def RowEnd (w : World) (g : Nat) (X : Nat → Prop) (bm : Nat) (rv : Nat → Nat → Value) (ct : Nat → Nat → List En) (ms : List (Nat × Nat)) (cap now last a : Nat) (e : Ending) (w' : World) : Prop :=
  ∃ lb lev', e = .returned (.pointer (some ⟨lb, dig (lvl now a) a, none⟩)) ∧ lev' (lvl now a) = some lb ∧ Raw w' g X bm lev' rv ct ms cap now last ∧ Keep X w w'
theorem row_any (h : Raw w g X bm lev rv ct ms cap now last) (hn : now ≤ 1099511627776) {a : Nat} (ha : a ≤ 1099511627776) :
    Calls Try.prog 29 #[ptr g, .int .i64 (a : Int)] w (RowEnd w g X bm rv ct ms cap now last a) := by
  have hlen : ∀ w : World, Calls Try.prog 35 #[.int .u64 ((now ^^^ a : Nat) : Int)] w fun e w' => e = .returned (.int .i64 (Lib.bitLen (now ^^^ a) : Nat)) ∧ w = w' := fun w => by
    have hxl : now ^^^ a < 2 ^ 64 := Nat.xor_lt_two_pow (by omega) (by omega)
    have h := Any.bits_Len (SlLaysF0.n15.bits Try.lenW) ((now ^^^ a : Nat) : Int) w (by omega) (by omega)
    rw [Int.toNat_natCast] at h
    exact h.mono fun _ _ ⟨h1, h2⟩ => ⟨h1, h2.symm⟩
  cases hl : lev (lvl now a) with
  | some lb =>
    refine (row_have h hn ha hl hlen).mono ?_
    rintro e w' ⟨rfl, n, rfl⟩
    exact ⟨lb, lev, rfl, hl, h.drewN n, (Keep.refl _ _).drewN n⟩
  | none =>
    obtain ⟨zs, z1, z2, z3⟩ := zero_level
    refine (row_made h hn ha hl zs z3 hlen).mono ?_
    rintro e w' ⟨rfl, n, rfl⟩
    obtain ⟨h1, h2⟩ := h.level (lvl_lt now a) hl z1 z2
    exact ⟨w.heap.size, _, rfl, withLev_same _ _ _, h1.drewN n, h2.drewN n⟩
end
end Go.Proofs.Ytobodianbjfgfaa.Wh
