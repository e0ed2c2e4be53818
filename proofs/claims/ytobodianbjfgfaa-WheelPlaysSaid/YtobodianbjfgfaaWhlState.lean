/-
  A wheel as the document has it: its capacity, its time, the greatest handle, its timers in the order in which they were set; and what New, Len and Now answer.
  Conditions: the wheel is one.
-/
import Derived.Test.YtobodianbjfgfaaWhlStepW
namespace Go.Proofs.Ytobodianbjfgfaa.Wh
open Go.RowKit Go.Maps

structure Ws where
  cap : Nat
  now : Nat
  last : Nat
  xs : List T
structure Ws.Ok (s : Ws) : Prop where
  rise : s.xs.Pairwise fun x y => x.h < y.h
  pos : ∀ x ∈ s.xs, 1 ≤ x.h ∧ x.h ≤ s.last
  due : ∀ x ∈ s.xs, x.due ≤ 1099511627776 ∧ (s.now < x.due ∨ s.now = 1099511627776 ∧ x.due = 1099511627776)
  len : s.xs.length ≤ s.cap
  cap : s.cap ≤ 65536
  now : s.now ≤ 1099511627776
structure Held (w : World) (g : Nat) (X : Nat → Prop) (s : Ws) (bm : Nat) (lev : Nat → Option Nat) (rv : Nat → Nat → Value) (ct : Nat → Nat → List En) (ms : List (Nat × Nat)) (d : List En) : Prop where
  raw : Raw w g X bm lev rv ct ms s.cap s.now s.last
  std : Std s.now ct d
  ms : ms.Perm (d.map hb)
  xs : d.map En.t = s.xs
  ok : s.Ok
/-- a wheel at block g; X: blocks that are not its own -/
def Whl (w : World) (g : Nat) (X : Nat → Prop) (s : Ws) : Prop := ∃ bm lev rv ct ms d, Held w g X s bm lev rv ct ms d
section
variable {w w' : World} {g bm : Nat} {X : Nat → Prop} {s : Ws} {lev : Nat → Option Nat} {rv : Nat → Nat → Value} {ct : Nat → Nat → List En} {ms : List (Nat × Nat)} {d : List En}
theorem Held.on (h : Held w g X s bm lev rv ct ms d) {w' : World} {Y : Nat → Prop} (hR : Raw w' g Y bm lev rv ct ms s.cap s.now s.last) : Whl w' g Y s := ⟨bm, lev, rv, ct, ms, d, hR, h.std, h.ms, h.xs, h.ok⟩
theorem Whl.below (h : Whl w g X s) (hb : Below w.heap.size w w') : Whl w' g X s := by obtain ⟨bm, lev, rv, ct, ms, d, h1⟩ := h; exact h1.on (h1.raw.below hb)
theorem Whl.wide (h : Whl w g X s) (hb : Below w.heap.size w w') : Whl w' g (fun i => X i ∨ w.heap.size ≤ i ∧ i < w'.heap.size) s := by obtain ⟨bm, lev, rv, ct, ms, d, h1⟩ := h; exact h1.on (h1.raw.wide hb)
theorem Whl.less {Y : Nat → Prop} (h : Whl w g X s) (hY : ∀ i, Y i → X i) : Whl w g Y s := by obtain ⟨bm, lev, rv, ct, ms, d, h1⟩ := h; exact h1.on (h1.raw.less hY)
theorem Whl.drewN (h : Whl w g X s) (n : Nat) : Whl (w.drewN n) g X s := h.below ⟨rfl, rfl, rfl, Nat.le_refl _, fun _ _ => rfl⟩
theorem Whl.ok (h : Whl w g X s) : s.Ok := by obtain ⟨bm, lev, rv, ct, ms, d, h1⟩ := h; exact h1.ok
theorem Whl.xlt (h : Whl w g X s) : ∀ i, X i → i < w.heap.size := by obtain ⟨bm, lev, rv, ct, ms, d, h1⟩ := h; exact h1.raw.xlt
theorem Whl.glt (h : Whl w g X s) : g < w.heap.size := by obtain ⟨bm, lev, rv, ct, ms, d, h1⟩ := h; exact h1.raw.box.lt
theorem Whl.xg (h : Whl w g X s) : ¬ X g := by obtain ⟨bm, lev, rv, ct, ms, d, h1⟩ := h; exact h1.raw.xg
/-- what grows elsewhere, in a block that is not its own -/
theorem Whl.grown {row : Option Nat} (h : Whl w g X s) (hg : w.grownBy w' row) (hr : ∀ i, row = some i → X i) : Whl w' g X s := by obtain ⟨bm, lev, rv, ct, ms, d, h1⟩ := h; exact h1.on (h1.raw.grownx hg hr)
theorem Held.dlen (h : Held w g X s bm lev rv ct ms d) : d.length = s.xs.length := by rw [← h.xs, List.length_map]
theorem Held.mlen (h : Held w g X s bm lev rv ct ms d) : ms.length = s.xs.length := by rw [h.ms.length_eq, List.length_map, h.dlen]
theorem Held.small (h : Held w g X s bm lev rv ct ms d) : d.length ≤ 65536 := by have := h.dlen; have := h.ok.len; have := h.ok.cap; omega
theorem Held.mem (h : Held w g X s bm lev rv ct ms d) {x : En} (hx : x ∈ d) : x.t ∈ s.xs := by rw [← h.xs]; exact List.mem_map.2 ⟨x, hx, rfl⟩
theorem Held.of (h : Held w g X s bm lev rv ct ms d) {y : T} (hy : y ∈ s.xs) : ∃ x ∈ d, x.t = y := by rw [← h.xs] at hy; exact List.mem_map.1 hy
theorem Held.hnd (h : Held w g X s bm lev rv ct ms d) : (d.map En.h).Nodup := by
  have h1 : (s.xs.map T.h).Nodup := by
    rw [List.Nodup, List.pairwise_map]
    exact h.ok.rise.imp fun h => by omega
  rw [← h.xs, List.map_map] at h1
  exact h1
theorem Held.mnd (h : Held w g X s bm lev rv ct ms d) : (ms.map Prod.fst).Nodup := by
  have h2 := (h.ms.map Prod.fst)
  rw [List.map_map] at h2
  exact h2.nodup_iff.2 h.hnd
theorem Held.rsmall (h : Held w g X s bm lev rv ct ms d) (k j : Nat) (hk : In k j) : (ct k j).length ≤ 1099511627776 := by
  have := h.std.len hk
  have := h.small
  omega

theorem Raw.mlen {cap now last : Nat} (h : Raw w g X bm lev rv ct ms cap now last) (ty : TypeId) :
    (Builtin.len_ #[53] ty #[.map (some bm)]).run Try.prog w = .ok (.int .i64 (ms.length : Int)) w := by
  obtain ⟨es, hown, hp⟩ := h.map
  have : Maps.size (DataW.map es) = ms.length := by rw [Maps.size_eq, hp.length_eq, List.length_map]
  rw [hown.len Try.underlying53 ty, this]
set_option maxHeartbeats 400000 in
theorem new_no (n c : Int) (w : World) (h : goodB n = false ∨ c < 1 ∨ 65536 < c) :
    Calls Try.prog 7 #[.int .i64 n, .int .i64 c] w fun e w' => e = .returned (.pointer none) ∧ w = w' := by
  cases hg : goodB n with
  | false =>
    have HG := Lib.hid hg
    clear hg h
    go_enter Try.func7, Try.ntmps7
    go_wp2_with (go_at_call 21; refine (good_no _ HG.out).mono ?_; rintro e w' ⟨rfl, rfl⟩)
    go_ret
    exact ⟨rfl, rfl⟩
  | true =>
    have HG := Lib.hid hg
    by_cases h1 : c < 1
    · clear hg h
      go_enter Try.func7, Try.ntmps7
      go_wp2_with (go_at_call 21; refine (good_yes _ HG.out).mono ?_; rintro e w' ⟨rfl, rfl⟩)
      go_ret
      exact ⟨rfl, rfl⟩
    · have h2 : 65536 < c := by
        rcases h with h | h | h
        · rw [hg] at h; cases h
        · omega
        · exact h
      clear hg h
      go_enter Try.func7, Try.ntmps7
      go_wp2_with (go_at_call 21; refine (good_yes _ HG.out).mono ?_; rintro e w' ⟨rfl, rfl⟩)
      go_ret
      exact ⟨rfl, rfl⟩
set_option maxHeartbeats 1000000 in
theorem new_any (n c : Nat) (w : World) (h1 : n ≤ 1099511627776) (h2 : 1 ≤ c) (h3 : c ≤ 65536) :
    Calls Try.prog 7 #[.int .i64 (n : Int), .int .i64 (c : Int)] w fun e w' => e = .returned (ptr (w.heap.size + 1)) ∧ Whl w' (w.heap.size + 1) (fun i => i < w.heap.size) ⟨c, n, 0, []⟩ ∧ Below w.heap.size w w' := by
  have hmm := @run_makeMap Try.prog
  have q1 : (1 : Int) ≤ c := by omega
  have q2 : (c : Int) ≤ 65536 := by omega
  have hg : goodB (n : Int) = true := decide_eq_true (by omega)
  have HG := Lib.hid hg
  clear hg
  go_enter Try.func7, Try.ntmps7
  go_wp2_with (go_at_call 21; refine (good_yes _ HG.out).mono ?_; rintro e w' ⟨rfl, rfl⟩)
  go_ret
  have hm := World.ownsMap_made w Try.prog 3 rawElem
  have hB : Box ((w.alloc (.map #[] 0)).alloc (.cells (wcells c n 0 (fun _ => none) w.heap.size) 57)) (w.heap.size + 1) 57 (wcells c n 0 (fun _ => none) w.heap.size) := by
    have := Box.new (w.alloc (.map #[] 0)) 57 (wcells c n 0 (fun _ => none) w.heap.size)
    simpa using this
  have hR : Raw ((w.alloc (.map #[] 0)).alloc (.cells (wcells c n 0 (fun _ => none) w.heap.size) 57)) (w.heap.size + 1) (fun i => i < w.heap.size) w.heap.size (fun _ => none) (fun _ _ => nil_) (fun _ _ => []) [] c n 0 := {
    box := hB
    lvl := fun _ _ _ e => by cases e
    nol := fun _ _ _ _ => ⟨rfl, rfl⟩
    row := fun _ _ _ => World.ownsRow_nil _ _ _ _
    ens := fun _ _ _ _ hi => absurd hi (by simp)
    nd := fun _ _ _ => .nil
    ap := fun _ _ _ _ _ _ _ _ hx => by cases hx
    lvi := fun _ _ _ _ _ e => by cases e
    rap := fun _ _ _ _ _ _ _ e => by simp [nil_, Value.ownBlock] at e
    map := ⟨[], hm.alloc _, .refl _⟩
    xg := by omega
    xm := by omega
    xl := fun _ _ _ e => by cases e
    xr := fun _ _ _ _ e => by simp [nil_, Value.ownBlock] at e
    xe := fun _ _ _ _ hx => by cases hx
    xlt := fun i hi => by simp; omega }
  exact ⟨rfl, ⟨w.heap.size, fun _ => none, fun _ _ => nil_, fun _ _ => [], [], [], hR, fun k j _ => .refl _, .refl _, rfl, ⟨List.Pairwise.nil, by simp, by simp, by simp, h3, h1⟩⟩, ((Below.refl _ _).alloc (Nat.le_refl _) _).alloc (by simp) _⟩
theorem now_any (h : Whl w g X s) : Calls Try.prog 20 #[ptr g] w fun e w' => e = .returned (.int .i64 (s.now : Int)) ∧ w = w' := by
  obtain ⟨bm, lev, rv, ct, ms, d, hH⟩ := h
  have m1 := hH.raw.c1
  clear hH
  unfold ptr
  go_enter Try.func20, Try.ntmps20
  go_wp2
  go_ret
  exact ⟨rfl, rfl⟩
set_option maxHeartbeats 400000 in
theorem len_any (h : Whl w g X s) : Calls Try.prog 19 #[ptr g] w fun e w' => e = .returned (.int .i64 (s.xs.length : Int)) ∧ w = w' := by
  obtain ⟨bm, lev, rv, ct, ms, d, hH⟩ := h
  have m7 := hH.raw.c7
  have hl := fun ty => hH.raw.mlen ty
  rw [hH.mlen] at hl
  clear hH
  unfold ptr
  go_enter Try.func19, Try.ntmps19
  go_wp2
  go_ret
  exact ⟨rfl, rfl⟩
end
end Go.Proofs.Ytobodianbjfgfaa.Wh
