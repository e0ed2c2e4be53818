/-
  A queue as the document has it: its capacity, its ageing, the greatest handle, its entries by their handles; and what New, Len and First answer.
  Conditions: the queue is one.
-/
import Derived.Test.YtkfkjpabollaoaaRdyMap
namespace Go.Proofs.Ytkfkjpabollaoaa
open Go.RowKit Go.Maps

/-- an entry as the document has it -/
structure E where
  h : Nat
  id : Int
  wt : Int
def En.e (x : En) : E := ⟨x.h, x.id, x.wt⟩
/-- x is taken ahead of y -/
def befE (x y : E) : Prop := y.wt < x.wt ∨ (x.wt = y.wt ∧ x.h < y.h)
theorem bef_e (x y : En) : bef x y ↔ befE x.e y.e := Iff.rfl
structure Qs where
  cap : Nat
  age : Nat
  last : Nat
  xs : List E
structure Qs.Ok (s : Qs) : Prop where
  rise : s.xs.Pairwise fun x y => x.h < y.h
  pos : ∀ x ∈ s.xs, 1 ≤ x.h ∧ x.h ≤ s.last
  wts : ∀ x ∈ s.xs, -1099511627776 ≤ x.wt ∧ x.wt ≤ 1099511627776
  len : s.xs.length ≤ s.cap
  cap : s.cap ≤ 65536
  age : s.age ≤ 1048576
structure Held (w : World) (g : Nat) (X : Nat → Prop) (s : Qs) (bm : Nat) (v : Value) (d : List En) (ms : List (Nat × Nat)) : Prop where
  raw : Raw w g X bm v d ms s.cap s.age s.last
  ms : ms.Perm (d.map fun x => (x.h, x.b))
  hp : Heap d d.length
  pm : (d.map En.e).Perm s.xs
  ok : s.Ok
/-- a queue at block g; X: blocks that are not its own -/
def Que (w : World) (g : Nat) (X : Nat → Prop) (s : Qs) : Prop := ∃ bm v d ms, Held w g X s bm v d ms
section
variable {w w' : World} {g bm : Nat} {X : Nat → Prop} {s : Qs} {v : Value} {d : List En} {ms : List (Nat × Nat)}
theorem Que.below (h : Que w g X s) (hb : Below w.heap.size w w') : Que w' g X s := by obtain ⟨bm, v, d, ms, h1⟩ := h; exact ⟨bm, v, d, ms, h1.raw.below hb, h1.ms, h1.hp, h1.pm, h1.ok⟩
theorem Que.wide (h : Que w g X s) (hb : Below w.heap.size w w') : Que w' g (fun i => X i ∨ w.heap.size ≤ i ∧ i < w'.heap.size) s := by obtain ⟨bm, v, d, ms, h1⟩ := h; exact ⟨bm, v, d, ms, h1.raw.wide hb, h1.ms, h1.hp, h1.pm, h1.ok⟩
theorem Que.less {Y : Nat → Prop} (h : Que w g X s) (hY : ∀ i, Y i → X i) : Que w g Y s := by obtain ⟨bm, v, d, ms, h1⟩ := h; exact ⟨bm, v, d, ms, h1.raw.less hY, h1.ms, h1.hp, h1.pm, h1.ok⟩
theorem Que.ok (h : Que w g X s) : s.Ok := by obtain ⟨bm, v, d, ms, h1⟩ := h; exact h1.ok
theorem Que.xlt (h : Que w g X s) : ∀ i, X i → i < w.heap.size := by obtain ⟨bm, v, d, ms, h1⟩ := h; exact h1.raw.xlt
theorem Que.glt (h : Que w g X s) : g < w.heap.size := by obtain ⟨bm, v, d, ms, h1⟩ := h; exact h1.raw.box.lt
theorem Que.xg (h : Que w g X s) : ¬ X g := by obtain ⟨bm, v, d, ms, h1⟩ := h; exact h1.raw.xg
theorem Held.dlen (h : Held w g X s bm v d ms) : d.length = s.xs.length := by have := h.pm.length_eq; simpa using this
theorem Held.mlen (h : Held w g X s bm v d ms) : ms.length = d.length := by have := h.ms.length_eq; simpa using this
theorem Held.small (h : Held w g X s bm v d ms) : d.length ≤ 65536 := by have := h.dlen; have := h.ok.len; have := h.ok.cap; omega
theorem Held.hnd (h : Held w g X s bm v d ms) : (d.map En.h).Nodup := by
  have h1 : (s.xs.map E.h).Nodup := by
    rw [List.Nodup, List.pairwise_map]
    exact h.ok.rise.imp fun h => by omega
  have h2 := (h.pm.map E.h).nodup_iff.2 h1
  rw [List.map_map] at h2
  exact h2
theorem Held.mnd (h : Held w g X s bm v d ms) : (ms.map Prod.fst).Nodup := by
  have h2 := (h.ms.map Prod.fst)
  rw [List.map_map] at h2
  exact h2.nodup_iff.2 h.hnd
theorem Held.mem (h : Held w g X s bm v d ms) {x : En} (hx : x ∈ d) : x.e ∈ s.xs := h.pm.mem_iff.1 (List.mem_map.2 ⟨x, hx, rfl⟩)

set_option maxHeartbeats 400000 in
theorem new_no (n m : Int) (w : World) (h : n < 1 ∨ 65536 < n ∨ m < 1 ∨ 1048576 < m) :
    Calls Try.prog 7 #[.int .i64 n, .int .i64 m] w fun e w' => e = .returned (.pointer none) ∧ w = w' := by
  by_cases h1 : n < 1
  · go_enter Try.func7, Try.ntmps7
    go_wp2
    go_ret
    exact ⟨rfl, rfl⟩
  · by_cases h2 : 65536 < n
    · go_enter Try.func7, Try.ntmps7
      go_wp2
      go_ret
      exact ⟨rfl, rfl⟩
    · by_cases h3 : m < 1
      · go_enter Try.func7, Try.ntmps7
        go_wp2
        go_ret
        exact ⟨rfl, rfl⟩
      · have h4 : 1048576 < m := by omega
        go_enter Try.func7, Try.ntmps7
        go_wp2
        go_ret
        exact ⟨rfl, rfl⟩
theorem new_any (n m : Nat) (w : World) (h1 : 1 ≤ n) (h2 : n ≤ 65536) (h3 : 1 ≤ m) (h4 : m ≤ 1048576) :
    Calls Try.prog 7 #[.int .i64 (n : Int), .int .i64 (m : Int)] w fun e w' => e = .returned (ptr (w.heap.size + 1)) ∧ Que w' (w.heap.size + 1) (fun i => i < w.heap.size) ⟨n, m, 0, []⟩ ∧ Below w.heap.size w w' := by
  have hmm := @run_makeMap Try.prog
  have q1 : (1 : Int) ≤ n := by omega
  have q2 : (n : Int) ≤ 65536 := by omega
  have q3 : (1 : Int) ≤ m := by omega
  have q4 : (m : Int) ≤ 1048576 := by omega
  go_enter Try.func7, Try.ntmps7
  go_wp2
  go_ret
  have hm := World.ownsMap_made w Try.prog 3 rawElem
  refine ⟨rfl, ⟨w.heap.size, .slice none 0 0, [], [], ⟨?_, World.ownsRow_nil _ _ _ _, by simp, by simp, ⟨[], hm.alloc _, .refl _⟩, by omega, by omega, by simp [Value.ownBlock], by simp, fun i hi => by simp; omega⟩, .refl _, fun k h0 hk => absurd hk (by simp), .refl _, ?_⟩, ((Below.refl _ _).alloc (Nat.le_refl _) _).alloc (by simp) _⟩
  · have := Box.new (w.alloc (.map #[] 0)) 57 #[.int .i64 (n : Int), .int .i64 (m : Int), .int .i64 0, .slice none 0 0, .map (some w.heap.size)]
    simpa using this
  · exact ⟨List.Pairwise.nil, by simp, by simp, by simp, h2, h4⟩

theorem len_any (h : Que w g X s) : Calls Try.prog 17 #[ptr g] w fun e w' => e = .returned (.int .i64 (s.xs.length : Int)) ∧ w' = w := by
  obtain ⟨bm, v, d, ms, hH⟩ := h
  obtain ⟨A, c, rfl, hc⟩ := hH.raw.form
  have m3 := hH.raw.v3
  rw [hH.dlen] at m3
  clear hH hc
  unfold ptr
  go_enter Try.func17, Try.ntmps17
  go_wp2
  go_ret
  exact ⟨rfl, rfl⟩

/-- First: none -/
theorem first_none (h : Que w g X s) (hx : s.xs = []) : Calls Try.prog 18 #[ptr g] w fun e w' => e = .returned (.tuple #[.int .i64 0, .int .i64 0, .bool false]) ∧ w' = w := by
  have hl := len_any h
  rw [hx] at hl
  have HL := Lib.hid hl
  clear hl
  unfold ptr
  unfold ptr at HL
  go_enter Try.func18, Try.ntmps18
  go_wp2_with (go_at_call 17; refine HL.out.mono ?_; rintro e w' ⟨rfl, rfl⟩)
  refine bodyPost_ret (v := .tuple #[.int .i64 0, .int .i64 0, .bool false]) (by simp [results, Try.results18, go_sem]) rfl ⟨rfl, rfl⟩
/-- x is the first one -/
def FirstOf (xs : List E) (x : E) : Prop := x ∈ xs ∧ ∀ y ∈ xs, ¬ befE y x
theorem Held.first (h : Held w g X s bm v d ms) (hx : s.xs ≠ []) : 0 < d.length ∧ FirstOf s.xs (nth d 0).e := by
  have hl : 0 < d.length := by rw [h.dlen]; exact List.length_pos_iff.2 hx
  refine ⟨hl, h.mem (nth_mem hl), fun y hy => ?_⟩
  obtain ⟨z, hz, rfl⟩ := List.mem_map.1 (h.pm.mem_iff.2 hy)
  obtain ⟨k, hk, rfl⟩ := mem_nth hz
  exact h.hp.first k hk
set_option maxHeartbeats 1000000 in
set_option maxRecDepth 100000 in
theorem first_some (h : Que w g X s) (hx : s.xs ≠ []) : Calls Try.prog 18 #[ptr g] w fun e w' => ∃ x, FirstOf s.xs x ∧ e = .returned (.tuple #[.int .i64 x.id, .int .i64 (x.h : Int), .bool true]) ∧ ∃ n, w' = w.drewN n := by
  have HL := Lib.hid (len_any h)
  obtain ⟨bm, v, d, ms, hH⟩ := h
  obtain ⟨hl, hf⟩ := hH.first hx
  obtain ⟨r, c, rfl, hc, _⟩ := hH.raw.live hl
  have m3 := hH.raw.v3
  have hne : ((s.xs.length : Int) == 0) = false := by rw [beq_eq_false_iff_ne]; rw [hH.dlen] at hl; omega
  have c0 : w.cell? ⟨r, 0, none⟩ = some (.pointer (some ⟨(nth d 0).b, 0, none⟩)) := hH.raw.cellv rfl hl
  have c1 : w.cell? ⟨(nth d 0).b, 0, none⟩ = some (.int .i64 (nth d 0).e.id) := hH.raw.ecell hl 0
  have c2 : w.cell? ⟨(nth d 0).b, 1, none⟩ = some (.int .i64 ((nth d 0).e.h : Int)) := hH.raw.ecell hl 1
  have HF := Lib.hid hf
  generalize (nth d 0).e = x at c1 c2 HF
  generalize (nth d 0).b = b at c0 c1 c2
  clear hH hf hc hx
  unfold ptr
  unfold ptr at HL
  go_enter Try.func18, Try.ntmps18
  go_wp2_with (go_at_call 17; refine HL.out.mono ?_; rintro e w' ⟨rfl, rfl⟩)
  go_quiet (fail)
  go_wp2
  refine bodyPost_ret (v := .tuple #[.int .i64 x.id, .int .i64 (x.h : Int), .bool true]) (by simp [results, Try.results18, go_sem]) rfl ⟨x, HF.out, rfl, _, rfl⟩
end
end Go.Proofs.Ytkfkjpabollaoaa
