/-
  What slices.Clone and slices.SortFunc make of a queue's row: a copy in memory of its own, and the same entries in the order in which they are taken.
  Conditions: the queue is one; the entries lie in blocks that are not the row's.
-/
import Derived.Test.YtkfkjpabollaoaaRdyPut
import Derived.Test.YtkfkjpabollaoaaSortF
import Derived.Lib.SliceRun
namespace Go.Proofs.Ytkfkjpabollaoaa
open Go.RowKit Go.Maps
open Go.Sort (SWO Holds putRow PermIn SortedIn grow size_grow cell?_grow cell?_putRow_other)

section
variable {w : World} {g bm : Nat} {X : Nat → Prop} {v : Value} {d : List En} {ms : List (Nat × Nat)} {cap age last : Nat}
set_option maxHeartbeats 1000000 in
theorem clone_any (h : Raw w g X bm v d ms cap age last) (hn : d.length ≤ 1099511627776) :
    Calls Try.prog 22 #[v] w fun e w' => ∃ v2, e = .returned v2 ∧ w'.ownsRow w.heap.size 58 1 v2 d.length (d.map En.val) ∧ Below w.heap.size w w' := by
  obtain ⟨i0, hi0, hz0, hz1, hz2⟩ := info_parts infoE
  rcases h.row.2 with ⟨rfl, h0⟩ | ⟨r, c, cur, hv, _, hg, hc, hm, hs, ht⟩
  · obtain rfl : d = [] := List.eq_nil_of_length_eq_zero h0
    have hq := Lib.run_eql_slice_nil (P := Try.prog) w 55 58 none 0 0 0 0 Try.underlying55
    clear h
    go_enter Try.func22, Try.ntmps22
    go_wp2
    go_ret
    exact ⟨_, rfl, World.ownsRow_nil _ _ _ _, Below.refl _ _⟩
  · subst hv
    have hq := Lib.run_eql_slice_nil (P := Try.prog) w 55 58 (some ⟨r, 0, none⟩) d.length c 0 0 Try.underlying55
    have hcs : ∀ o, ∀ j u, (d.map En.val)[j]? = some u → (w.alloc o).cell? ((⟨r, 0, none⟩ : Addr).add j) = some u := fun o j u hj => (h.row.alloc o).cells (g := r) rfl j u hj
    have HC := Lib.hid hcs
    have h1 : ∀ u ∈ d.map En.val, u.oneCell' = true := fun u hu => by obtain ⟨x, _, rfl⟩ := List.mem_map.1 hu; rfl
    have H1 := Lib.hid h1
    have hl : (d.map En.val).length = d.length * 1 := by simp
    have HL := Lib.hid hl
    clear h hg hs ht hcs h1 hl
    go_enter Try.func22, Try.ntmps22
    go_wp2_with (at_builtin; refine wpList_append_own _ rfl (.tmp 5) (.tmp 6) 55 rfl w.heap.size 58 i0 (.pointer none) 1 8 Try.underlying55 hi0 hz0 hz1 hz2 rfl (by decide) _ 0 [] rfl (World.ownsRow_lit w #[] 0 (Nat.le_refl _) (by decide) rfl) ⟨r, 0, none⟩ d.length c (d.map En.val) rfl HL.out (HC.out _) H1.out (by unfold maxLen; omega) (by omega) (by simp) ?_; intro v1 w1 hown1 hg1 _)
    go_ret
    refine ⟨v1, rfl, by simpa using hown1, ((Below.refl _ w).alloc (Nat.le_refl _) _).grown hg1 (by simp) fun k hk => ?_⟩
    exact ((World.ownsRow_lit (base := w.heap.size) (e := 58) (size := 1) w #[] 0 (Nat.le_refl _) (by decide) rfl).lt k hk).1
end

/-- what byTurn tells is a strict order -/
theorem lt_cfE {α : Type} (f : α → En) (x y : α) : ltOf (fun x y => cfE (f x) (f y)) x y = befB (f x) (f y) := cfE_neg_B _ _
theorem swo_cfE {α : Type} (f : α → En) : SWO (ltOf fun x y : α => cfE (f x) (f y)) where
  irrefl x := by rw [lt_cfE]; exact decide_eq_false (bef_irr _)
  trans x y z h1 h2 := by rw [lt_cfE] at *; exact decide_eq_true (bef_trans (of_decide_eq_true h1) (of_decide_eq_true h2))
  ntrans x y z h1 h2 := by rw [lt_cfE] at *; exact decide_eq_false (nbef_trans (of_decide_eq_false h1) (of_decide_eq_false h2))
/-- what the sort leaves -/
structure Sorted (w : World) (blk : Nat) (d : List En) (w' : World) (d' : List En) : Prop where
  perm : d'.Perm d
  ord : d'.Pairwise fun x y => ¬ bef y x
  cell : ∀ k, k < d'.length → w'.cell? ⟨blk, k, none⟩ = some (ptr (nth d' k).b)
  only : w.grownBy w' (some blk)
theorem sortWorld_only {α : Type} [Inhabited α] (enc : α → Value) (w : World) (blk off n : Nat) (dk : Array α) (os : Array Obj) : w.grownBy (sortWorld enc w blk off n dk os) (some blk) := by
  refine ⟨rfl, rfl, rfl, ?_, fun k hk hne => ?_⟩
  · unfold sortWorld
    rw [size_grow]
    simp [putRow, Go.Sort.mapBlock, Go.Sort.ahead]
  · have h1 : k < (putRow enc (Go.Sort.ahead w n) blk off dk).heap.size := by simpa [putRow, Go.Sort.mapBlock, Go.Sort.ahead] using hk
    show ((putRow enc (Go.Sort.ahead w n) blk off dk).heap ++ os)[k]? = _
    rw [Array.getElem?_append_left h1]
    show (w.heap.modify blk _)[k]? = _
    rw [Array.getElem?_modify, if_neg (fun e => hne (by rw [e]))]
theorem sort_cells {w0 : World} {d : List En} {blk : Nat} [Inhabited {x : En // x ∈ d}] (hb : ∀ x ∈ d, x.b ≠ blk ∧ ∃ k, Box w0 x.b 60 (x.cells k)) (n : Nat) (dk : Array {x : En // x ∈ d}) (os : Array Obj) {x : En} (hx : x ∈ d) (i : Nat) {u : Value}
    (h : ∀ k, (x.cells k)[i]? = some u) : (sortWorld (fun x : {x : En // x ∈ d} => ptr x.1.b) w0 blk 0 n dk os).cell? ⟨x.b, i, none⟩ = some u := by
  obtain ⟨hne, k, hB⟩ := hb x hx
  have h1 := sortWorld_only (fun x : {x : En // x ∈ d} => ptr x.1.b) w0 blk 0 n dk os
  have h2 := hB.grown h1 (fun e => hne (by injection e))
  rw [h2.cell i]
  exact h k
theorem perm_of_all {α : Type} [Inhabited α] {n : Nat} {a b : Array α} (h : PermIn 0 n a b) (ha : a.size = n) : b.toList.Perm a.toList := by
  obtain ⟨h1, _, h3⟩ := h
  have e1 : a.extract 0 n = a := by rw [← ha]; simp
  have e2 : b.extract 0 n = b := by rw [← ha, ← h1]; simp
  rw [e1, e2] at h3
  exact h3
set_option maxHeartbeats 2000000 in
set_option maxRecDepth 100000 in
theorem sort_some (w0 : World) (d : List En) (blk c B : Nat) (hd : 0 < d.length) (hn : d.length ≤ 1099511627776) (hb : ∀ x ∈ d, x.b ≠ blk ∧ ∃ k, Box w0 x.b 60 (x.cells k))
    (hrow : w0.ownsRow B 58 1 (.slice (some ⟨blk, 0, none⟩) d.length c) d.length (d.map En.val)) :
    Calls Try.prog 23 #[.slice (some ⟨blk, 0, none⟩) d.length c, .func (.func 24) #[] #[]] w0 fun e w' => e = .returned (.tuple #[]) ∧ ∃ d', Sorted w0 blk d w' d' := by
  haveI : Inhabited {x : En // x ∈ d} := ⟨⟨nth d 0, nth_mem hd⟩⟩
  obtain ⟨da, hda⟩ : ∃ da : Array {x : En // x ∈ d}, da = d.attach.toArray := ⟨_, rfl⟩
  have hsz : da.size = d.length := by rw [hda]; simp
  have hget : ∀ k, k < d.length → da[k]!.1 = nth d k := fun k hk => by
    rw [getElem!_pos da k (by omega)]
    subst hda
    simp [nth_get hk]
  have eg : ∀ args w, (callFunc 24 args).run Try.prog w = .ok (.enter 24 args) w := enters_of Try.func24 (by kernel_rfl) rfl
  have hcmp : CmpLays1 Try.prog 24 #[] (fun x : {x : En // x ∈ d} => ptr x.1.b) (fun x y => cfE x.1 y.1) blk 0 da.size w0 := fun m os dk _ x y =>
    turn_any x.1 y.1 _ (sort_cells hb m dk os x.2 1 (fun _ => rfl)) (sort_cells hb m dk os x.2 2 (fun _ => rfl)) (sort_cells hb m dk os y.2 1 (fun _ => rfl)) (sort_cells hb m dk os y.2 2 (fun _ => rfl))
  have hH : Holds (fun x : {x : En // x ∈ d} => ptr x.1.b) w0 blk 0 da := fun j hj => by
    rw [Nat.zero_add]
    refine ⟨?_, hrow.frozenAt j⟩
    rw [hrow.cellAt j (by omega)]
    show _ = some (ptr (da[j]!).1.b)
    rw [hget j (by omega)]
    simp [nth_some (show j < d.length by omega), En.val]
  have hblk : blk < w0.heap.size := (hrow.lt blk rfl).2
  have hO := swo_cfE (fun x : {x : En // x ∈ d} => x.1)
  have hlim : Lib.bitLen da.size < 4611686018427387904 := Nat.lt_of_le_of_lt (Lib.bitLen_le da.size 62 (by omega) (by omega)) (by omega)
  have hp := Any.pdqsortCmpFunc_all Try.pdqF (fun x : {x : En // x ∈ d} => ptr x.1.b) (fun x y => cfE x.1 y.1) 24 #[] hO blk 0 c da w0 eg hcmp ⟨fun _ => rfl, hH, hblk⟩ (da.size + 1) 0 da.size (Lib.bitLen da.size) da w0 (by omega) rfl (SW.start hH) (Nat.zero_le _) (Nat.le_refl _) (by omega) hlim (Or.inl rfl)
  have hs := Go.Sort.pdq_sorts (ltOf fun x y : {x : En // x ∈ d} => cfE x.1 y.1) hO da 0 da.size (Lib.bitLen da.size) true true (Nat.zero_le _) (Nat.le_refl _) (Or.inl rfl)
  generalize Go.Sort.pdq (ltOf fun x y : {x : En // x ∈ d} => cfE x.1 y.1) da 0 da.size (Lib.bitLen da.size) true true = D at hp hs
  have hDs : D.size = da.size := hs.1.1
  have hfin : ∀ w', SW (fun x : {x : En // x ∈ d} => ptr x.1.b) w0 blk 0 D w' → ∃ d', Sorted w0 blk d w' d' := fun w' hw => by
    have hat : ∀ k (hk : k < D.size), nth (D.toList.map (·.1)) k = D[k]!.1 := fun k hk => by
      rw [nth_get (by simp; exact hk), getElem!_pos D k hk]
      simp
    refine ⟨D.toList.map (·.1), ?_, ?_, fun k hk => ?_, ?_⟩
    · have h1 := (perm_of_all hs.1 rfl).map (·.1)
      have h2 : da.toList.map (·.1) = d := by rw [hda]; simp
      rw [h2] at h1
      exact h1
    · rw [List.pairwise_iff_getElem]
      intro i j hi hj hij
      have hi' : i < D.size := by simpa using hi
      have hj' : j < D.size := by simpa using hj
      have h1 := hs.2 i j (Nat.zero_le _) hij (by omega)
      rw [lt_cfE (fun x : {x : En // x ∈ d} => x.1)] at h1
      have h2 := of_decide_eq_false h1
      rw [← hat i hi', ← hat j hj', nth_get hi, nth_get hj] at h2
      exact h2
    · have hk' : k < D.size := by simpa using hk
      have h1 := (hw.holds hblk hH hDs k hk').1
      rw [Nat.zero_add] at h1
      rw [h1, hat k hk']
    · obtain ⟨n, os, rfl⟩ := hw
      exact sortWorld_only _ _ _ _ _ _ _
  have hl : Calls Try.prog 28 #[.int .u64 (d.length : Int)] w0 fun e w' => e = .returned (.int .i64 (Lib.bitLen d.length : Nat)) ∧ w' = w0 := by
    have h := Any.bits_Len (SlLaysF0.n15.bits Try.lenF) (d.length : Int) w0 (by omega) (by omega)
    rwa [Int.toNat_natCast] at h
  rw [hsz] at hp
  have hp' : Calls Try.prog 27 #[.slice (some ⟨blk, 0, none⟩) d.length c, .int .i64 0, .int .i64 (d.length : Int), .int .i64 (Lib.bitLen d.length : Nat), .func (.func 24) #[] #[]] w0 fun e w' => e = .returned (.tuple #[]) ∧ SW (fun x : {x : En // x ∈ d} => ptr x.1.b) w0 blk 0 D w' := hp
  have wr : IntKind.u64.wrap (d.length : Int) = d.length := by simp [IntKind.wrap, IntKind.bits, IntKind.signed]; omega
  have HL := Lib.hid hl
  have HP := Lib.hid hp'
  have HF := Lib.hid hfin
  clear hl hp hp' hfin hH hcmp hO hs hget hda hsz hDs hb hrow hlim
  go_enter Try.func23, Try.ntmps23
  go_wp2_with (first
    | (go_at_call 28; refine HL.out.mono ?_; rintro e w' ⟨rfl, rfl⟩)
    | (go_at_call 27; refine HP.out.mono ?_; rintro e w' ⟨rfl, hw⟩))
  go_end0
  exact ⟨rfl, HF.out _ hw⟩
end Go.Proofs.Ytkfkjpabollaoaa
