/-
  What the writer's Num, Flag, Text and Bytes do and answer.
  Conditions: the writer is one whose bytes lie in memory of its own; they are at most 2^40.
-/
import Derived.Test.YtihkadbcjeohjaaFldNew
import Derived.Test.YtihkadbcjeohjaaFldWrMath
import Derived.Lib.AppendStr
namespace Go.Proofs.Ytihkadbcjeohjaa
open Go.RowKit

/-- blocks of other kinds than bytes, and other than the writer's own, stay -/
def Kept (g : Nat) (w w' : World) : Prop := ∀ i t cs, i ≠ g → t ≠ 5 → Box w i t cs → Box w' i t cs
theorem Kept.trans {g : Nat} {a b c : World} (h : Kept g a b) (k : Kept g b c) : Kept g a c := fun i t cs h1 h2 h3 => k i t cs h1 h2 (h i t cs h1 h2 h3)
theorem Kept.refl (g : Nat) (w : World) : Kept g w w := fun _ _ _ _ _ h => h
theorem Kept.alloc (g : Nat) (w : World) (o : Obj) : Kept g w (w.alloc o) := fun _ _ _ _ _ h => h.alloc o
theorem Kept.put (g : Nat) (w : World) (i : Nat) (u : Value) : Kept g w (w.setCell ⟨g, i, none⟩ u) := fun _ _ _ hi _ h => h.far hi u
theorem own_apart {w : World} {base n g : Nat} {v : Value} {xs : List Value} {t : TypeId} {cs : Array Value} (h : w.ownsRow base 5 1 v n xs) (hb : Box w g t cs) (hne : t ≠ 5) : some g ≠ v.ownBlock := by
  rcases h.2 with ⟨rfl, _⟩ | ⟨g', cap, cur, rfl, _, hh, _⟩
  · simp [Value.ownBlock]
  · intro e
    have e' : g = g' := by simpa [Value.ownBlock] using e
    subst e'
    exact hb.apart (t' := 5) hh hne rfl
theorem Kept.grown {w w' : World} {base n g : Nat} {v : Value} {xs : List Value} (h : w.ownsRow base 5 1 v n xs) (hg : w.grownBy w' v.ownBlock) : Kept g w w' := fun _ _ _ _ ht hb => hb.grown hg (own_apart h hb ht)

/-- a writer that has these bytes -/
structure Wr (w : World) (base g : Nat) (L : List UInt8) : Prop where
  le : base ≤ g
  box : ∃ v t, t ≠ 5 ∧ Box w g t #[v] ∧ w.ownsRow base 5 1 v L.length (cellsB L)

/-- behind an append, and the store of its answer -/
theorem Wr.next {w w1 w2 : World} {base g n : Nat} {v v' : Value} {L M : List UInt8} {t : TypeId} (ht : t ≠ 5) (h : Box w1 g t #[v]) (hle : base ≤ g) (ho : w1.ownsRow base 5 1 v L.length (cellsB L)) (hg : w1.grownBy w2 v.ownBlock)
    (ho2 : w2.ownsRow base 5 1 v' n (cellsB M)) (hb : Below base w w1) (hk : Kept g w w1) :
    Box w2 g t #[v] ∧ Wr (w2.setCell ⟨g, 0, none⟩ v') base g M ∧ Below base w (w2.setCell ⟨g, 0, none⟩ v') ∧ Kept g w (w2.setCell ⟨g, 0, none⟩ v') := by
  have hB2 := h.grown hg (own_apart ho h ht)
  have hn : n = M.length := by have := ho2.1; rw [cellsB_len] at this; omega
  subst hn
  refine ⟨hB2, ⟨hle, v', t, ht, hB2.put 0 v', ho2.kept (only_put (World.grownBy.refl w2 _) 0 v') (.inr (own_apart ho2 hB2 ht).symm)⟩, ?_, (hk.trans (Kept.grown ho hg)).trans (Kept.put g w2 0 v')⟩
  exact (hb.grown hg (by have := h.lt; omega) (fun k hk => (ho.lt k hk).1)).setCell (p := ⟨g, 0, none⟩) hle v'

theorem byte_of (q : Nat) : (q : Int) % 256 = ((UInt8.ofNat q).toNat : Int) := by rw [UInt8.toNat_ofNat']; omega

theorem u64_eq {a b : Int} (h : a = b) : Value.int .u64 a = .int .u64 b := by rw [h]

/-- a writer that has these bytes more, and nothing else has turned -/
structure WrAt (w u : World) (base g : Nat) (M : List UInt8) : Prop where
  wr : Wr u base g M
  bel : Below base w u
  kept : Kept g w u
/-- behind an append, and the store of its answer -/
theorem WrAt.next {w w1 w2 : World} {base g n : Nat} {v v' : Value} {L M : List UInt8} {o : Obj} {t : TypeId} (hR : WrAt w w1 base g L) (ht : t ≠ 5) (h : Box w1 g t #[v]) (ho : w1.ownsRow base 5 1 v L.length (cellsB L)) (hg : (w1.alloc o).grownBy w2 v.ownBlock)
    (ho2 : w2.ownsRow base 5 1 v' n (cellsB M)) : Box w2 g t #[v] ∧ WrAt w (w2.setCell ⟨g, 0, none⟩ v') base g M := by
  have hle := hR.wr.le
  obtain ⟨h1, h2, h3, h4⟩ := Wr.next ht (h.alloc o) hle (ho.alloc o) hg ho2 (hR.bel.alloc (by have := h.lt; omega) o) (hR.kept.trans (Kept.alloc g w1 o))
  exact ⟨h1, h2, h3, h4⟩

set_option maxHeartbeats 2000000 in
set_option maxRecDepth 100000 in
theorem wnum_any (g base : Nat) (n : Int) (L : List UInt8) (w : World) (hW : Wr w base g L) (hL : L.length ≤ 1099511627776) :
    Calls Try.prog 72 #[.pointer (some ⟨g, 0, none⟩), .int .i64 n] w fun e w' =>
      e = .returned (.tuple #[]) ∧ WrAt w w' base g (L ++ num8 (clp n)) := by
  obtain ⟨i0, hi0, hz0, hz1, hz2⟩ := info_parts info5
  go_enter Try.func72, Try.ntmps72
  go_wp2
  all_goals
    have hS : ((clp n : Nat) : Int) = min (max n 0) 4611686018427387904 := by unfold clp; omega
    have HS := Lib.hid hS
    clear hS
    go_loopw [4, 9] (fun b i wr => ∃ k : Nat, k ≤ 8 ∧ i = .int .i64 k ∧ b = .int .u64 (bitsK (clp n) k : Nat) ∧ WrAt w wr base g (L ++ (num8 (clp n)).take k)) (fun _ i _ => 8 - (intOf i).toNat)
    case atStart => exact ⟨0, by omega, rfl, u64_eq (by rw [bitsK_zero (clp_le n), HS.out]; omega), by simpa using hW, Below.refl _ _, Kept.refl _ _⟩
    case round =>
      obtain ⟨k, hk, rfl, rfl, hR⟩ := hrel
      have hlt := bitsK_lt (clp n) k
      have HB := Lib.hid (bitsK_next (clp n) k)
      have hat := fun (h8 : k < 8) => num8_at (n := clp n) h8
      have HAT := Lib.hid hat
      clear hat
      obtain ⟨q, hq⟩ : ∃ q, q = bitsK (clp n) k := ⟨_, rfl⟩
      rw [← hq] at hlt HB HAT ⊢
      clear hq
      by_cases h8 : k < 8
      · obtain ⟨v, bt, hbt, hb, ho⟩ := hR.wr.box
        obtain ⟨A1, c1, rfl, hc1⟩ := own_form ho
        have hlen : (L ++ (num8 (clp n)).take k).length ≤ 1099511627784 := by rw [List.length_append, List.length_take, num8_len]; omega
        have hgl := hb.lt
        have hbg := hR.wr.le
        have c0 : wr.cell? ⟨g, 0, none⟩ = some (.slice A1 (L ++ (num8 (clp n)).take k).length c1) := hb.cell 0
        have f0 := hb.frozen 0
        obtain ⟨M, hM⟩ : ∃ M, M = L ++ (num8 (clp n)).take k := ⟨_, rfl⟩
        rw [← hM] at c0 hlen ho hR hb
        have HM := Lib.hid hM
        clear hM
        go_wp2_with (at_builtin; refine wpList_append_byt _ rfl (.tmp 15) (.tmp 19) _ rfl base 5 i0 _ Try.underlying25 hi0 hz0 hz1 hz2 rfl _ M.length _ rfl (ho.alloc _) (wr.heap.size + 1) _ _ _ [UInt8.ofNat (q / 72057594037927936)] rfl rfl (Byt.one wr 5 _ (UInt8.ofNat (q / 72057594037927936)) (by rw [UInt8.toNat_ofNat']; omega)) (by simp; omega) (by simp; omega) ?_; intro v2 w2 hown2 hg2 hat2; rw [← cellsB_app] at hown2; obtain ⟨A2, c2, rfl, hc2⟩ := own_form hown2; obtain ⟨hB2, hN⟩ := hR.next hbt hb ho hg2 hown2; have d0 := hB2.cell 0; have e0 := hB2.frozen 0; simp only [List.getElem?_toArray, List.getElem?_cons_zero] at d0; clear hown2 hg2 hat2)
        have hMM : M ++ [UInt8.ofNat (q / 72057594037927936)] = L ++ (num8 (clp n)).take (k + 1) := by rw [HAT.out h8, HM.out, List.append_assoc]
        rw [hMM] at hN
        have HMM := Lib.hid hMM
        clear hMM
        go_roundw
        case rel => exact ⟨k + 1, by omega, by go_num, u64_eq (by rw [HB.out, IntKind.wrap_u64]; omega), hN⟩
        case measure => simp [intOf]; omega
      · obtain rfl : k = 8 := by omega
        rw [num8_all] at hR
        go_wp2
        go_end0
        exact ⟨rfl, hR⟩

set_option maxHeartbeats 1000000 in
set_option maxRecDepth 100000 in
theorem wflag_any (g base : Nat) (y : Bool) (L : List UInt8) (w : World) (hW : Wr w base g L) (hL : L.length ≤ 1099511627776) :
    Calls Try.prog 41 #[.pointer (some ⟨g, 0, none⟩), .bool y] w fun e w' =>
      e = .returned (.tuple #[]) ∧ WrAt w w' base g (L ++ [if y then 1 else 0]) := by
  obtain ⟨i0, hi0, hz0, hz1, hz2⟩ := info_parts info5
  have hR : WrAt w w base g L := ⟨hW, Below.refl _ _, Kept.refl _ _⟩
  obtain ⟨v, bt, hbt, hb, ho⟩ := hW.box
  obtain ⟨A1, c1, rfl, hc1⟩ := own_form ho
  have hgl := hb.lt
  have hbg := hW.le
  have c0 : w.cell? ⟨g, 0, none⟩ = some (.slice A1 L.length c1) := hb.cell 0
  cases y
  · go_enter Try.func41, Try.ntmps41
    go_wp2_with (at_builtin; refine wpList_append_byt _ rfl (.tmp 10) (.tmp 12) _ rfl base 5 i0 _ Try.underlying25 hi0 hz0 hz1 hz2 rfl _ L.length _ rfl (ho.alloc _) (w.heap.size + 1) _ _ _ [0] rfl rfl (Byt.one w 5 _ 0 rfl) (by simp; omega) (by simp; omega) ?_; intro v2 w2 hown2 hg2 hat2; rw [← cellsB_app] at hown2; obtain ⟨A2, c2, rfl, hc2⟩ := own_form hown2; obtain ⟨hB2, hN⟩ := hR.next hbt hb ho hg2 hown2; have d0 := hB2.cell 0; have e0 := hB2.frozen 0; simp only [List.getElem?_toArray, List.getElem?_cons_zero] at d0; clear hown2 hg2 hat2)
    go_end0
    exact ⟨rfl, hN⟩
  · go_enter Try.func41, Try.ntmps41
    go_wp2_with (at_builtin; refine wpList_append_byt _ rfl (.tmp 10) (.tmp 12) _ rfl base 5 i0 _ Try.underlying25 hi0 hz0 hz1 hz2 rfl _ L.length _ rfl (ho.alloc _) (w.heap.size + 1) _ _ _ [1] rfl rfl (Byt.one w 5 _ 1 rfl) (by simp; omega) (by simp; omega) ?_; intro v2 w2 hown2 hg2 hat2; rw [← cellsB_app] at hown2; obtain ⟨A2, c2, rfl, hc2⟩ := own_form hown2; obtain ⟨hB2, hN⟩ := hR.next hbt hb ho hg2 hown2; have d0 := hB2.cell 0; have e0 := hB2.frozen 0; simp only [List.getElem?_toArray, List.getElem?_cons_zero] at d0; clear hown2 hg2 hat2)
    go_end0
    exact ⟨rfl, hN⟩

theorem strCells_eq (s : ByteArray) : Lib.strCells s = cellsB s.data.toList := rfl
set_option maxHeartbeats 1000000 in
set_option maxRecDepth 100000 in
theorem wtext_any (g base : Nat) (s : ByteArray) (L : List UInt8) (w : World) (hW : Wr w base g L) (hL : L.length ≤ 549755813888) (hs : s.size ≤ 549755813888) :
    Calls Try.prog 40 #[.pointer (some ⟨g, 0, none⟩), .string s] w fun e w' =>
      e = .returned (.tuple #[]) ∧ WrAt w w' base g (L ++ num8 s.size ++ s.data.toList) := by
  obtain ⟨i0, hi0, hz0, hz1, hz2⟩ := info_parts info5
  have HN := Lib.hid (wnum_any g base (s.size : Int) L w hW (by omega))
  rw [clp_of (by omega)] at HN
  have hlen : (L ++ num8 s.size).length ≤ 549755813896 := by rw [List.length_append, num8_len]; omega
  obtain ⟨M, hM⟩ : ∃ M, M = L ++ num8 s.size := ⟨_, rfl⟩
  rw [← hM] at hlen HN ⊢
  clear hW hM
  go_enter Try.func40, Try.ntmps40
  go_wp2_with (first
    | (go_at_call 72; refine HN.out.mono ?_; rintro e w1 ⟨rfl, hR⟩; obtain ⟨v, bt, hbt, hb, ho⟩ := hR.wr.box; obtain ⟨A1, c1, rfl, hc1⟩ := own_form ho; have hgl := hb.lt; have hbg := hR.wr.le; have c0 := hb.cell 0; simp only [List.getElem?_toArray, List.getElem?_cons_zero] at c0)
    | (at_builtin; refine Lib.wpList_append_own_string _ rfl (.tmp 12) (.tmp 13) _ _ rfl base 5 i0 Try.underlying25 Try.underlying9 hi0 hz0 hz1 hz2 _ M.length _ rfl ho s rfl (by unfold maxLen; omega) (by omega) (by omega) ?_; intro v2 w2 hown2 hg2 hat2; rw [strCells_eq, ← cellsB_app] at hown2; obtain ⟨A2, c2, rfl, hc2⟩ := own_form hown2; obtain ⟨hB2, h2, h3, h4⟩ := Wr.next hbt hb hbg ho hg2 hown2 hR.bel hR.kept; have d0 := hB2.cell 0; have e0 := hB2.frozen 0; simp only [List.getElem?_toArray, List.getElem?_cons_zero] at d0; clear hown2 hg2 hat2))
  go_end0
  exact ⟨rfl, h2, h3, h4⟩

/-- bytes of one's own -/
def OwnB (w : World) (L : List UInt8) (e : Ending) (w' : World) : Prop :=
  ∃ A c, e = .returned (.slice A L.length c) ∧ L.length ≤ c ∧ Byt w' w'.heap.size A L ∧ Below w.heap.size w w'
set_option maxHeartbeats 1000000 in
set_option maxRecDepth 100000 in
theorem wbytes_any (g base : Nat) (L : List UInt8) (w : World) (hW : Wr w base g L) (hL : L.length ≤ 1099511627776) :
    Calls Try.prog 27 #[.pointer (some ⟨g, 0, none⟩)] w (OwnB w L) := by
  obtain ⟨v, bt, hbt, hb, ho⟩ := hW.box
  obtain ⟨A1, c1, rfl, hc1⟩ := own_form ho
  have H := Lib.hid (clone_any A1 L c1 w (Byt.own ho) hL)
  have c0 : w.cell? ⟨g, 0, none⟩ = some (.slice A1 L.length c1) := hb.cell 0
  clear hb ho hW
  go_enter Try.func27, Try.ntmps27
  go_wp2_with (go_at_call 59; refine H.out.mono ?_; rintro e w1 ⟨v, rfl, hown, hB⟩; obtain ⟨A2, c2, rfl, hc2⟩ := own_form hown)
  go_ret
  exact ⟨A2, c2, rfl, hc2, Byt.own hown, hB⟩
end Go.Proofs.Ytihkadbcjeohjaa

