/-
  What the program's segments, below and remove answer of a store that is up: the numbers of its segments, how many of them are below one, and the files without some.
  Conditions: the store is one, its power is there and no fuse is set; the library's table of powers of ten holds what its text lays.
-/
import Derived.Test.YtohnhboeipckjaaGreatDoorWalName
import Derived.Test.YtohnhboeipckjaaGreatDoorStoAny
import Derived.Test.YtohnhboeipckjaaGreatDoorRecRefAll
import Derived.Test.YtohnhboeipckjaaGreatDoorRecAll
import Derived.Sort.OwnSortedInts
import Derived.Maps.AppendAt
namespace Go.Proofs.YtohnhboeipckjaaGreatDoor
open Go.RowKit
open Go.Sort (Holds putRow)

theorem infoInt : (Tryz.prog.info? 3).map (fun i => (i.zero, i.size, i.bytes)) = some (some (.int .i64 0), 1, 8) := by kernel_rfl
abbrev natI (ns : List Nat) : List Int := ns.map fun (n : Nat) => (n : Int)
abbrev natV (ns : List Nat) : List Value := (natI ns).map (Value.int .i64)
theorem kept_row {W W' : World} {B B' : Nat} {e e' : TypeId} {v v' : Value} {k k' : Nat} {xs xs' : List Value} (h : W.ownsRow B e 1 v k xs) (h' : W.ownsRow B' e' 1 v' k' xs') (hne : e ≠ e') (hg : W.grownBy W' v'.ownBlock) : W'.ownsRow B e 1 v k xs :=
  h.kept hg (row_ne h h' hne)

/-- the slice at A has these numbers, in blocks of X -/
def Nums (w : World) (X : Nat → Prop) (A : Option Addr) (ns : List Nat) : Prop :=
  ns ≠ [] → ∃ b o, A = some ⟨b, o, none⟩ ∧ X b ∧ b < w.heap.size ∧ ∀ k (h : k < ns.length), w.cell? ⟨b, o + k, none⟩ = some (.int .i64 (ns[k] : Int))
theorem Nums.keep {w w' : World} {X : Nat → Prop} {A : Option Addr} {ns : List Nat} (h : Nums w X A ns) (hk : Keep X w w') : Nums w' X A ns := fun hne => by
  obtain ⟨b, o, e, hx, hb, hc⟩ := h hne
  exact ⟨b, o, e, hx, Nat.lt_of_lt_of_le hb hk.size, fun k hl => (World.cell?_of_block (hk.block b hb hx)).trans (hc k hl)⟩
theorem Nums.more {w : World} {X Y : Nat → Prop} {A : Option Addr} {ns : List Nat} (h : Nums w X A ns) (hY : ∀ i, X i → Y i) : Nums w Y A ns := fun hne => by
  obtain ⟨b, o, e, hx, hb, hc⟩ := h hne
  exact ⟨b, o, e, hY b hx, hb, hc⟩
theorem Nums.take {w : World} {X : Nat → Prop} {A : Option Addr} {ns : List Nat} (h : Nums w X A ns) (n : Nat) : Nums w X A (ns.take n) := fun hne => by
  obtain ⟨b, o, e, hx, hb, hc⟩ := h (by rintro rfl; simp at hne)
  exact ⟨b, o, e, hx, hb, fun k hk => by rw [List.getElem_take]; exact hc k (by simp at hk; omega)⟩
theorem Nums.drop {w : World} {X : Nat → Prop} {A : Option Addr} {ns : List Nat} (h : Nums w X A ns) {n c : Nat} (hc : ns.length ≤ c) : Nums w X (if c = n then A else A.map (·.add n)) (ns.drop n) := fun hne => by
  have hn : n < ns.length := by
    rcases Nat.lt_or_ge n ns.length with h1 | h1
    · exact h1
    · exact absurd (List.drop_eq_nil_of_le h1) hne
  obtain ⟨b, o, rfl, hx, hlt, hcell⟩ := h (by rintro rfl; simp at hn)
  rw [if_neg (by omega)]
  refine ⟨b, o + n, ?_, hx, hlt, fun k hk => ?_⟩
  · simp only [Option.map_some, Option.some.injEq]
    unfold Addr.add
    split <;> simp_all
  · rw [List.getElem_drop, Nat.add_assoc]
    exact hcell (n + k) (by simp at hk; omega)
theorem Nums.get {w : World} {X : Nat → Prop} {A : Option Addr} {ns : List Nat} (h : Nums w X A ns) {k : Nat} (hk : k < ns.length) : ∃ b o, A = some ⟨b, o, none⟩ ∧ X b ∧ b < w.heap.size ∧ w.cell? ⟨b, o + k, none⟩ = some (.int .i64 (ns[k] : Int)) := by
  obtain ⟨b, o, e, hx, hb, hc⟩ := h (by rintro rfl; simp at hk)
  exact ⟨b, o, e, hx, hb, hc k hk⟩
theorem nums_own {w : World} {B : Nat} {A : Option Addr} {n c : Nat} {ns : List Nat} (h : w.ownsRow B 3 1 (.slice A n c) n (natV ns)) (hn : n = ns.length) : Nums w (fun i => B ≤ i ∧ i < w.heap.size) A ns := by
  subst hn
  intro hne
  have hl : 0 < ns.length := List.length_pos_iff.2 hne
  obtain ⟨b, rfl, h1, h2, _⟩ := row_cell h hl
  refine ⟨b, 0, rfl, ⟨h1, h2⟩, h2, fun k hk => ?_⟩
  obtain ⟨b', e, _, _, hc⟩ := row_cell h hk
  injection e with e
  injection e with e
  subst e
  rw [Nat.zero_add, hc]
  simp [hk]

/-- numbers sorted -/
theorem sort_nat (ns : List Nat) : ∃ ns', (natI ns).mergeSort (fun x y => decide (x ≤ y)) = natI ns' ∧ ns'.Perm ns ∧ ns'.Pairwise (· ≤ ·) := by
  have hp := List.mergeSort_perm (natI ns) (fun x y => decide (x ≤ y))
  have hs := List.pairwise_mergeSort (le := fun x y : Int => decide (x ≤ y)) (fun a b c h1 h2 => by simp at *; omega) (fun a b => by simp; omega) (natI ns)
  refine ⟨((natI ns).mergeSort fun x y => decide (x ≤ y)).map Int.toNat, ?_, ?_, ?_⟩
  · unfold natI
    rw [List.map_map]
    conv => lhs; rw [← List.map_id ((List.map (fun (n : Nat) => (n : Int)) ns).mergeSort fun x y => decide (x ≤ y))]
    apply List.map_congr_left
    intro x hx
    obtain ⟨n, _, rfl⟩ := List.mem_map.1 (hp.mem_iff.1 hx)
    simp
  · have h := hp.map Int.toNat
    have e : (natI ns).map Int.toNat = ns := by
      unfold natI
      rw [List.map_map]
      conv => rhs; rw [← List.map_id ns]
      apply List.map_congr_left
      intro x _
      simp
    rw [e] at h
    exact h
  · rw [List.pairwise_map]
    refine hs.imp fun {a b} h => ?_
    have : a ≤ b := by simpa using h
    omega

/-! ### segments -/
def numsTo (nl : List (List UInt8)) (k : Nat) : List Nat := ((nl.take k).map numL).filter fun n => decide (0 < n)
theorem numsTo_len (nl : List (List UInt8)) (k : Nat) : (numsTo nl k).length ≤ k := by
  unfold numsTo
  have h1 := List.length_filter_le (fun n => decide (0 < n)) ((nl.take k).map numL)
  rw [List.length_map, List.length_take] at h1
  omega
theorem numsTo_yes {nl : List (List UInt8)} {k : Nat} (hk : k < nl.length) (h : 0 < numL nl[k]) : numsTo nl (k + 1) = numsTo nl k ++ [numL nl[k]] := by
  unfold numsTo
  rw [List.take_succ_eq_append_getElem hk, List.map_append, List.filter_append]
  simp [h]
theorem numsTo_no {nl : List (List UInt8)} {k : Nat} (hk : k < nl.length) (h : numL nl[k] = 0) : numsTo nl (k + 1) = numsTo nl k := by
  unfold numsTo
  rw [List.take_succ_eq_append_getElem hk, List.map_append, List.filter_append]
  simp [h]
/-- where the loop of segments stands -/
structure SegAt (w : World) (nl : List (List UInt8)) (k : Nat) (vN v : Value) (wr : World) : Prop where
  nms : wr.ownsRow w.heap.size 9 1 vN nl.length (nl.map encStr)
  nums : wr.ownsRow w.heap.size 3 1 v (numsTo nl k).length (natV (numsTo nl k))
  bel : Below w.heap.size w wr
/-- what segments answers -/
def SegsAre (w : World) (fs : List Fl) (e : Ending) (w' : World) : Prop :=
  ∃ (A : Option Addr) (c : Nat) (ns : List Nat), e = .returned (.slice A ns.length c) ∧ ns.length ≤ c ∧ SegsIs fs ns ∧ Nums w' (fun i => w.heap.size ≤ i ∧ i < w'.heap.size) A ns ∧ Below w.heap.size w w'
theorem numsTo_all (fs : List Fl) : numsTo (fs.map Fl.name) fs.length = numsOf fs := by
  unfold numsTo numsOf
  rw [List.take_of_length_le (by simp), List.map_map]
  rfl

set_option maxRecDepth 100000 in
set_option maxHeartbeats 4000000 in
theorem segments_any (g : Nat) (X : Nat → Prop) (st : St) (w : World) (h : Sto w g X st) (hu : st.down = false) :
    Calls Tryz.prog 29 #[.pointer (some ⟨g, 0, none⟩)] w (SegsAre w st.fs) := by
  obtain ⟨j0, hj0, hjz0, hjz1, hjz2⟩ := info_parts infoInt
  have HNM := Lib.hid (names_any g X st w h)
  have hns : namesS st = st.fs.map Fl.name := by unfold namesS; rw [hu]; rfl
  rw [hns] at HNM
  have hok := h.ok
  have hlen : (st.fs.map Fl.name).length ≤ 256 := by rw [List.length_map]; exact hok.many
  have hsm : ∀ x ∈ st.fs.map Fl.name, x.length ≤ 1073741824 := fun x hx => by
    obtain ⟨f, hf, rfl⟩ := List.mem_map.1 hx
    exact (hok.good f hf).2
  have HALL := Lib.hid (numsTo_all st.fs)
  have HRI := Lib.hid hok.rise
  obtain ⟨N, hN⟩ : ∃ N, N = (st.fs.map Fl.name).length := ⟨_, rfl⟩
  have hNl : N = st.fs.length := by rw [hN, List.length_map]
  rw [← hNl] at HALL
  generalize st.fs.map Fl.name = nl at *
  have HN := Lib.hid hN
  have HSM := Lib.hid hsm
  rw [← hN] at hlen
  clear h hok hns hsm hN hu hNl
  go_enter Tryz.func29, Tryz.ntmps29
  go_wp2_with fail
  refine HNM.out.mono ?_
  rintro e W1 ⟨vN, rfl, hown1, b1⟩
  rw [← HN.out] at hown1
  obtain ⟨AN, cN, rfl, _⟩ := own_form hown1
  have HST : Hid (SegAt w nl 0 (.slice AN N cN) (.slice none 0 0) W1) := Lib.hid ⟨by rw [← HN.out]; exact hown1, by simpa [numsTo] using World.ownsRow_nil _ _ _ _, b1⟩
  clear HNM hown1 b1
  go_wp2_with fail
  go_loopw [3, 10] (fun v p wr => ∃ k m : Nat, p = .int .i64 k ∧ k ≤ N ∧ m ≤ k ∧ Hid (SegAt w nl k (.slice AN N cN) v wr) ∧ Hid ((numsTo nl k).length = m)) (fun _ p _ => N - (intOf p).toNat)
  case atStart => exact ⟨0, 0, rfl, by omega, by omega, HST, Lib.hid rfl⟩
  case round =>
    obtain ⟨k, m, rfl, hk, hmk, HS, HM⟩ := hrel
    by_cases hlt : k < N
    · have hnms := HS.out.nms
      rw [← HN.out] at hnms
      obtain ⟨b0, rfl, hb0, hb0', hc0⟩ := row_cell hnms hlt
      have hkn : k < nl.length := by rw [← HN.out]; exact hlt
      have hc1 : wr.cell? ⟨b0, k, none⟩ = some (.string ⟨(nl[k]).toArray⟩) := by rw [hc0]; simp [hkn, encStr]
      have hxs := HSM.out _ (List.getElem_mem hkn)
      have HY := fun h => Lib.hid (numsTo_yes hkn h)
      have HZ := fun h => Lib.hid (numsTo_no hkn h)
      generalize nl[k] = x at *
      have HC := Lib.hid (number_any ⟨x.toArray⟩ wr (by show x.toArray.size ≤ _; rw [List.size_toArray]; omega))
      rw [show (⟨x.toArray⟩ : ByteArray).data.toList = x from rfl] at HC
      have hbs := HS.out.bel.size
      by_cases h0 : numL x = 0
      · have HZ := HZ h0
        rw [h0] at HC
        clear hc0 hnms HY h0 hxs
        go_wp2_with (go_at_call 22; (with_reducible refine HC.out.mono ?_); rintro e W2 ⟨rfl, b2⟩)
        go_roundw
        case rel => exact ⟨k + 1, m, by go_num, by omega, by omega, Lib.hid ⟨own_below HS.out.nms b2, by rw [HZ.out]; exact own_below HS.out.nums b2, HS.out.bel.trans (b2.mono hbs)⟩, Lib.hid (by rw [HZ.out]; exact HM.out)⟩
        case measure => simp [intOf]; omega
      · have HY := HY (by omega)
        obtain ⟨n, hn⟩ : ∃ n, n = numL x := ⟨_, rfl⟩
        rw [← hn] at HC HY
        have hpos : 0 < n := by omega
        clear hc0 hnms HZ h0 hxs hn
        go_wp2_with (first
          | (go_at_call 22; (with_reducible refine HC.out.mono ?_); rintro e W2 ⟨rfl, b2⟩; have hbs2 := b2.size; have hnum2 := own_below HS.out.nums b2; rw [HM.out] at hnum2; have HNU := Lib.hid hnum2; have HNA := Lib.hid (own_below HS.out.nms b2); have HB2 := Lib.hid (HS.out.bel.trans (b2.mono hbs)); clear hnum2 b2)
          | (at_builtin; refine wpList_append_own_at _ rfl (.tmp 18) (.tmp 20) _ rfl w.heap.size 3 j0 _ 1 8 Tryz.underlying56 hj0 hjz0 hjz1 hjz2 rfl (by decide) _ m _ rfl (HNU.out.alloc _) ⟨W2.heap.size, 0, none⟩ 1 1 [_] rfl rfl (cell_one_new _ _ _) (by simp [Value.oneCell']) (by unfold maxLen; omega) (by omega) (by simp; omega) ?_; intro v3 w3 hown3 hg3 _ _; have HNA3 := Lib.hid (kept_row (HNA.out.alloc _) (HNU.out.alloc _) (by decide) hg3); have HB3 := Lib.hid (own_next HB2.out (by omega) HNU.out hg3); have HO3 := Lib.hid hown3; clear hown3 hg3))
        go_roundw
        case rel =>
          refine ⟨k + 1, m + 1, by go_num, by omega, by omega, Lib.hid ⟨HNA3.out, ?_, HB3.out⟩, Lib.hid (by rw [HY.out, List.length_append, HM.out]; rfl)⟩
          have h := HO3.out
          rw [HY.out, List.length_append, HM.out]
          simp only [natV, natI, List.map_append, List.map_cons, List.map_nil, List.length_cons, List.length_nil, Nat.zero_add]
          exact h
        case measure => simp [intOf]; omega
    · obtain rfl : k = N := by omega
      have hnum := HS.out.nums
      have hall := HALL.out
      rw [HM.out, hall] at hnum
      have hm := HM.out
      rw [hall] at hm
      have HBE := Lib.hid HS.out.bel
      have hbs := HS.out.bel.size
      by_cases hm0 : m = 0
      · subst hm0
        obtain ⟨A3, c3, rfl, _⟩ := own_form hnum
        have hnil : numsOf st.fs = [] := List.eq_nil_of_length_eq_zero hm
        have HNI := Lib.hid hnil
        clear hnum hall hm hnil hlt HS HM
        go_wp2_with (go_at_call 47; (with_reducible refine (Tryz.slices_Sort_int_none A3 c3 _).mono ?_); rintro e W2 ⟨rfl, rfl⟩)
        go_ret
        exact ⟨A3, c3, [], rfl, by simp, SegsIs.of HRI.out List.Pairwise.nil (by rw [HNI.out]), fun h => absurd rfl h, HBE.out⟩
      · rcases hnum.2 with ⟨_, h0⟩ | ⟨q, cap, cur, rfl, hq, hh, hc1, hc2, hc3, hc4⟩
        · exact absurd h0 hm0
        · obtain ⟨ns', e1, e2, e3⟩ := sort_nat (numsOf st.fs)
          have hlz : (natI (numsOf st.fs)).length = m := by unfold natI; rw [List.length_map]; exact hm
          rw [Nat.mul_one] at hc4
          have hH : Holds (Value.int .i64) wr q 0 (natI (numsOf st.fs)).toArray := holds_of_blockI hh (by rw [hlz]; exact hc4)
          have hqs := (Array.getElem?_eq_some_iff.1 hh).1
          have HC := Lib.hid (Tryz.slices_Sort_int q 0 cap (natI (numsOf st.fs)) wr hH hqs (by rw [hlz]; omega))
          rw [hlz, e1] at HC
          have hl2 : ns'.length = m := by rw [e2.length_eq]; exact hm
          have HL2 := Lib.hid hl2
          have HOW : Hid (∀ n os, (Go.Sort.grow (putRow (Value.int .i64) (Go.Sort.ahead wr n) q 0 (natI ns').toArray) os).ownsRow w.heap.size 3 1 (.slice (some ⟨q, 0, none⟩) m cap) m (natV ns')) := Lib.hid fun n os => by
            have h := ownsRow_sortedI (n := n) (os := os) (ss := natI (numsOf st.fs)) (ts := natI ns') (by rw [hlz]; unfold natI; rw [List.length_map]; exact hl2) hq hh (by rw [hlz]; exact hc1) hc2 hc3
            rw [hlz] at h
            exact h
          have HSE := Lib.hid (SegsIs.of HRI.out e3 e2)
          clear hnum hall hm hlt HS HM hh hc3 hc4 hH e1 e2 e3 hl2 hlz
          go_wp2_with (go_at_call 47; (with_reducible refine HC.out.mono ?_); rintro e W2 ⟨rfl, n2, os2, hW2⟩; have HW2 := Lib.hid hW2; clear hW2)
          go_ret
          have ho := HOW.out n2 os2
          rw [← HW2.out] at ho
          have hg : wr.grownBy W2 (some q) := by rw [HW2.out]; exact grownBy_sortedI _
          exact ⟨_, cap, ns', by rw [HL2.out]; rfl, by rw [HL2.out]; exact hc1, HSE.out, nums_own ho HL2.out.symm, HBE.out.grown hg hbs (fun i e => by injection e with e; omega)⟩
end Go.Proofs.YtohnhboeipckjaaGreatDoor
