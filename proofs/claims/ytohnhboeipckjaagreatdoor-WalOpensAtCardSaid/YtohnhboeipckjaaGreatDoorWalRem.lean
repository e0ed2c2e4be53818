/-
  What the program's below, remove, refused and choose answer of a store that is up, and what each of the store's deeds does while its power is there and no fuse is set.
  Conditions: the store is one, its power is there and no fuse is set; the numbers are those of segments that are there, each once; the library's table of powers of ten holds what its text lays.
-/
import Derived.Test.YtohnhboeipckjaaGreatDoorWalSegs
import Derived.Deep.RegionHeld3
namespace Go.Proofs.YtohnhboeipckjaaGreatDoor
section
open Go.RowKit

theorem count_nat (ns : List Nat) (n : Nat) : ((natI ns).take ns.length).countP (fun y => decide (y < (n : Int))) = ns.countP fun x => decide (x < n) := by
  rw [List.take_of_length_le (by simp), List.countP_map]
  congr 1
  funext x
  simp
set_option maxRecDepth 100000 in
set_option maxHeartbeats 1000000 in
theorem below_any (A : Option Addr) (ns : List Nat) (c n : Nat) (X : Nat → Prop) (w : World) (hN : Nums w X A ns) (hs : ns.Pairwise (· < ·)) (hl : ns.length ≤ 1000000) :
    Calls Tryz.prog 34 #[.slice A ns.length c, .int .i64 (n : Int)] w fun e w' => e = .returned (.int .i64 (ns.countP (fun x => decide (x < n)) : Nat)) ∧ ∃ q, w' = w.drewN q := by
  by_cases h0 : ns = []
  · subst h0
    go_enter Tryz.func34, Tryz.ntmps34
    go_wp2_with (go_at_call 54; (with_reducible refine (Tryz.slices_BinarySearch_int_empty _ _ _ _).mono ?_); rintro e w1 ⟨rfl, rfl⟩)
    go_ret
    exact ⟨rfl, 0, rfl⟩
  · obtain ⟨b, o, rfl, _, hb, hc⟩ := hN h0
    have HB := Lib.hid (Tryz.slices_BinarySearch_int b o ns.length c (natI ns) (n : Int) w (by simp) (by omega) (fun j hj => by
      have hj' : j < ns.length := by simpa using hj
      rw [hc j hj']
      simp [List.getD, hj']) (by
      rw [List.take_of_length_le (by simp), List.pairwise_map]
      exact hs.imp fun h => by omega))
    rw [count_nat] at HB
    clear hc hs hN
    generalize ns.countP (fun x => decide (x < n)) = r at *
    go_enter Tryz.func34, Tryz.ntmps34
    go_wp2_with (go_at_call 54; (with_reducible refine HB.out.mono ?_); rintro e w1 ⟨rfl, q, rfl⟩)
    go_ret
    exact ⟨rfl, q, rfl⟩

/-! ### A store that is up -/
structure Up (st : St) : Prop where
  down : st.down = false
  fuse : st.fuse = 0
def St.with (st : St) (fs : List Fl) : St := ⟨fs, st.cap, st.fuse, st.down⟩
theorem Up.with {st : St} (h : Up st) (fs : List Fl) : Up (st.with fs) := ⟨h.down, h.fuse⟩
theorem St.with_self (st : St) : st.with st.fs = st := rfl
theorem St.with_with (st : St) (a b : List Fl) : (st.with a).with b = st.with b := rfl
theorem doing_up {st : St} (h : Up st) (g : St → St) : st.doing g = (g st, 0) := by
  obtain ⟨fs, cap, fuse, down⟩ := st
  obtain ⟨h1, h2⟩ := h
  simp only at h1 h2
  subst h1 h2
  simp [St.doing]
theorem rem_up {st : St} (h : Up st) {x : List UInt8} (hx : (lookBy Fl.name x st.fs).isSome = true) : st.remove x = (st.with (delBy Fl.name x st.fs), 0) := by
  unfold St.remove
  rw [h.down]
  cases hl : lookBy Fl.name x st.fs with
  | none => rw [hl] at hx; cases hx
  | some f =>
    simp only [Bool.false_eq_true, if_false]
    rw [doing_up h]
    rfl
/-- a file's bytes are safe -/
def syncF (x : List UInt8) (fs : List Fl) : List Fl := match lookBy Fl.name x fs with | none => fs | some f => putBy Fl.name { f with safe := f.bs.length, stays := true } fs
theorem sync_up {st : St} (h : Up st) (x : List UInt8) : st.sync x = (st.with (syncF x st.fs), if (lookBy Fl.name x st.fs).isSome then 0 else 7) := by
  unfold St.sync syncF
  rw [h.down]
  cases hl : lookBy Fl.name x st.fs with
  | none =>
    simp only [Bool.false_eq_true, if_false]
    rw [St.with_self]
    rfl
  | some f =>
    simp only [Bool.false_eq_true, if_false]
    rw [doing_up h]
    rfl
def truncF (x : List UInt8) (n : Nat) (fs : List Fl) : List Fl := match lookBy Fl.name x fs with | none => fs | some f => putBy Fl.name { f with bs := f.bs.take n, safe := min f.safe n } fs
theorem trunc_up {st : St} (h : Up st) {x : List UInt8} {f : Fl} (hx : lookBy Fl.name x st.fs = some f) {n : Nat} (hn : n ≤ f.bs.length) : st.trunc x (n : Int) = (st.with (truncF x n st.fs), 0) := by
  unfold St.trunc truncF
  rw [h.down, hx]
  simp only [Bool.false_eq_true, if_false]
  rw [if_neg (by omega), doing_up h]
  rfl
/-- a file with more bytes -/
def appF (x b : List UInt8) (fs : List Fl) : List Fl := putBy Fl.name { (lookBy Fl.name x fs).getD (newF x) with bs := ((lookBy Fl.name x fs).getD (newF x)).bs ++ b } fs
theorem app_up {st : St} (h : Up st) {x b : List UInt8} (h1 : nameB x = true) (h2 : (lookBy Fl.name x st.fs).isNone = true → st.fs.length < 256) (h3 : b.length ≤ st.cap - usedF st.fs) : st.append (nameB x) x b = (st.with (appF x b st.fs), 0) := by
  have ht : st.takes (nameB x) x b.length = 0 := by
    unfold St.takes
    rw [h.down, h1]
    simp only [Bool.not_true, Bool.false_eq_true, if_false]
    rw [if_neg, if_neg (by omega)]
    simp only [Bool.and_eq_true, decide_eq_true_eq, not_and]
    intro hn
    have := h2 hn
    omega
  unfold St.append appF
  rw [if_pos ht]
  obtain ⟨fs, cap, fuse, down⟩ := st
  obtain ⟨k1, k2⟩ := h
  simp only at k1 k2
  subst k1 k2
  simp [St.deed, St.with]

/-! ### remove -/
theorem name_ok {n : Nat} (X : Nat → Prop) (w : World) (hT : Tab w X) (hn : okN n) :
    Calls Tryz.prog 18 #[.int .i64 (n : Int)] w fun e w' => e = .returned (.string ⟨(segL n).toArray⟩) ∧ Below w.heap.size w w' := by
  have h := name_any (n : Int) X w hT (by omega) (by have := hn.2; omega)
  rw [nameI_ok hn] at h
  exact h
theorem seg_size {n : Nat} (hn : okN n) : (⟨(segL n).toArray⟩ : ByteArray).size ≤ 1073741824 := by
  show (segL n).toArray.size ≤ _
  rw [List.size_toArray]
  have := (seg_len hn).2
  omega
/-- these are numbers of segments that are there, each once -/
structure There (ns : List Nat) (fs : List Fl) : Prop where
  ok : ∀ n ∈ ns, okN n
  is : ∀ n ∈ ns, (lookBy Fl.name (segL n) fs).isSome = true
  once : ns.Nodup
theorem There.next {ns : List Nat} {fs : List Fl} (h : There ns fs) {k : Nat} (hk : k < ns.length) : (lookBy Fl.name (segL ns[k]) (delN (ns.take k) fs)).isSome = true := by
  rw [look_delN, if_neg]
  · exact h.is _ (List.getElem_mem hk)
  · intro hm
    obtain ⟨m, hm, e⟩ := List.mem_map.1 hm
    obtain ⟨j, hj, rfl⟩ := List.getElem_of_mem hm
    rw [List.length_take] at hj
    rw [List.getElem_take] at e
    have e2 := seg_inj (h.ok _ (List.getElem_mem _)) (h.ok _ (List.getElem_mem hk)) e
    exact List.pairwise_iff_getElem.1 h.once j k (by omega) hk (by omega) e2

set_option maxRecDepth 100000 in
set_option maxHeartbeats 2000000 in
theorem wremove_any (g : Nat) (X : Nat → Prop) (st : St) (A : Option Addr) (ns : List Nat) (c : Nat) (w : World) (hS : Sto w g X st) (hT : Tab w X) (hU : Up st) (hN : Nums w X A ns) (hH : There ns st.fs) (hl : ns.length ≤ 1000000) :
    Calls Tryz.prog 33 #[.pointer (some ⟨g, 0, none⟩), .slice A ns.length c] w fun e w' => e = .returned (.int .i64 0) ∧ Sto w' g X (st.with (delN ns st.fs)) ∧ Keep X w w' := by
  obtain ⟨N, hNe⟩ : ∃ N, N = ns.length := ⟨_, rfl⟩
  have HE := Lib.hid hNe
  have HN := Lib.hid hN
  have HT := Lib.hid hT
  have HU := Lib.hid hU
  have HH := Lib.hid hH
  have HS : Hid (Sto w g X (st.with (delN (ns.take 0) st.fs))) := Lib.hid (by rw [List.take_zero, delN_nil, St.with_self]; exact hS)
  rw [← hNe] at hl ⊢
  clear hN hT hU hH hS hNe
  go_enter Tryz.func33, Tryz.ntmps33
  go_wp2
  go_loopw [10] (fun p wr => ∃ k : Nat, p = .int .i64 k ∧ k ≤ N ∧ Hid (Sto wr g X (st.with (delN (ns.take k) st.fs))) ∧ Hid (Keep X w wr)) (fun p _ => N - (intOf p).toNat)
  case atStart => exact ⟨0, rfl, by omega, HS, Lib.hid (Keep.refl _ _)⟩
  case round =>
    obtain ⟨k, rfl, hk, HS1, HK⟩ := hrel
    by_cases hlt : k < N
    · have hkn : k < ns.length := by rw [← HE.out]; exact hlt
      obtain ⟨b0, o0, rfl, _, hb0, hc0⟩ := (HN.out.keep HK.out).get hkn
      have hok := HH.out.ok _ (List.getElem_mem hkn)
      have his := HH.out.next hkn
      have HSN : Hid (delN (ns.take (k + 1)) st.fs = delBy Fl.name (segL ns[k]) (delN (ns.take k) st.fs)) := Lib.hid (by rw [List.take_succ_eq_append_getElem hkn, delN_snoc])
      generalize ns[k] = n at *
      have HNM := Lib.hid (name_ok X wr (HT.out.on HK.out (fun _ h => h)) hok)
      have HR : ∀ w2, Below wr.heap.size wr w2 → Hid (Calls Tryz.prog 53 #[.pointer (some ⟨g, 0, none⟩), .string ⟨(segL n).toArray⟩] w2 fun e w' => e = .returned (.int .i64 0) ∧ Sto w' g X (st.with (delN (ns.take (k + 1)) st.fs)) ∧ Keep X wr w') := fun w2 hb => Lib.hid (by
        refine (remove_any g X _ ⟨(segL n).toArray⟩ w2 (HS1.out.below hb) (seg_size hok)).mono fun e w' hD => ?_
        obtain ⟨rfl, h1, h2⟩ := hD
        have e1 := rem_up (HU.out.with (delN (ns.take k) st.fs)) (x := segL n) his
        rw [show (⟨(segL n).toArray⟩ : ByteArray).data.toList = segL n from rfl, e1] at h1 ⊢
        exact ⟨rfl, by rw [HSN.out]; exact h1, (Keep.of_below hb).trans h2⟩)
      clear hok his
      go_wp2_with (first
        | (go_at_call 18; (with_reducible refine HNM.out.mono ?_); rintro e W2 ⟨rfl, b2⟩)
        | (go_at_call 53; (with_reducible refine (HR _ (by assumption)).out.mono ?_); rintro e W3 ⟨rfl, hS3, hK3⟩))
      go_roundw
      case rel => exact ⟨k + 1, by go_num, by omega, Lib.hid hS3, Lib.hid (HK.out.trans hK3)⟩
      case measure => simp [intOf]; omega
    · obtain rfl : k = N := by omega
      have hend := HS1.out
      rw [List.take_of_length_le (by rw [← HE.out]; exact Nat.le_refl _)] at hend
      have HD := Lib.hid hend
      clear hend
      go_wp2
      go_ret
      exact ⟨rfl, HD.out, HK.out⟩

theorem refused_ok (g : Nat) (X : Nat → Prop) (st : St) (n : Nat) (w : World) (h : Sto w g X st) (hu : st.down = false) (h1 : 1 ≤ n) (h2 : n ≤ 1048576) :
    Calls Tryz.prog 28 #[.pointer (some ⟨g, 0, none⟩), .int .i64 (n : Int)] w fun e w' => e = .returned (.int .i64 0) ∧ w = w' := by
  have HD := Lib.hid (down_any g X st w h)
  rw [hu] at HD
  clear hu
  go_enter Tryz.func28, Tryz.ntmps28
  go_wp2_with (go_at_call 32; (with_reducible refine HD.out.mono ?_); rintro e w1 ⟨rfl, rfl⟩)
  go_ret
  exact ⟨rfl, rfl⟩
end

section
open Go.RowKit
attribute [local go_sem] Oper.semAt_some

theorem drewN_below (w : World) (q : Nat) : Below w.heap.size w (w.drewN q) := by
  obtain ⟨h1, h2, h3, h4, h5⟩ := Below.refl w.heap.size w
  exact ⟨h1, h2, h3, h4, h5⟩
theorem below_b (A : Option Addr) (ns : List Nat) (c n F N : Nat) (X : Nat → Prop) (w : World) (hN : Nums w X A ns) (hs : ns.Pairwise (· < ·)) (hl : ns.length ≤ 1000000) (hF : F = ns.countP fun x => decide (x < n)) (hNe : N = ns.length) :
    Calls Tryz.prog 34 #[.slice A N c, .int .i64 (n : Int)] w fun e w' => e = .returned (.int .i64 (F : Int)) ∧ Below w.heap.size w w' := by
  subst hF hNe
  refine (below_any A ns c n X w hN hs hl).mono ?_
  rintro e w' ⟨rfl, q, rfl⟩
  exact ⟨rfl, drewN_below _ _⟩
theorem sizeOfI : ∀ w, (Go.sizeOf 3).run Tryz.prog w = .ok 1 w := fun w => by
  obtain ⟨i0, hi0, _, hz1, _⟩ := info_parts infoInt
  simp [Go.sizeOf, typeInfo, hi0, hz1]
theorem underI : Tryz.prog.underlying 56 = some (.slice 3) := Tryz.underlying56
/-- numbers[p:] -/
theorem cutI_from (w : World) (A : Option Addr) (N c p : Nat) (hp : p ≤ N) : (Instr.slice 56 (.slice A N c) (some (.int .i64 (p : Int))) none none).run Tryz.prog w = .ok (.slice (if c = p then A else A.map (·.add p)) (N - p) (c - p)) w := by
  have h := run_cut_from (P := Tryz.prog) w 56 3 underI sizeOfI A N c (p : Int) (by omega) (by omega)
  simpa using h
/-- numbers[:p] -/
theorem cutI_to (w : World) (A : Option Addr) (N c p : Nat) (hp : p ≤ c) : (Instr.slice 56 (.slice A N c) none (some (.int .i64 (p : Int))) none).run Tryz.prog w = .ok (.slice A p c) w := by
  have h := run_cut_to (P := Tryz.prog) w 56 3 underI sizeOfI A N c (p : Int) (by omega) (by omega)
  simpa using h
/-- numbers[p:q] -/
theorem cutI_pq (w : World) (A : Option Addr) (N c p q : Nat) (hp : p ≤ q) (hq : q ≤ c) : (Instr.slice 56 (.slice A N c) (some (.int .i64 (p : Int))) (some (.int .i64 (q : Int))) none).run Tryz.prog w = .ok (.slice (if c = p then A else A.map (·.add p)) (q - p) (c - p)) w := by
  have ht' : Tryz.prog.underlying 56 = some (.slice (Tryz.prog.elem 56)) := by simp [Program.elem, Tryz.underlying56]
  have he : Tryz.prog.elem 56 = 3 := by simp [Program.elem, Tryz.underlying56]
  rw [run_slice_lh w 56 _ _ _ ht' .i64 .i64 _ _ (by omega) (by omega) (by omega), he, sizeOfI]
  simp [Result.andThen, sliced]

/-- what is there besides, and what was before -/
def ChosenIs (w : World) (g : Nat) (X : Nat → Prop) (st : St) (first : Nat) (ds : List (List UInt8)) (e : Ending) (w' : World) : Prop :=
  ∃ (A : Option Addr) (c : Nat) (fs' : List Fl) (X' : Nat → Prop), e = .returned (.tuple #[.slice A ds.length c, .int .i64 0]) ∧ ds.length ≤ c ∧ ds.length ≤ 256 ∧ Nums w' X' A (List.range' first ds.length) ∧ Sto w' g X' (st.with fs') ∧
    SegAre fs' first ds ∧ Fewer st.fs fs' ∧ (∀ i, X i → X' i) ∧ Keep X w w'
theorem there_drop {fs : List Fl} {ns : List Nat} (hr : Rise Fl.name fs) (hs : SegsIs fs ns) (k : Nat) : There (ns.drop k) fs :=
  ⟨fun _ hn => ((hs.mem hr).1 (List.mem_of_mem_drop hn)).1, fun _ hn => ((hs.mem hr).1 (List.mem_of_mem_drop hn)).2, (hs.rise.imp fun h => by omega : ns.Nodup).sublist (List.drop_sublist _ _)⟩
theorem there_take {fs : List Fl} {ns : List Nat} (hr : Rise Fl.name fs) (hs : SegsIs fs ns) {F k : Nat} (hF : F ≤ k) : There (ns.take F) (delN (ns.drop k) fs) := by
  refine ⟨fun _ hn => ((hs.mem hr).1 (List.mem_of_mem_take hn)).1, fun n hn => ?_, (hs.rise.imp fun h => by omega : ns.Nodup).sublist (List.take_sublist _ _)⟩
  obtain ⟨hok, his⟩ := (hs.mem hr).1 (List.mem_of_mem_take hn)
  rw [look_delN, if_neg]
  · exact his
  · intro hm
    obtain ⟨m, hm2, e⟩ := List.mem_map.1 hm
    have := seg_inj ((hs.mem hr).1 (List.mem_of_mem_drop hm2)).1 hok e
    subst this
    obtain ⟨i, hi, e1⟩ := List.getElem_of_mem hn
    obtain ⟨j, hj, e2⟩ := List.getElem_of_mem hm2
    rw [List.length_take] at hi
    rw [List.length_drop] at hj
    rw [List.getElem_take] at e1
    rw [List.getElem_drop] at e2
    have := List.pairwise_iff_getElem.1 hs.rise i (k + j) (by omega) (by omega) (by omega)
    omega

set_option maxRecDepth 100000 in
set_option maxHeartbeats 1000000 in
theorem choose_any (g : Nat) (X : Nat → Prop) (st : St) (first : Nat) (ds : List (List UInt8)) (w : World) (hS : Sto w g X st) (hT : Tab w X) (hU : Up st) (hR : Run st.fs first ds) (h1 : 1 ≤ first) (h2 : first ≤ 1073741824) :
    Calls Tryz.prog 48 #[.pointer (some ⟨g, 0, none⟩), .int .i64 (first : Int)] w (ChosenIs w g X st first ds) := by
  have HSG := Lib.hid (segments_any g X st w hS hU.down)
  have HS := Lib.hid hS
  have HT := Lib.hid hT
  have HU := Lib.hid hU
  have HR := Lib.hid hR
  have hmany := hS.ok.many
  have HRI := Lib.hid hS.ok.rise
  clear hS hT hU hR
  go_enter Tryz.func48, Tryz.ntmps48
  go_wp2_with fail
  refine HSG.out.mono ?_
  rintro e W1 ⟨A, c, ns, rfl, hc, hsg, hN, b1⟩
  have hlen := hsg.len
  obtain ⟨N, hNe⟩ : ∃ N, N = ns.length := ⟨_, rfl⟩
  obtain ⟨F, hF⟩ : ∃ F, F = ns.countP fun x => decide (x < first) := ⟨_, rfl⟩
  have hFN : F ≤ N := by rw [hF, hNe]; exact List.countP_le_length
  have HB := Lib.hid (below_b A ns c first F N _ W1 hN hsg.rise (by omega) hF hNe)
  rw [← hNe] at hc hlen ⊢
  have HN1 := Lib.hid hN
  have HB1 := Lib.hid b1
  have HE := Lib.hid hNe
  have HF := Lib.hid hF
  have HSEG := Lib.hid hsg
  have hN256 : N ≤ 256 := by omega
  clear HSG hN b1 hNe hF hsg hlen hmany
  go_wp2_with fail
  refine HB.out.mono ?_
  rintro e W2 ⟨rfl, b2⟩
  obtain ⟨Y, hY⟩ : ∃ Y : Nat → Prop, Y = fun i => X i ∨ w.heap.size ≤ i ∧ i < W1.heap.size := ⟨_, rfl⟩
  have HS2 : Hid (Sto W2 g Y st) := Lib.hid (by rw [hY]; exact (HS.out.wide HB1.out).below b2)
  have HN2 : Hid (Nums W2 Y A ns) := Lib.hid ((HN1.out.more (fun i hi => by rw [hY]; exact .inr hi)).keep (Keep.of_below b2))
  have HXY : Hid (∀ i, X i → Y i) := Lib.hid (fun i hi => by rw [hY]; exact .inl hi)
  have HB2 := Lib.hid (HB1.out.trans (b2.mono HB1.out.size))
  have HT2 : Hid (Tab W2 Y) := Lib.hid (HT.out.on (Keep.of_below HB2.out) HXY.out)
  clear HB HN1 b2 hY HB1
  go_wp2_with fail
  go_loop [8] (fun p => ∃ t : Nat, p = .int .i64 t ∧ F ≤ t ∧ t ≤ N ∧ Hid (∀ j (hj : j < t) (hl : j < ns.length), F ≤ j → ns[j] = first + (j - F))) (fun p => N - (intOf p).toNat)
  case atStart => exact ⟨F, rfl, by omega, by omega, Lib.hid fun j hj _ h => by omega⟩
  case round =>
    obtain ⟨t, rfl, hFt, ht, HJ⟩ := hrel
    by_cases hgo : ∃ h : t < ns.length, ns[t] = first + (t - F)
    · obtain ⟨htn, hx⟩ := hgo
      have htN : t < N := by rw [HE.out]; exact htn
      obtain ⟨b0, o0, rfl, _, hb0, hc0⟩ := HN2.out.get htn
      have HJ2 : Hid (∀ j (hj : j < t + 1) (hl : j < ns.length), F ≤ j → ns[j] = first + (j - F)) := Lib.hid fun j hj hl h => by
        by_cases e : j = t
        · subst e; exact hx
        · exact HJ.out j (by omega) hl h
      generalize ns[t] = x at *
      have hb1 : ((x : Int) == (first : Int) + (t : Int) - (F : Int)) = true := by simp; omega
      clear hx htn HJ
      go_wp2
      go_round
      case rel => exact ⟨t + 1, by go_num, by omega, by omega, HJ2⟩
      case measure => simp [intOf]; omega
    · have hstop : (∃ b o, A = some ⟨b, o, none⟩ ∧ ∃ x : Nat, W2.cell? ⟨b, o + t, none⟩ = some (.int .i64 (x : Int)) ∧ ((x : Int) == (first : Int) + (t : Int) - (F : Int)) = false ∧ t < N) ∨ N ≤ t := by
        by_cases htN : t < N
        · have htn : t < ns.length := by rw [← HE.out]; exact htN
          obtain ⟨b0, o0, e, _, hb0, hc0⟩ := HN2.out.get htn
          refine .inl ⟨b0, o0, e, _, hc0, ?_, htN⟩
          have : ns[t] ≠ first + (t - F) := fun h => hgo ⟨htn, h⟩
          simp
          omega
        · exact .inr (by omega)
      obtain ⟨e1, e2, e3, e4⟩ := segs_part HRI.out HSEG.out HR.out (till := t) (by rw [← HF.out]; exact hFt) (by rw [← HE.out]; exact ht) (fun j hj hjt => by rw [← HF.out] at hj ⊢; exact HJ.out j hjt (by rw [← HE.out]; omega) hj) (fun hlt h => hgo ⟨hlt, by rw [HF.out]; exact h⟩)
      rw [← HF.out] at e1 e2 e3 e4
      have HTH := Lib.hid (there_drop HRI.out HSEG.out t)
      have HTT := Lib.hid (there_take HRI.out HSEG.out hFt)
      have hk1 := cutI_from W2 A N c t ht
      have HN3 := Lib.hid (HN2.out.drop (n := t) (c := c) (by rw [← HE.out]; exact hc))
      have HNF := Lib.hid (HN2.out.take F)
      have HNR : Hid (Nums W2 Y (if c = F then A else A.map (·.add F)) (List.range' first ds.length)) := Lib.hid (by rw [← e2]; exact (HN2.out.drop (n := F) (c := c) (by rw [← HE.out]; exact hc)).take _)
      have hk2 := fun w => cutI_pq w A N c F t hFt (by omega)
      have hk3 := fun w => cutI_to w A N c F (by omega)
      have hRM := wremove_any g Y st (if c = t then A else A.map (·.add t)) (ns.drop t) (c - t) W2 HS2.out HT2.out HU.out HN3.out HTH.out (by rw [List.length_drop, ← HE.out]; omega)
      rw [List.length_drop, ← HE.out] at hRM
      obtain ⟨R, hRe⟩ : ∃ R, R = N - t := ⟨_, rfl⟩
      obtain ⟨M, hM⟩ : ∃ M, M = t - F := ⟨_, rfl⟩
      rw [← hRe] at hRM hk1
      simp only [← hM] at hk2
      have HRM := Lib.hid hRM
      have HLT : Hid (M = ds.length) := Lib.hid (by omega)
      have HSA := Lib.hid e3
      have HFW := Lib.hid e4
      have hcF : M ≤ c - F := by omega
      have hM256 : M ≤ 256 := by omega
      generalize (if c = t then A else A.map (·.add t)) = A2 at *
      have HLF : Hid (F = (ns.take F).length) := Lib.hid (by rw [List.length_take, ← HE.out]; omega)
      clear hgo e1 e2 e3 e4 HTH HN3 hRM HJ hRe hM
      rcases hstop with ⟨b0, o0, rfl, x, hc0, hb1, htN⟩ | htN
      all_goals
        generalize (if c = F then _ else _) = A3 at *
        go_wp2_with fail
        (with_reducible refine HRM.out.mono ?_)
        rintro e W3 ⟨rfl, hS3, hK3⟩
        have HC := Lib.hid (wremove_any g Y (st.with (delN (ns.drop _) st.fs)) _ (ns.take F) c W3.drew (hS3.below (Below.refl _ W3).drew) ((HT2.out.on hK3 (fun _ h => h)).below (Below.refl _ W3).drew) (HU.out.with _) ((HNF.out.keep hK3).keep (Keep.of_below (Below.refl _ W3).drew)) HTT.out (by rw [← HLF.out]; omega))
        rw [← HLF.out] at HC
        have HK3 := Lib.hid hK3
        clear hS3 hK3 HRM
        go_wp2_with fail
        go_region_held3 (fun _ => True) (first | trivial)
          (first
            | (go_at_call 33; (with_reducible refine HC.out.mono ?_); rintro e W4 ⟨rfl, hS4, hK4⟩))
        go_wp2
        go_ret2
        have hK := (HK3.out.trans (Keep.of_below (Below.refl _ W3).drew)).trans hK4
        exact ⟨A3, c - F, _, Y, by rw [← HLT.out]; rfl, by rw [← HLT.out]; exact hcF, by rw [← HLT.out]; exact hM256, HNR.out.keep hK, hS4, HSA.out, HFW.out, HXY.out, (Keep.of_below HB2.out).trans (hK.mono HXY.out)⟩
end
end Go.Proofs.YtohnhboeipckjaaGreatDoor
