/-
  The mathematics of a log: a segment's name and its number, the files of a store by their names, rows of segments that follow one another, and what an opening and an append leave of them.
  Conditions: none.
-/
import Derived.Lib.ItoaNum
import Derived.Lib.ItoaLen
import Derived.Test.YtohnhboeipckjaaGreatDoorStoMath
import Derived.Test.YtohnhboeipckjaaGreatDoorRecBackMath
namespace Go.Proofs.YtohnhboeipckjaaGreatDoor
open Go.Lib (decDigits nDigits)

/-! ### Names -/
/-- the name of a segment of a number -/
def segL (n : Nat) : List UInt8 := 115 :: decDigits n
def okN (n : Nat) : Prop := 1 ≤ n ∧ n ≤ 1073741824
/-- what is told behind some digits -/
def numD (acc pos : Nat) : List UInt8 → Nat
  | [] => acc
  | b :: t => if b.toNat < 48 ∨ 57 < b.toNat ∨ (pos = 1 ∧ b.toNat = 48) then 0 else if 1073741824 < 10 * acc + (b.toNat - 48) then 0 else numD (10 * acc + (b.toNat - 48)) (pos + 1) t
/-- the number that a name tells -/
def numL : List UInt8 → Nat
  | [] => 0
  | b :: t => if b ≠ 115 then 0 else numD 0 1 t

theorem dig_nat {d : Nat} (h : d < 10) : (UInt8.ofNat (48 + d)).toNat = 48 + d := by rw [UInt8.toNat_ofNat']; omega
theorem dec_big {n : Nat} (h : ¬ n < 10) : decDigits n = decDigits (n / 10) ++ [UInt8.ofNat (48 + n % 10)] := by rw [decDigits, dif_neg h]
theorem num_fwd : ∀ (r : Nat), 1 ≤ r → r ≤ 1073741824 → ∀ t, ∃ p, 2 ≤ p ∧ numD 0 1 (decDigits r ++ t) = numD r p t := by
  intro r
  induction r using Nat.strongRecOn with
  | ind r ih =>
    intro h1 h2 t
    by_cases h : r < 10
    · rw [Go.Lib.decDigits_one h]
      refine ⟨2, by omega, ?_⟩
      show numD 0 1 (UInt8.ofNat (48 + r) :: t) = _
      rw [numD, dig_nat h, if_neg (by omega), if_neg (by omega)]
      congr 1
      omega
    · obtain ⟨p, hp, e⟩ := ih (r / 10) (by omega) (by omega) (by omega) ([UInt8.ofNat (48 + r % 10)] ++ t)
      refine ⟨p + 1, by omega, ?_⟩
      rw [dec_big h, List.append_assoc, e]
      show numD (r / 10) p (UInt8.ofNat (48 + r % 10) :: t) = _
      rw [numD, dig_nat (by omega), if_neg (by omega), if_neg (by omega)]
      congr 1
      omega
theorem num_seg {n : Nat} (h : okN n) : numL (segL n) = n := by
  obtain ⟨p, _, e⟩ := num_fwd n h.1 h.2 []
  rw [List.append_nil] at e
  show (if (115 : UInt8) ≠ 115 then 0 else numD 0 1 (decDigits n)) = n
  rw [if_neg (by simp), e]
  rfl
theorem num_back : ∀ (t : List UInt8) (acc pos r : Nat), 1 ≤ acc → 2 ≤ pos → acc ≤ 1073741824 → numD acc pos t = r → r ≠ 0 → decDigits r = decDigits acc ++ t ∧ okN r
  | [], acc, pos, r, h1, h2, h3, h, h0 => by
    obtain rfl : acc = r := h
    exact ⟨by simp, h1, h3⟩
  | b :: t, acc, pos, r, h1, h2, h3, h, h0 => by
    rw [numD] at h
    split at h
    · exact absurd h.symm h0
    · rename_i hc
      split at h
      · exact absurd h.symm h0
      · rename_i hl
        obtain ⟨e, ok⟩ := num_back t _ _ r (by omega) (by omega) (by omega) h h0
        refine ⟨?_, ok⟩
        rw [e, dec_big (n := 10 * acc + (b.toNat - 48)) (by omega), show (10 * acc + (b.toNat - 48)) / 10 = acc by omega, show 48 + (10 * acc + (b.toNat - 48)) % 10 = b.toNat by omega]
        simp
theorem seg_num {l : List UInt8} (h : numL l ≠ 0) : l = segL (numL l) ∧ okN (numL l) := by
  obtain ⟨r, hr⟩ : ∃ r, r = numL l := ⟨_, rfl⟩
  rw [← hr] at h ⊢
  cases l with
  | nil => exact absurd hr h
  | cons b t =>
    rw [numL] at hr
    split at hr
    · exact absurd hr h
    · rename_i hb
      have hb : b = 115 := by simpa using hb
      cases t with
      | nil => exact absurd hr h
      | cons c t =>
        rw [numD] at hr
        split at hr
        · exact absurd hr h
        · rename_i hc
          split at hr
          · exact absurd hr h
          · obtain ⟨e, ok⟩ := num_back t _ _ r (by omega) (by omega) (by omega) hr.symm h
            refine ⟨?_, ok⟩
            unfold segL
            rw [hb, e, Go.Lib.decDigits_one (by omega), show 48 + (10 * 0 + (c.toNat - 48)) = c.toNat by omega]
            simp
theorem seg_inj {n m : Nat} (hn : okN n) (hm : okN m) (h : segL n = segL m) : n = m := by
  have := congrArg numL h
  rwa [num_seg hn, num_seg hm] at this
theorem seg_len {n : Nat} (h : okN n) : 2 ≤ (segL n).length ∧ (segL n).length ≤ 21 := by
  unfold segL
  rw [List.length_cons, Go.Lib.decDigits_length]
  have h1 := Go.Lib.nDigits_pos n
  have h2 := Go.Lib.nDigits_le20 n (by have := h.2; omega)
  omega
theorem dec_dig (n : Nat) : ∀ b ∈ decDigits n, 48 ≤ b.toNat ∧ b.toNat ≤ 57 := by
  induction n using Nat.strongRecOn with
  | ind n ih =>
    intro b hb
    by_cases h : n < 10
    · rw [Go.Lib.decDigits_one h] at hb
      obtain rfl := List.mem_singleton.1 hb
      rw [dig_nat h]
      omega
    · rw [dec_big h] at hb
      rcases List.mem_append.1 hb with hb | hb
      · exact ih (n / 10) (by omega) b hb
      · obtain rfl := List.mem_singleton.1 hb
        rw [dig_nat (by omega)]
        omega
theorem dec_ascii {b : UInt8} (h : b.toNat < 128) (t : List UInt8) : dec (b :: t) = (b.toNat, 1) := by
  unfold dec d4
  have : byt (b :: t) 0 = b.toNat := rfl
  rw [this, if_pos h]
theorem gc_one {b : UInt8} (h : b.toNat < 128) (hf : fitI (b.toNat : Int) = true) : Gc [b] := by
  refine ⟨by simp, ?_, by rw [dec_ascii h]; rfl⟩
  unfold gd metI
  rw [dec_ascii h, if_neg (by simp)]
  exact hf
theorem flat_one : ∀ l : List UInt8, (l.map fun c => [c]).flatten = l
  | [] => rfl
  | c :: t => by rw [List.map_cons, List.flatten_cons, flat_one t]; rfl
theorem name_ascii {b : UInt8} {t : List UInt8} (hb : b.toNat < 128) (hl : lettI (b.toNat : Int) = true) (ht : ∀ c ∈ t, c.toNat < 128 ∧ fitI (c.toNat : Int) = true) (hn : t.length ≤ 63) : nameB (b :: t) = true := by
  have hf : fitI (b.toNat : Int) = true := by unfold fitI; rw [hl]; rfl
  have hc : chunks (b :: t) = (b :: t).map fun c => [c] := by
    have h := chunks_flat ((b :: t).map fun c => [c]) (fun c hc => by
      obtain ⟨x, hx, rfl⟩ := List.mem_map.1 hc
      rcases List.mem_cons.1 hx with rfl | hx
      · exact gc_one hb hf
      · exact gc_one (ht x hx).1 (ht x hx).2) []
    rw [chunks_nil, List.append_nil, List.append_nil] at h
    rw [← h]
    congr 1
    exact (flat_one _).symm
  have hm : mask (b :: t) = b :: t := by
    unfold mask
    rw [hc]
    exact flat_one _
  have hr : runes (b :: t) ≤ 64 := by
    unfold runes
    rw [hc, List.length_map, List.length_cons]
    omega
  have hmet : metI (b :: t) = (b.toNat : Int) := by
    unfold metI
    rw [dec_ascii hb, if_neg (by simp)]
  unfold nameB
  rw [hmet, hl, hm]
  simp [hr]
theorem seg_name {n : Nat} (h : okN n) : nameB (segL n) = true := by
  refine name_ascii (b := 115) (by decide) (by decide) (fun c hc => ?_) (by have := (seg_len h).2; unfold segL at this; rw [List.length_cons] at this; omega)
  have := dec_dig n c hc
  refine ⟨by omega, ?_⟩
  unfold fitI
  simp only [Bool.or_eq_true, Bool.and_eq_true, decide_eq_true_eq]
  exact .inl (.inl (.inr ⟨by omega, by omega⟩))

/-! ### Files by their names -/
section
variable {α : Type} {nm : α → List UInt8}
theorem look_put {l : List α} (h : Rise nm l) (f : α) (x : List UInt8) : lookBy nm x (putBy nm f l) = if nm f = x then some f else lookBy nm x l := by
  by_cases e : nm f = x
  · rw [if_pos e, ← e]
    exact lookBy_mem (putBy_rise h) ((mem_putBy h).2 (.inl rfl))
  · rw [if_neg e]
    cases hl : lookBy nm x l with
    | some a =>
      obtain ⟨ha, hn⟩ := lookBy_some hl
      rw [← hn]
      exact lookBy_mem (putBy_rise h) ((mem_putBy h).2 (.inr ⟨ha, by rw [hn]; exact fun h => e h.symm⟩))
    | none =>
      have h1 := lookBy_none hl
      refine List.find?_eq_none.2 fun a ha => ?_
      rcases (mem_putBy h).1 ha with rfl | ⟨ha, _⟩
      · simpa using e
      · simpa using h1 a ha
theorem look_del (x y : List UInt8) (l : List α) : lookBy nm y (delBy nm x l) = if y = x then none else lookBy nm y l := by
  unfold lookBy delBy
  rw [List.find?_filter]
  by_cases e : y = x
  · rw [if_pos e]
    refine List.find?_eq_none.2 fun a _ => ?_
    simp only [Bool.decide_and, Bool.and_eq_true, decide_eq_true_eq, not_and]
    subst e
    exact fun h => h
  · rw [if_neg e]
    congr 1
    funext a
    by_cases h : nm a = y
    · simp [h, e]
    · simp [h]
end
/-- the bytes of a file -/
def conF (x : List UInt8) (fs : List Fl) : Option (List UInt8) := (lookBy Fl.name x fs).map Fl.bs
/-- the files without segments of some numbers -/
def delN (ns : List Nat) (fs : List Fl) : List Fl := ns.foldl (fun fs n => delBy Fl.name (segL n) fs) fs
theorem delN_nil (fs : List Fl) : delN [] fs = fs := rfl
theorem delN_cons (n : Nat) (ns : List Nat) (fs : List Fl) : delN (n :: ns) fs = delN ns (delBy Fl.name (segL n) fs) := rfl
theorem delN_snoc (n : Nat) (ns : List Nat) (fs : List Fl) : delN (ns ++ [n]) fs = delBy Fl.name (segL n) (delN ns fs) := by unfold delN; rw [List.foldl_append]; rfl
theorem look_delN (ns : List Nat) (fs : List Fl) (y : List UInt8) : lookBy Fl.name y (delN ns fs) = if y ∈ ns.map segL then none else lookBy Fl.name y fs := by
  induction ns generalizing fs with
  | nil => simp [delN_nil]
  | cons n ns ih =>
    rw [delN_cons, ih, look_del, List.map_cons]
    by_cases h1 : y = segL n
    · simp [h1]
    · simp [h1]
/-- no more files, no more bytes; what is no segment is as it was -/
structure Fewer (fs fs' : List Fl) : Prop where
  used : usedF fs' ≤ usedF fs
  many : fs'.length ≤ fs.length
  same : ∀ x, numL x = 0 → lookBy Fl.name x fs' = lookBy Fl.name x fs
theorem Fewer.refl (fs : List Fl) : Fewer fs fs := ⟨Nat.le_refl _, Nat.le_refl _, fun _ _ => rfl⟩
theorem Fewer.trans {a b c : List Fl} (h : Fewer a b) (k : Fewer b c) : Fewer a c := ⟨Nat.le_trans k.used h.used, Nat.le_trans k.many h.many, fun x hx => (k.same x hx).trans (h.same x hx)⟩
theorem not_seg {x : List UInt8} (h : numL x = 0) {n : Nat} (hn : okN n) : x ≠ segL n := by
  rintro rfl
  rw [num_seg hn] at h
  exact absurd hn.1 (by omega)
theorem fewer_delN {ns : List Nat} (h : ∀ n ∈ ns, okN n) (fs : List Fl) : Fewer fs (delN ns fs) := by
  induction ns generalizing fs with
  | nil => exact Fewer.refl _
  | cons n ns ih =>
    rw [delN_cons]
    refine Fewer.trans (b := delBy Fl.name (segL n) fs) ⟨?_, ?_, fun x hx => ?_⟩ (ih (fun m hm => h m (by simp [hm])) _)
    · exact sum_delBy (nm := Fl.name) (fun f : Fl => f.bs.length) _ _
    · exact List.length_filter_le _ _
    · rw [look_del, if_neg (not_seg hx (h n (by simp)))]

/-- the numbers of the segments among files -/
def numsOf (fs : List Fl) : List Nat := (fs.map fun f => numL f.name).filter fun n => decide (0 < n)
structure SegsIs (fs : List Fl) (ns : List Nat) : Prop where
  rise : ns.Pairwise (· < ·)
  perm : ns.Perm (numsOf fs)
theorem mem_numsOf {fs : List Fl} (h : Rise Fl.name fs) {n : Nat} : n ∈ numsOf fs ↔ okN n ∧ (lookBy Fl.name (segL n) fs).isSome = true := by
  unfold numsOf
  rw [List.mem_filter, List.mem_map]
  constructor
  · rintro ⟨⟨f, hf, rfl⟩, h0⟩
    have h0 : 0 < numL f.name := by simpa using h0
    obtain ⟨e, ok⟩ := seg_num (l := f.name) (by omega)
    refine ⟨ok, ?_⟩
    rw [← e, lookBy_mem h hf]
    rfl
  · rintro ⟨ok, hs⟩
    cases hl : lookBy Fl.name (segL n) fs with
    | none => rw [hl] at hs; cases hs
    | some f =>
      obtain ⟨hf, hn⟩ := lookBy_some hl
      exact ⟨⟨f, hf, by rw [hn, num_seg ok]⟩, decide_eq_true (by have := ok.1; omega)⟩
theorem nodup_numsOf {fs : List Fl} (h : Rise Fl.name fs) : (numsOf fs).Nodup := by
  unfold numsOf List.Nodup
  rw [List.pairwise_filter, List.pairwise_map]
  refine h.imp fun {a b} hab h1 h2 e => ?_
  have h1 : 0 < numL a.name := by simpa using h1
  have h2 : 0 < numL b.name := by simpa using h2
  have e1 := (seg_num (l := a.name) (by omega)).1
  have e2 := (seg_num (l := b.name) (by omega)).1
  rw [e1, e2, e] at hab
  exact nm_irr _ hab
theorem SegsIs.of {fs : List Fl} (h : Rise Fl.name fs) {ns : List Nat} (hs : ns.Pairwise (· ≤ ·)) (hp : ns.Perm (numsOf fs)) : SegsIs fs ns := by
  refine ⟨?_, hp⟩
  have hd : ns.Nodup := hp.nodup_iff.2 (nodup_numsOf h)
  exact (List.Pairwise.and hs hd).imp fun ⟨h1, h2⟩ => by omega
theorem SegsIs.mem {fs : List Fl} (h : Rise Fl.name fs) {ns : List Nat} (hs : SegsIs fs ns) {n : Nat} : n ∈ ns ↔ okN n ∧ (lookBy Fl.name (segL n) fs).isSome = true := by rw [hs.perm.mem_iff, mem_numsOf h]
theorem SegsIs.len {fs : List Fl} {ns : List Nat} (hs : SegsIs fs ns) : ns.length ≤ fs.length := by
  rw [hs.perm.length_eq]
  unfold numsOf
  exact Nat.le_trans (List.length_filter_le _ _) (by simp)
/-- how many bytes the segments have -/
def segBytes (fs : List Fl) : Nat := (fs.map fun f => if numL f.name = 0 then 0 else f.bs.length).sum
def lenF (x : List UInt8) (fs : List Fl) : Nat := ((conF x fs).map List.length).getD 0
theorem sum_segs {fs : List Fl} (h : Rise Fl.name fs) {ns : List Nat} (hs : SegsIs fs ns) : (ns.map fun n => lenF (segL n) fs).sum = segBytes fs := by
  rw [perm_sum (hs.perm.map _)]
  unfold numsOf segBytes
  have key : ∀ l : List Fl, (∀ f ∈ l, f ∈ fs) → ((((l.map fun f => numL f.name).filter fun n => decide (0 < n)).map fun n => lenF (segL n) fs).sum) = (l.map fun f => if numL f.name = 0 then 0 else f.bs.length).sum := by
    intro l
    induction l with
    | nil => intro _; rfl
    | cons f l ih =>
      intro hl
      have ih := ih fun g hg => hl g (by simp [hg])
      by_cases h0 : numL f.name = 0
      · rw [List.map_cons, List.filter_cons_of_neg (by simp [h0]), ih, List.map_cons, List.sum_cons, if_pos h0, Nat.zero_add]
      · have e := (seg_num h0).1
        rw [List.map_cons, List.filter_cons_of_pos (by simp; omega), List.map_cons, List.sum_cons, ih, List.map_cons, List.sum_cons, if_neg h0]
        congr 1
        unfold lenF conF
        rw [← e, lookBy_mem h (hl f (by simp))]
        rfl
  exact key fs fun _ h => h

/-! ### Rows of records -/
theorem whole_ex (l : List UInt8) : ∃ ps n, Whole l ps n := by
  obtain ⟨m, hm⟩ : ∃ m, m = l.length := ⟨_, rfl⟩
  induction m using Nat.strongRecOn generalizing l with
  | ind m ih =>
    by_cases h : getE l = 0
    · have h1 := getN_yes h
      have h2 := getN_le h
      obtain ⟨ps, n, h3, h4⟩ := ih (l.drop (getN l)).length (by rw [List.length_drop]; omega) (l.drop (getN l)) rfl
      exact ⟨_, _, Rds.more h h3, by rw [← List.drop_drop]; exact h4⟩
    · exact ⟨[], 0, Rds.start _, by simpa using h⟩
noncomputable def allP (l : List UInt8) : List (List UInt8) := Classical.choose (whole_ex l)
noncomputable def allN (l : List UInt8) : Nat := Classical.choose (Classical.choose_spec (whole_ex l))
theorem all_whole (l : List UInt8) : Whole l (allP l) (allN l) := Classical.choose_spec (Classical.choose_spec (whole_ex l))
theorem all_eq {l : List UInt8} {ps : List (List UInt8)} {n : Nat} (h : Whole l ps n) : allP l = ps ∧ allN l = n := (all_whole l).same h
/-- a form is just its payload's -/
theorem form_back {l : List UInt8} (h : getE l = 0) : l.take (getN l) = putL (getP l) ∧ (getP l).length ≤ 65536 := by
  obtain ⟨h1, h2, h3⟩ := getE_zero h
  obtain ⟨h4, _, h5, h6⟩ := headE_zero (getE_head h)
  have hp := payL_len (l := l) (by omega)
  have hla : ((l.drop 1).take 4).length = 4 := by rw [List.length_take, List.length_drop]; omega
  have hlb : ((l.drop 5).take 4).length = 4 := by rw [List.length_take, List.length_drop]; omega
  have hlc : ((l.drop (9 + lenB l)).take 4).length = 4 := by rw [List.length_take, List.length_drop]; omega
  rw [getN_yes h, getP_yes h]
  refine ⟨?_, by omega⟩
  unfold putL
  have ea : be4 (payL l).length = (l.drop 1).take 4 := by rw [hp]; unfold lenB; exact be4_valB hla
  rw [ea, h5, be4_valB hlb, h3, be4_valB hlc]
  cases l with
  | nil => simp at h4
  | cons x t =>
    have hx : x = 90 := by simpa using h6
    subst hx
    unfold payL
    generalize lenB (90 :: t) = k at *
    have e1 : t = t.take 4 ++ t.drop 4 := (List.take_append_drop 4 t).symm
    rw [show 9 + k = (8 + k) + 1 by omega]
    simp only [List.drop_succ_cons, List.drop_zero]
    show (90 :: t).take (13 + k) = 90 :: (t.take 4 ++ ((t.drop 4).take 4 ++ ((t.drop 8).take k ++ (t.drop (8 + k)).take 4)))
    rw [show 13 + k = (12 + k) + 1 by omega, List.take_succ_cons]
    congr 1
    rw [show t.drop 8 = (t.drop 4).drop 4 by rw [List.drop_drop], show t.drop (8 + k) = ((t.drop 4).drop 4).drop k by rw [List.drop_drop, List.drop_drop]; congr 1; omega]
    rw [show 12 + k = 4 + (4 + (k + 4)) by omega, List.take_add, List.take_add, List.take_add]
theorem rds_cut {l : List UInt8} {ps : List (List UInt8)} {n : Nat} (h : Rds l ps n) : l.take n = catL ps ∧ ∀ p ∈ ps, p.length ≤ 65536 := by
  induction h with
  | start l => exact ⟨by simp [catL_nil], by simp⟩
  | @more l ps n h1 h2 ih =>
    obtain ⟨e, hp⟩ := form_back h1
    refine ⟨by rw [List.take_add, e, catL_cons, ih.1], fun p hp' => ?_⟩
    rcases List.mem_cons.1 hp' with rfl | hp'
    · exact hp
    · exact ih.2 p hp'
theorem all_cut (l : List UInt8) : l.take (allN l) = catL (allP l) ∧ ∀ p ∈ allP l, p.length ≤ 65536 := rds_cut (all_whole l).1
theorem allN_le (l : List UInt8) : allN l ≤ l.length := (all_whole l).1.le
theorem all_cat {ps : List (List UInt8)} (h : ∀ p ∈ ps, p.length ≤ 65536) : allP (catL ps) = ps ∧ allN (catL ps) = (catL ps).length := all_eq (whole_cat h)
theorem all_count (l : List UInt8) : (allP l).length * 13 ≤ l.length := Nat.le_trans (all_whole l).1.count (allN_le l)
/-- the payloads of segments that follow one another, up to the first that isn't whole -/
noncomputable def runC : List (List UInt8) → List (List (List UInt8))
  | [] => []
  | d :: ds => allP d :: (if allN d = d.length then runC ds else [])
theorem runC_small (ds : List (List UInt8)) : ∀ c ∈ runC ds, ∀ p ∈ c, p.length ≤ 65536 := by
  induction ds with
  | nil => simp [runC]
  | cons d ds ih =>
    intro c hc
    rw [runC] at hc
    rcases List.mem_cons.1 hc with rfl | hc
    · exact (all_cut d).2
    · split at hc
      · exact ih c hc
      · simp at hc
theorem runC_len (ds : List (List UInt8)) : (runC ds).length ≤ ds.length := by
  induction ds with
  | nil => simp [runC]
  | cons d ds ih =>
    rw [runC, List.length_cons, List.length_cons]
    split
    · omega
    · simp
theorem runC_pos {ds : List (List UInt8)} (h : ds ≠ []) : 1 ≤ (runC ds).length := by
  cases ds with
  | nil => exact absurd rfl h
  | cons d ds => rw [runC, List.length_cons]; omega
theorem runC_cat {cs : List (List (List UInt8))} (h : ∀ c ∈ cs, ∀ p ∈ c, p.length ≤ 65536) : runC (cs.map catL) = cs := by
  induction cs with
  | nil => rfl
  | cons c cs ih =>
    obtain ⟨h1, h2⟩ := all_cat (h c (by simp))
    rw [List.map_cons, runC, h1, if_pos h2, ih fun x hx => h x (by simp [hx])]
/-- the first ones are whole, and then one isn't -/
theorem runC_torn {ds : List (List UInt8)} {i : Nat} (hi : i < ds.length) (hw : ∀ k (h : k < i), allN (ds[k]'(by omega)) = (ds[k]'(by omega)).length) (ht : allN ds[i] ≠ ds[i].length) : runC ds = (ds.take (i + 1)).map allP := by
  induction ds generalizing i with
  | nil => simp at hi
  | cons d ds ih =>
    cases i with
    | zero =>
      rw [runC, if_neg (by simpa using ht)]
      simp
    | succ i =>
      rw [runC, if_pos (show allN d = d.length from hw 0 (by omega)), List.take_succ_cons, List.map_cons, ih (i := i) (by simpa using hi) (fun k h => hw (k + 1) (by omega)) ht]
theorem runC_whole {ds : List (List UInt8)} (hw : ∀ k (h : k < ds.length), allN ds[k] = ds[k].length) : runC ds = ds.map allP := by
  induction ds with
  | nil => rfl
  | cons d ds ih =>
    rw [runC, if_pos (show allN d = d.length from hw 0 (by simp)), List.map_cons, ih fun k h => hw (k + 1) (by simpa using h)]

/-! ### Segments that follow one another -/
/-- from a number on, these are there, and no more follow -/
structure Run (fs : List Fl) (first : Nat) (ds : List (List UInt8)) : Prop where
  ok : ∀ k, k < ds.length → okN (first + k)
  con : ∀ k (h : k < ds.length), conF (segL (first + k)) fs = some ds[k]
  stop : okN (first + ds.length) → lookBy Fl.name (segL (first + ds.length)) fs = none
/-- .. and there are no others -/
structure SegAre (fs : List Fl) (first : Nat) (ds : List (List UInt8)) : Prop where
  ok : ∀ k, k < ds.length → okN (first + k)
  con : ∀ k (h : k < ds.length), conF (segL (first + k)) fs = some ds[k]
  no : ∀ n, okN n → ¬ (first ≤ n ∧ n < first + ds.length) → lookBy Fl.name (segL n) fs = none
theorem SegAre.run {fs : List Fl} {first : Nat} {ds : List (List UInt8)} (h : SegAre fs first ds) : Run fs first ds := ⟨h.ok, h.con, fun ok => h.no _ ok (by omega)⟩
theorem con_some {x : List UInt8} {fs : List Fl} {b : List UInt8} (h : conF x fs = some b) : ∃ f, lookBy Fl.name x fs = some f ∧ f.bs = b := by
  unfold conF at h
  cases hl : lookBy Fl.name x fs with
  | none => rw [hl] at h; cases h
  | some f => rw [hl] at h; exact ⟨f, rfl, Option.some.inj h⟩
theorem con_none {x : List UInt8} {fs : List Fl} (h : lookBy Fl.name x fs = none) : conF x fs = none := by unfold conF; rw [h]; rfl
/-- how far a row goes is one number -/
theorem Run.far {fs : List Fl} {first k : Nat} {ds : List (List UInt8)} (h : Run fs first ds) (h1 : ∀ j, j < k → okN (first + j) ∧ (lookBy Fl.name (segL (first + j)) fs).isSome = true)
    (h2 : ¬ (okN (first + k) ∧ (lookBy Fl.name (segL (first + k)) fs).isSome = true)) : k = ds.length := by
  rcases Nat.lt_trichotomy k ds.length with hlt | heq | hgt
  · obtain ⟨f, hf, _⟩ := con_some (h.con k hlt)
    exact absurd ⟨h.ok k hlt, by rw [hf]; rfl⟩ h2
  · exact heq
  · obtain ⟨a, b⟩ := h1 _ hgt
    rw [h.stop a] at b
    cases b
/-- the numbers, parted: those below, the row, those behind -/
theorem segs_part {fs : List Fl} (hr : Rise Fl.name fs) {ns : List Nat} (hs : SegsIs fs ns) {first till : Nat} {ds : List (List UInt8)} (h : Run fs first ds)
    (hf : ns.countP (· < first) ≤ till) (ht : till ≤ ns.length) (hrow : ∀ j, ns.countP (· < first) ≤ j → (hj : j < till) → ns[j]'(by omega) = first + (j - ns.countP (· < first)))
    (hend : (hlt : till < ns.length) → ns[till] ≠ first + (till - ns.countP (· < first))) :
    till = ns.countP (· < first) + ds.length ∧ (ns.drop (ns.countP (· < first))).take ds.length = List.range' first ds.length ∧
      SegAre (delN (ns.take (ns.countP (· < first))) (delN (ns.drop till) fs)) first ds ∧ Fewer fs (delN (ns.take (ns.countP (· < first))) (delN (ns.drop till) fs)) := by
  obtain ⟨c, hc⟩ : ∃ c, c = ns.countP (· < first) := ⟨_, rfl⟩
  rw [← hc] at hf hrow hend ⊢
  have hmem := fun n => hs.mem hr (n := n)
  have hup : ∀ i j (hi : i < j) (hj : j < ns.length), ns[i]'(by omega) < ns[j] := fun i j hi hj => List.pairwise_iff_getElem.1 hs.rise i j (by omega) hj hi
  -- those below 'first' are the first ones
  have hcl : c ≤ ns.length := by rw [hc]; exact List.countP_le_length
  have hbelow : ∀ i (hi : i < ns.length), ns[i] < first ↔ i < c := by
    have key : ∀ (l : List Nat), l.Pairwise (· < ·) → ∀ i (hi : i < l.length), l[i] < first ↔ i < l.countP (· < first) := by
      intro l
      induction l with
      | nil => intro _ i hi; simp at hi
      | cons a l ih =>
        intro hp i hi
        obtain ⟨h1, h2⟩ := List.pairwise_cons.1 hp
        by_cases ha : a < first
        · rw [List.countP_cons_of_pos (by simpa using ha)]
          cases i with
          | zero => simp [ha]
          | succ i => have := ih h2 i (by simpa using hi); simp only [List.getElem_cons_succ]; omega
        · have hz : l.countP (fun x => decide (x < first)) = 0 := List.countP_eq_zero.2 fun x hx => by have := h1 x hx; simp; omega
          rw [List.countP_cons_of_neg (by simpa using ha), hz]
          cases i with
          | zero => simp; omega
          | succ i =>
            have := h1 (l[i]'(by simpa using hi)) (List.getElem_mem _)
            simp only [List.getElem_cons_succ]
            omega
    rw [hc]
    exact key ns hs.rise
  have hk : till - c = ds.length := by
    refine h.far (fun j hj => (hmem _).1 ?_) fun hbad => ?_
    · have := hrow (c + j) (by omega) (by omega)
      rw [show c + j - c = j by omega] at this
      rw [← this]
      exact List.getElem_mem _
    · obtain ⟨i, hi, e⟩ := List.getElem_of_mem ((hmem _).2 hbad)
      have hci : ¬ i < c := fun hlt => by have := (hbelow i hi).2 hlt; omega
      rcases Nat.lt_trichotomy i till with hlt | heq | hgt
      · have := hrow i (by omega) hlt
        omega
      · subst heq
        exact hend hi (by rw [e])
      · have h1 := hup till i hgt hi
        have h2 := hend (by omega)
        by_cases h0 : till = c
        · have := (hbelow till (by omega))
          have h3 : ¬ ns[till]'(by omega) < first := by rw [this]; omega
          omega
        · have h3 := hrow (till - 1) (by omega) (by omega)
          have h4 := hup (till - 1) till (by omega) (by omega)
          omega
  have htill : till = c + ds.length := by omega
  refine ⟨htill, ?_, ?_, ?_⟩
  · apply List.ext_getElem
    · rw [List.length_take, List.length_drop, List.length_range']; omega
    · intro j h1 h2
      rw [List.length_range'] at h2
      rw [List.getElem_take, List.getElem_drop, List.getElem_range', hrow (c + j) (by omega) (by omega)]
      omega
  · have hlook : ∀ n, okN n → lookBy Fl.name (segL n) (delN (ns.take c) (delN (ns.drop till) fs)) = if first ≤ n ∧ n < first + ds.length then lookBy Fl.name (segL n) fs else none := by
      intro n hn
      have hin : ∀ l : List Nat, (∀ m ∈ l, m ∈ ns) → (segL n ∈ l.map segL ↔ n ∈ l) := fun l hl => by
        rw [List.mem_map]
        constructor
        · rintro ⟨m, hm, e⟩
          rw [← seg_inj ((hmem m).1 (hl m hm)).1 hn e]
          exact hm
        · exact fun h => ⟨n, h, rfl⟩
      rw [look_delN, look_delN]
      have i1 := hin (ns.take c) fun m hm => List.mem_of_mem_take hm
      have i2 := hin (ns.drop till) fun m hm => List.mem_of_mem_drop hm
      by_cases hrng : first ≤ n ∧ n < first + ds.length
      · rw [if_pos hrng, if_neg, if_neg]
        · rw [i2]
          intro hm
          obtain ⟨j, hj, e⟩ := List.getElem_of_mem hm
          rw [List.length_drop] at hj
          rw [List.getElem_drop] at e
          by_cases h0 : till = c
          · omega
          · have h3 := hrow (till - 1) (by omega) (by omega)
            have h4 := hup (till - 1) (till + j) (by omega) (by omega)
            omega
        · rw [i1]
          intro hm
          obtain ⟨j, hj, e⟩ := List.getElem_of_mem hm
          rw [List.length_take] at hj
          rw [List.getElem_take] at e
          have := (hbelow j (by omega)).2 (by omega)
          omega
      · rw [if_neg hrng]
        by_cases hm : n ∈ ns
        · obtain ⟨j, hj, e⟩ := List.getElem_of_mem hm
          by_cases hjc : j < c
          · rw [if_pos]
            rw [i1]
            exact List.mem_iff_getElem.2 ⟨j, by rw [List.length_take]; omega, by rw [List.getElem_take]; exact e⟩
          · by_cases hjt : j < till
            · have := hrow j (by omega) hjt
              omega
            · have : segL n ∈ (ns.drop till).map segL := by
                rw [i2]
                exact List.mem_iff_getElem.2 ⟨j - till, by rw [List.length_drop]; omega, by rw [List.getElem_drop]; simp only [show till + (j - till) = j by omega]; exact e⟩
              rw [if_pos this]
              split <;> rfl
        · have : lookBy Fl.name (segL n) fs = none := by
            cases hl : lookBy Fl.name (segL n) fs with
            | none => rfl
            | some f => exact absurd ((hmem n).2 ⟨hn, by rw [hl]; rfl⟩) hm
          rw [this]
          split <;> (try split) <;> rfl
    refine ⟨h.ok, fun k hk => ?_, fun n hn hno => ?_⟩
    · unfold conF
      rw [hlook _ (h.ok k hk), if_pos (by omega)]
      exact h.con k hk
    · rw [hlook n hn, if_neg hno]
  · refine (fewer_delN (fun n hn => ((hmem n).1 (List.mem_of_mem_drop hn)).1) fs).trans (fewer_delN (fun n hn => ((hmem n).1 (List.mem_of_mem_take hn)).1) _)
end Go.Proofs.YtohnhboeipckjaaGreatDoor
