/-
  The mathematics of a log that grows: what an append makes of the files' bytes, their number, the segments and their bytes.
  Conditions: none.
-/
import Derived.Test.YtohnhboeipckjaaGreatDoorWalLog
namespace Go.Proofs.YtohnhboeipckjaaGreatDoor

theorem app_name (x : List UInt8) (fs : List Fl) : ((lookBy Fl.name x fs).getD (newF x)).name = x := by
  cases h : lookBy Fl.name x fs with
  | none => rfl
  | some f => exact (lookBy_some h).2
theorem sum_app (m : Fl → Nat) {fs : List Fl} (h : Rise Fl.name fs) (x b : List UInt8) {k : Nat} (h1 : ∀ f ∈ fs, f.name = x → m { f with bs := f.bs ++ b } = m f + k) (h2 : m { newF x with bs := [] ++ b } = k) : ((appF x b fs).map m).sum = (fs.map m).sum + k := by
  unfold appF
  have h3 := sum_putBy m (f := ({ (lookBy Fl.name x fs).getD (newF x) with bs := ((lookBy Fl.name x fs).getD (newF x)).bs ++ b } : Fl)) h
  simp only [app_name] at h3 ⊢
  cases hl : lookBy Fl.name x fs with
  | none =>
    rw [hl] at h3
    simp only [Option.getD_none, Option.map_none, Nat.add_zero] at h3 ⊢
    have h2' : m { name := x, bs := (newF x).bs ++ b, safe := (newF x).safe, stays := (newF x).stays } = k := h2
    omega
  | some f =>
    rw [hl] at h3
    obtain ⟨hm, hn⟩ := lookBy_some hl
    have h4 := h1 f hm hn
    simp only [Option.getD_some, Option.map_some, hn] at h3 h4 ⊢
    omega
theorem used_app {fs : List Fl} (h : Rise Fl.name fs) (x b : List UInt8) : usedF (appF x b fs) = usedF fs + b.length ∧ (appF x b fs).length ≤ fs.length + 1 := by
  refine ⟨sum_app (fun f => f.bs.length) h x b (fun f _ _ => by simp) (by simp), ?_⟩
  unfold appF
  rw [len_put h]
  split <;> omega
theorem seg_app {fs : List Fl} (h : Rise Fl.name fs) {n : Nat} (hn : okN n) (b : List UInt8) : segBytes (appF (segL n) b fs) = segBytes fs + b.length := by
  have h0 : ¬ numL (segL n) = 0 := by rw [num_seg hn]; have := hn.1; omega
  refine sum_app (fun f => if numL f.name = 0 then 0 else f.bs.length) h (segL n) b (fun f _ e => ?_) ?_
  · simp only [e]
    rw [if_neg h0, if_neg h0, List.length_append]
  · show (if numL (segL n) = 0 then 0 else ([] ++ b).length) = b.length
    rw [if_neg h0]
    rfl
theorem seg_sync {fs : List Fl} (h : Rise Fl.name fs) (x : List UInt8) : segBytes (syncF x fs) = segBytes fs := by
  unfold syncF
  cases hl : lookBy Fl.name x fs with
  | none => rfl
  | some f =>
    have hn := (lookBy_some hl).2
    have := sum_putBy (fun f : Fl => if numL f.name = 0 then 0 else f.bs.length) (f := ({ f with safe := f.bs.length, stays := true } : Fl)) h
    simp only [hn, hl, Option.map_some, Option.getD_some] at this
    unfold segBytes
    simp only [hn]
    omega
theorem rise_roll (size last : Nat) {fs : List Fl} (h : Rise Fl.name fs) : Rise Fl.name (rollS size last fs) := by
  unfold rollS
  split
  · exact rise_sync _ h
  · exact h
theorem look_app {fs : List Fl} (h : Rise Fl.name fs) (x y b : List UInt8) : lookBy Fl.name y (appF x b fs) = if y = x then some { (lookBy Fl.name x fs).getD (newF x) with bs := ((lookBy Fl.name x fs).getD (newF x)).bs ++ b } else lookBy Fl.name y fs := by
  unfold appF
  rw [look_put h]
  simp only [app_name]
  by_cases e : y = x
  · rw [if_pos e, if_pos e.symm]
  · rw [if_neg e, if_neg (fun h => e h.symm)]
theorem last_le (size last : Nat) (fs : List Fl) : last ≤ lastS size last fs ∧ lastS size last fs ≤ last + 1 := by unfold lastS; split <;> omega
theorem is_roll (size last : Nat) {fs : List Fl} (h : Rise Fl.name fs) (y : List UInt8) : (lookBy Fl.name y (rollS size last fs)).isSome = (lookBy Fl.name y fs).isSome ∧ conF y (rollS size last fs) = conF y fs := by
  unfold rollS
  split
  · exact ⟨is_sync h _ _, con_sync h _ _⟩
  · exact ⟨rfl, rfl⟩
theorem used_roll (size last : Nat) {fs : List Fl} (h : Rise Fl.name fs) : usedF (rollS size last fs) = usedF fs ∧ (rollS size last fs).length = fs.length ∧ segBytes (rollS size last fs) = segBytes fs := by
  unfold rollS
  split
  · exact ⟨(used_sync h _).1, (used_sync h _).2, seg_sync h _⟩
  · exact ⟨rfl, rfl, rfl⟩
/-- a log to which some payloads were appended -/
structure Grown (fs : List Fl) (last i : Nat) : Prop where
  low : 1 ≤ last
  top : last ≤ i + 1
  used : usedF fs ≤ 53 * i
  many : fs.length ≤ i
  all : ∀ m, okN m → (lookBy Fl.name (segL m) fs).isSome = true → m ≤ last
theorem Grown.next {fs : List Fl} {last i : Nat} (h : Grown fs last i) (hr : Rise Fl.name fs) (size : Nat) {b : List UInt8} (hb : b.length ≤ 40) (hi : i ≤ 1000) :
    Grown (appS size last fs b) (lastS size last fs) (i + 1) ∧ segBytes (appS size last fs b) = segBytes fs + (b.length + 13) := by
  obtain ⟨l1, l2⟩ := last_le size last fs
  have hok : okN (lastS size last fs) := ⟨by have := h.low; omega, by have := h.top; omega⟩
  obtain ⟨u1, u2, u3⟩ := used_roll size last hr
  have hr2 := rise_roll size last hr
  obtain ⟨v1, v2⟩ := used_app hr2 (segL (lastS size last fs)) (putL b)
  rw [putL_len] at v1
  have h1 := h.top
  have h2 := h.used
  have h3 := h.many
  refine ⟨⟨hok.1, by omega, ?_, ?_, fun m hm hs => ?_⟩, ?_⟩
  · unfold appS; omega
  · unfold appS; omega
  · unfold appS at hs
    rw [look_app hr2] at hs
    by_cases e : segL m = segL (lastS size last fs)
    · exact Nat.le_of_eq (seg_inj hm hok e)
    · rw [if_neg e, (is_roll size last hr _).1] at hs
      have := h.all m hm hs
      omega
  · unfold appS
    rw [seg_app hr2 hok, putL_len, u3]

/-! ### Segments behind an append -/
theorem SegAre.sync {fs : List Fl} (hr : Rise Fl.name fs) {f : Nat} {ds : List (List UInt8)} (h : SegAre fs f ds) (x : List UInt8) : SegAre (syncF x fs) f ds :=
  ⟨h.ok, fun k hk => by rw [con_sync hr]; exact h.con k hk, fun n hn hno => by
    have h1 := is_sync hr x (segL n)
    rw [h.no n hn hno] at h1
    cases hl : lookBy Fl.name (segL n) (syncF x fs) with
    | none => rfl
    | some f => rw [hl] at h1; cases h1⟩
/-- a further segment -/
theorem SegAre.further {fs : List Fl} (hr : Rise Fl.name fs) {f L : Nat} {ds : List (List UInt8)} (h : SegAre fs f ds) (hL : L = f + ds.length) (hok : okN L) (P : List UInt8) : SegAre (appF (segL L) P fs) f (ds ++ [P]) := by
  subst hL
  have hnone := h.no _ hok (by omega)
  refine ⟨fun k hk => ?_, fun k hk => ?_, fun n hn hno => ?_⟩
  · rw [List.length_append, List.length_singleton] at hk
    by_cases e : k = ds.length
    · rw [e]; exact hok
    · exact h.ok k (by omega)
  · rw [List.length_append, List.length_singleton] at hk
    unfold conF
    rw [look_app hr]
    by_cases e : k = ds.length
    · subst e
      rw [if_pos rfl, hnone]
      simp [newF]
    · rw [if_neg (fun e2 => e (by have := seg_inj (h.ok k (by omega)) hok e2; omega)), List.getElem_append_left (by omega)]
      exact h.con k (by omega)
  · rw [List.length_append, List.length_singleton] at hno
    rw [look_app hr, if_neg (fun e => hno (by have := seg_inj hn hok e; omega))]
    exact h.no n hn (by omega)
/-- more bytes in the last one -/
theorem SegAre.longer {fs : List Fl} (hr : Rise Fl.name fs) {f L : Nat} {ds : List (List UInt8)} {d : List UInt8} (h : SegAre fs f (ds ++ [d])) (hL : L = f + ds.length) (P : List UInt8) : SegAre (appF (segL L) P fs) f (ds ++ [d ++ P]) := by
  subst hL
  have hok := h.ok ds.length (by simp)
  obtain ⟨q, hq, hqb⟩ := con_some (h.con ds.length (by simp))
  have hqb : q.bs = d := by rw [hqb]; simp
  refine ⟨fun k hk => h.ok k (by simpa using hk), fun k hk => ?_, fun n hn hno => ?_⟩
  · rw [List.length_append, List.length_singleton] at hk
    unfold conF
    rw [look_app hr]
    by_cases e : k = ds.length
    · subst e
      rw [if_pos rfl, hq]
      simp [hqb]
    · have hk' : k < ds.length := by omega
      rw [if_neg (fun e2 => e (by have := seg_inj (h.ok k (by simp; omega)) hok e2; omega)), List.getElem_append_left hk']
      have := h.con k (by simp; omega)
      rw [List.getElem_append_left hk'] at this
      exact this
  · rw [List.length_append, List.length_singleton] at hno
    rw [look_app hr, if_neg (fun e => hno (by have := seg_inj hn hok e; omega))]
    exact h.no n hn (by simpa using hno)
theorem lenF_con {x : List UInt8} {fs : List Fl} {d : List UInt8} (h : conF x fs = some d) : lenF x fs = d.length := by unfold lenF; rw [h]; rfl
/-- an append to a log whose segments are whole -/
theorem seg_next {fs : List Fl} (hr : Rise Fl.name fs) {f last size : Nat} {cs : List (List (List UInt8))} (h : SegAre fs f (cs.map catL)) (hl : last = f + (cs.length - 1)) (h1 : 1 ≤ f) (h2 : f + cs.length ≤ 1073741824) (hs : 1 ≤ size) (b : List UInt8) :
    ∃ cs' : List (List (List UInt8)), SegAre (appS size last fs b) f (cs'.map catL) ∧ lastS size last fs = f + (cs'.length - 1) ∧ cs'.flatten = cs.flatten ++ [b] ∧ 1 ≤ cs'.length ∧ cs'.length ≤ cs.length + 1 := by
  have hb1 : catL [b] = putL b := by rw [catL_cons, catL_nil, List.append_nil]
  rcases List.eq_nil_or_concat cs with rfl | ⟨cs0, c, rfl⟩
  · have hok : okN f := ⟨h1, by simp at h2; omega⟩
    have hl : last = f := by simpa using hl
    have hz : lenF (segL last) fs = 0 := by
      unfold lenF conF
      rw [hl, h.no f hok (by simp)]
      rfl
    have hL : lastS size last fs = last := by unfold lastS; rw [hz, if_neg (by omega)]
    have hR : rollS size last fs = fs := by unfold rollS; rw [hz, if_neg (by omega)]
    refine ⟨[[b]], ?_, by rw [hL, hl]; rfl, by simp, by simp, by simp⟩
    unfold appS
    rw [hL, hR]
    have := h.further hr (L := last) (by rw [hl]; simp) (by rw [hl]; exact hok) (putL b)
    simpa [hb1] using this
  · rw [List.concat_eq_append] at *
    rw [List.length_append, List.length_singleton] at hl h2
    rw [List.map_append, List.map_cons, List.map_nil] at h
    have hlast : last = f + cs0.length := by omega
    have hlen : lenF (segL last) fs = (catL c).length := by
      have h3 := h.con cs0.length (by simp)
      rw [List.getElem_append_right (by simp)] at h3
      simp only [List.length_map, Nat.sub_self, List.getElem_cons_zero] at h3
      rw [hlast]
      exact lenF_con h3
    by_cases hro : size ≤ lenF (segL last) fs
    · have hL : lastS size last fs = last + 1 := by unfold lastS; rw [if_pos hro]
      have hR : rollS size last fs = syncF (segL last) fs := by unfold rollS; rw [if_pos hro]
      refine ⟨cs0 ++ [c] ++ [[b]], ?_, by rw [hL, hlast]; simp; omega, by simp, by simp, by simp⟩
      unfold appS
      rw [hL, hR]
      have := (h.sync hr (segL last)).further (rise_sync _ hr) (L := last + 1) (by rw [hlast]; simp; omega) ⟨by omega, by omega⟩ (putL b)
      simpa [hb1] using this
    · have hL : lastS size last fs = last := by unfold lastS; rw [if_neg hro]
      have hR : rollS size last fs = fs := by unfold rollS; rw [if_neg hro]
      refine ⟨cs0 ++ [c ++ [b]], ?_, by rw [hL, hlast]; simp, by simp, by simp, by simp⟩
      unfold appS
      rw [hL, hR]
      have := h.longer hr (L := last) (by rw [hlast]; simp) (putL b)
      simpa [hb1, catL_append] using this
/-- two rising rows with the same numbers -/
theorem up_ext : ∀ {a b : List Nat}, a.Pairwise (· < ·) → b.Pairwise (· < ·) → (∀ n, n ∈ a ↔ n ∈ b) → a = b
  | [], [], _, _, _ => rfl
  | [], y :: b, _, _, h => by have := (h y).2 (by simp); simp at this
  | x :: a, [], _, _, h => by have := (h x).1 (by simp); simp at this
  | x :: a, y :: b, ha, hb, h => by
    obtain ⟨a1, a2⟩ := List.pairwise_cons.1 ha
    obtain ⟨b1, b2⟩ := List.pairwise_cons.1 hb
    have hxy : x = y := by
      rcases List.mem_cons.1 ((h x).1 (by simp)) with e | hm
      · exact e
      · rcases List.mem_cons.1 ((h y).2 (by simp)) with e | hm2
        · exact e.symm
        · have := b1 x hm; have := a1 y hm2; omega
    subst hxy
    rw [up_ext a2 b2 fun n => ?_]
    constructor
    · intro hn
      rcases List.mem_cons.1 ((h n).1 (by simp [hn])) with e | hm
      · have := a1 n hn; omega
      · exact hm
    · intro hn
      rcases List.mem_cons.1 ((h n).2 (by simp [hn])) with e | hm
      · have := b1 n hn; omega
      · exact hm
/-- how many bytes segments that follow one another have -/
theorem segBytes_are {fs : List Fl} (hr : Rise Fl.name fs) {f : Nat} {ds : List (List UInt8)} (h : SegAre fs f ds) : segBytes fs = (ds.map List.length).sum := by
  obtain ⟨ns, hns⟩ : ∃ ns, SegsIs fs ns := by
    obtain ⟨ns', _, e2, e3⟩ := sort_nat (numsOf fs)
    exact ⟨ns', SegsIs.of hr e3 e2⟩
  have e : ns = List.range' f ds.length := by
    refine up_ext hns.rise (by simpa using List.pairwise_lt_range' (s := f) (n := ds.length) (step := 1)) fun n => ?_
    rw [hns.mem hr, List.mem_range'_1]
    constructor
    · rintro ⟨h1, h2⟩
      refine Classical.byContradiction fun hno => ?_
      rw [h.no n h1 (by omega)] at h2
      cases h2
    · rintro ⟨h1, h2⟩
      obtain ⟨q, hq, _⟩ := con_some (h.con (n - f) (by omega))
      have := h.ok (n - f) (by omega)
      rw [show f + (n - f) = n by omega] at hq this
      exact ⟨this, by rw [hq]; rfl⟩
  rw [← sum_segs hr hns, e]
  congr 1
  apply List.ext_getElem
  · simp
  · intro k h1 h2
    rw [List.length_map] at h2
    simp only [List.getElem_map, List.getElem_range', Nat.one_mul]
    exact lenF_con (h.con k h2)
theorem sum_cat (cs : List (List (List UInt8))) : ((cs.map catL).map List.length).sum = (catL cs.flatten).length := by
  induction cs with
  | nil => rfl
  | cons c cs ih => rw [List.map_cons, List.map_cons, List.sum_cons, ih, List.flatten_cons, catL_append, List.length_append]
end Go.Proofs.YtohnhboeipckjaaGreatDoor
