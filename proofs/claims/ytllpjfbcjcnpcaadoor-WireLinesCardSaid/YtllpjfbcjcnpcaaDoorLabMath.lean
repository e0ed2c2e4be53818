/-
  Plain mathematics of labels: the rune at the head of a text of bytes, a text's pieces (a rune that may stand in a name as it is, all else as one _), their number, the masked text, and which texts are names. It needs nothing of the program.
  Conditions: none.
-/
import Derived.Lib.RuneBytes
import Derived.Lib.Strings
import Derived.Laws.RangeAny
namespace Go.Proofs.YtllpjfbcjcnpcaaDoor

/-- byte k of a text (0 behind its end) -/
def byt (l : List UInt8) (k : Nat) : Nat := (l.getD k 0).toNat
/-- the rune that these bytes begin with, and how many of them it has (0: none) -/
def d4 (a b c d : Nat) : Nat × Nat :=
  if a < 128 then (a, 1)
  else if a / 32 = 6 then (if b / 64 = 2 ∧ 128 ≤ (a % 32) * 64 + b % 64 then ((a % 32) * 64 + b % 64, 2) else (0, 0))
  else if a / 16 = 14 then (if b / 64 = 2 ∧ c / 64 = 2 ∧ 2048 ≤ (a % 16) * 4096 + (b % 64) * 64 + c % 64 ∧ ¬ (55296 ≤ (a % 16) * 4096 + (b % 64) * 64 + c % 64 ∧ (a % 16) * 4096 + (b % 64) * 64 + c % 64 ≤ 57343) then ((a % 16) * 4096 + (b % 64) * 64 + c % 64, 3) else (0, 0))
  else if a / 8 = 30 then (if b / 64 = 2 ∧ c / 64 = 2 ∧ d / 64 = 2 ∧ 65536 ≤ (a % 8) * 262144 + (b % 64) * 4096 + (c % 64) * 64 + d % 64 ∧ (a % 8) * 262144 + (b % 64) * 4096 + (c % 64) * 64 + d % 64 ≤ 1114111 then ((a % 8) * 262144 + (b % 64) * 4096 + (c % 64) * 64 + d % 64, 4) else (0, 0))
  else (0, 0)
def dec (l : List UInt8) : Nat × Nat := d4 (byt l 0) (byt l 1) (byt l 2) (byt l 3)
def wd (l : List UInt8) : Nat := if (dec l).2 = 0 then 1 else (dec l).2
def lettI (r : Int) : Bool := (decide (97 ≤ r) && decide (r ≤ 122)) || (decide (65 ≤ r) && decide (r ≤ 90)) || decide (128 ≤ r)
def fitI (r : Int) : Bool := lettI r || (decide (48 ≤ r) && decide (r ≤ 57)) || r == 45 || r == 95
/-- the rune at the head, -1 where the byte there is none's -/
def metI (l : List UInt8) : Int := if (dec l).2 = 0 then -1 else (dec l).1
/-- the rune at the head may stand in a name -/
def gd (l : List UInt8) : Bool := fitI (metI l)
def hd (l : List UInt8) : List UInt8 := if gd l then l.take (wd l) else [95]
def chunksF : Nat → List UInt8 → List (List UInt8)
  | 0, _ => []
  | _ + 1, [] => []
  | f + 1, b :: t => hd (b :: t) :: chunksF f ((b :: t).drop (wd (b :: t)))
def chunks (l : List UInt8) : List (List UInt8) := chunksF l.length l
def runes (l : List UInt8) : Nat := (chunks l).length
def mask (l : List UInt8) : List UInt8 := (chunks l).flatten
def nameB (l : List UInt8) : Bool := !l.isEmpty && lettI (metI l) && decide (mask l = l) && decide (runes l ≤ 64)

theorem byt_lt (l : List UInt8) (k : Nat) : byt l k < 256 := (l.getD k 0).toNat_lt
theorem byt_pos {l : List UInt8} {k : Nat} (h : byt l k ≠ 0) : k < l.length := by
  rcases Nat.lt_or_ge k l.length with hlt | hge
  · exact hlt
  · exact absurd (by simp [byt, List.getD_eq_getElem?_getD, List.getElem?_eq_none hge]) h
theorem byt_get {l : List UInt8} {k : Nat} (h : k < l.length) : byt l k = (l[k]'h).toNat := by simp [byt, List.getD_eq_getElem?_getD, h]
theorem byt_app {c t : List UInt8} {k : Nat} (h : k < c.length) : byt (c ++ t) k = byt c k := by
  simp [byt, List.getD_eq_getElem?_getD, List.getElem?_append_left h]
theorem byt_take {l : List UInt8} {n k : Nat} (h : k < n) : byt (l.take n) k = byt l k := by
  simp [byt, List.getD_eq_getElem?_getD, h]
theorem byt_drop (l : List UInt8) (n k : Nat) : byt (l.drop n) k = byt l (n + k) := by
  simp [byt, List.getD_eq_getElem?_getD, List.getElem?_drop]

theorem d4_cases (a b c d : Nat) :
    (a < 128 ∧ d4 a b c d = (a, 1)) ∨
    (a / 32 = 6 ∧ b / 64 = 2 ∧ 128 ≤ (a % 32) * 64 + b % 64 ∧ d4 a b c d = ((a % 32) * 64 + b % 64, 2)) ∨
    (a / 16 = 14 ∧ b / 64 = 2 ∧ c / 64 = 2 ∧ 2048 ≤ (a % 16) * 4096 + (b % 64) * 64 + c % 64 ∧ ¬ (55296 ≤ (a % 16) * 4096 + (b % 64) * 64 + c % 64 ∧ (a % 16) * 4096 + (b % 64) * 64 + c % 64 ≤ 57343) ∧ d4 a b c d = ((a % 16) * 4096 + (b % 64) * 64 + c % 64, 3)) ∨
    (a / 8 = 30 ∧ b / 64 = 2 ∧ c / 64 = 2 ∧ d / 64 = 2 ∧ 65536 ≤ (a % 8) * 262144 + (b % 64) * 4096 + (c % 64) * 64 + d % 64 ∧ (a % 8) * 262144 + (b % 64) * 4096 + (c % 64) * 64 + d % 64 ≤ 1114111 ∧ d4 a b c d = ((a % 8) * 262144 + (b % 64) * 4096 + (c % 64) * 64 + d % 64, 4)) ∨
    (128 ≤ a ∧ d4 a b c d = (0, 0)) := by
  unfold d4
  by_cases h1 : a < 128
  · exact .inl ⟨h1, by rw [if_pos h1]⟩
  rw [if_neg h1]
  by_cases h2 : a / 32 = 6
  · rw [if_pos h2]
    split
    · rename_i h; exact .inr (.inl ⟨h2, h.1, h.2, rfl⟩)
    · exact .inr (.inr (.inr (.inr ⟨by omega, rfl⟩)))
  rw [if_neg h2]
  by_cases h3 : a / 16 = 14
  · rw [if_pos h3]
    split
    · rename_i h; exact .inr (.inr (.inl ⟨h3, h.1, h.2.1, h.2.2.1, h.2.2.2, rfl⟩))
    · exact .inr (.inr (.inr (.inr ⟨by omega, rfl⟩)))
  rw [if_neg h3]
  by_cases h4 : a / 8 = 30
  · rw [if_pos h4]
    split
    · rename_i h; exact .inr (.inr (.inr (.inl ⟨h4, h.1, h.2.1, h.2.2.1, h.2.2.2.1, h.2.2.2.2, rfl⟩)))
    · exact .inr (.inr (.inr (.inr ⟨by omega, rfl⟩)))
  rw [if_neg h4]
  exact .inr (.inr (.inr (.inr ⟨by omega, rfl⟩)))

theorem d4_ext {a b c d a' b' c' d' : Nat} (hk : (d4 a b c d).2 ≠ 0) (h1 : a' = a) (h2 : 2 ≤ (d4 a b c d).2 → b' = b) (h3 : 3 ≤ (d4 a b c d).2 → c' = c) (h4 : 4 ≤ (d4 a b c d).2 → d' = d) :
    d4 a' b' c' d' = d4 a b c d := by
  subst h1
  rcases d4_cases a' b c d with ⟨p, e⟩ | ⟨p, q, r, e⟩ | ⟨p, q, r, s, t, e⟩ | ⟨p, q, r, s, t, u, e⟩ | ⟨p, e⟩
  · rw [e, d4, if_pos p]
  · rw [e] at h2
    rw [e, h2 (by simp), d4, if_neg (by omega), if_pos p, if_pos ⟨q, r⟩]
  · rw [e] at h2 h3
    rw [e, h2 (by simp), h3 (by simp), d4, if_neg (by omega), if_neg (by omega), if_pos p, if_pos ⟨q, r, s, t⟩]
  · rw [e] at h2 h3 h4
    rw [e, h2 (by simp), h3 (by simp), h4 (by simp), d4, if_neg (by omega), if_neg (by omega), if_neg (by omega), if_pos p, if_pos ⟨q, r, s, t, u⟩]
  · rw [e] at hk; exact absurd rfl hk

theorem dec_le (l : List UInt8) (hl : l ≠ []) : (dec l).2 ≤ l.length := by
  have hp : 0 < l.length := List.length_pos_iff.2 hl
  have p1 : byt l 1 / 64 = 2 → 1 < l.length := fun h => byt_pos (fun e => by rw [e] at h; omega)
  have p2 : byt l 2 / 64 = 2 → 2 < l.length := fun h => byt_pos (fun e => by rw [e] at h; omega)
  have p3 : byt l 3 / 64 = 2 → 3 < l.length := fun h => byt_pos (fun e => by rw [e] at h; omega)
  unfold dec
  rcases d4_cases (byt l 0) (byt l 1) (byt l 2) (byt l 3) with ⟨p, e⟩ | ⟨p, q, r, e⟩ | ⟨p, q, r, s, t, e⟩ | ⟨p, q, r, s, t, u, e⟩ | ⟨p, e⟩ <;> rw [e] <;> simp only
  · omega
  · have := p1 q; omega
  · have := p2 r; omega
  · have := p3 s; omega
  · omega
theorem dec_bd (l : List UInt8) : (dec l).1 ≤ 1114111 ∧ (dec l).2 ≤ 4 := by
  have h0 := byt_lt l 0
  unfold dec
  rcases d4_cases (byt l 0) (byt l 1) (byt l 2) (byt l 3) with ⟨p, e⟩ | ⟨p, q, r, e⟩ | ⟨p, q, r, s, t, e⟩ | ⟨p, q, r, s, t, u, e⟩ | ⟨p, e⟩ <;> rw [e] <;> simp only <;> omega
theorem wd_pos (l : List UInt8) : 1 ≤ wd l := by unfold wd; split <;> omega
theorem wd_le (l : List UInt8) (hl : l ≠ []) : wd l ≤ l.length := by
  have hp : 0 < l.length := List.length_pos_iff.2 hl
  unfold wd; split
  · omega
  · exact dec_le l hl
theorem wd_bd (l : List UInt8) : wd l ≤ 4 := by
  have := dec_bd l
  unfold wd; split <;> omega
theorem metI_lo (l : List UInt8) : -1 ≤ metI l := by unfold metI; split <;> omega
theorem metI_hi (l : List UInt8) : metI l ≤ 1114111 := by have := dec_bd l; unfold metI; split <;> omega

theorem gd_valid {l : List UInt8} (h : gd l = true) : (dec l).2 ≠ 0 := by
  intro e
  unfold gd metI at h
  rw [if_pos e] at h
  exact absurd h (by decide)
theorem gd_wd {l : List UInt8} (h : gd l = true) : wd l = (dec l).2 := by unfold wd; rw [if_neg (gd_valid h)]

theorem chunksF_same : ∀ (f g : Nat) (l : List UInt8), l.length ≤ f → l.length ≤ g → chunksF f l = chunksF g l := by
  intro f
  induction f with
  | zero =>
    intro g l hf _
    have : l = [] := List.length_eq_zero_iff.1 (by omega)
    subst this
    cases g <;> rfl
  | succ f ih =>
    intro g l hf hg
    cases l with
    | nil => cases g <;> rfl
    | cons b t =>
      cases g with
      | zero => simp at hg
      | succ g =>
        have hw := wd_pos (b :: t)
        simp only [chunksF]
        rw [ih g ((b :: t).drop (wd (b :: t))) (by simp at hf ⊢; omega) (by simp at hg ⊢; omega)]

theorem chunks_nil : chunks [] = [] := rfl
theorem chunks_step (l : List UInt8) (h : l ≠ []) : chunks l = hd l :: chunks (l.drop (wd l)) := by
  cases l with
  | nil => exact absurd rfl h
  | cons b t =>
    have hw := wd_pos (b :: t)
    show chunksF (t.length + 1) (b :: t) = _
    simp only [chunksF]
    rw [chunksF_same t.length ((b :: t).drop (wd (b :: t))).length _ (by simp; omega) (Nat.le_refl _)]
    rfl

theorem runes_step (l : List UInt8) (h : l ≠ []) : runes l = runes (l.drop (wd l)) + 1 := by
  unfold runes; rw [chunks_step l h]; rfl
theorem mask_step (l : List UInt8) (h : l ≠ []) : mask l = hd l ++ mask (l.drop (wd l)) := by
  unfold mask; rw [chunks_step l h]; rfl
theorem runes_nil : runes [] = 0 := rfl
theorem mask_nil : mask [] = [] := rfl

/-- one rune that may stand in a name -/
def Gc (c : List UInt8) : Prop := c ≠ [] ∧ gd c = true ∧ (dec c).2 = c.length

theorem dec_app {c : List UInt8} (t : List UInt8) (hc : c ≠ []) (h : (dec c).2 = c.length) : dec (c ++ t) = dec c := by
  have hp : 0 < c.length := List.length_pos_iff.2 hc
  unfold dec at h ⊢
  exact d4_ext (by omega) (byt_app hp) (fun q => byt_app (by omega)) (fun q => byt_app (by omega)) (fun q => byt_app (by omega))
theorem dec_take {l : List UInt8} (h : (dec l).2 ≠ 0) : dec (l.take (dec l).2) = dec l := by
  have hp : 0 < (dec l).2 := Nat.pos_of_ne_zero h
  have h' := h
  unfold dec at h'
  show d4 _ _ _ _ = d4 _ _ _ _
  exact d4_ext h' (byt_take hp) (fun q => byt_take (by unfold dec; omega)) (fun q => byt_take (by unfold dec; omega)) (fun q => byt_take (by unfold dec; omega))
theorem metI_of_dec {l m : List UInt8} (h : dec l = dec m) : metI l = metI m := by unfold metI; rw [h]

theorem Gc_hd (l : List UInt8) (hl : l ≠ []) : Gc (hd l) := by
  unfold hd
  split
  · rename_i h
    have hv := gd_valid h
    have hle := dec_le l hl
    rw [gd_wd h]
    refine ⟨fun e => ?_, ?_, ?_⟩
    · have := congrArg List.length e
      simp at this
      exact this.elim hv (by simpa using hl)
    · unfold gd; rw [metI_of_dec (dec_take hv)]; exact h
    · rw [dec_take hv]; simp; omega
  · exact ⟨by simp, by decide, by decide⟩
theorem Gc_app {c : List UInt8} (h : Gc c) (t : List UInt8) : gd (c ++ t) = true ∧ wd (c ++ t) = c.length ∧ hd (c ++ t) = c := by
  obtain ⟨h0, h1, h2⟩ := h
  have e := dec_app t h0 h2
  have g : gd (c ++ t) = true := by unfold gd; rw [metI_of_dec e]; exact h1
  have w : wd (c ++ t) = c.length := by rw [gd_wd g, e, h2]
  exact ⟨g, w, by unfold hd; rw [if_pos g, w]; simp⟩

theorem chunks_good (l : List UInt8) : ∀ c ∈ chunks l, Gc c := by
  suffices h : ∀ n (l : List UInt8), l.length ≤ n → ∀ c ∈ chunks l, Gc c from h l.length l (Nat.le_refl _)
  intro n
  induction n with
  | zero =>
    intro l hl c hc
    have : l = [] := List.length_eq_zero_iff.1 (by omega)
    subst this
    simp [chunks_nil] at hc
  | succ n ih =>
    intro l hl c hc
    by_cases h : l = []
    · subst h; simp [chunks_nil] at hc
    · rw [chunks_step l h] at hc
      have hw := wd_pos l
      rcases List.mem_cons.1 hc with rfl | hc
      · exact Gc_hd l h
      · exact ih _ (by simp; omega) c hc

theorem chunks_app {c : List UInt8} (h : Gc c) (t : List UInt8) : chunks (c ++ t) = c :: chunks t := by
  obtain ⟨_, w, e⟩ := Gc_app h t
  rw [chunks_step (c ++ t) (by simp [h.1]), e, w]
  simp
theorem chunks_flat (cs : List (List UInt8)) (h : ∀ c ∈ cs, Gc c) (t : List UInt8) : chunks (cs.flatten ++ t) = cs ++ chunks t := by
  induction cs with
  | nil => rfl
  | cons c cs ih =>
    rw [List.flatten_cons, List.append_assoc, chunks_app (h c (by simp)), ih (fun x hx => h x (by simp [hx]))]
    rfl
theorem chunks_mask_app (l t : List UInt8) : chunks (mask l ++ t) = chunks l ++ chunks t := chunks_flat _ (chunks_good l) t
theorem chunks_mask (l : List UInt8) : chunks (mask l) = chunks l := by
  have := chunks_mask_app l []
  simpa [chunks_nil] using this
theorem runes_mask (l : List UInt8) : runes (mask l) = runes l := by unfold runes; rw [chunks_mask]
theorem mask_mask (l : List UInt8) : mask (mask l) = mask l := by
  show (chunks (mask l)).flatten = mask l
  rw [chunks_mask]; rfl
theorem runes_join (a b : List UInt8) : runes (mask a ++ mask b) = runes a + runes b := by
  unfold runes; rw [chunks_mask_app, chunks_mask]; simp
theorem mask_join (a b : List UInt8) : mask (mask a ++ mask b) = mask a ++ mask b := by
  show (chunks (mask a ++ mask b)).flatten = _
  rw [chunks_mask_app, chunks_mask]; simp [mask]
theorem runes_le (l : List UInt8) : runes l ≤ l.length := by
  suffices h : ∀ n (l : List UInt8), l.length ≤ n → runes l ≤ l.length from h l.length l (Nat.le_refl _)
  intro n
  induction n with
  | zero =>
    intro l hl
    have : l = [] := List.length_eq_zero_iff.1 (by omega)
    subst this; simp [runes_nil]
  | succ n ih =>
    intro l hl
    by_cases h : l = []
    · subst h; simp [runes_nil]
    · rw [runes_step l h]
      have hw := wd_pos l
      have hw2 := wd_le l h
      have := ih (l.drop (wd l)) (by simp; omega)
      simp at this
      omega
theorem hd_len (l : List UInt8) : (hd l).length ≤ wd l := by
  have := wd_pos l
  unfold hd; split <;> simp <;> omega
theorem mask_len (l : List UInt8) : (mask l).length ≤ l.length := by
  suffices h : ∀ n (l : List UInt8), l.length ≤ n → (mask l).length ≤ l.length from h l.length l (Nat.le_refl _)
  intro n
  induction n with
  | zero =>
    intro l hl
    have : l = [] := List.length_eq_zero_iff.1 (by omega)
    subst this; simp [mask_nil]
  | succ n ih =>
    intro l hl
    by_cases h : l = []
    · subst h; simp [mask_nil]
    · rw [mask_step l h]
      have hw := wd_pos l
      have hw2 := wd_le l h
      have hh := hd_len l
      have := ih (l.drop (wd l)) (by simp; omega)
      simp at this ⊢
      omega

theorem name_a (s : List UInt8) : nameB (97 :: mask s) = decide (runes s < 64) := by
  have e : chunks (97 :: mask s) = [97] :: chunks s := by
    have := chunks_app (c := [97]) ⟨by simp, by decide, by decide⟩ (mask s)
    rw [chunks_mask] at this
    exact this
  have em : mask (97 :: mask s) = 97 :: mask s := by
    show (chunks (97 :: mask s)).flatten = _
    rw [e]; rfl
  have er : runes (97 :: mask s) = runes s + 1 := by unfold runes; rw [e]; rfl
  have ed : dec (97 :: mask s) = (97, 1) := by
    have := dec_app (c := [97]) (mask s) (by simp) (by decide)
    exact this
  have el : lettI (metI (97 :: mask s)) = true := by
    unfold metI; rw [ed]; decide
  unfold nameB
  rw [el, em, er]
  by_cases h : runes s < 64
  · simp [h]; omega
  · simp [h]; omega
theorem name_mask {s : List UInt8} (h : nameB s = true) : mask s = s := by
  unfold nameB at h
  simp only [Bool.and_eq_true, decide_eq_true_eq] at h
  exact h.1.2

/-! ### the runs of the program's Good -/
theorem name_nolet {l : List UInt8} (h : lettI (metI l) = false) : nameB l = false := by unfold nameB; simp [h]
theorem name_many {l : List UInt8} (h : 64 < runes l) : nameB l = false := by
  unfold nameB
  have : decide (runes l ≤ 64) = false := by simp; omega
  rw [this]; simp
theorem gd_95 {l : List UInt8} (h : byt l 0 = 95) : gd l = true := by
  have : dec l = (95, 1) := by unfold dec d4; rw [h]; simp
  unfold gd metI; rw [this]; decide
theorem name_bad {l : List UInt8} {p : Nat} (hm : mask l = l.take p ++ mask (l.drop p)) (hp : p < l.length) (hg : gd (l.drop p) = false) : nameB l = false := by
  unfold nameB
  have hne : l.drop p ≠ [] := fun e => by have := congrArg List.length e; simp at this; omega
  have : decide (mask l = l) = false := by
    rw [decide_eq_false_iff_not]
    intro e
    rw [e] at hm
    have hd' : l.drop p = mask (l.drop p) := by
      have h2 : l.take p ++ l.drop p = l.take p ++ mask (l.drop p) := by rw [List.take_append_drop]; exact hm
      exact List.append_cancel_left h2
    rw [mask_step _ hne] at hd'
    unfold hd at hd'
    rw [hg] at hd'
    have h95 : byt (l.drop p) 0 = 95 := by rw [hd']; rfl
    rw [gd_95 h95] at hg
    cases hg
  rw [this]; simp
theorem mask_go {l : List UInt8} {p : Nat} (hm : mask l = l.take p ++ mask (l.drop p)) (hp : p < l.length) (hg : gd (l.drop p) = true) :
    mask l = l.take (p + wd (l.drop p)) ++ mask (l.drop (p + wd (l.drop p))) := by
  have hne : l.drop p ≠ [] := fun e => by have := congrArg List.length e; simp at this; omega
  rw [hm, mask_step _ hne]
  unfold hd
  rw [if_pos hg, List.drop_drop, List.take_add, List.append_assoc]

/-! ### the model's own reading of runes -/
theorem get_byt (s : ByteArray) (i k : Nat) : (s.get! (i + k)).toNat = byt (s.data.toList.drop i) k := by
  rw [byt_drop]
  show (s.data[i + k]!).toNat = _
  unfold byt
  rw [List.getD_eq_getElem?_getD, Array.getElem?_toList, Array.getElem!_eq_getD, Array.getD_eq_getD_getElem?]
  rfl
theorem cont_byt (s : ByteArray) (i k : Nat) : (decide (i + k < s.size) && (s.get! (i + k)).toNat / 64 == 2) = decide (byt (s.data.toList.drop i) k / 64 = 2) := by
  rw [get_byt]
  by_cases h : byt (s.data.toList.drop i) k / 64 = 2
  · have hlt : k < (s.data.toList.drop i).length := byt_pos (fun e => by rw [e] at h; omega)
    rw [List.length_drop, Array.length_toList] at hlt
    have : i + k < s.size := by show i + k < s.data.size; omega
    simp [h, this]
  · simp [h]
theorem decode_eq (s : ByteArray) (i : Nat) : Utf8.decode s i = if (dec (s.data.toList.drop i)).2 = 0 then (65533, 1) else dec (s.data.toList.drop i) := by
  unfold Utf8.decode
  simp only [cont_byt]
  simp only [get_byt]
  unfold dec
  generalize byt (s.data.toList.drop i) 0 = a
  generalize byt (s.data.toList.drop i) 1 = b
  generalize byt (s.data.toList.drop i) 2 = c
  generalize byt (s.data.toList.drop i) 3 = d
  unfold d4 Utf8.valid Utf8.runeError
  by_cases h1 : a < 128
  · simp [h1]
  by_cases h2 : a / 32 = 6
  · have h3 : ¬ a / 16 = 14 := by omega
    have h4 : ¬ a / 8 = 30 := by omega
    by_cases hb : b / 64 = 2
    · by_cases hv : 128 ≤ (a % 32) * 64 + b % 64
      · simp [h1, h2, hb, hv]
      · simp [h1, h2, hb, hv]
    · simp [h1, h2, hb]
  by_cases h3 : a / 16 = 14
  · have h4 : ¬ a / 8 = 30 := by omega
    by_cases hb : b / 64 = 2
    · by_cases hc : c / 64 = 2
      · simp only [h1, h2, h3, hb, hc, if_false, beq_iff_eq, Bool.and_eq_true, decide_eq_true_eq, decide_true, and_self, if_true, true_and, false_and, Bool.or_eq_true, ge_iff_le]
        by_cases hv : 2048 ≤ (a % 16) * 4096 + (b % 64) * 64 + c % 64 ∧ ¬ (55296 ≤ (a % 16) * 4096 + (b % 64) * 64 + c % 64 ∧ (a % 16) * 4096 + (b % 64) * 64 + c % 64 ≤ 57343)
        · rw [if_pos (by omega), if_pos hv]; simp
        · rw [if_neg (by omega), if_neg hv]; simp
      · simp [h1, h2, h3, hb, hc]
    · simp [h1, h2, h3, hb]
  by_cases h4 : a / 8 = 30
  · by_cases hb : b / 64 = 2
    · by_cases hc : c / 64 = 2
      · by_cases hd : d / 64 = 2
        · simp only [h1, h2, h3, h4, hb, hc, hd, if_false, beq_iff_eq, Bool.and_eq_true, decide_eq_true_eq, decide_true, and_self, if_true, true_and, false_and, Bool.or_eq_true, ge_iff_le]
          by_cases hv : 65536 ≤ (a % 8) * 262144 + (b % 64) * 4096 + (c % 64) * 64 + d % 64 ∧ (a % 8) * 262144 + (b % 64) * 4096 + (c % 64) * 64 + d % 64 ≤ 1114111
          · rw [if_pos (by omega), if_pos hv]; simp
          · rw [if_neg (by omega), if_neg hv]; simp
        · simp [h1, h2, h3, h4, hb, hc, hd]
      · simp [h1, h2, h3, h4, hb, hc]
    · simp [h1, h2, h3, h4, hb]
  simp [h1, h2, h3, h4]
theorem decode_wd (s : ByteArray) (i : Nat) : (Utf8.decode s i).2 = wd (s.data.toList.drop i) := by
  rw [decode_eq]; unfold wd; split <;> rfl

theorem pre_iff (l : List UInt8) : Lib.hasPrefix l [239, 191, 189] = true ↔ byt l 0 = 239 ∧ byt l 1 = 191 ∧ byt l 2 = 189 := by
  unfold Lib.hasPrefix
  have hu : ∀ (x : UInt8) (n : Nat), n < 256 → (UInt8.ofNat n == x) = decide (x.toNat = n) := by
    intro x n hn
    rw [Bool.eq_iff_iff]
    simp only [beq_iff_eq, decide_eq_true_eq]
    exact ⟨fun e => by rw [← e]; simp; omega, fun e => by rw [← e]; simp⟩
  match l with
  | [] => simp [byt]
  | [a] => simp [byt, List.isPrefixOf]
  | [a, b] => simp [byt, List.isPrefixOf]
  | a :: b :: c :: t =>
    have ha := hu a 239 (by omega)
    have hb := hu b 191 (by omega)
    have hc := hu c 189 (by omega)
    simp only [List.isPrefixOf, byt, List.getD_cons_zero, List.getD_cons_succ, Bool.and_true, Bool.and_eq_true]
    rw [show ((239 : UInt8) == a) = decide (a.toNat = 239) from ha, show ((191 : UInt8) == b) = decide (b.toNat = 191) from hb, show ((189 : UInt8) == c) = decide (c.toNat = 189) from hc]
    simp
/-- the program's 'met' -/
theorem met_bad {l : List UInt8} (h : (dec l).2 = 0) : Lib.hasPrefix l [239, 191, 189] = false := by
  rw [← Bool.not_eq_true]
  intro e
  obtain ⟨h0, h1, h2⟩ := (pre_iff l).1 e
  unfold dec d4 at h
  rw [h0, h1, h2] at h
  simp at h
theorem met_good {l : List UInt8} (h : (dec l).1 = 65533) : Lib.hasPrefix l [239, 191, 189] = true := by
  rw [pre_iff]
  have b0 := byt_lt l 0
  unfold dec at h
  rcases d4_cases (byt l 0) (byt l 1) (byt l 2) (byt l 3) with ⟨p, e⟩ | ⟨p, q, r, e⟩ | ⟨p, q, r, s, t, e⟩ | ⟨p, q, r, s, t, u, e⟩ | ⟨p, e⟩ <;> rw [e] at h <;> simp only at h <;> omega

theorem u8_of {x : UInt8} {n : Int} (h : n = (x.toNat : Int)) : n.toNat.toUInt8 = x := by
  subst h
  simp
theorem len3 {l : List UInt8} (h : 3 ≤ l.length) : ∃ a b c t, l = a :: b :: c :: t := by
  rcases l with _ | ⟨a, _ | ⟨b, _ | ⟨c, t⟩⟩⟩
  · simp at h
  · simp at h
  · simp at h
  · exact ⟨a, b, c, t, rfl⟩
theorem len4 {l : List UInt8} (h : 4 ≤ l.length) : ∃ a b c d t, l = a :: b :: c :: d :: t := by
  rcases l with _ | ⟨a, _ | ⟨b, _ | ⟨c, _ | ⟨d, t⟩⟩⟩⟩
  · simp at h
  · simp at h
  · simp at h
  · simp at h
  · exact ⟨a, b, c, d, t, rfl⟩
theorem enc_dec {l : List UInt8} (hl : l ≠ []) (h : (dec l).2 ≠ 0) : Lib.encodeRune (dec l).1 = l.take (dec l).2 := by
  have hle := dec_le l hl
  unfold dec at h hle ⊢
  unfold Lib.encodeRune
  rcases d4_cases (byt l 0) (byt l 1) (byt l 2) (byt l 3) with ⟨p, e⟩ | ⟨p, q, r, e⟩ | ⟨p, q, r, s, t, e⟩ | ⟨p, q, r, s, t, u, e⟩ | ⟨p, e⟩
  · rw [e] at hle ⊢
    match l, hle with
    | a :: t, _ =>
      simp only [byt, List.getD_cons_zero] at p ⊢
      rw [Lib.encodeRuneZ_one (by omega) (by omega)]
      simp
  · rw [e] at hle ⊢
    match l, hle with
    | a :: b :: t, _ =>
      have ha := a.toNat_lt
      have hb := b.toNat_lt
      simp only [byt, List.getD_cons_zero, List.getD_cons_succ] at p q r ⊢
      rw [Lib.encodeRuneZ_two (by omega) (by omega)]
      simp only [List.map_cons, List.map_nil, List.take_succ_cons, List.take_zero]
      rw [u8_of (x := a) (by omega), u8_of (x := b) (by omega)]
  · rw [e] at hle ⊢
    obtain ⟨a, b, c, t', rfl⟩ := len3 hle
    have ha := a.toNat_lt
    have hb := b.toNat_lt
    have hc := c.toNat_lt
    simp only [byt, List.getD_cons_zero, List.getD_cons_succ] at p q r s t ⊢
    rw [Lib.encodeRuneZ_three (by omega)]
    simp only [List.map_cons, List.map_nil, List.take_succ_cons, List.take_zero]
    rw [u8_of (x := a) (by omega), u8_of (x := b) (by omega), u8_of (x := c) (by omega)]
  · rw [e] at hle ⊢
    obtain ⟨a, b, c, d, t', rfl⟩ := len4 hle
    have ha := a.toNat_lt
    have hb := b.toNat_lt
    have hc := c.toNat_lt
    have hd := d.toNat_lt
    simp only [byt, List.getD_cons_zero, List.getD_cons_succ] at p q r s t u ⊢
    rw [Lib.encodeRuneZ_four (by omega) (by omega)]
    simp only [List.map_cons, List.map_nil, List.take_succ_cons, List.take_zero]
    rw [u8_of (x := a) (by omega), u8_of (x := b) (by omega), u8_of (x := c) (by omega), u8_of (x := d) (by omega)]
  · rw [e] at h; exact absurd rfl h

end Go.Proofs.YtllpjfbcjcnpcaaDoor
