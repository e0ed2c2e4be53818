/-
  Lines of commands and replies: words, numbers, what is right, what a line is read as. No program in this text.
-/
import Derived.Test.YtllpjfbcjcnpcaaDoorDefMath
import Derived.Lib.AtoiTie
import Derived.Lib.CutLaws
namespace Go.Proofs.YtllpjfbcjcnpcaaDoor.Wi
open Go.Lib (decDigits nDigits)
open Go.Proofs.YtllpjfbcjcnpcaaDoor.Df

/-! ### Words -/
def fst (l : List UInt8) : List UInt8 := (Lib.cut l [32]).1
def rst (l : List UInt8) : List UInt8 := (Lib.cut l [32]).2.1
theorem idx_none32 {s : List UInt8} (h : (32 : UInt8) ∉ s) : Lib.index s [32] = -1 := by
  induction s with
  | nil => rfl
  | cons c s ih =>
    simp only [List.mem_cons, not_or] at h
    have e : ([32] : List UInt8).isPrefixOf (c :: s) = false := by simp [List.isPrefixOf, h.1]
    rw [Lib.index, e, ih h.2]
    rfl
theorem idx_hit32 : ∀ (a b : List UInt8), (32 : UInt8) ∉ a → Lib.index (a ++ 32 :: b) [32] = (a.length : Int) := by
  intro a
  induction a with
  | nil => intro b _; rw [List.nil_append, Lib.index]; simp [List.isPrefixOf]
  | cons c a ih =>
    intro b h
    simp only [List.mem_cons, not_or] at h
    have e : ([32] : List UInt8).isPrefixOf (c :: (a ++ 32 :: b)) = false := by simp [List.isPrefixOf, h.1]
    rw [List.cons_append, Lib.index, e, ih b h.2]
    simp
theorem fst_app {a : List UInt8} (h : (32 : UInt8) ∉ a) (b : List UInt8) : fst (a ++ 32 :: b) = a := by
  unfold fst Lib.cut
  rw [idx_hit32 a b h, if_pos (by omega)]
  simp
theorem rst_app {a : List UInt8} (h : (32 : UInt8) ∉ a) (b : List UInt8) : rst (a ++ 32 :: b) = b := by
  unfold rst Lib.cut
  rw [idx_hit32 a b h, if_pos (by omega)]
  simp
theorem fst_end {a : List UInt8} (h : (32 : UInt8) ∉ a) : fst a = a := by
  unfold fst Lib.cut
  rw [idx_none32 h, if_neg (by omega)]
theorem fst_len (l : List UInt8) : (fst l).length ≤ l.length := by
  unfold fst Lib.cut
  split
  · simp only [List.length_take]; omega
  · exact Nat.le_refl _
theorem rst_len (l : List UInt8) : (rst l).length ≤ l.length := by
  unfold rst Lib.cut
  split
  · simp only [List.length_drop]; omega
  · simp

/-! ### Numbers -/
def Fit (n : Int) : Prop := 0 ≤ n ∧ n ≤ 999999999999999999
instance (n : Int) : Decidable (Fit n) := inferInstanceAs (Decidable (_ ∧ _))
def fitB (n : Int) : Bool := decide (Fit n)
def dg (n : Int) : List UInt8 := decDigits n.toNat
theorem digits_le19 : ∀ (k u : Nat), u < 10 ^ (k + 1) → nDigits u ≤ k + 1
  | 0, u, h => by rw [Go.Lib.nDigits_small (by simpa using h)]; exact Nat.le_refl _
  | k + 1, u, h => by
    by_cases h9 : u < 10
    · rw [Go.Lib.nDigits_small h9]; omega
    · rw [Go.Lib.nDigits_big h9]
      have := digits_le19 k (u / 10) (by rw [Nat.pow_succ] at h; omega)
      omega
theorem dec18 {m : Nat} (h : m ≤ 999999999999999999) : (decDigits m).length ≤ 18 := by
  rw [Go.Lib.decDigits_length]
  exact digits_le19 17 m (by omega)
theorem decFrom_app : ∀ (a b : List UInt8) (acc : Nat), Lib.decFrom acc (a ++ b) = (Lib.decFrom acc a).bind fun n => Lib.decFrom n b
  | [], b, acc => rfl
  | c :: a, b, acc => by
    simp only [List.cons_append, Lib.decFrom]
    cases Lib.digitVal c with
    | none => rfl
    | some d => exact decFrom_app a b _
theorem digit_is {d : Nat} (h : d < 10) : Lib.digitVal (UInt8.ofNat (48 + d)) = some d := by
  unfold Lib.digitVal
  rw [dig_nat h, if_pos (by omega)]
  congr 1
  omega
theorem decFrom_dec (n : Nat) : Lib.decFrom 0 (decDigits n) = some n := by
  induction n using Nat.strongRecOn with
  | ind n ih =>
    by_cases h : n < 10
    · rw [Go.Lib.decDigits_one h]
      unfold Lib.decFrom
      rw [digit_is h]
      simp [Lib.decFrom]
    · rw [dec_big h, decFrom_app, ih (n / 10) (by omega)]
      simp only [Option.bind_some]
      unfold Lib.decFrom
      rw [digit_is (by omega)]
      simp only [Lib.decFrom]
      congr 1
      omega
theorem atoi_dec {m : Nat} (h : m ≤ 999999999999999999) : Lib.atoiAll (decDigits m) = .ok (m : Int) := by
  rw [Lib.atoiAll_short _ (dec18 h)]
  have e : Lib.atoi (decDigits m) = some (m : Int) := by
    cases hd : decDigits m with
    | nil => exact absurd hd (dec_ne m)
    | cons b r =>
      have hb := dec_dig m b (by rw [hd]; simp)
      have h45 : (b == 45) = false := beq_eq_false_iff_ne.2 fun e => by rw [e] at hb; exact absurd hb.1 (by decide)
      have h43 : (b == 43) = false := beq_eq_false_iff_ne.2 fun e => by rw [e] at hb; exact absurd hb.1 (by decide)
      show (if (b == 45) = true then (Lib.decNat r).map fun (m : Nat) => -(m : Int) else if (b == 43) = true then (Lib.decNat r).map fun (m : Nat) => (m : Int) else (Lib.decNat (b :: r)).map fun (m : Nat) => (m : Int)) = _
      rw [h45, h43]
      simp only [Bool.false_eq_true, if_false]
      unfold Lib.decNat
      simp only [List.isEmpty_cons, Bool.false_eq_true, if_false]
      rw [← hd, decFrom_dec]
      rfl
  rw [e]
  rfl
/-- what a word's number is, where it is one -/
def NumW (t : List UInt8) (n : Int) : Prop := ∀ m : Nat, t = decDigits m → m ≤ 999999999999999999 → n = m
theorem num_ok {t : List UInt8} {v : Int} (h : Lib.atoiAll t = .ok v) : NumW t v := fun m e hm => by
  rw [e, atoi_dec hm] at h
  injection h with h
  exact h.symm
theorem num_else {t : List UInt8} (h : ∀ v, Lib.atoiAll t ≠ .ok v) (n : Int) : NumW t n := fun m e hm => absurd (by rw [e]; exact atoi_dec hm) (h m)
theorem num_of {t : List UInt8} {n k : Int} (h : NumW t n) (hk : Fit k) (e : t = dg k) : n = k := by
  have := h k.toNat e (by have := hk.2; omega)
  rw [this]
  have := hk.1
  omega
theorem dg_inj {a b : Int} (ha : 0 ≤ a) (hb : 0 ≤ b) (h : dg a = dg b) : a = b := by
  have := dec_inj h
  omega

/-! ### Commands and replies -/
structure Cm where
  sg : Int
  st : Int
  un : Bool
  tr : Int
  pt : ByteArray
  ky : ByteArray
structure Rp where
  sg : Int
  st : Int
  un : Bool
  tr : Int
  gd : Bool
/-- a key of a saga and a way -/
def KeyFor (k : List UInt8) (sg : Int) (un : Bool) : Prop := ∃ (m : Nat) (x : List UInt8), sg = (m : Int) ∧ KeyOf k m x un
def Good (c : Cm) : Prop := Fit c.sg ∧ Fit c.st ∧ Fit c.tr ∧ nameB c.pt.data.toList = true ∧ KeyFor c.ky.data.toList c.sg c.un
noncomputable def goodB (c : Cm) : Bool := @decide (Good c) (Classical.propDecidable _)
def GoodR (r : Rp) : Prop := Fit r.sg ∧ Fit r.st ∧ Fit r.tr
instance (r : Rp) : Decidable (GoodR r) := inferInstanceAs (Decidable (_ ∧ _))
def goodR (r : Rp) : Bool := decide (GoodR r)
theorem good_yes {c : Cm} (h : goodB c = true) : Good c := @of_decide_eq_true _ (Classical.propDecidable _) h
theorem good_no {c : Cm} (h : goodB c = false) : ¬ Good c := @of_decide_eq_false _ (Classical.propDecidable _) h
theorem good_is {c : Cm} (h : Good c) : goodB c = true := @decide_eq_true _ (Classical.propDecidable _) h
theorem good_not {c : Cm} (h : ¬ Good c) : goodB c = false := @decide_eq_false _ (Classical.propDecidable _) h
theorem good_key {c : Cm} {n : Int} {x : ByteArray} {u ok : Bool} (h : CutIs c.ky.data.toList n x u ok) (hs : Fit c.sg) (ht : Fit c.st) (hr : Fit c.tr) (hn : nameB c.pt.data.toList = true) :
    goodB c = (ok && (n == c.sg) && (u == c.un)) := by
  rcases h with ⟨rfl, m, rfl, hk⟩ | ⟨rfl, rfl, rfl, rfl, hk⟩
  · by_cases hg : (m : Int) = c.sg ∧ u = c.un
    · obtain ⟨h1, h2⟩ := hg
      rw [good_is ⟨hs, ht, hr, hn, m, _, h1.symm, by rw [← h2]; exact hk⟩]
      simp [h1, h2]
    · rw [good_not fun ⟨_, _, _, _, k, y, hy, hk'⟩ => hg (by obtain ⟨rfl, _, rfl⟩ := key_uniq hk hk'; exact ⟨hy.symm, rfl⟩)]
      symm
      rw [Bool.eq_false_iff]
      intro e
      simp only [Bool.true_and, Bool.and_eq_true, beq_iff_eq] at e
      exact hg e
  · rw [good_not fun ⟨_, _, _, _, k, y, hy, hk'⟩ => hk ⟨_, _, _, hk'⟩]
    rfl
theorem good_bad {c : Cm} (h : ¬ (Fit c.sg ∧ Fit c.st ∧ Fit c.tr ∧ nameB c.pt.data.toList = true)) : goodB c = false := good_not fun ⟨a, b, c, d, _⟩ => h ⟨a, b, c, d⟩

/-! ### Lines -/
def lineL (c : Cm) : List UInt8 := [115, 101, 110, 100] ++ 32 :: (dg c.sg ++ 32 :: (dg c.st ++ 32 :: (way c.un ++ 32 :: (dg c.tr ++ 32 :: (c.pt.data.toList ++ 32 :: c.ky.data.toList)))))
def how : Bool → List UInt8
  | true => [103, 111, 111, 100]
  | false => [98, 97, 100]
def lineR (r : Rp) : List UInt8 := [114, 101, 112, 108, 121] ++ 32 :: (dg r.sg ++ 32 :: (dg r.st ++ 32 :: (way r.un ++ 32 :: (dg r.tr ++ 32 :: how r.gd))))
theorem dg_no (n : Int) : (32 : UInt8) ∉ dg n := fun h => by
  have := (dec_dig _ 32 h).1
  exact absurd this (by decide)
theorem way_no32 (u : Bool) : (32 : UInt8) ∉ way u := by cases u <;> decide
theorem how_no (u : Bool) : (32 : UInt8) ∉ how u := by cases u <;> decide
theorem how_inj {u v : Bool} (h : how u = how v) : u = v := by cases u <;> cases v <;> first | rfl | (simp [how] at h)
theorem Gc_no32 {c : List UInt8} (h : Gc c) : (32 : UInt8) ∉ c := by
  intro hm
  obtain ⟨j, hj, e⟩ := List.getElem_of_mem hm
  have hb : byt c j = 32 := by rw [byt_get hj, e]; rfl
  obtain ⟨_, hg, hd⟩ := h
  have hv := gd_valid hg
  unfold gd metI at hg
  rw [if_neg hv] at hg
  unfold dec at hd hg
  rcases d4_cases (byt c 0) (byt c 1) (byt c 2) (byt c 3) with ⟨p, e⟩ | ⟨p, q, r, e⟩ | ⟨p, q, r, s, t, e⟩ | ⟨p, q, r, s, t, u, e⟩ | ⟨p, e⟩ <;> rw [e] at hd hg <;> simp only at hd hg
  · obtain rfl : j = 0 := by omega
    rw [hb] at hg
    exact absurd hg (by decide)
  · rcases (by omega : j = 0 ∨ j = 1) with rfl | rfl <;> omega
  · rcases (by omega : j = 0 ∨ j = 1 ∨ j = 2) with rfl | rfl | rfl <;> omega
  · rcases (by omega : j = 0 ∨ j = 1 ∨ j = 2 ∨ j = 3) with rfl | rfl | rfl | rfl <;> omega
  · have h0 : c.length ≠ 0 := by omega
    omega
theorem name_no32 {x : List UInt8} (h : nameB x = true) : (32 : UInt8) ∉ x := by
  intro hm
  have e := name_mask h
  rw [← e] at hm
  obtain ⟨c, hc, hx⟩ := List.mem_flatten.1 (show (32 : UInt8) ∈ (chunks x).flatten from hm)
  exact Gc_no32 (chunks_good x c hc) hx
theorem key_no32 {k : List UInt8} {sg : Int} {u : Bool} (h : KeyFor k sg u) : (32 : UInt8) ∉ k := by
  obtain ⟨m, x, _, ds, ⟨rfl, _⟩, hx, rfl⟩ := h
  intro hm
  rcases List.mem_append.1 hm with hm | hm
  · exact dg_no (m : Int) hm
  · rcases List.mem_cons.1 hm with hm | hm
    · exact absurd hm (by decide)
    · rcases List.mem_append.1 hm with hm | hm
      · exact name_no32 hx hm
      · rcases List.mem_cons.1 hm with hm | hm
        · exact absurd hm (by decide)
        · exact way_no32 u hm
/-- what the words of a line are read as -/
structure ReadC (l : List UInt8) (d : Cm) : Prop where
  sg : NumW (fst (rst l)) d.sg
  st : NumW (fst (rst (rst l))) d.st
  un : d.un = decide (fst (rst (rst (rst l))) = way true)
  tr : NumW (fst (rst (rst (rst (rst l))))) d.tr
  pt : d.pt.data.toList = fst (rst (rst (rst (rst (rst l)))))
  ky : d.ky.data.toList = fst (rst (rst (rst (rst (rst (rst l))))))
structure ReadR (l : List UInt8) (d : Rp) : Prop where
  sg : NumW (fst (rst l)) d.sg
  st : NumW (fst (rst (rst l))) d.st
  un : d.un = decide (fst (rst (rst (rst l))) = way true)
  tr : NumW (fst (rst (rst (rst (rst l))))) d.tr
  gd : d.gd = decide (fst (rst (rst (rst (rst (rst l))))) = how true)
theorem send_no : (32 : UInt8) ∉ ([115, 101, 110, 100] : List UInt8) := by decide
theorem reply_no : (32 : UInt8) ∉ ([114, 101, 112, 108, 121] : List UInt8) := by decide
theorem way_dec (u : Bool) : decide (way u = way true) = u := by cases u <;> decide
theorem how_dec (u : Bool) : decide (how u = how true) = u := by cases u <;> decide
theorem read_line {c d : Cm} (hc : Good c) (h : ReadC (lineL c) d) : d = c := by
  obtain ⟨h1, h2, h3, h4, h5, h6⟩ := h
  have n0 := send_no
  have n5 := name_no32 hc.2.2.2.1
  have n6 := key_no32 hc.2.2.2.2
  unfold lineL at h1 h2 h3 h4 h5 h6
  rw [rst_app n0, fst_app (dg_no _)] at h1
  rw [rst_app n0, rst_app (dg_no _), fst_app (dg_no _)] at h2
  rw [rst_app n0, rst_app (dg_no _), rst_app (dg_no _), fst_app (way_no32 _), way_dec] at h3
  rw [rst_app n0, rst_app (dg_no _), rst_app (dg_no _), rst_app (way_no32 _), fst_app (dg_no _)] at h4
  rw [rst_app n0, rst_app (dg_no _), rst_app (dg_no _), rst_app (way_no32 _), rst_app (dg_no _), fst_app n5] at h5
  rw [rst_app n0, rst_app (dg_no _), rst_app (dg_no _), rst_app (way_no32 _), rst_app (dg_no _), rst_app n5, fst_end n6] at h6
  obtain ⟨a, b, e, f, g, k⟩ := d
  obtain ⟨a', b', e', f', g', k'⟩ := c
  simp only at h1 h2 h3 h4 h5 h6
  obtain rfl := num_of h1 hc.1 rfl
  obtain rfl := num_of h2 hc.2.1 rfl
  obtain rfl := num_of h4 hc.2.2.1 rfl
  obtain rfl := bytes_inj h5
  obtain rfl := bytes_inj h6
  rw [h3]
theorem read_lineR {c d : Rp} (hc : GoodR c) (h : ReadR (lineR c) d) : d = c := by
  obtain ⟨h1, h2, h3, h4, h5⟩ := h
  have n0 := reply_no
  unfold lineR at h1 h2 h3 h4 h5
  rw [rst_app n0, fst_app (dg_no _)] at h1
  rw [rst_app n0, rst_app (dg_no _), fst_app (dg_no _)] at h2
  rw [rst_app n0, rst_app (dg_no _), rst_app (dg_no _), fst_app (way_no32 _), way_dec] at h3
  rw [rst_app n0, rst_app (dg_no _), rst_app (dg_no _), rst_app (way_no32 _), fst_app (dg_no _)] at h4
  rw [rst_app n0, rst_app (dg_no _), rst_app (dg_no _), rst_app (way_no32 _), rst_app (dg_no _), fst_end (how_no _), how_dec] at h5
  obtain ⟨a, b, e, f, g⟩ := d
  obtain ⟨a', b', e', f', g'⟩ := c
  simp only at h1 h2 h3 h4 h5
  obtain rfl := num_of h1 hc.1 rfl
  obtain rfl := num_of h2 hc.2.1 rfl
  obtain rfl := num_of h4 hc.2.2 rfl
  rw [h3, h5]
/-- a right command has a reading of its own line: itself -/
theorem read_self {c : Cm} (hc : Good c) : ReadC (lineL c) c := by
  have n0 := send_no
  have n5 := name_no32 hc.2.2.2.1
  have n6 := key_no32 hc.2.2.2.2
  have hn : ∀ {k : Int}, Fit k → NumW (dg k) k := fun {k} hk m e hm => by
    have e : decDigits k.toNat = decDigits m := e
    have := dec_inj e
    have := hk.1
    omega
  unfold lineL
  refine ⟨?_, ?_, ?_, ?_, ?_, ?_⟩
  · rw [rst_app n0, fst_app (dg_no _)]; exact hn hc.1
  · rw [rst_app n0, rst_app (dg_no _), fst_app (dg_no _)]; exact hn hc.2.1
  · rw [rst_app n0, rst_app (dg_no _), rst_app (dg_no _), fst_app (way_no32 _), way_dec]
  · rw [rst_app n0, rst_app (dg_no _), rst_app (dg_no _), rst_app (way_no32 _), fst_app (dg_no _)]; exact hn hc.2.2.1
  · rw [rst_app n0, rst_app (dg_no _), rst_app (dg_no _), rst_app (way_no32 _), rst_app (dg_no _), fst_app n5]
  · rw [rst_app n0, rst_app (dg_no _), rst_app (dg_no _), rst_app (way_no32 _), rst_app (dg_no _), rst_app n5, fst_end n6]
theorem read_selfR {c : Rp} (hc : GoodR c) : ReadR (lineR c) c := by
  have n0 := reply_no
  have hn : ∀ {k : Int}, Fit k → NumW (dg k) k := fun {k} hk m e hm => by
    have e : decDigits k.toNat = decDigits m := e
    have := dec_inj e
    have := hk.1
    omega
  unfold lineR
  refine ⟨?_, ?_, ?_, ?_, ?_⟩
  · rw [rst_app n0, fst_app (dg_no _)]; exact hn hc.1
  · rw [rst_app n0, rst_app (dg_no _), fst_app (dg_no _)]; exact hn hc.2.1
  · rw [rst_app n0, rst_app (dg_no _), rst_app (dg_no _), fst_app (way_no32 _), way_dec]
  · rw [rst_app n0, rst_app (dg_no _), rst_app (dg_no _), rst_app (way_no32 _), fst_app (dg_no _)]; exact hn hc.2.2
  · rw [rst_app n0, rst_app (dg_no _), rst_app (dg_no _), rst_app (way_no32 _), rst_app (dg_no _), fst_end (how_no _), how_dec]
theorem line_inj {c d : Cm} (hc : Good c) (hd : Good d) (h : lineL c = lineL d) : c = d := read_line hd (h ▸ read_self hc)
theorem line_injR {c d : Rp} (hc : GoodR c) (hd : GoodR d) (h : lineR c = lineR d) : c = d := read_lineR hd (h ▸ read_selfR hc)
theorem line_not {c : Cm} {r : Rp} : lineL c ≠ lineR r := fun e => by
  have h1 : fst (lineL c) = [115, 101, 110, 100] := fst_app send_no _
  have h2 : fst (lineR r) = [114, 101, 112, 108, 121] := fst_app reply_no _
  rw [e, h2] at h1
  exact absurd h1 (by decide)
/-- the empty answers -/
def zC : Cm := ⟨0, 0, false, 0, ⟨#[]⟩, ⟨#[]⟩⟩
def zR : Rp := ⟨0, 0, false, 0, false⟩
/-- what ReadCommand answers -/
def CmdIs (l : List UInt8) (d : Cm) (ok : Bool) : Prop := (ok = true ∧ Good d ∧ lineL d = l) ∨ (ok = false ∧ d = zC ∧ ¬ ∃ c, Good c ∧ lineL c = l)
def RepIs (l : List UInt8) (d : Rp) (ok : Bool) : Prop := (ok = true ∧ GoodR d ∧ lineR d = l) ∨ (ok = false ∧ d = zR ∧ ¬ ∃ c, GoodR c ∧ lineR c = l)
theorem cmd_self {c d : Cm} {ok : Bool} (hc : Good c) (h : CmdIs (lineL c) d ok) : ok = true ∧ d = c := by
  rcases h with ⟨rfl, hd, hl⟩ | ⟨rfl, _, hn⟩
  · exact ⟨rfl, line_inj hd hc hl⟩
  · exact absurd ⟨c, hc, rfl⟩ hn
theorem rep_self {c d : Rp} {ok : Bool} (hc : GoodR c) (h : RepIs (lineR c) d ok) : ok = true ∧ d = c := by
  rcases h with ⟨rfl, hd, hl⟩ | ⟨rfl, _, hn⟩
  · exact ⟨rfl, line_injR hd hc hl⟩
  · exact absurd ⟨c, hc, rfl⟩ hn
theorem cmd_other {r : Rp} {d : Cm} {ok : Bool} (h : CmdIs (lineR r) d ok) : ok = false := by
  rcases h with ⟨_, _, hl⟩ | ⟨h, _, _⟩
  · exact absurd hl line_not
  · exact h
theorem rep_other {c : Cm} {d : Rp} {ok : Bool} (h : RepIs (lineL c) d ok) : ok = false := by
  rcases h with ⟨_, _, hl⟩ | ⟨h, _, _⟩
  · exact absurd hl.symm line_not
  · exact h
theorem cmd_none {l : List UInt8} {d : Cm} (h : ReadC l d) (hb : ¬ (Good d ∧ lineL d = l)) : ¬ ∃ c, Good c ∧ lineL c = l := fun ⟨c, hc, hl⟩ => by
  subst hl
  obtain rfl := read_line hc h
  exact hb ⟨hc, rfl⟩
theorem rep_none {l : List UInt8} {d : Rp} (h : ReadR l d) (hb : ¬ (GoodR d ∧ lineR d = l)) : ¬ ∃ c, GoodR c ∧ lineR c = l := fun ⟨c, hc, hl⟩ => by
  subst hl
  obtain rfl := read_lineR hc h
  exact hb ⟨hc, rfl⟩
end Go.Proofs.YtllpjfbcjcnpcaaDoor.Wi
