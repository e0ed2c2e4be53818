/-
  The mathematics of the sum (CRC-32): its shifts, that they are linear, the array's way and the bits' way of it, pieces, what is sealed, and that a turned byte turns it.
  Conditions: none.
-/
namespace Go.Proofs.YtohnhboeipckjaaGreatDoor

/-- the polynomial, its bits turned about -/
def poly : Nat := 3988292384
/-- all bits -/
def ones : Nat := 4294967295
/-- one shift -/
def sh (n : Nat) : Nat := if n % 2 = 1 then n / 2 ^^^ poly else n / 2
/-- so many shifts -/
def shs : Nat → Nat → Nat
  | 0, n => n
  | k + 1, n => shs k (sh n)

theorem shs_succ (k n : Nat) : shs (k + 1) n = shs k (sh n) := rfl
theorem shs_add : ∀ (j k n : Nat), shs (j + k) n = shs k (shs j n)
  | 0, k, n => by rw [Nat.zero_add]; rfl
  | j + 1, k, n => by rw [Nat.succ_add, shs_succ, shs_add j k, shs_succ]
theorem shs_last (k n : Nat) : shs (k + 1) n = sh (shs k n) := by rw [shs_add k 1]; rfl

theorem xor_half (a b : Nat) : (a ^^^ b) / 2 = a / 2 ^^^ b / 2 := by
  apply Nat.eq_of_testBit_eq
  intro i
  simp [Nat.testBit_div_two, Nat.testBit_xor]
theorem xor_par (a b : Nat) : (a ^^^ b) % 2 = (a % 2 + b % 2) % 2 := by
  have h := @Nat.xor_mod_two_eq_one a b
  omega
theorem xor_lt {a b : Nat} (ha : a < 4294967296) (hb : b < 4294967296) : a ^^^ b < 4294967296 := Nat.xor_lt_two_pow (n := 32) ha hb
theorem xor_lt8 {a b : Nat} (ha : a < 256) (hb : b < 256) : a ^^^ b < 256 := Nat.xor_lt_two_pow (n := 8) ha hb
theorem xor_xor_self (a b : Nat) : (a ^^^ b) ^^^ b = a := by rw [Nat.xor_assoc, Nat.xor_self, Nat.xor_zero]

theorem sh_xor (a b : Nat) : sh (a ^^^ b) = sh a ^^^ sh b := by
  unfold sh
  rw [xor_half, xor_par]
  rcases Nat.mod_two_eq_zero_or_one a with ha | ha <;> rcases Nat.mod_two_eq_zero_or_one b with hb | hb <;> simp [ha, hb]
  · rw [Nat.xor_assoc]
  · rw [Nat.xor_assoc, Nat.xor_assoc, Nat.xor_comm poly]
  · rw [Nat.xor_assoc, Nat.xor_comm poly, xor_xor_self]
theorem shs_xor : ∀ (k a b : Nat), shs k (a ^^^ b) = shs k a ^^^ shs k b
  | 0, _, _ => rfl
  | k + 1, a, b => by rw [shs_succ, sh_xor, shs_xor k]; rfl
theorem sh_double (k : Nat) : sh (2 * k) = k := by
  unfold sh
  rw [if_neg (by omega)]; omega
theorem shs_8 (k : Nat) : shs 8 (256 * k) = k := by
  show sh (sh (sh (sh (sh (sh (sh (sh (256 * k)))))))) = k
  rw [show 256 * k = 2 * (128 * k) by omega, sh_double, show 128 * k = 2 * (64 * k) by omega, sh_double, show 64 * k = 2 * (32 * k) by omega, sh_double, show 32 * k = 2 * (16 * k) by omega, sh_double,
    show 16 * k = 2 * (8 * k) by omega, sh_double, show 8 * k = 2 * (4 * k) by omega, sh_double, show 4 * k = 2 * (2 * k) by omega, sh_double, sh_double]
theorem sh_lt {n : Nat} (h : n < 4294967296) : sh n < 4294967296 := by
  unfold sh
  split
  · exact xor_lt (by omega) (by unfold poly; omega)
  · omega
theorem shs_lt : ∀ (k : Nat) {n : Nat}, n < 4294967296 → shs k n < 4294967296
  | 0, _, h => h
  | k + 1, _, h => shs_lt k (sh_lt h)

theorem split_8 (s : Nat) : (256 * (s / 256)) ^^^ (s % 256) = s := by
  have h1 : 256 * (s / 256) = (s / 256) <<< 8 := by rw [Nat.shiftLeft_eq]; omega
  apply Nat.eq_of_testBit_eq
  intro i
  rw [Nat.testBit_xor, h1, Nat.testBit_shiftLeft, show s / 256 = s / 2 ^ 8 from rfl, Nat.testBit_div_two_pow, show s % 256 = s % 2 ^ 8 from rfl, Nat.testBit_mod_two_pow]
  by_cases hi : i < 8
  · simp [hi, show ¬ 8 ≤ i by omega]
  · simp [hi, show 8 ≤ i by omega]

/-- what a byte makes of a state -/
def stp (s b : Nat) : Nat := shs 8 (s ^^^ b)
theorem stp_lt {s b : Nat} (hs : s < 4294967296) (hb : b < 256) : stp s b < 4294967296 := shs_lt 8 (xor_lt hs (by omega))
/-- the array's way -/
theorem stp_tab (s b : Nat) : s / 256 ^^^ shs 8 (s % 256 ^^^ b) = stp s b := by
  unfold stp
  conv => rhs; rw [← split_8 s, Nat.xor_assoc, shs_xor, shs_8]

/-- a state behind bytes -/
def raw (s : Nat) (l : List UInt8) : Nat := l.foldl (fun s b => stp s b.toNat) s
theorem raw_nil (s : Nat) : raw s [] = s := rfl
theorem raw_cons (s : Nat) (b : UInt8) (l : List UInt8) : raw s (b :: l) = raw (stp s b.toNat) l := rfl
theorem raw_append (s : Nat) (l m : List UInt8) : raw s (l ++ m) = raw (raw s l) m := by unfold raw; rw [List.foldl_append]
theorem raw_lt : ∀ {s : Nat} (l : List UInt8), s < 4294967296 → raw s l < 4294967296
  | _, [], h => h
  | s, b :: l, h => by rw [raw_cons]; exact raw_lt l (stp_lt h (UInt8.toNat_lt b))
theorem raw_snoc (s : Nat) (l : List UInt8) (k : Nat) (h : k < l.length) : raw s (l.take (k + 1)) = stp (raw s (l.take k)) l[k].toNat := by
  rw [List.take_succ_eq_append_getElem h, raw_append]; rfl

/-- More's answer -/
def moreN (s : Nat) (l : List UInt8) : Nat := raw (s ^^^ ones) l ^^^ ones
/-- Of's answer -/
def crc (l : List UInt8) : Nat := raw ones l ^^^ ones
theorem ones_lt : ones < 4294967296 := by unfold ones; omega
theorem moreN_lt {s : Nat} (h : s < 4294967296) (l : List UInt8) : moreN s l < 4294967296 := xor_lt (raw_lt l (xor_lt h ones_lt)) ones_lt
theorem crc_lt (l : List UInt8) : crc l < 4294967296 := xor_lt (raw_lt l ones_lt) ones_lt
theorem moreN_zero (l : List UInt8) : moreN 0 l = crc l := by unfold moreN crc; rw [Nat.zero_xor]
theorem moreN_pieces (l m : List UInt8) : moreN (crc l) m = crc (l ++ m) := by
  unfold moreN crc
  rw [xor_xor_self, raw_append]
theorem moreN_take (l : List UInt8) (k : Nat) : moreN (crc (l.take k)) (l.drop k) = crc l := by rw [moreN_pieces, List.take_append_drop]

/-- a number's four bytes, the lowest first -/
def le4 (v : Nat) : List UInt8 := [UInt8.ofNat v, UInt8.ofNat (v / 256), UInt8.ofNat (v / 65536), UInt8.ofNat (v / 16777216)]
/-- four bytes' number -/
def val4 : List UInt8 → Nat
  | [] => 0
  | b :: l => b.toNat + 256 * val4 l
theorem le4_len (v : Nat) : (le4 v).length = 4 := rfl
theorem val4_lt : ∀ (l : List UInt8), val4 l < 256 ^ l.length
  | [] => by decide
  | b :: l => by
    have h := val4_lt l
    have hb := UInt8.toNat_lt b
    show b.toNat + 256 * val4 l < 256 ^ (l.length + 1)
    rw [Nat.pow_succ]
    omega
theorem val4_le4 {v : Nat} (h : v < 4294967296) : val4 (le4 v) = v := by
  simp only [le4, val4, UInt8.toNat_ofNat']
  omega
theorem ofNat_byte (b : UInt8) (n : Nat) (h : n % 256 = b.toNat) : UInt8.ofNat n = b := by
  apply UInt8.toNat_inj.1
  rw [UInt8.toNat_ofNat']
  exact h
theorem le4_val4 {l : List UInt8} (h : l.length = 4) : le4 (val4 l) = l := by
  match l, h with
  | [a, b, c, d], _ =>
    have ha := UInt8.toNat_lt a
    have hb := UInt8.toNat_lt b
    have hc := UInt8.toNat_lt c
    have hd := UInt8.toNat_lt d
    simp only [le4, val4]
    rw [ofNat_byte a _ (by omega), ofNat_byte b _ (by omega), ofNat_byte c _ (by omega), ofNat_byte d _ (by omega)]

theorem xor_low (b u : Nat) (h : b < 256) : b + 256 * u = (256 * u) ^^^ b := by
  have h1 := split_8 (b + 256 * u)
  rw [show (b + 256 * u) / 256 = u by omega, show (b + 256 * u) % 256 = b by omega] at h1
  exact h1.symm
theorem raw_val : ∀ (l : List UInt8) (s : Nat), raw s l = shs (8 * l.length) (s ^^^ val4 l)
  | [], s => by rw [raw_nil]; simp [val4, shs]
  | b :: l, s => by
    rw [raw_cons, raw_val l]
    show _ = shs (8 * (l.length + 1)) (s ^^^ (b.toNat + 256 * val4 l))
    rw [xor_low _ _ (UInt8.toNat_lt b), show 8 * (l.length + 1) = 8 + 8 * l.length by omega, shs_add, Nat.xor_comm (256 * val4 l), ← Nat.xor_assoc, shs_xor 8, shs_8]
    rfl

theorem sh_top {n : Nat} (h : n < 4294967296) : (sh n).testBit 31 = decide (n % 2 = 1) := by
  unfold sh
  have hz : (n / 2).testBit 31 = false := Nat.testBit_lt_two_pow (by omega)
  split
  · rename_i h1
    rw [Nat.testBit_xor, hz, show poly.testBit 31 = true by decide +kernel]
    simp [h1]
  · rename_i h1
    rw [hz]
    simp [h1]
theorem sh_inj {a b : Nat} (ha : a < 4294967296) (hb : b < 4294967296) (h : sh a = sh b) : a = b := by
  have h1 := sh_top ha
  have h2 := sh_top hb
  rw [h, h2] at h1
  have hp : (a % 2 = 1) ↔ (b % 2 = 1) := by
    constructor
    · intro x; simpa [x] using h1
    · intro x; simpa [x] using h1
  unfold sh at h
  by_cases x : a % 2 = 1
  · rw [if_pos x, if_pos (hp.1 x)] at h
    have h3 := congrArg (· ^^^ poly) h
    simp only [xor_xor_self] at h3
    have := hp.1 x
    omega
  · rw [if_neg x, if_neg (fun y => x (hp.2 y))] at h
    have : ¬ b % 2 = 1 := fun y => x (hp.2 y)
    omega
theorem shs_inj : ∀ (k : Nat) {a b : Nat}, a < 4294967296 → b < 4294967296 → shs k a = shs k b → a = b
  | 0, _, _, _, _, h => h
  | k + 1, _, _, ha, hb, h => sh_inj ha hb (shs_inj k (sh_lt ha) (sh_lt hb) h)
theorem xor_left_inj' {a b c : Nat} (h : a ^^^ b = a ^^^ c) : b = c := by
  have h1 := congrArg (a ^^^ ·) h
  simpa [← Nat.xor_assoc] using h1
theorem xor_right_inj' {a b c : Nat} (h : a ^^^ c = b ^^^ c) : a = b := by
  rw [Nat.xor_comm a, Nat.xor_comm b] at h
  exact xor_left_inj' h
theorem stp_inj {s b c : Nat} (hs : s < 4294967296) (hb : b < 256) (hc : c < 256) (h : stp s b = stp s c) : b = c :=
  xor_left_inj' (shs_inj 8 (xor_lt hs (by omega)) (xor_lt hs (by omega)) h)
theorem raw_inj : ∀ (l : List UInt8) {s t : Nat}, s < 4294967296 → t < 4294967296 → raw s l = raw t l → s = t
  | [], _, _, _, _, h => h
  | b :: l, s, t, hs, ht, h => by
    have hb := UInt8.toNat_lt b
    have h1 := raw_inj l (stp_lt hs hb) (stp_lt ht hb) h
    exact xor_right_inj' (shs_inj 8 (xor_lt hs (by omega)) (xor_lt ht (by omega)) h1)

/-- is it sealed? -/
def sealB (l : List UInt8) : Bool := decide (4 ≤ l.length) && (crc (l.take (l.length - 4)) == val4 (l.drop (l.length - 4)))
/-- what is sealed of bytes -/
def sealL (l : List UInt8) : List UInt8 := l ++ le4 (crc l)
theorem sealL_len (l : List UInt8) : (sealL l).length = l.length + 4 := by unfold sealL; rw [List.length_append, le4_len]

/-- all that is sealed has one and the same sum, and nothing else has it -/
theorem seal_raw {l : List UInt8} (h : 4 ≤ l.length) : sealB l = true ↔ raw ones l = shs 32 ones := by
  have hd : (l.drop (l.length - 4)).length = 4 := by rw [List.length_drop]; omega
  have hv : val4 (l.drop (l.length - 4)) < 4294967296 := by have := val4_lt (l.drop (l.length - 4)); rw [hd] at this; exact this
  have hr : raw ones l = shs 32 (raw ones (l.take (l.length - 4)) ^^^ val4 (l.drop (l.length - 4))) := by
    conv => lhs; rw [← List.take_append_drop (l.length - 4) l, raw_append, raw_val, hd]
  have hs : raw ones (l.take (l.length - 4)) < 4294967296 := raw_lt _ ones_lt
  unfold sealB crc
  rw [hr]
  simp only [Bool.and_eq_true, decide_eq_true_eq, h, true_and, beq_iff_eq]
  constructor
  · intro e
    rw [← e, ← Nat.xor_assoc, Nat.xor_self, Nat.zero_xor]
  · intro e
    have e1 := shs_inj 32 (xor_lt hs hv) ones_lt e
    have e2 := congrArg (raw ones (l.take (l.length - 4)) ^^^ ·) e1
    simp only [← Nat.xor_assoc, Nat.xor_self, Nat.zero_xor] at e2
    exact e2.symm
theorem sealL_take (l : List UInt8) : (sealL l).take ((sealL l).length - 4) = l := by
  rw [sealL_len, Nat.add_sub_cancel]; unfold sealL; exact List.take_left
theorem sealL_drop (l : List UInt8) : (sealL l).drop ((sealL l).length - 4) = le4 (crc l) := by
  rw [sealL_len, Nat.add_sub_cancel]; unfold sealL; exact List.drop_left
theorem sealB_sealL (l : List UInt8) : sealB (sealL l) = true := by
  unfold sealB
  rw [sealL_take, sealL_drop, val4_le4 (crc_lt l), sealL_len]
  simp
/-- the sum of all that is sealed -/
theorem crc_sealL (l : List UInt8) : crc (sealL l) = 558161692 := by
  unfold crc
  rw [(seal_raw (by rw [sealL_len]; omega)).1 (sealB_sealL l)]
  decide +kernel
/-- one byte that is turned turns the sum -/
theorem raw_turned {l : List UInt8} {k : Nat} (hk : k < l.length) {c : UInt8} (hc : l[k] ≠ c) {s : Nat} (hs : s < 4294967296) : raw s (l.set k c) ≠ raw s l := by
  intro e
  have h1 : l.set k c = l.take k ++ c :: l.drop (k + 1) := by rw [List.set_eq_take_append_cons_drop, if_pos hk]
  have h2 : l = l.take k ++ l[k] :: l.drop (k + 1) := by rw [← List.drop_eq_getElem_cons hk, List.take_append_drop]
  rw [h1] at e
  conv at e => rhs; rw [h2]
  rw [raw_append, raw_append, raw_cons, raw_cons] at e
  have hr := raw_lt (l.take k) hs
  have e1 := raw_inj _ (stp_lt hr (UInt8.toNat_lt c)) (stp_lt hr (UInt8.toNat_lt _)) e
  exact hc (UInt8.toNat_inj.1 (stp_inj hr (UInt8.toNat_lt c) (UInt8.toNat_lt _) e1)).symm
theorem seal_turned (l : List UInt8) {k : Nat} (hk : k < (sealL l).length) {c : UInt8} (hc : (sealL l)[k] ≠ c) : sealB ((sealL l).set k c) = false := by
  have hl : 4 ≤ (sealL l).length := by rw [sealL_len]; omega
  cases h : sealB ((sealL l).set k c) with
  | false => rfl
  | true =>
    exfalso
    have e1 := (seal_raw (by rw [List.length_set]; exact hl)).1 h
    have e2 := (seal_raw hl).1 (sealB_sealL l)
    exact raw_turned hk hc ones_lt (e1.trans e2.symm)

/-- what is opened, by the document's words: sealed again it is the same -/
theorem sealB_ref {l : List UInt8} (h : 4 ≤ l.length) : (sealL (l.take (l.length - 4)) == l) = sealB l := by
  have hd : (l.drop (l.length - 4)).length = 4 := by rw [List.length_drop]; omega
  rw [Bool.eq_iff_iff]
  unfold sealB
  simp only [beq_iff_eq, Bool.and_eq_true, decide_eq_true_eq, h, true_and]
  constructor
  · intro e
    have e1 : l.take (l.length - 4) ++ le4 (crc (l.take (l.length - 4))) = l.take (l.length - 4) ++ l.drop (l.length - 4) := by rw [List.take_append_drop]; exact e
    rw [← List.append_cancel_left e1, val4_le4 (crc_lt _)]
  · intro e
    unfold sealL
    rw [e, le4_val4 hd, List.take_append_drop]
theorem crc_nine : crc [49, 50, 51, 52, 53, 54, 55, 56, 57] = 3421780262 := by decide +kernel
theorem crc_none : crc [] = 0 := by decide +kernel
end Go.Proofs.YtohnhboeipckjaaGreatDoor
