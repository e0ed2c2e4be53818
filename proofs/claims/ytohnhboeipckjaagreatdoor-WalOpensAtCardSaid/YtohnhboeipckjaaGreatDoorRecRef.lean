/-
  The document's own answers of layer 6: a number's four bytes, a payload's form (Put).
  Conditions: the text has at most 65536 bytes.
-/
import Derived.Test.YtohnhboeipckjaaGreatDoorRecMath
import Derived.Test.YtohnhboeipckjaaGreatDoorSumShift
import Derived.Test.YtohnhboeipckjaaGreatDoorRecWord
import Derived.Laws.IdiomStrings
namespace Go.Proofs.YtohnhboeipckjaaGreatDoor
open Go.RowKit

/-- the text of bytes -/
def str (l : List UInt8) : ByteArray := ⟨l.toArray⟩
theorem str_size (l : List UInt8) : (str l).size = l.length := by simp [str, ByteArray.size]

theorem xor32b {s : Nat} (b : UInt8) (h : s < 4294967296) : bits .xor .u32 (s : Int) (b.toNat : Int) = ((s ^^^ b.toNat : Nat) : Int) := u32_xor_nat s b.toNat h (by have := UInt8.toNat_lt b; omega)
theorem ones32 {s : Nat} (h : s < 4294967296) : bits .xor .u32 (s : Int) 4294967295 = ((s ^^^ ones : Nat) : Int) := u32_xor_nat s 4294967295 h (by omega)
theorem sh_rem_one {m : Nat} (h : m < 4294967296) (h1 : m % 2 = 1) : bits .xor .u32 ((m : Int) / 2) 3988292384 = ((sh m : Nat) : Int) := by
  rw [xor_poly h]; unfold sh; rw [if_pos h1]
theorem sh_rem_none {m : Nat} (h1 : m % 2 = 0) : (m : Int) / 2 = ((sh m : Nat) : Int) := by
  unfold sh; rw [if_neg (by omega)]; omega

set_option maxHeartbeats 2000000 in
set_option maxRecDepth 100000 in
theorem refOf_any (A : Option Addr) (l : List UInt8) (c : Nat) (w : World) (hb : Byt w w.heap.size A l) (hl : l.length ≤ 1099511627776) :
    Calls Tryz.prog 36 #[.slice A l.length c] w fun e w' => e = .returned (.int .u32 (crc l : Nat)) ∧ w = w' := by
  go_enter Tryz.func36, Tryz.ntmps36
  go_wp2
  go_loop [3, 4] (fun v i => ∃ k : Nat, k ≤ l.length ∧ i = .int .i64 k ∧ v = .int .u32 (raw ones (l.take k) : Nat)) (fun _ i => l.length - (intOf i).toNat)
  case atStart => exact ⟨0, by omega, rfl, rfl⟩
  case round =>
    obtain ⟨k, hk, rfl, rfl⟩ := hrel
    have hlt := raw_lt (l.take k) ones_lt
    by_cases h8 : k < l.length
    · have hsn := Lib.hid (raw_snoc ones l k h8)
      obtain ⟨b, o, rfl, hbl, hc⟩ := hb.get h8
      obtain ⟨x, hx⟩ : ∃ x, x = l[k] := ⟨_, rfl⟩
      rw [← hx] at hc hsn
      obtain ⟨t, ht⟩ : ∃ t, t = raw ones (l.take k) := ⟨_, rfl⟩
      rw [← ht] at hlt hsn ⊢
      clear hx ht
      have hu := UInt8.toNat_lt x
      have h1 := xor32b x hlt
      go_wp2
      have hlt2 : t ^^^ x.toNat < 4294967296 := xor_lt hlt (by omega)
      clear h1
      go_loop [3, 5] (fun v i => ∃ j : Nat, j ≤ 8 ∧ i = .int .i64 j ∧ v = .int .u32 (shs j (t ^^^ x.toNat) : Nat)) (fun _ i => 8 - (intOf i).toNat)
      case atStart => exact ⟨0, by omega, rfl, rfl⟩
      case round =>
        obtain ⟨j, hj, rfl, rfl⟩ := hrel
        have hlt3 := shs_lt j hlt2
        have hst := Lib.hid (shs_last j (t ^^^ x.toNat))
        obtain ⟨m, hm⟩ : ∃ m, m = shs j (t ^^^ x.toNat) := ⟨_, rfl⟩
        rw [← hm] at hlt3 hst ⊢
        have HM := Lib.hid hm
        clear hm
        by_cases hj8 : j < 8
        · rcases Nat.mod_two_eq_zero_or_one m with hp | hp
          · have hp1 : (((m : Int) % 2) == 1) = false := by rw [show (m : Int) % 2 = 0 by omega]; rfl
            have HP := Lib.hid hp
            clear hp
            go_wp2
            go_round
            case rel => exact ⟨j + 1, by omega, by go_num, by rw [hst.out, sh_rem_none HP.out]⟩
            case measure => simp [intOf]; omega
          · have hp1 : (((m : Int) % 2) == 1) = true := by rw [show (m : Int) % 2 = 1 by omega]; rfl
            have HP := Lib.hid hp
            clear hp
            go_wp2
            go_round
            case rel => exact ⟨j + 1, by omega, by go_num, by rw [hst.out, sh_rem_one hlt3 HP.out]⟩
            case measure => simp [intOf]; omega
        · obtain rfl : j = 8 := by omega
          go_wp2
          go_round
          case rel => exact ⟨k + 1, by omega, by go_num, by rw [hsn.out, HM.out]; rfl⟩
          case measure => simp [intOf]; omega
    · obtain rfl : k = l.length := by omega
      rw [List.take_length] at hlt ⊢
      have h32 := ones32 hlt
      go_wp2
      go_ret
      exact ⟨rfl, rfl⟩

theorem bytes_ext {a : ByteArray} {l : List UInt8} (h : a.data.toList = l) : a = ⟨l.toArray⟩ := by
  subst h
  rfl
theorem size_of {a : ByteArray} {l : List UInt8} (h : a.data.toList = l) : a.size = l.length := by
  subst h
  exact Array.length_toList.symm
theorem extract_take (s : ByteArray) (p k : Nat) : (s.extract p (p + k)).data.toList = (s.data.toList.drop p).take k := by
  rw [ByteArray.data_extract]
  simp only [Array.toList_extract, List.extract]
  rw [Nat.add_sub_cancel_left]

/-- '[]byte(s)' -/
theorem conv_run (s : ByteArray) (w : World) : ∃ c w', (convert 9 31 (.string s)).run Tryz.prog w = .ok (.slice (some ⟨w.heap.size, 0, none⟩) s.size c) w' ∧ Byt w' w'.heap.size (some ⟨w.heap.size, 0, none⟩) s.data.toList ∧ Below w.heap.size w w' := by
  refine ⟨_, _, run_bytes_of_string w 9 31 5 s Tryz.underlying9 Tryz.underlying31 Tryz.underlying5, fun _ => ⟨w.heap.size, 0, rfl, by simp, fun k hk => ?_⟩, ((Below.refl _ w).drew).alloc (Nat.le_refl _) _⟩
  have hk' : k < s.data.size := by simpa using hk
  rw [Nat.zero_add]
  refine (cell_of_row _ _ _ _ _ _ (heap_alloc_new w.drew _)).trans ?_
  rw [bytesRow_at s _ k hk']
  simp
theorem wp_conv (w : World) {o : Oper} {a : Act} {K : Act → World → Prop} {Q : Exit → Act → World → Prop} (x : Operand) (ho : o.op = .convert 9 31 x) (s : ByteArray) (hx : a.eval x = .string s)
    (h : ∀ c w', Byt w' w'.heap.size (some ⟨w.heap.size, 0, none⟩) s.data.toList → Below w.heap.size w w' → K (a.put o.dst (.slice (some ⟨w.heap.size, 0, none⟩) s.size c)) w') : o.wp Tryz.prog a w K Q := by
  obtain ⟨c, w', hrun, h1, h2⟩ := conv_run s w
  unfold Oper.wp execOp
  simp only [ho, hx, Sem.run_bind, Sem.run_pure, hrun, Result.andThen_ok]
  exact h c w' h1 h2
theorem wpList_conv (w : World) {ops : Array Oper} {rest : List Oper} {o : Oper} {a : Act} {Q : Exit → Act → World → Prop} (hgd : o.guard = none) (x : Operand) (ho : o.op = .convert 9 31 x) (s : ByteArray) (hx : a.eval x = .string s)
    (h : ∀ c w', Byt w' w'.heap.size (some ⟨w.heap.size, 0, none⟩) s.data.toList → Below w.heap.size w w' → wpList Tryz.prog ops Q rest (a.put o.dst (.slice (some ⟨w.heap.size, 0, none⟩) s.size c)) w') : wpList Tryz.prog ops Q (o :: rest) a w :=
  wpList_plain hgd fun _ hK => wp_conv w x ho s hx fun c w' h1 h2 => hK _ _ (h c w' h1 h2)
theorem step_conv (w : World) {ops : Array Oper} {o : Oper} {a : Act} {K : Act → World → Prop} {Q : Exit → Act → World → Prop} {E : Prop} (hgd : o.guard = none) (x : Operand) (ho : o.op = .convert 9 31 x) (s : ByteArray) (hx : a.eval x = .string s)
    (h : ∀ c w', Byt w' w'.heap.size (some ⟨w.heap.size, 0, none⟩) s.data.toList → Below w.heap.size w w' → K (a.put o.dst (.slice (some ⟨w.heap.size, 0, none⟩) s.size c)) w') :
    if Region.wanted o (yielded ops a.tmps) = true then Oper.wp Tryz.prog o a w K Q else E := by
  have hw : Region.wanted o (yielded ops a.tmps) = true := by simp [Region.wanted, hgd]
  rw [if_pos hw]
  exact wp_conv w x ho s hx h

set_option maxHeartbeats 1000000 in
theorem four_any (x : Nat) (w : World) (hx : x < 4294967296) : Calls Tryz.prog 35 #[.int .u32 (x : Int)] w fun e w' => e = .returned (.string (str (be4 x))) ∧ Below w.heap.size w w' := by
  have ht := Byt.text (P := Tryz.prog) (Byt.four w 5 _ _ _ _ _ _ _ _ (byte_top hx) (byte_of' (x / 65536)) (byte_of' (x / 256)) (byte_of' x)) 31 5 9 Tryz.underlying31 Tryz.underlying5 Tryz.underlying9 4
  simp only [List.length_cons, List.length_nil, Nat.zero_add, Nat.reduceAdd] at ht
  have hb : Below w.heap.size w (w.alloc (.cells #[.int .u8 ((x : Int) / 16777216), .int .u8 (((x / 65536 : Nat) : Int) % 256), .int .u8 (((x / 256 : Nat) : Int) % 256), .int .u8 ((x : Int) % 256)] 5)) := (Below.refl _ _).alloc (Nat.le_refl _) _
  have HB := Lib.hid hb
  simp only [Int.natCast_ediv, Int.cast_ofNat_Int] at ht
  clear hb
  go_enter Tryz.func35, Tryz.ntmps35
  go_wp2
  go_ret
  exact ⟨rfl, HB.out⟩
end Go.Proofs.YtohnhboeipckjaaGreatDoor
