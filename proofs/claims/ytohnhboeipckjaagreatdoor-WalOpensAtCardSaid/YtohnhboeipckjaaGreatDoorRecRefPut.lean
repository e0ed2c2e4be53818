/-
  The document's own answer of layer 6: a payload's form (Put).
  Conditions: the text has at most 65536 bytes.
-/
import Derived.Test.YtohnhboeipckjaaGreatDoorRecRef
namespace Go.Proofs.YtohnhboeipckjaaGreatDoor
open Go.RowKit

theorem conv_of (s : ByteArray) {w : World} (c : Nat) (A : Option Addr) (hb : Byt w w.heap.size A s.data.toList) (hl : s.size ≤ 65536) :
    Calls Tryz.prog 36 #[.slice A s.size c] w fun e w' => e = .returned (.int .u32 (crc s.data.toList : Nat)) ∧ w = w' := by
  have hn : s.data.toList.length = s.size := Array.length_toList
  have h := refOf_any A s.data.toList c w hb (by rw [hn]; omega)
  rw [hn] at h
  exact h
theorem conv_of4 (x : Nat) {w : World} (c : Nat) (A : Option Addr) (hb : Byt w w.heap.size A (str (be4 x)).data.toList) :
    Calls Tryz.prog 36 #[.slice A 4 c] w fun e w' => e = .returned (.int .u32 (crc (be4 x) : Nat)) ∧ w = w' := conv_of (str (be4 x)) c A hb (show 4 ≤ 65536 by omega)
theorem str_list (l : List UInt8) : (str l).data.toList = l := rfl

set_option maxHeartbeats 2000000 in
set_option maxRecDepth 100000 in
theorem refPut_any (s : ByteArray) (w : World) (hs : s.size ≤ 65536) :
    Calls Tryz.prog 16 #[.string s] w fun e w' => e = .returned (.string (str (putL s.data.toList))) ∧ Below w.heap.size w w' := by
  have hz1 : ∀ x, (str (be4 x)).size = 4 := fun x => rfl
  go_enter Tryz.func16, Tryz.ntmps16
  go_wp2_with fail
  refine (four_any s.size w (by omega)).mono ?_
  rintro e W1 ⟨rfl, b1⟩
  have HE : Hid (({ data := #[90] } ++ str (be4 s.size) ++ str (be4 (crc (be4 s.size))) ++ s ++ str (be4 (crc s.data.toList)) : ByteArray) = str (putL s.data.toList)) := by
    have hn : s.data.toList.length = s.size := Array.length_toList
    unfold putL
    rw [hn]
    refine bytes_ext ?_
    simp [ByteArray.data_append, str]
  go_wp2_with (first
    | (refine wpList_conv _ rfl (.tmp 10) rfl (str (be4 s.size)) rfl ?_; intro c2 w2 hb2 hB2; have HO2 := Lib.hid (conv_of4 s.size c2 _ hb2); clear hb2)
    | (go_at_call 36; (with_reducible refine HO2.out.mono ?_); rintro e w3 ⟨rfl, rfl⟩)
    | (go_at_call 35; (with_reducible refine (four_any (crc (be4 s.size)) w2 (crc_lt _)).mono ?_); rintro e W4 ⟨rfl, b4⟩)
    | (refine wpList_conv _ rfl (.tmp 17) rfl s rfl ?_; intro c5 w5 hb5 hB5; have HO5 := Lib.hid (conv_of s c5 _ hb5 hs); clear hb5)
    | (go_at_call 36; (with_reducible refine HO5.out.mono ?_); rintro e w6 ⟨rfl, rfl⟩)
    | (go_at_call 35; (with_reducible refine (four_any (crc s.data.toList) w5 (crc_lt _)).mono ?_); rintro e W7 ⟨rfl, b7⟩))
  go_ret
  refine ⟨?_, ?_⟩
  · rw [← HE.out]; rfl
  · have h2 := b1.trans (hB2.mono b1.size)
    have h4 := h2.trans (b4.mono h2.size)
    have h5 := h4.trans (hB5.mono h4.size)
    exact h5.trans (b7.mono h5.size)
end Go.Proofs.YtohnhboeipckjaaGreatDoor
