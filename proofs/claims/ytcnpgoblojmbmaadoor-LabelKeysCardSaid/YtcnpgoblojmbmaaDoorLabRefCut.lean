/-
  What the document's own Cut answers: the names of a key, or that it is none.
  Conditions: the text has at most 900 bytes.
-/
import Derived.Test.YtcnpgoblojmbmaaDoorLabRefKey
namespace Go.Proofs.YtcnpgoblojmbmaaDoor
open Go.RowKit

theorem infoStr : (Tryd.prog.info? 9).map (fun i => (i.zero, i.size, i.bytes)) = some (some (.string ⟨#[]⟩), 1, 16) := by kernel_rfl

abbrev strV (xs : List ByteArray) : List Value := xs.map Value.string
/-- what holds of the pieces that are there and the one that is being read -/
def CutRel (s : ByteArray) (k : Nat) (done : List ByteArray) (cw : ByteArray) : Prop :=
  texts done ++ pieces cw.data.toList (s.data.toList.drop k) = pieces [] s.data.toList
theorem drop_get {s : ByteArray} {k : Nat} (h : k < s.size) : s.data.toList.drop k = (s[k]'h) :: s.data.toList.drop (k + 1) := by
  have hl : k < s.data.toList.length := by rw [Array.length_toList]; exact h
  rw [List.drop_eq_getElem_cons hl]
  rfl
theorem cut_hit {s : ByteArray} {k : Nat} {done : List ByteArray} {cw : ByteArray} (h : CutRel s k done cw) (hk : k < s.size) (hb : (s[k]'hk).toNat = 47) : CutRel s (k + 1) (done ++ [cw]) ⟨#[]⟩ := by
  unfold CutRel at *
  have e : (s[k]'hk) = 47 := UInt8.toNat_inj.1 hb
  rw [drop_get hk, e, pieces_slash] at h
  rw [← h]
  simp [texts]
theorem cut_miss {s : ByteArray} {k : Nat} {done : List ByteArray} {cw : ByteArray} (h : CutRel s k done cw) (hk : k < s.size) (hb : (s[k]'hk).toNat ≠ 47) : CutRel s (k + 1) done (cw ++ s.extract k (k + 1)) := by
  unfold CutRel at *
  have e : (s[k]'hk) ≠ 47 := fun e => hb (by rw [e]; rfl)
  have e2 : (cw ++ s.extract k (k + 1)).data.toList = cw.data.toList ++ [s[k]'hk] := by
    rw [ByteArray.data_append, Array.toList_append, extract_take, drop_get hk]
    rfl
  rw [drop_get hk, pieces, if_neg e] at h
  rw [← h, e2]
theorem cut_end {s : ByteArray} {k : Nat} {done : List ByteArray} {cw : ByteArray} (h : CutRel s k done cw) (hk : s.size ≤ k) : texts (done ++ [cw]) = pieces [] s.data.toList := by
  unfold CutRel at h
  have he : s.data.toList.drop k = [] := List.drop_eq_nil_of_le (by rw [Array.length_toList]; exact hk)
  rw [he] at h
  rw [← h]
  simp [texts, pieces]
theorem lies_own {w : World} {base g cap n : Nat} {e : TypeId} {xs : List ByteArray} (h : w.ownsRow base e 1 (.slice (some ⟨g, 0, none⟩) n cap) n (strV xs)) (hg : g < w.heap.size) : LiesAt w g 0 xs := by
  refine ⟨hg, fun j x hx => ?_⟩
  have := h.cells (g := g) rfl j (.string x) (by rw [List.getElem?_map, hx]; rfl)
  rw [Go.WideShapes.add_plain] at this
  exact this

theorem one_cell (w : World) (x : ByteArray) (t : Nat) : ∀ j u, [Value.string x][j]? = some u → (w.alloc (.cells #[.string x] t)).cell? ((⟨w.heap.size, 0, none⟩ : Addr).add j) = some u := by
  intro j u hj
  match j, hj with
  | 0, hj => simp at hj; subst hj; simp [Addr.add]
theorem one_one (x : ByteArray) : ∀ u ∈ [Value.string x], u.oneCell' = true := by
  intro u hu; simp at hu; subst hu; rfl
theorem own_ge {w : World} {base n : Nat} {e : TypeId} {v : Value} {xs : List Value} (h : w.ownsRow base e 1 v n xs) : ∀ g, v.ownBlock = some g → base ≤ g := by
  intro g hg
  rcases h.2 with ⟨rfl, _⟩ | ⟨g', cap, cur, rfl, hb, _⟩
  · simp [Value.ownBlock] at hg
  · simp [Value.ownBlock] at hg
    omega
theorem own_next {B : Nat} {w wr w1 : World} {o : Obj} {v : Value} {n : Nat} {e : TypeId} {xs : List Value} (hb : Below B w wr) (hB : B ≤ wr.heap.size) (hown : wr.ownsRow B e 1 v n xs) (hg : (wr.alloc o).grownBy w1 v.ownBlock) : Below B w w1 :=
  (hb.alloc hB o).grown hg (by simp; omega) (own_ge hown)

theorem rkey_at (xs : List ByteArray) (ls : List (List UInt8)) (b : Bool) (n bk o c : Nat) (w : World) (hls : texts xs = ls) (hb : rowB ls = b) (hn : xs.length = n) (hnb : n ≤ 1000) (hL : LiesAt w bk o xs) (hx : ∀ x ∈ xs, x.size ≤ 1000) :
    Calls Tryd.prog 15 #[.slice (some ⟨bk, o, none⟩) n c] w fun e w' => e = .returned (.tuple #[.string ⟨(keyT ls).toArray⟩, .bool b]) ∧ w = w' := by
  subst hls
  subst hb
  exact rkey_any xs n bk o c w hn hnb hL hx

def RCutNo (w : World) (e : Ending) (w' : World) : Prop := e = .returned (.tuple #[.slice none 0 0, .bool false]) ∧ Below w.heap.size w w'
def RCutYes (s : ByteArray) (w : World) (e : Ending) (w' : World) : Prop :=
  ∃ (g cap n : Nat) (xs : List ByteArray), e = .returned (.tuple #[.slice (some ⟨g, 0, none⟩) n cap, .bool true]) ∧ xs.length = n ∧ texts xs = pieces [] s.data.toList ∧ LiesAt w' g 0 xs ∧ Below w.heap.size w w'
def RCutIs (s : ByteArray) (w : World) (e : Ending) (w' : World) : Prop :=
  (rowB (pieces [] s.data.toList) = false ∧ RCutNo w e w') ∨ (rowB (pieces [] s.data.toList) = true ∧ RCutYes s w e w')

set_option maxHeartbeats 4000000 in
set_option maxRecDepth 1000000 in
theorem rcut_any (s : ByteArray) (w : World) (hs : s.size ≤ 900) :
    Calls Tryd.prog 17 #[.string s] w (RCutIs s w) := by
  obtain ⟨i0, hi0, hz0, hz1, hz2⟩ := info_parts infoStr
  go_enter Tryd.func17, Tryd.ntmps17
  go_wp2_with (fail)
  go_loopw [4, 5, 6] (fun v cv p wr => ∃ (k : Nat) (done : List ByteArray) (cw : ByteArray) (n : Nat), p = .int .i64 k ∧ cv = .string cw ∧ k ≤ s.size ∧ n ≤ k ∧ cw.size ≤ k ∧ Hid (done.length = n) ∧ Hid (wr.ownsRow w.heap.size 9 1 v n (strV done)) ∧ Below w.heap.size w wr ∧ Hid (CutRel s k done cw)) (fun _ _ p _ => s.size - (intOf p).toNat)
  case atStart => exact ⟨0, [], ⟨#[]⟩, 0, rfl, rfl, by omega, by omega, Nat.le_refl _, Lib.hid rfl, Lib.hid (World.ownsRow_nil _ _ _ _), Below.refl _ _, Lib.hid (by unfold CutRel; simp [texts])⟩
  case round =>
    obtain ⟨k, done, cw, n, rfl, rfl, hk, hnk, hcw, hn, hown, hbw, hrl⟩ := hrel
    have hbs := hbw.size
    by_cases hlt : k < s.size
    · by_cases hb : (s[k]'hlt).toNat = 47
      · have Hst := Lib.hid (cut_hit hrl.out hlt hb)
        have hbq : (((s[k]'hlt).toNat : Int) == 47) = true := by simp [hb]
        clear hb
        go_wp2_with (at_builtin; refine wpList_append_own _ rfl (.tmp 19) (.tmp 21) 26 rfl w.heap.size 9 i0 (.string ⟨#[]⟩) 1 16 Tryd.underlying26 hi0 hz0 hz1 hz2 rfl (by decide) _ n (strV done) rfl (hown.out.alloc _) ⟨wr.heap.size, 0, none⟩ 1 1 [.string cw] rfl rfl (one_cell wr cw _) (one_one cw) (by unfold maxLen; omega) (by omega) (by simp; omega) ?_; intro v1 w1 hown1 hgrow1 _; have Hown1 := Lib.hid hown1; have Hgrow1 := Lib.hid hgrow1; clear hown1 hgrow1)
        have hb1 : Below w.heap.size w w1 := own_next hbw hbs hown.out Hgrow1.out
        go_roundw
        case rel => exact ⟨k + 1, done ++ [cw], ⟨#[]⟩, n + 1, by go_num, rfl, by omega, by omega, Nat.zero_le _, Lib.hid (by rw [List.length_append, hn.out]; rfl), Lib.hid (by have h := Hown1.out; unfold strV at h ⊢; rw [List.map_append]; exact h), hb1, Hst⟩
        case measure => simp [intOf]; omega
      · have Hst := Lib.hid (cut_miss hrl.out hlt hb)
        have hbq : (((s[k]'hlt).toNat : Int) == 47) = false := by simp; omega
        have hsl := run_cut s k 1 (by omega)
        rw [show ((k : Int) + ((1 : Nat) : Int)) = (k : Int) + 1 from rfl] at hsl
        clear hb
        go_wp2_with (fail)
        go_roundw
        case rel => exact ⟨k + 1, done, _, n, by go_num, rfl, by omega, by omega, by rw [ByteArray.size_append, ByteArray.size_extract]; omega, hn, hown, hbw, Hst⟩
        case measure => simp [intOf]; omega
    · have Hend := Lib.hid (cut_end hrl.out (by omega))
      have Hlen : Hid (∀ x ∈ done ++ [cw], x.size ≤ 1000) := Lib.hid (fun x hx => by
        have h1 : x.data.toList ∈ pieces [] s.data.toList := by rw [← Hend.out]; exact List.mem_map.2 ⟨x, hx, rfl⟩
        have h2 := pieces_size _ _ _ h1
        have e1 : x.data.toList.length = x.size := Array.length_toList
        have e2 : s.data.toList.length = s.size := Array.length_toList
        simp only [List.length_nil] at h2
        omega)
      have Hnn : Hid ((done ++ [cw]).length = n + 1) := Lib.hid (by rw [List.length_append, hn.out]; rfl)
      cases hr : rowB (pieces [] s.data.toList) with
      | false =>
        have Hr := Lib.hid hr
        clear hr
        go_wp2_with (first
          | (at_builtin; refine wpList_append_own _ rfl (.tmp 30) (.tmp 32) 26 rfl w.heap.size 9 i0 (.string ⟨#[]⟩) 1 16 Tryd.underlying26 hi0 hz0 hz1 hz2 rfl (by decide) _ n (strV done) rfl (hown.out.alloc _) ⟨wr.heap.size, 0, none⟩ 1 1 [.string cw] rfl rfl (one_cell wr cw _) (one_one cw) (by unfold maxLen; omega) (by omega) (by simp; omega) ?_; intro v1 w1 hown1 hgrow1 _; have Hown1 := Lib.hid hown1; have Hgrow1 := Lib.hid hgrow1; clear hown1 hgrow1; obtain ⟨g, cap, rfl, _, hg⟩ := Hown1.out.form (by omega); have HL := Lib.hid (lies_own (w := w1) (xs := done ++ [cw]) (by have h := Hown1.out; unfold strV at h ⊢; rw [List.map_append]; exact h) hg))
          | (go_at_call 15; refine (rkey_at (done ++ [cw]) (pieces [] s.data.toList) false (n + 1) g 0 cap _ Hend.out Hr.out Hnn.out (by omega) HL.out Hlen.out).mono ?_; rintro e w' ⟨rfl, rfl⟩))
        have hb1 : Below w.heap.size w w1 := own_next hbw hbs hown.out Hgrow1.out
        go_ret2
        exact .inl ⟨Hr.out, rfl, hb1⟩
      | true =>
        have Hr := Lib.hid hr
        clear hr
        go_wp2_with (first
          | (at_builtin; refine wpList_append_own _ rfl (.tmp 30) (.tmp 32) 26 rfl w.heap.size 9 i0 (.string ⟨#[]⟩) 1 16 Tryd.underlying26 hi0 hz0 hz1 hz2 rfl (by decide) _ n (strV done) rfl (hown.out.alloc _) ⟨wr.heap.size, 0, none⟩ 1 1 [.string cw] rfl rfl (one_cell wr cw _) (one_one cw) (by unfold maxLen; omega) (by omega) (by simp; omega) ?_; intro v1 w1 hown1 hgrow1 _; have Hown1 := Lib.hid hown1; have Hgrow1 := Lib.hid hgrow1; clear hown1 hgrow1; obtain ⟨g, cap, rfl, _, hg⟩ := Hown1.out.form (by omega); have HL := Lib.hid (lies_own (w := w1) (xs := done ++ [cw]) (by have h := Hown1.out; unfold strV at h ⊢; rw [List.map_append]; exact h) hg))
          | (go_at_call 15; refine (rkey_at (done ++ [cw]) (pieces [] s.data.toList) true (n + 1) g 0 cap _ Hend.out Hr.out Hnn.out (by omega) HL.out Hlen.out).mono ?_; rintro e w' ⟨rfl, rfl⟩))
        have hb1 : Below w.heap.size w w1 := own_next hbw hbs hown.out Hgrow1.out
        go_ret2
        exact .inr ⟨Hr.out, g, cap, n + 1, done ++ [cw], rfl, Hnn.out, Hend.out, HL.out, hb1⟩
end Go.Proofs.YtcnpgoblojmbmaaDoor
