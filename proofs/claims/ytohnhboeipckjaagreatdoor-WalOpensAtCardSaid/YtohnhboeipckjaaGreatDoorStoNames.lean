/-
  What the store's Names, takes and Read answer.
  Conditions: the store is one; names are at most 2^40 bytes.
-/
import Derived.Test.YtohnhboeipckjaaGreatDoorStoFree
import Derived.Test.YtohnhboeipckjaaGreatDoorLabRunes
namespace Go.Proofs.YtohnhboeipckjaaGreatDoor
open Go.RowKit Go.Maps

/-- a new slice of names -/
def NamesAre (w : World) (ns : List (List UInt8)) (e : Ending) (w' : World) : Prop :=
  ∃ v, e = .returned v ∧ w'.ownsRow w.heap.size 9 1 v ns.length (ns.map encStr) ∧ Below w.heap.size w w'
theorem names_down (g bm : Nat) (X : Nat → Prop) (rs : List RF) (cap fuse : Nat) (w : World) (h : Raw w g X bm rs cap fuse true) :
    Calls Tryz.prog 24 #[.pointer (some ⟨g, 0, none⟩)] w fun e w' => e = .returned (.slice none 0 0) ∧ w = w' := by
  have h3 : w.cell? ⟨g, 3, none⟩ = some (.bool true) := h.box.cell 3
  go_enter Tryz.func24, Tryz.ntmps24
  go_wp2
  go_ret
  exact ⟨rfl, rfl⟩
theorem names_up (g bm : Nat) (X : Nat → Prop) (rs : List RF) (cap fuse : Nat) (w : World) (h : Raw w g X bm rs cap fuse false) :
    Calls Tryz.prog 24 #[.pointer (some ⟨g, 0, none⟩)] w (NamesAre w (rs.map RF.nm)) := by
  have h0 : w.cell? ⟨g, 0, none⟩ = some (.map (some bm)) := h.box.cell 0
  have h3 : w.cell? ⟨g, 3, none⟩ = some (.bool false) := h.box.cell 3
  obtain ⟨es, hom, hp⟩ := h.map
  have hsz : Maps.size (DataW.map es) = rs.length := by rw [Maps.size_eq, hp.length_eq, List.length_map]
  have hlen := h.len
  have HS := Lib.hid ((callsIn_wide (n := 5)).1 (Tryz.slices_Sorted_keys_43_44 bm rs.length (.map es) rawElem w hom (by rw [hsz]; unfold maxLen; omega) (by rw [hsz]; omega)))
  have HK := Lib.hid ((callsIn_wide (n := 5)).1 (Tryz.maps_Keys_44 (some bm) w))
  have HP := Lib.hid (keys_ent hp)
  have HR := Lib.hid h.rise
  clear hsz hp h hom
  go_enter Tryz.func24, Tryz.ntmps24
  go_wp2_with (first
    | (go_at_call 44; (with_reducible refine HK.out.mono ?_); rintro e w' ⟨rfl, rfl⟩)
    | (go_at_call 43; refine HS.out.mono ?_; rintro e w' ⟨v, ss, rfl, hS, hrow, hnil, hb⟩))
  go_ret
  have hss := hS.trans HP.out
  rw [sorted_names HR.out hss, hss.length_eq] at hrow
  exact ⟨v, rfl, own_base hrow (by simp), ((Below.refl _ w).alloc (Nat.le_refl _) _).trans (hb.mono (by simp))⟩

/-! ### takes -/
def takesE (rs : List RF) (cap : Nat) (down good : Bool) (x : List UInt8) (k : Nat) : Nat := St.takes ⟨rs.map RF.fl, cap, 0, down⟩ good x k
set_option maxHeartbeats 1000000 in
theorem takes_at (g bm : Nat) (X : Nat → Prop) (rs : List RF) (cap fuse : Nat) (down : Bool) (s : ByteArray) (k : Nat) (A : Option Addr) (n c : Nat) (sf : Int) (sy b good : Bool) (w : World) (h : Raw w g X bm rs cap fuse down) (hs : s.size ≤ 1099511627776)
    (hgood : nameB s.data.toList = good) (hv : lookV rs s.data.toList = (.agg #[.slice A n c, .int .i64 sf, .bool sy], b)) (hb : b = (lookBy Fl.name s.data.toList (rs.map RF.fl)).isSome) :
    Calls Tryz.prog 37 #[.pointer (some ⟨g, 0, none⟩), .string s, .int .i64 (k : Int)] w fun e w' => e = .returned (.int .i64 (takesE rs cap down good s.data.toList k : Int)) ∧ Below w.heap.size w w' := by
  have h0 : w.cell? ⟨g, 0, none⟩ = some (.map (some bm)) := h.box.cell 0
  have h3 : w.cell? ⟨g, 3, none⟩ = some (.bool down) := h.box.cell 3
  have hgl := h.box.lt
  have hlen := h.len
  have hcap := h.ok.cap
  simp only at hcap
  have hb1 := fun o => (Below.refl w.heap.size w).alloc (Nat.le_refl _) o
  have HV := Lib.hid hv
  have HR := Lib.hid h
  have HB := Lib.hid hb
  have HG : ∀ w', Hid (Calls Tryz.prog 55 #[.string s] w' fun e w'' => e = .returned (.bool good) ∧ Below w'.heap.size w' w'') := fun w' => Lib.hid (by rw [← hgood]; exact good_any s w' (by omega))
  obtain ⟨free, hF⟩ : ∃ f, f = cap - usedF (rs.map RF.fl) := ⟨_, rfl⟩
  have HF := Lib.hid hF
  have hfree : free ≤ 16777216 := by omega
  clear hv h hb hgood hF
  cases down with
  | true =>
    go_enter Tryz.func37, Tryz.ntmps37
    go_wp2_with (at_lookup; refine wpList_look_ok _ rfl _ _ rfl HR.out rfl s rfl (by unfold maxLen; omega) HV.out ?_)
    go_ret
    exact ⟨ret_int (by simp [takesE, St.takes]), hb1 _⟩
  | false =>
    cases good with
    | false =>
      go_enter Tryz.func37, Tryz.ntmps37
      go_wp2_with (first
        | (at_lookup; refine wpList_look_ok _ rfl _ _ rfl HR.out rfl s rfl (by unfold maxLen; omega) HV.out ?_)
        | (go_at_call 55; (with_reducible refine (HG _).out.mono ?_); rintro e w1 ⟨rfl, hb2⟩))
      go_ret
      exact ⟨ret_int (by simp [takesE, St.takes]), (hb1 _).trans (hb2.mono (by simp))⟩
    | true =>
      cases b with
      | false =>
        have hno : (lookBy Fl.name s.data.toList (rs.map RF.fl)).isNone = true := by
          have := HB.out
          cases e : lookBy Fl.name s.data.toList (rs.map RF.fl) <;> simp [e] at this ⊢
        have HN := Lib.hid hno
        clear hno
        by_cases hfull : 256 ≤ rs.length
        · have hfu : decide ((256 : Int) ≤ (rs.length : Int)) = true := by simp; omega
          go_enter Tryz.func37, Tryz.ntmps37
          go_wp2_with (first
            | (at_lookup; refine wpList_look_ok _ rfl _ _ rfl HR.out rfl s rfl (by unfold maxLen; omega) HV.out ?_)
            | (go_at_call 55; (with_reducible refine (HG _).out.mono ?_); rintro e w1 ⟨rfl, hb2⟩; have hbb : Below w.heap.size w w1 := (hb1 _).trans (hb2.mono (by simp)); have h0' : w1.cell? ⟨g, 0, none⟩ = some (.map (some bm)) := (hbb.cell hgl).trans h0; have hml := (HR.out.below hbb).mlen))
          go_ret
          exact ⟨ret_int (by simp [takesE, St.takes, HN.out, hfull]), hbb⟩
        · have hfu : decide ((256 : Int) ≤ (rs.length : Int)) = false := by simp; omega
          by_cases hsp : free < k
          · have hsd : decide ((free : Int) < (k : Int)) = true := by simp; omega
            go_enter Tryz.func37, Tryz.ntmps37
            go_wp2_with (first
              | (at_lookup; refine wpList_look_ok _ rfl _ _ rfl HR.out rfl s rfl (by unfold maxLen; omega) HV.out ?_)
              | (go_at_call 55; (with_reducible refine (HG _).out.mono ?_); rintro e w1 ⟨rfl, hb2⟩; have hbb : Below w.heap.size w w1 := (hb1 _).trans (hb2.mono (by simp)); have h0' : w1.cell? ⟨g, 0, none⟩ = some (.map (some bm)) := (hbb.cell hgl).trans h0; have hml := (HR.out.below hbb).mlen)
              | (go_at_call 56; (with_reducible refine (free_up g bm X rs cap fuse _ (HR.out.below hbb)).mono ?_); rintro e w2 ⟨rfl, hb3⟩; rw [← HF.out]))
            go_ret
            exact ⟨ret_int (by simp [takesE, St.takes, hfull, ← HF.out, hsp]), hbb.trans (hb3.mono hbb.size)⟩
          · have hsd : decide ((free : Int) < (k : Int)) = false := by simp; omega
            go_enter Tryz.func37, Tryz.ntmps37
            go_wp2_with (first
              | (at_lookup; refine wpList_look_ok _ rfl _ _ rfl HR.out rfl s rfl (by unfold maxLen; omega) HV.out ?_)
              | (go_at_call 55; (with_reducible refine (HG _).out.mono ?_); rintro e w1 ⟨rfl, hb2⟩; have hbb : Below w.heap.size w w1 := (hb1 _).trans (hb2.mono (by simp)); have h0' : w1.cell? ⟨g, 0, none⟩ = some (.map (some bm)) := (hbb.cell hgl).trans h0; have hml := (HR.out.below hbb).mlen)
              | (go_at_call 56; (with_reducible refine (free_up g bm X rs cap fuse _ (HR.out.below hbb)).mono ?_); rintro e w2 ⟨rfl, hb3⟩; rw [← HF.out]))
            go_ret
            exact ⟨ret_int (by simp [takesE, St.takes, hfull, ← HF.out, hsp]), hbb.trans (hb3.mono hbb.size)⟩
      | true =>
        have hno : (lookBy Fl.name s.data.toList (rs.map RF.fl)).isNone = false := by
          have := HB.out
          cases e : lookBy Fl.name s.data.toList (rs.map RF.fl) <;> simp [e] at this ⊢
        have HN := Lib.hid hno
        clear hno
        by_cases hsp : free < k
        · have hsd : decide ((free : Int) < (k : Int)) = true := by simp; omega
          go_enter Tryz.func37, Tryz.ntmps37
          go_wp2_with (first
            | (at_lookup; refine wpList_look_ok _ rfl _ _ rfl HR.out rfl s rfl (by unfold maxLen; omega) HV.out ?_)
            | (go_at_call 55; (with_reducible refine (HG _).out.mono ?_); rintro e w1 ⟨rfl, hb2⟩; have hbb : Below w.heap.size w w1 := (hb1 _).trans (hb2.mono (by simp)); have h0' : w1.cell? ⟨g, 0, none⟩ = some (.map (some bm)) := (hbb.cell hgl).trans h0; have hml := (HR.out.below hbb).mlen)
            | (go_at_call 56; (with_reducible refine (free_up g bm X rs cap fuse _ (HR.out.below hbb)).mono ?_); rintro e w2 ⟨rfl, hb3⟩; rw [← HF.out]))
          go_ret
          exact ⟨ret_int (by simp [takesE, St.takes, HN.out, ← HF.out, hsp]), hbb.trans (hb3.mono hbb.size)⟩
        · have hsd : decide ((free : Int) < (k : Int)) = false := by simp; omega
          go_enter Tryz.func37, Tryz.ntmps37
          go_wp2_with (first
            | (at_lookup; refine wpList_look_ok _ rfl _ _ rfl HR.out rfl s rfl (by unfold maxLen; omega) HV.out ?_)
            | (go_at_call 55; (with_reducible refine (HG _).out.mono ?_); rintro e w1 ⟨rfl, hb2⟩; have hbb : Below w.heap.size w w1 := (hb1 _).trans (hb2.mono (by simp)); have h0' : w1.cell? ⟨g, 0, none⟩ = some (.map (some bm)) := (hbb.cell hgl).trans h0; have hml := (HR.out.below hbb).mlen)
            | (go_at_call 56; (with_reducible refine (free_up g bm X rs cap fuse _ (HR.out.below hbb)).mono ?_); rintro e w2 ⟨rfl, hb3⟩; rw [← HF.out]))
          go_ret
          exact ⟨ret_int (by simp [takesE, St.takes, HN.out, ← HF.out, hsp]), hbb.trans (hb3.mono hbb.size)⟩
theorem takes_any (g bm : Nat) (X : Nat → Prop) (rs : List RF) (cap fuse : Nat) (down : Bool) (s : ByteArray) (k : Nat) (w : World) (h : Raw w g X bm rs cap fuse down) (hs : s.size ≤ 1099511627776) :
    Calls Tryz.prog 37 #[.pointer (some ⟨g, 0, none⟩), .string s, .int .i64 (k : Int)] w fun e w' => e = .returned (.int .i64 (takesE rs cap down (nameB s.data.toList) s.data.toList k : Int)) ∧ Below w.heap.size w w' := by
  have e1 : (lookBy Fl.name s.data.toList (rs.map RF.fl)).isSome = (lookBy RF.nm s.data.toList rs).isSome := by rw [map_lookBy (nm := RF.nm) (nm' := Fl.name) (g := RF.fl) (fun _ => rfl)]; cases lookBy RF.nm s.data.toList rs <;> rfl
  cases hl : lookBy RF.nm s.data.toList rs with
  | none => exact takes_at g bm X rs cap fuse down s k none 0 0 0 false false _ w h hs rfl (lookV_none hl) (by rw [e1, hl]; rfl)
  | some r =>
    obtain ⟨A, c, hv, _⟩ := h.form (lookBy_some hl).1
    exact takes_at g bm X rs cap fuse down s k A _ c _ _ true _ w h hs rfl (by rw [lookV_some hl, hv]; rfl) (by rw [e1, hl]; rfl)
end Go.Proofs.YtohnhboeipckjaaGreatDoor
