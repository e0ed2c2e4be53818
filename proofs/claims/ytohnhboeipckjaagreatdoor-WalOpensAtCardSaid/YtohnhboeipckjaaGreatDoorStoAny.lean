/-
  What each call of a store answers, and what the store is then, in the document's words.
  Conditions: the store is one; names are at most 2^30 bytes; what is told lies in blocks that are not the store's own.
-/
import Derived.Test.YtohnhboeipckjaaGreatDoorStoBooted
namespace Go.Proofs.YtohnhboeipckjaaGreatDoor
open Go.RowKit Go.Maps

section
variable (g : Nat) (X : Nat → Prop) (st : St) (s : ByteArray) (w : World)
/-- a store that answers nothing -/
def Gone (w : World) (g : Nat) (X : Nat → Prop) (r : St) (e : Ending) (w' : World) : Prop := e = .returned (.tuple #[]) ∧ Sto w' g X r ∧ Keep X w w'
theorem crash_any (h : Sto w g X st) : Calls Tryz.prog 26 #[.pointer (some ⟨g, 0, none⟩)] w (Gone w g X st.crash) := by
  obtain ⟨bm, rs, hR, hfs⟩ := h
  refine (crash_raw g bm X rs st.cap st.fuse st.down w hR).mono ?_
  rintro e w' ⟨rfl, hR', hg⟩
  exact ⟨rfl, ⟨bm, rs, hR', hfs⟩, Keep.of_grown hg (fun i e => by injection e with e; exact e ▸ hR.xg)⟩
def freeS (st : St) : Nat := if st.down then 0 else st.cap - usedF st.fs
theorem free_any (h : Sto w g X st) : Calls Tryz.prog 56 #[.pointer (some ⟨g, 0, none⟩)] w fun e w' => e = .returned (.int .i64 (freeS st : Int)) ∧ Below w.heap.size w w' := by
  obtain ⟨bm, rs, hR, hfs⟩ := h
  unfold freeS
  cases hd : st.down with
  | true => rw [hd] at hR; exact free_down g bm X rs st.cap st.fuse w hR
  | false =>
    rw [hd] at hR
    have := free_up g bm X rs st.cap st.fuse w hR
    rw [hfs] at this
    exact this
def namesS (st : St) : List (List UInt8) := if st.down then [] else st.fs.map Fl.name
theorem names_any (h : Sto w g X st) : Calls Tryz.prog 24 #[.pointer (some ⟨g, 0, none⟩)] w (NamesAre w (namesS st)) := by
  obtain ⟨bm, rs, hR, hfs⟩ := h
  unfold namesS
  cases hd : st.down with
  | true =>
    rw [hd] at hR
    refine (names_down g bm X rs st.cap st.fuse w hR).mono ?_
    rintro e w' ⟨rfl, rfl⟩
    exact ⟨_, rfl, World.ownsRow_nil _ _ _ _, Below.refl _ _⟩
  | false =>
    rw [hd] at hR
    have := names_up g bm X rs st.cap st.fuse w hR
    have e : rs.map RF.nm = st.fs.map Fl.name := by rw [← hfs, List.map_map]; rfl
    rw [e] at this
    exact this
def readB (st : St) (x : List UInt8) : List UInt8 := if st.down then [] else ((lookBy Fl.name x st.fs).map Fl.bs).getD []
def readE (st : St) (x : List UInt8) : Nat := if st.down then 12 else if (lookBy Fl.name x st.fs).isSome then 0 else 7
theorem read_any (h : Sto w g X st) (hs : s.size ≤ 1073741824) : Calls Tryz.prog 21 #[.pointer (some ⟨g, 0, none⟩), .string s] w (ReadIs w (readB st s.data.toList) (readE st s.data.toList)) := by
  obtain ⟨bm, rs, hR, hfs⟩ := h
  unfold readB readE
  cases hd : st.down with
  | true => rw [hd] at hR; exact read_not g bm X rs st.cap st.fuse s w hR hs (fun h => by cases h)
  | false =>
    rw [hd] at hR
    cases hl : lookBy RF.nm s.data.toList rs with
    | none =>
      have hl2 : lookBy Fl.name s.data.toList st.fs = none := by rw [← hfs, look_fl, hl]; rfl
      rw [hl2]
      exact read_not g bm X rs st.cap st.fuse s w hR hs (fun _ => hl)
    | some r =>
      have hl2 : lookBy Fl.name s.data.toList st.fs = some r.fl := by rw [← hfs, look_fl, hl]; rfl
      rw [hl2]
      exact read_some g bm X rs st.cap st.fuse s w r hR hs hl
/-- a deed that is not done where the power goes -/
theorem look_cases {rs : List RF} (hfs : rs.map RF.fl = st.fs) (x : List UInt8) :
    (st.down = true ∨ st.down = false ∧ lookBy RF.nm x rs = none ∧ lookBy Fl.name x st.fs = none) ∨ ∃ r, st.down = false ∧ lookBy RF.nm x rs = some r ∧ lookBy Fl.name x st.fs = some r.fl ∧ r.fl ∈ st.fs ∧ r.fl.name = x := by
  cases hd : st.down with
  | true => exact .inl (.inl rfl)
  | false =>
    cases hl : lookBy RF.nm x rs with
    | none => exact .inl (.inr ⟨rfl, rfl, by rw [← hfs, look_fl, hl]; rfl⟩)
    | some r => exact .inr ⟨r, rfl, rfl, by rw [← hfs, look_fl, hl]; rfl, by rw [← hfs]; exact List.mem_map.2 ⟨r, (lookBy_some hl).1, rfl⟩, (lookBy_some hl).2⟩
theorem St.Ok.less {s : St} (h : s.Ok) (f : Fl) {q : Fl} (hq : q ∈ s.fs) (hn : f.name = q.name) (hs : f.safe ≤ f.bs.length) (hl : f.bs.length ≤ q.bs.length) : St.Ok ⟨putBy Fl.name f s.fs, s.cap, s.fuse, s.down⟩ := by
  have hk : lookBy Fl.name f.name s.fs = some q := by rw [hn]; exact lookBy_mem h.rise hq
  refine h.put f hs ?_ (fun h => by rw [hk] at h; cases h) (by rw [hn]; exact h.good q hq)
  rw [hk]
  have := h.used
  simp only [Option.map_some, Option.getD_some]
  omega
theorem Ok.fuse {s : St} (h : s.Ok) {f : Nat} (hf : f ≤ 9223372036854775807) (d : Bool) : St.Ok ⟨s.fs, s.cap, f, d⟩ := ⟨h.rise, h.safe, h.used, h.cap, h.many, hf, h.good⟩
theorem sync_any (h : Sto w g X st) (hs : s.size ≤ 1073741824) : Calls Tryz.prog 45 #[.pointer (some ⟨g, 0, none⟩), .string s] w (Done w g X (st.sync s.data.toList)) := by
  have hok := h.ok
  obtain ⟨bm, rs, hR, hfs⟩ := h
  unfold St.sync
  rcases look_cases st hfs s.data.toList with h1 | ⟨r, hd, hl, hl2, hm, hn⟩
  · have key := sync_not g bm X rs st.cap st.fuse s w hR hs (fun h => by
      rcases h1 with h1 | ⟨_, h2, _⟩
      · rw [h1] at h; cases h
      · exact h2)
    refine key.mono ?_
    rintro e w' ⟨rfl, hb⟩
    have hS : Sto w' g X st := ⟨bm, rs, hR.below hb, hfs⟩
    rcases h1 with h1 | ⟨hd, _, hl2⟩
    · rw [h1]; exact ⟨rfl, hS, Keep.of_below hb⟩
    · rw [hd, hl2]; exact ⟨rfl, hS, Keep.of_below hb⟩
  · rw [hd] at hR
    rw [hd, hl2]
    simp only [Bool.false_eq_true, if_false]
    unfold St.doing
    by_cases hf : st.fuse = 1
    · rw [if_pos hf]
      rw [hf] at hR
      refine (sync_gone g bm X rs st.cap s r w hR hs hl).mono ?_
      rintro e w' ⟨rfl, hR', hk⟩
      exact ⟨rfl, ⟨bm, rs, hR', hfs⟩, hk⟩
    · rw [if_neg hf]
      have hok2 := St.Ok.less (Ok.fuse hok (f := st.fuse - 1) (by have := hok.fuse; omega) false) { r.fl with safe := r.fl.bs.length, stays := true } hm rfl (Nat.le_refl _) (Nat.le_refl _)
      simp only at hok2
      rw [← hfs] at hok2
      refine (sync_on g bm X rs st.cap st.fuse s r w hR hs hl hf hok2).mono ?_
      rintro e w' ⟨rfl, hR', hk⟩
      exact ⟨rfl, ⟨bm, _, by rw [hd]; exact hR', by rw [map_putBy (nm := RF.nm) (nm' := Fl.name) (g := RF.fl) (fun _ => rfl), hfs]⟩, hk⟩
theorem remove_any (h : Sto w g X st) (hs : s.size ≤ 1073741824) : Calls Tryz.prog 53 #[.pointer (some ⟨g, 0, none⟩), .string s] w (Done w g X (st.remove s.data.toList)) := by
  obtain ⟨bm, rs, hR, hfs⟩ := h
  unfold St.remove
  rcases look_cases st hfs s.data.toList with h1 | ⟨r, hd, hl, hl2, hm, hn⟩
  · have key := remove_not g bm X rs st.cap st.fuse s w hR hs (fun h => by
      rcases h1 with h1 | ⟨_, h2, _⟩
      · rw [h1] at h; cases h
      · exact h2)
    refine key.mono ?_
    rintro e w' ⟨rfl, hb⟩
    have hS : Sto w' g X st := ⟨bm, rs, hR.below hb, hfs⟩
    rcases h1 with h1 | ⟨hd, _, hl2⟩
    · rw [h1]; exact ⟨rfl, hS, Keep.of_below hb⟩
    · rw [hd, hl2]; exact ⟨rfl, hS, Keep.of_below hb⟩
  · rw [hd] at hR
    rw [hd, hl2]
    simp only [Bool.false_eq_true, if_false]
    unfold St.doing
    by_cases hf : st.fuse = 1
    · rw [if_pos hf]
      rw [hf] at hR
      refine (remove_gone g bm X rs st.cap s r w hR hs hl).mono ?_
      rintro e w' ⟨rfl, hR', hk⟩
      exact ⟨rfl, ⟨bm, rs, hR', hfs⟩, hk⟩
    · rw [if_neg hf]
      refine (remove_on g bm X rs st.cap st.fuse s r w hR hs hl hf).mono ?_
      rintro e w' ⟨rfl, hR', hk⟩
      exact ⟨rfl, ⟨bm, _, by rw [hd]; exact hR', by rw [map_delBy (nm := RF.nm) (nm' := Fl.name) (g := RF.fl) (fun _ => rfl), hfs]⟩, hk⟩
theorem trunc_any (n : Int) (h : Sto w g X st) (hs : s.size ≤ 1073741824) : Calls Tryz.prog 87 #[.pointer (some ⟨g, 0, none⟩), .string s, .int .i64 n] w (Done w g X (st.trunc s.data.toList n)) := by
  have hok := h.ok
  obtain ⟨bm, rs, hR, hfs⟩ := h
  unfold St.trunc
  rcases look_cases st hfs s.data.toList with h1 | ⟨r, hd, hl, hl2, hm, hn⟩
  · have key := trunc_not g bm X rs st.cap st.fuse s w n hR hs (fun h => by
      rcases h1 with h1 | ⟨_, h2, _⟩
      · rw [h1] at h; cases h
      · exact h2)
    refine key.mono ?_
    rintro e w' ⟨rfl, hb⟩
    have hS : Sto w' g X st := ⟨bm, rs, hR.below hb, hfs⟩
    rcases h1 with h1 | ⟨hd, _, hl2⟩
    · rw [h1]; exact ⟨rfl, hS, Keep.of_below hb⟩
    · rw [hd, hl2]; exact ⟨rfl, hS, Keep.of_below hb⟩
  · have hR0 := hR
    rw [hd] at hR
    rw [hd, hl2]
    simp only [Bool.false_eq_true, if_false]
    by_cases hn : n < 0 ∨ (r.fl.bs.length : Int) < n
    · rw [if_pos hn]
      refine (trunc_arg g bm X rs st.cap st.fuse s r w n hR hs hl hn).mono ?_
      rintro e w' ⟨rfl, hb⟩
      exact ⟨rfl, ⟨bm, rs, hR0.below hb, hfs⟩, Keep.of_below hb⟩
    · rw [if_neg hn]
      unfold St.doing
      obtain ⟨k, rfl⟩ : ∃ k : Nat, n = (k : Int) := ⟨n.toNat, by omega⟩
      by_cases hf : st.fuse = 1
      · rw [if_pos hf]
        rw [hf] at hR
        refine (trunc_gone g bm X rs st.cap s r w k hR hs hl (by omega) (by omega)).mono ?_
        rintro e w' ⟨rfl, hR', hk⟩
        exact ⟨rfl, ⟨bm, rs, hR', hfs⟩, hk⟩
      · rw [if_neg hf]
        have hok2 := St.Ok.less (Ok.fuse hok (f := st.fuse - 1) (by have := hok.fuse; omega) false) { r.fl with bs := r.fl.bs.take k, safe := min r.fl.safe k } hm rfl (by have := hok.safe r.fl hm; simp; omega) (by simp; omega)
        simp only at hok2
        rw [← hfs] at hok2
        refine (trunc_on g bm X rs st.cap st.fuse s r w k hR hs hl hf (by omega) hok2).mono ?_
        rintro e w' ⟨rfl, hS, hk⟩
        simp only [Int.toNat_natCast]
        rw [hfs] at hS
        refine ⟨rfl, ?_, hk⟩
        rw [hd]
        exact hS
theorem boot_any (B : Option Addr) (ks : List Int) (cb : Nat) (h : Sto w g X st) (hks : Ints w X B ks) (hkl : ks.length ≤ 1073741824) :
    Calls Tryz.prog 27 #[.pointer (some ⟨g, 0, none⟩), .slice B ks.length cb] w (Done w g X (st.boot ks)) := by
  obtain ⟨bm, rs, hR, hfs⟩ := h
  unfold St.boot
  cases hd : st.down with
  | true =>
    rw [hd] at hR
    refine (boot_down g bm X rs st.cap st.fuse B ks cb w hR hks hkl).mono ?_
    rintro e w' ⟨rfl, ⟨rs', hR', hm⟩, hk⟩
    exact ⟨rfl, ⟨bm, rs', hR', by rw [hm, hfs]; rfl⟩, hk⟩
  | false =>
    have hR0 := hR
    rw [hd] at hR
    refine (boot_up g bm X rs st.cap st.fuse _ w hR).mono ?_
    rintro e w' ⟨rfl, rfl⟩
    exact ⟨rfl, ⟨bm, rs, hR0, hfs⟩, Keep.refl _ _⟩
end
end Go.Proofs.YtohnhboeipckjaaGreatDoor
