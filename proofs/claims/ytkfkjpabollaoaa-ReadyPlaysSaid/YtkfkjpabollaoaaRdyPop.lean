/-
  What the heap's Pop does to a queue: the last of its row goes.
  Conditions: the queue is one; its row is not empty.
-/
import Derived.Test.YtkfkjpabollaoaaRdyMap
namespace Go.Proofs.Ytkfkjpabollaoaa
open Go.RowKit Go.Sort

section
variable {w : World} {g bm : Nat} {X : Nat → Prop} {v : Value} {d : List En} {ms : List (Nat × Nat)} {cap age last : Nat}
theorem nth_take {d : List En} {n k : Nat} (hk : k < n) (hn : n ≤ d.length) : nth (d.take n) k = nth d k := by
  rw [nth_get (by simp; omega), nth_get (by omega)]
  simp
theorem sizeOfP : ∀ w, (Go.sizeOf 58).run Try.prog w = .ok 1 w := fun w => by
  obtain ⟨i0, hi0, _, hz1, _⟩ := info_parts infoE
  simp [Go.sizeOf, typeInfo, hi0, hz1]
theorem Raw.popped {r c n : Nat} (h : Raw w g X bm (.slice (some ⟨r, 0, none⟩) (n + 1) c) d ms cap age last) (hn : d.length = n + 1) :
    Raw ((w.setCell ⟨r, n, none⟩ (.pointer none)).setCell ⟨g, 3, none⟩ (.slice (some ⟨r, 0, none⟩) n c)) g X bm (.slice (some ⟨r, 0, none⟩) n c) (d.take n) ms cap age last ∧
    Box ((w.setCell ⟨r, n, none⟩ (.pointer none)).setCell ⟨g, 3, none⟩ (.slice (some ⟨r, 0, none⟩) n c)) (nth d n).b 60 ((nth d n).cells n) ∧
    Keep X w ((w.setCell ⟨r, n, none⟩ (.pointer none)).setCell ⟨g, 3, none⟩ (.slice (some ⟨r, 0, none⟩) n c)) := by
  have hgr : g ≠ r := fun e => h.rg (by rw [e]; rfl)
  have hmr : bm ≠ r := fun e => h.rm (by rw [e]; rfl)
  have her : ∀ k, k < d.length → (nth d k).b ≠ r := fun k hk e => h.er (nth_mem hk) (by rw [e]; rfl)
  have heg : ∀ k, k < d.length → (nth d k).b ≠ g := fun k hk => h.eg (nth_mem hk)
  have htl : (d.take n).length = n := by simp; omega
  have hxr := h.xr r rfl
  refine ⟨⟨?_, ?_, ?_, ?_, ?_, h.xg, h.xm, ?_, ?_, ?_⟩, ?_, ?_⟩
  · exact (h.box.far (p := ⟨r, n, none⟩) hgr _).put 3 _
  · rw [htl]
    have h0 := h.row
    rw [hn] at h0
    have h1 := ((h0.stored n (.pointer none)).1).kept (setCell_only _ g 3 (.slice (some ⟨r, 0, none⟩) n c)) (.inr (by simp only [Value.ownBlock, ne_eq, Option.some.injEq]; exact hgr.symm))
    obtain ⟨e1, h2⟩ := h1
    refine ⟨by simp; omega, .inr ?_⟩
    rcases h2 with ⟨hf, _⟩ | ⟨q, c', cur, hv, hq, hh, hc, hm, hs, ht⟩
    · cases hf
    · simp only [Value.slice.injEq, Option.some.injEq, Addr.mk.injEq, and_true, true_and] at hv
      obtain ⟨rfl, rfl⟩ := hv
      refine ⟨r, c, cur, rfl, hq, hh, by omega, hm, hs, ?_⟩
      have : cur.toList.take (n * 1) = (cur.toList.take ((n + 1) * 1)).take n := by rw [List.take_take]; congr 1; omega
      rw [this, ht, List.take_set_of_le (Nat.le_refl n), List.map_take]
  · intro k hk
    rw [htl] at hk
    rw [nth_take hk (by omega)]
    exact ((h.ens k (by omega)).far (p := ⟨r, n, none⟩) (her k (by omega)) _).far (p := ⟨g, 3, none⟩) (heg k (by omega)) _
  · rw [List.map_take]
    exact h.nd.sublist (List.take_sublist _ _)
  · obtain ⟨es, h1, h2⟩ := h.map
    exact ⟨es, (h1.kept (setCell_only _ _ _ _) (by simpa using hmr)).kept (setCell_only _ _ _ _) (by simpa using h.gm.symm), h2⟩
  · exact fun i hi => h.xr i hi
  · exact fun e he => h.xe e (List.mem_of_mem_take he)
  · intro i hx
    have := h.xlt i hx
    simpa [World.setCell] using this
  · exact ((h.ens n (by omega)).far (p := ⟨r, n, none⟩) (her n (by omega)) _).far (p := ⟨g, 3, none⟩) (heg n (by omega)) _
  · exact ((Keep.refl X w).setCell hxr _ _).setCell h.xg _ _

set_option maxHeartbeats 1000000 in
set_option maxRecDepth 100000 in
theorem hpop_any {r c n : Nat} (h : Raw w g X bm (.slice (some ⟨r, 0, none⟩) (n + 1) c) d ms cap age last) (hn : d.length = n + 1) (hs : n ≤ 1099511627776) :
    Calls Try.prog 68 #[.pointer (some ⟨g, 3, none⟩)] w fun E w' => E = .returned (.iface 58 (ptr (nth d n).b)) ∧ Turned w g X bm (.slice (some ⟨r, 0, none⟩) n c) (d.take n) ms cap age last w' ∧ Box w' (nth d n).b 60 ((nth d n).cells n) := by
  obtain ⟨hR, hB, hK⟩ := h.popped hn
  have h' := h
  rw [← hn] at h'
  have m3 := h.v3
  have f3 := h.box.frozen 3
  have cn : w.cell? ⟨r, n, none⟩ = some (.pointer (some ⟨(nth d n).b, 0, none⟩)) := h'.cellv rfl (by omega)
  have fn := h'.frozenr rfl n
  have hgr : g ≠ r := fun e => h.rg (by rw [e]; rfl)
  have hc : n + 1 ≤ c := by
    obtain ⟨A, c1, e, h1⟩ := h.form
    simp only [Value.slice.injEq] at e
    omega
  have hcut := fun w => run_cut_to (P := Try.prog) w 55 58 Try.underlying55 sizeOfP (some ⟨r, 0, none⟩) (n + 1) c (n : Int) (by omega) (by omega)
  simp only [Int.toNat_natCast] at hcut
  have HR := Lib.hid hR
  have HB := Lib.hid hB
  have HK := Lib.hid hK
  unfold ptr
  generalize (nth d n).b = b at cn HB ⊢
  generalize (nth d n).cells n = cs at HB ⊢
  clear h h' hR hB hK hn
  go_enter Try.func68, Try.ntmps68
  go_wp2
  go_ret
  exact ⟨rfl, ⟨HR.out, HK.out⟩, HB.out⟩
end
end Go.Proofs.Ytkfkjpabollaoaa
