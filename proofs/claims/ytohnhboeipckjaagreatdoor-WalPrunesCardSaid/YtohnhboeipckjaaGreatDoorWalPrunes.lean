/-
  The statement WalPrunesCardSaid: for every input the law function WalPrunes returns true (behind a roll, and a pruning to its number, the log has just what is appended from then on), and the arguments read afterwards as before.
  Conditions: none beyond the statement's own (the listed tables of the library hold what its text lays).
-/
import Derived.Test.YtohnhboeipckjaaGreatDoorWalLaw
import Derived.Test.YtohnhboeipckjaaGreatDoorWalGrow
import Derived.Test.YtohnhboeipckjaaGreatDoorRecRows
import Derived.IntWalk
import Derived.Deep.QuietTactic
import Derived.BigQuiet
namespace Go.Proofs.YtohnhboeipckjaaGreatDoor.walPrunes
open Go.ChangeShapes Go.WideShapes Go.ChangeAt Go.RowKit
attribute [local go_sem] Oper.semAt_some

/-- where the first loop stands -/
structure GrowAt (w : World) (gl g : Nat) (X : Nat → Prop) (size : Nat) (fs : List Fl) (last i : Nat) (wr : World) : Prop where
  log : Lg wr gl g X ⟨fs, 16000, 0, false⟩ size last
  inv : Grown fs last i
  bel : Below w.heap.size w wr
/-- where the second loop stands -/
structure TailAt (w : World) (gl g : Nat) (X : Nat → Prop) (size n0 : Nat) (bs : List (List UInt8)) (i : Nat) (fs : List Fl) (last : Nat) (wr : World) : Prop where
  log : Lg wr gl g X ⟨fs, 16000, 0, false⟩ size last
  segs : ∃ cs : List (List (List UInt8)), SegAre fs n0 (cs.map catL) ∧ last = n0 + (cs.length - 1) ∧ cs.flatten = bs.take i ∧ cs.length ≤ i
  used : usedF fs ≤ 53 * (12 + i)
  many : fs.length ≤ 12 + i
  bel : Below w.heap.size w wr
theorem TailAt.below {w wr w' : World} {gl g : Nat} {X : Nat → Prop} {size n0 : Nat} {bs : List (List UInt8)} {i : Nat} {fs : List Fl} {last : Nat} (h : TailAt w gl g X size n0 bs i fs last wr) (hb : Below wr.heap.size wr w') : TailAt w gl g X size n0 bs i fs last w' :=
  ⟨h.log.below hb, h.segs, h.used, h.many, h.bel.trans (hb.mono h.bel.size)⟩

/-- behind the pruning no segment is left -/
theorem gone_all {fs : List Fl} (hr : Rise Fl.name fs) {last L : Nat} (hall : ∀ m, okN m → (lookBy Fl.name (segL m) fs).isSome = true → m ≤ last) (hL : L = if (lookBy Fl.name (segL last) fs).isSome = true then last + 1 else last) {fs3 : List Fl}
    (hp : PrunedTo (syncF (segL last) fs) L fs3) : SegAre fs3 L [] := by
  refine ⟨fun k hk => by simp at hk, fun k hk => by simp at hk, fun m hm _ => ?_⟩
  rw [hp.look m hm]
  split
  · rfl
  · rename_i hlt
    cases hl : lookBy Fl.name (segL m) (syncF (segL last) fs) with
    | none => rfl
    | some f =>
      have h1 := is_sync hr (segL last) (segL m)
      rw [hl] at h1
      have h2 := hall m hm h1.symm
      split at hL
      · omega
      · rename_i hno
        obtain rfl : m = last := by omega
        exact absurd h1.symm hno
/-- an opening of whole segments finds them -/
theorem open_ready {fs : List Fl} {n0 : Nat} {cs : List (List (List UInt8))} (h : SegAre fs n0 (cs.map catL)) : ∃ f0, Least fs f0 ∧ Run fs f0 (cs.map catL) ∧ (cs ≠ [] → f0 = n0) := by
  by_cases hc : cs = []
  · subst hc
    have hno : ∀ n, okN n → lookBy Fl.name (segL n) fs = none := fun n hn => h.no n hn (by simp)
    exact ⟨1, .inr ⟨rfl, hno⟩, ⟨fun k hk => by simp at hk, fun k hk => by simp at hk, fun hn => hno _ hn⟩, fun h => absurd rfl h⟩
  · have hp := List.length_pos_iff.2 hc
    obtain ⟨q, hq, _⟩ := con_some (h.con 0 (by simpa using hp))
    have hok := h.ok 0 (by simpa using hp)
    refine ⟨n0, .inl ⟨hok, by rw [Nat.add_zero] at hq; rw [hq]; rfl, fun n hn hs => ?_⟩, h.run, fun _ => rfl⟩
    refine Classical.byContradiction fun hlt => ?_
    rw [h.no n hn (by omega)] at hs
    cases hs

set_option maxHeartbeats 8000000 in
set_option maxRecDepth 1000000 in
theorem walk (a : Nat) (A B : Option Addr) (xs ys : List El) (cp dp : Nat) (w : World) (ha : a < 65536) (hx : ∀ i (hi : i < xs.length), RowAt w w.heap.size A i xs[i]) (hy : ∀ i (hi : i < ys.length), RowAt w w.heap.size B i ys[i])
    (hl : xs.length ≤ 9223372036854775807) (hm : ys.length ≤ 9223372036854775807) (hT : Lib.TabIs Tryz.prog w "internal/strconv.uint64pow10" .u64 Lib.pow10Tab) :
    Calls Tryz.prog 3 #[.int .u16 (a : Int), .slice A xs.length cp, .slice B ys.length dp] w fun e w' => e = .returned (.bool true) ∧ Below w.heap.size w w' := by
  have HA := Lib.hid (walAwake_any w hT)
  have HT := Lib.hid (Tab.of hT)
  clear hT
  by_cases hs : 12 < xs.length
  · go_enter Tryz.func3, Tryz.ntmps3
    go_wp2_with (go_at_call 8; (with_reducible refine HA.out.mono ?_); rintro e W1 ⟨rfl, b1⟩)
    go_ret
    exact ⟨rfl, b1⟩
  by_cases hs2 : 12 < ys.length
  · go_enter Tryz.func3, Tryz.ntmps3
    go_wp2_with (go_at_call 8; (with_reducible refine HA.out.mono ?_); rintro e W1 ⟨rfl, b1⟩)
    go_ret
    exact ⟨rfl, b1⟩
  have HX := Lib.hid hx
  have HY := Lib.hid hy
  clear hx hy
  obtain ⟨bs, hbs⟩ : ∃ bs, bs = ys.map El.l := ⟨_, rfl⟩
  have HBS := Lib.hid hbs
  clear hbs
  go_enter Tryz.func3, Tryz.ntmps3
  go_wp2_with fail
  (with_reducible refine HA.out.mono ?_)
  rintro e W1 ⟨rfl, b1⟩
  have HB1 := Lib.hid b1
  have HN := Lib.hid (new_any 16000 W1 (by omega) (by omega))
  clear HA b1
  go_wp2_with fail
  refine HN.out.mono ?_
  rintro e W2 ⟨rfl, hS2, b2⟩
  obtain ⟨g, hg⟩ : ∃ g, g = W1.heap.size + 1 := ⟨_, rfl⟩
  rw [← hg] at hS2 ⊢
  have HS2 := Lib.hid hS2
  obtain ⟨sz, hsz⟩ : ∃ sz, sz = 1 + a % 300 := ⟨_, rfl⟩
  have HX0 : Hid (∀ i, i < w.heap.size → i < W1.heap.size) := Lib.hid fun i hi => Nat.lt_of_lt_of_le hi HB1.out.size
  have HB2 := Lib.hid (HB1.out.trans (b2.mono HB1.out.size))
  have HO : Hid (∀ z : Int, z = (sz : Int) → Calls Tryz.prog 10 #[.pointer (some ⟨g, 0, none⟩), .int .i64 z] W2 (OpenedIs W2 g (fun i => i < W1.heap.size) ⟨[], 16000, 0, false⟩ sz 1 [])) := Lib.hid (by
    rintro z rfl
    exact open_any g _ ⟨[], 16000, 0, false⟩ sz 1 [] W2 hS2 (HT.out.on (Keep.of_below HB2.out |>.mono fun _ h => h) HX0.out) ⟨rfl, rfl⟩ least_none run_none (by omega) (by omega))
  have hz : (1 : Int) + (a : Int) % 300 = (sz : Int) := by omega
  have HZ := Lib.hid hz
  clear HN hS2 b2 hg hz
  go_wp2_with fail
  refine (HO.out _ HZ.out).mono ?_
  rintro e W3 ⟨gl, v3, xs3, X, fs3, rfl, hgl, hL3, hR3, _, _, hF3, hXX3, hK3⟩
  have hfs3 := fewer_none hF3
  subst hfs3
  have hL3' : Lg W3 gl g X ⟨[], 16000, 0, false⟩ sz 1 := hL3
  obtain ⟨A3, c3, rfl, _⟩ := own_form hR3.own
  have hb12 := HB1.out.size
  have hb2 := HB2.out.size
  have HXX : Hid (∀ i, i < w.heap.size → X i ∧ i ≠ gl) := Lib.hid fun i hi => ⟨hXX3 i (HX0.out i hi), by omega⟩
  have HST : Hid (∃ fs last, GrowAt w gl g X sz fs last 0 W3) := Lib.hid ⟨[], 1, hL3', ⟨by omega, by omega, by simp [usedF], by simp, fun m _ h => by simp [lookBy] at h⟩,
    HB2.out.trans (hK3.below (by omega) (fun i hi => HX0.out i hi))⟩
  have hsz1 : 1 ≤ sz := by omega
  have hsz2 : sz ≤ 1048576 := by omega
  have HTX : Hid (∀ u, Below w.heap.size w u → Tab u (fun i => X i ∧ i ≠ gl)) := Lib.hid fun u hu => HT.out.on (Keep.of_below hu) HXX.out
  clear HO hL3 hL3' hR3 hF3 hXX3 hK3 hgl HS2 HX0 HB2 HB1 hb12 hb2
  go_wp2_with fail
  go_loopw [11] (fun p wr => ∃ i : Nat, p = .int .i64 i ∧ i ≤ xs.length ∧ Hid (∃ fs last, GrowAt w gl g X sz fs last i wr)) (fun p _ => xs.length - (intOf p).toNat)
  case atStart => exact ⟨0, rfl, by omega, HST⟩
  case round =>
    obtain ⟨i, rfl, hi, HG⟩ := hrel
    obtain ⟨fs, last, hG⟩ := HG.out
    have HG := Lib.hid hG
    clear hG HST
    by_cases hlt : i < xs.length
    · obtain ⟨⟨hxl, hxb⟩, b0, o0, rfl, hb0, hc0⟩ := (HX.out i hlt).below HG.out.bel
      generalize xs[i] = x at *
      rw [show x.val = .slice x.A x.l.length x.c from rfl] at hc0
      obtain ⟨n, hn⟩ : ∃ n, n = x.l.length := ⟨_, rfl⟩
      rw [← hn] at hc0 hxl
      have HNL := Lib.hid hn
      clear hn
      by_cases h40 : 40 < n
      · have hbel := HG.out.bel
        clear hxb
        go_wp2
        go_ret
        exact ⟨rfl, hbel⟩
      · have hbs := HG.out.bel.size
        have hri := HG.out.log.sto.ok.rise
        have hlow := HG.out.inv.low
        have htop := HG.out.inv.top
        have hmany := HG.out.inv.many
        have hused := HG.out.inv.used
        obtain ⟨hgn, _⟩ := HG.out.inv.next hri sz (b := x.l) (by rw [← HNL.out]; omega) (by omega)
        have HAP : Hid (Calls Tryz.prog 11 #[.pointer (some ⟨gl, 0, none⟩), .slice x.A n x.c] wr fun e w' => e = .returned (.int .i64 0) ∧ ∃ fs last, GrowAt w gl g X sz fs last (i + 1) w') := Lib.hid (by
          refine (wappend_any gl g X _ sz last x.A x.l x.c n wr HG.out.log (HTX.out _ HG.out.bel) ⟨rfl, rfl⟩ ⟨hlow, by omega⟩ (by omega) hsz1 (hxb.more hbs) HNL.out (by rw [← HNL.out]; omega) (by show _ ≤ 16000 - usedF fs; rw [← HNL.out]; omega) (by show fs.length < 256; omega)).mono ?_
          rintro e w' ⟨rfl, h1, h2⟩
          exact ⟨rfl, _, _, h1, hgn, HG.out.bel.trans ((h2.mono HXX.out).below HG.out.bel.size (fun i hi => hi))⟩)
        clear hri hlow htop hmany hused hgn hxb HG hbs
        go_wp2_with fail
        (with_reducible refine HAP.out.mono ?_)
        rintro e W4 ⟨rfl, hG4⟩
        have HG4 := Lib.hid hG4
        clear HAP hG4
        go_wp2
        go_roundw
        case rel => exact ⟨i + 1, by go_num, by omega, HG4⟩
        case measure => simp [intOf]; omega
    · obtain rfl : i = xs.length := by omega
      have hri : Rise Fl.name fs := HG.out.log.sto.ok.rise
      have hlow := HG.out.inv.low
      have htop := HG.out.inv.top
      obtain ⟨L, hL⟩ : ∃ L, L = if (lookBy Fl.name (segL last) fs).isSome = true then last + 1 else last := ⟨_, rfl⟩
      have hL2 : last ≤ L ∧ L ≤ last + 1 := by rw [hL]; split <;> omega
      have HGA := Lib.hid (fun fs3 (hp : PrunedTo (syncF (segL last) fs) L fs3) => gone_all hri HG.out.inv.all hL hp)
      have hus := used_sync hri (segL last)
      have hused := HG.out.inv.used
      have hmany := HG.out.inv.many
      have HRO := Lib.hid (roll_any gl g X _ sz last L wr HG.out.log ((HTX.out _ HG.out.bel).more fun _ h => h.1) ⟨rfl, rfl⟩ ⟨hlow, by omega⟩ (by omega) hL)
      have HBG := Lib.hid HG.out.bel
      have hu1 : usedF (syncF (segL last) fs) ≤ 53 * 12 := by rw [hus.1]; omega
      have hu2 : (syncF (segL last) fs).length ≤ 12 := by rw [hus.2]; omega
      have hL1 : 1 ≤ L := by omega
      have hL13 : L ≤ 14 := by omega
      clear hL hus hused hmany HG hlow htop hri hL2
      go_wp2_with fail
      (with_reducible refine HRO.out.mono ?_)
      rintro e W4 ⟨rfl, hLG4, hK4⟩
      have hB4 := HBG.out.trans ((hK4.mono HXX.out).below HBG.out.size (fun i hi => hi))
      have HLG4 := Lib.hid hLG4
      have HB4 := Lib.hid hB4
      have HLA := Lib.hid (last_any gl g X _ sz L W4 hLG4)
      have hpn := prune_no gl g X _ sz L (L + 1) W4 hLG4 (by omega)
      rw [show ((L + 1 : Nat) : Int) = (L : Int) + 1 by omega] at hpn
      have HPN := Lib.hid hpn
      have HPY := Lib.hid (prune_ok gl g X _ sz L L W4 hLG4 ((HTX.out _ hB4).more fun _ h => h.1) ⟨rfl, rfl⟩ (Nat.le_refl _))
      clear HRO hLG4 hK4 hB4 hpn HBG
      go_wp2_with fail
      (with_reducible refine HLA.out.mono ?_)
      rintro e W5 ⟨rfl, rfl⟩
      go_wp2_with fail
      (with_reducible refine HPN.out.mono ?_)
      rintro e W5 ⟨rfl, rfl⟩
      go_wp2_with fail
      refine HPY.out.mono ?_
      rintro e W5 ⟨fs5, rfl, hLG5, hP5, hK5⟩
      have hA5 := HGA.out fs5 hP5
      have hB5 := HB4.out.trans ((hK5.mono fun i hi => (HXX.out i hi).1).below HB4.out.size (fun i hi => hi))
      have hri5 : Rise Fl.name fs5 := hLG5.sto.ok.rise
      have hz5 : segBytes fs5 = 0 := by rw [segBytes_are hri5 hA5]; rfl
      have hby : Calls Tryz.prog 15 #[.pointer (some ⟨gl, 0, none⟩)] W5 fun e w' => e = .returned (.int .i64 (segBytes fs5 : Int)) ∧ Below W5.heap.size W5 w' := bytes_any gl g X _ sz L W5 hLG5 ((HTX.out _ hB5).more fun _ h => h.1) ⟨rfl, rfl⟩ (by omega) (fun m hm hsm => by
        have hsm : (lookBy Fl.name (segL m) fs5).isSome = true := hsm
        rw [hA5.no m hm (by simp)] at hsm
        cases hsm)
      rw [hz5] at hby
      have HBY := Lib.hid hby
      have HT5 : Hid (TailAt w gl g X sz L bs 0 fs5 L W5) := Lib.hid ⟨hLG5, ⟨[], hA5, by simp, by simp, by simp⟩, by have h : usedF fs5 ≤ usedF (syncF (segL last) fs) := hP5.fewer.used; omega, by have h : fs5.length ≤ (syncF (segL last) fs).length := hP5.fewer.many; omega, hB5⟩
      clear hLG5 hP5 hK5 hA5 hB5 hri5 hz5 hby HPY HPN HLA HLG4 HB4 hu1 hu2 HGA
      go_wp2_with fail
      refine HBY.out.mono ?_
      rintro e W6 ⟨rfl, b6⟩
      have HT6 := Lib.hid (HT5.out.below b6)
      clear HBY HT5 b6
      go_wp2_with fail
      go_loopw [13, 14] (fun v p wr => ∃ (i : Nat) (s : ByteArray), v = .string s ∧ p = .int .i64 i ∧ i ≤ ys.length ∧ s.size ≤ 53 * i ∧ Hid (s.data.toList = catL (bs.take i)) ∧ Hid (∃ fs last, TailAt w gl g X sz L bs i fs last wr)
        ∧ Hid (∀ p ∈ bs.take i, p.length ≤ 40)) (fun _ p _ => ys.length - (intOf p).toNat)
      case atStart => exact ⟨0, ⟨#[]⟩, rfl, rfl, by omega, by decide, Lib.hid rfl, Lib.hid ⟨_, _, HT6.out⟩, Lib.hid (by simp)⟩
      case round =>
        obtain ⟨i, s, rfl, rfl, hi, hss, HW, HTA, H40⟩ := hrel
        obtain ⟨fs7, last7, hTA⟩ := HTA.out
        have HTA := Lib.hid hTA
        clear hTA HT6
        by_cases hlt2 : i < ys.length
        · obtain ⟨⟨hyl, hyb⟩, b0, o0, rfl, hb0, hc0⟩ := (HY.out i hlt2).below HTA.out.bel
          have HR := HY.out i hlt2
          have hil : i < bs.length := by rw [HBS.out, List.length_map]; exact hlt2
          have hbi : bs[i] = (ys[i]).l := by simp [HBS.out]
          generalize ys[i] = y at *
          rw [show y.val = .slice y.A y.l.length y.c from rfl] at hc0
          have HR := Lib.hid HR
          have HTK : Hid (bs.take (i + 1) = bs.take i ++ [y.l]) := Lib.hid (by rw [List.take_succ_eq_append_getElem hil, hbi])
          obtain ⟨n, hn⟩ : ∃ n, n = y.l.length := ⟨_, rfl⟩
          rw [← hn] at hc0 hyl
          have HNL := Lib.hid hn
          clear hn hbi
          by_cases h40 : 40 < n
          · have hbel := HTA.out.bel
            clear hyb
            go_wp2
            go_ret
            exact ⟨rfl, hbel⟩
          · have hbs := HTA.out.bel.size
            have hri : Rise Fl.name fs7 := HTA.out.log.sto.ok.rise
            have hused := HTA.out.used
            have hmany := HTA.out.many
            obtain ⟨cs, hA7, hl7, hf7, hc7⟩ := HTA.out.segs
            obtain ⟨cs', hA8, hl8, hf8, hc81, hc82⟩ := seg_next hri hA7 hl7 hL1 (by omega) hsz1 y.l
            have hus := used_app (rise_roll sz last7 hri) (segL (lastS sz last7 fs7)) (putL y.l)
            have hur := used_roll sz last7 hri
            have hus : usedF (appS sz last7 fs7 y.l) = usedF fs7 + (putL y.l).length ∧ (appS sz last7 fs7 y.l).length ≤ fs7.length + 1 := by
              unfold appS
              rw [hus.1, hur.1]
              exact ⟨rfl, by have h1 := hus.2; have h2 := hur.2.1; omega⟩
            rw [putL_len, ← HNL.out] at hus
            have HAP : Hid (Calls Tryz.prog 11 #[.pointer (some ⟨gl, 0, none⟩), .slice y.A n y.c] wr fun e w' => e = .returned (.int .i64 0) ∧ TailAt w gl g X sz L bs (i + 1) (appS sz last7 fs7 y.l) (lastS sz last7 fs7) w') := Lib.hid (by
              refine (wappend_any gl g X _ sz last7 y.A y.l y.c n wr HTA.out.log (HTX.out _ HTA.out.bel) ⟨rfl, rfl⟩ ⟨by omega, by omega⟩ (by omega) hsz1 (hyb.more hbs) HNL.out (by rw [← HNL.out]; omega) (by show _ ≤ 16000 - usedF fs7; rw [← HNL.out]; omega) (by show fs7.length < 256; omega)).mono ?_
              rintro e w' ⟨rfl, h1, h2⟩
              exact ⟨rfl, h1, ⟨cs', hA8, hl8, by rw [hf8, hf7, HTK.out], by omega⟩, by omega, by omega, HTA.out.bel.trans ((h2.mono HXX.out).below HTA.out.bel.size (fun i hi => hi))⟩)
            have hcl : ∀ u, Below w.heap.size w u → u.cell? ⟨b0, o0 + i, none⟩ = some (.slice y.A n y.c) := fun u hu => by
              obtain ⟨_, b', o', e0, hb', hc⟩ := HR.out.below hu
              injection e0 with e0
              injection e0 with e1 e2
              subst e1 e2
              rw [hc, HNL.out]
              rfl
            have T3 : ∀ u, Below w.heap.size w u → (convert 31 9 (.slice y.A n y.c)).run Tryz.prog u = .ok (.string ⟨y.l.toArray⟩) u := fun u hu => by
              obtain ⟨⟨_, hb⟩, _⟩ := HR.out.below hu
              have h := Byt.text (P := Tryz.prog) hb 31 5 9 Tryz.underlying31 Tryz.underlying5 Tryz.underlying9 y.c
              rw [← HNL.out] at h
              exact h
            have HCL := Lib.hid hcl
            have HT3 := Lib.hid T3
            clear hri hused hmany hA7 hl7 hf7 hc7 hA8 hl8 hf8 hc81 hc82 hus hur hyb hbs hcl T3
            go_wp2_with fail
            (with_reducible refine HAP.out.mono ?_)
            rintro e W7 ⟨rfl, hT7⟩
            have hc7 := HCL.out W7 hT7.bel
            have ht7 := HT3.out W7 hT7.bel
            have HPU := Lib.hid (refPut_any (str y.l) W7 (by rw [str_size, ← HNL.out]; omega))
            rw [str_list] at HPU
            have HT7 := Lib.hid hT7
            have hql : (str (putL y.l)).size = n + 13 := by rw [str_size, putL_len, HNL.out]
            have HQ : Hid ((str (putL y.l)).data.toList = putL y.l) := Lib.hid (str_list _)
            have HSY : Hid ((⟨y.l.toArray⟩ : ByteArray) = str y.l) := Lib.hid rfl
            rw [HSY.out] at ht7
            generalize str (putL y.l) = q at *
            generalize str y.l = sy at *
            have hcat : ¬ 9223372036854775807 < s.size + q.size := by omega
            clear HAP hT7 HCL HT3
            go_wp2_with (go_at_call 16; (with_reducible refine HPU.out.mono ?_); rintro e W8 ⟨rfl, b8⟩)
            go_roundw
            case rel =>
              refine ⟨i + 1, s ++ q, rfl, by go_num, by omega, by rw [ByteArray.size_append]; omega, Lib.hid ?_, Lib.hid ⟨_, _, HT7.out.below b8⟩, Lib.hid fun p hp => ?_⟩
              · rw [ByteArray.data_append, Array.toList_append, HW.out, HQ.out, HTK.out, catL_append, catL_cons, catL_nil, List.append_nil]
              · rw [HTK.out] at hp
                rcases List.mem_append.1 hp with hp | hp
                · exact H40.out p hp
                · rw [List.mem_singleton.1 hp, ← HNL.out]; omega
            case measure => simp [intOf]; omega
        · obtain rfl : i = ys.length := by omega
          obtain ⟨cs, hA7, hl7, hf7, hc7⟩ := HTA.out.segs
          have htk : bs.take ys.length = bs := List.take_of_length_le (by rw [HBS.out, List.length_map]; exact Nat.le_refl _)
          rw [htk] at hf7
          obtain ⟨f0, hLe, hRu, hf0⟩ := open_ready hA7
          have hsm : ∀ c ∈ cs, ∀ p ∈ c, p.length ≤ 65536 := fun c hc p hp => by
            have h1 : p ∈ cs.flatten := List.mem_flatten.2 ⟨c, hc, hp⟩
            rw [hf7, ← htk] at h1
            have := H40.out p h1
            omega
          have hrc := runC_cat hsm
          have hO := open_any g X ⟨fs7, 16000, 0, false⟩ sz f0 (cs.map catL) wr HTA.out.log.sto ((HTX.out _ HTA.out.bel).more fun _ h => h.1) ⟨rfl, rfl⟩ hLe hRu hsz1 hsz2
          have HO : Hid (∀ z : Int, z = (sz : Int) → Calls Tryz.prog 10 #[.pointer (some ⟨g, 0, none⟩), .int .i64 z] wr (OpenedIs wr g X ⟨fs7, 16000, 0, false⟩ sz f0 (cs.map catL))) := Lib.hid (by
            rintro z rfl
            exact hO)
          have hsz7 : s.size = (catL bs).length := by
            have h := HW.out
            rw [htk] at h
            rw [← h, Array.length_toList]
            rfl
          have HSZ := Lib.hid hsz7
          have HF7 := Lib.hid hf7
          have HRC := Lib.hid hrc
          have HF0 := Lib.hid hf0
          have HL7 := Lib.hid hl7
          have HC7 := Lib.hid hc7
          clear hO hsz7 hf7 hrc hsm hLe hRu hf0 htk hl7 hA7 hc7
          go_wp2_with fail
          refine (HO.out _ HZ.out).mono ?_
          rintro e W8 ⟨gl8, v8, ps, X8, fs8, rfl, _, hL8, hR8, hE8, hA8, hF8, hXX8, hK8⟩
          rw [HRC.out] at hE8 hA8
          rw [HF7.out] at hE8
          have hpl : ps.length = ys.length := by
            have := congrArg List.length hE8
            rw [List.length_map, HBS.out, List.length_map] at this
            exact this
          have hB8 : Below w.heap.size w W8 := HTA.out.bel.trans ((hK8.mono fun i hi => (HXX.out i hi).1).below HTA.out.bel.size (fun i hi => hi))
          have hLg8 : Lg W8 gl g X8 ((⟨fs7, 16000, 0, false⟩ : St).with fs8) sz last7 := ⟨(hK8.block gl HTA.out.log.box.lt HTA.out.log.mine).trans HTA.out.log.box, hXX8 gl HTA.out.log.mine, hL8.sto⟩
          have hT8 : Tab W8 X8 := (HTX.out _ hB8).on (Keep.refl _ _) (fun i hi => hXX8 i hi.1)
          have hri8 : Rise Fl.name fs8 := hLg8.sto.ok.rise
          have hcs : cs.length ≤ 12 := Nat.le_trans HC7.out (by omega)
          have hlst : last7 ≤ 1073741824 := by rw [HL7.out]; omega
          have hby : Calls Tryz.prog 15 #[.pointer (some ⟨gl, 0, none⟩)] W8 fun e w' => e = .returned (.int .i64 (segBytes fs8 : Int)) ∧ Below W8.heap.size W8 w' := bytes_any gl g X8 _ sz last7 W8 hLg8 hT8 ⟨rfl, rfl⟩ hlst (fun m hm hsm => by
            have hsm : (lookBy Fl.name (segL m) fs8).isSome = true := hsm
            refine Classical.byContradiction fun hlt => ?_
            rw [hA8.no m hm (by
              rw [List.length_map]
              by_cases hc : cs = []
              · simp [hc]
              · have := List.length_pos_iff.2 hc
                rw [HF0.out hc]
                have := HL7.out
                omega)] at hsm
            cases hsm)
          rw [segBytes_are hri8 hA8, sum_cat, HF7.out, ← HSZ.out] at hby
          have HBY := Lib.hid hby
          have HB8 := Lib.hid hB8
          obtain ⟨A8, c8, rfl, _⟩ := own_form hR8.own
          have HR8 := Lib.hid hR8
          have HE8 := Lib.hid hE8
          have HPL := Lib.hid hpl
          rw [hpl]
          clear HO hL8 hR8 hE8 hA8 hF8 hXX8 hK8 hpl hB8 hLg8 hT8 hri8 hcs hby hlst
          go_wp2_with fail
          refine HBY.out.mono ?_
          rintro e W9 ⟨rfl, b9⟩
          have hsl := (HR8.out.below b9).sls rfl
          rw [HE8.out] at hsl
          have HSL := Lib.hid hsl
          have HB9 := Lib.hid (HB8.out.trans (b9.mono HB8.out.size))
          clear hsl b9 HBY HB8 HR8
          go_wp2_with fail
          go_loopw [18] (fun p wr => ∃ k j : Nat, p = .int .i64 k ∧ k ≤ ys.length ∧ wr = W9.drewN j) (fun p _ => ys.length - (intOf p).toNat)
          case atStart => exact ⟨0, 0, rfl, by omega, rfl⟩
          case round =>
            obtain ⟨k, j, rfl, hk, rfl⟩ := hrel
            by_cases h8 : k < ys.length
            · have hkb : k < bs.length := by rw [HBS.out, List.length_map]; exact h8
              obtain ⟨g1, o1, A1, c1, rfl, hc1, hb1⟩ := HSL.out k hkb
              obtain ⟨⟨_, hb2⟩, g2, o2, rfl, hg2, hc2⟩ := (HY.out k h8).below HB9.out
              have hbk : (ys[k]).l = bs[k] := by simp [HBS.out]
              rw [show (ys[k]).val = .slice (ys[k]).A (ys[k]).l.length (ys[k]).c from rfl, hbk] at hc2
              rw [hbk] at hb2
              generalize (ys[k]).A = A2 at *
              generalize (ys[k]).c = c2 at *
              have ht := fun n => Byt.text (P := Tryz.prog) (w := (W9.drewN j).drewN n) (B := W9.heap.size) hb1 31 5 9 Tryz.underlying31 Tryz.underlying5 Tryz.underlying9 c1
              have ht2 := fun n => Byt.text (P := Tryz.prog) (w := (W9.drewN j).drewN n) (B := w.heap.size) hb2 31 5 9 Tryz.underlying31 Tryz.underlying5 Tryz.underlying9 c2
              have hc1' : (W9.drewN j).cell? ⟨g1, o1 + k, none⟩ = some (.slice A1 (bs[k]).length c1) := hc1
              have hc2' : (W9.drewN j).cell? ⟨g2, o2 + k, none⟩ = some (.slice A2 (bs[k]).length c2) := hc2
              generalize bs[k] = l at *
              obtain ⟨wr, hwr⟩ : ∃ x, x = W9.drewN j := ⟨_, rfl⟩
              rw [← hwr] at ht ht2 hc1' hc2' ⊢
              have HWR := Lib.hid hwr
              have hne : (l != l) = false := by simp
              clear hwr hb1 hb2 hc1 hc2 hbk
              go_wp2_with fail
              go_quiet (fail)
              go_wp2
              go_roundw
              case rel => exact ⟨k + 1, j + nq, by go_num, by omega, by rw [← World.drewN_drewN, HWR.out]⟩
              case measure => simp [intOf]; omega
            · obtain rfl : k = ys.length := by omega
              go_wp2
              go_ret
              exact ⟨rfl, HB9.out.trans ((drewN_below W9 j).mono HB9.out.size)⟩

set_option maxRecDepth 100000 in
theorem lifted (os : Os) (started : os.Started) (H : Type) (enc : TypeId × Value → H) :
    ReturnsInHanded {} Tryz.checked os 3 .any (fun w args => (Rows.walPrunesSpec.pre enc Tryz.prog Tryz.f3 Rows.walPrunesRow.domain false w args ∧ laidMetH Tryz.prog Rows.walPrunesRow.laid w) ∧ sizedMet enc Tryz.prog Tryz.f3 (OpenSpec.ofChange Rows.walPrunesSpec) false w args)
      (Rows.walPrunesSpec.post enc Tryz.prog Tryz.f3 false true false false) := by
  refine returns_both (C := Tryz.checked) (X := fun w _ => laidMetH Tryz.prog Rows.walPrunesRow.laid w) (fun _ _ _ hh h => h.of_heap hh) own started (by kernel_rfl) Tryz.func3
    (ChangeSpec.witness_shaped (enc := enc) (C := Tryz.checked) (os := os) (X := fun w _ => laidMetH Tryz.prog Rows.walPrunesRow.laid w) false (World.laidAll Tryz.prog os Rows.walPrunesRow.laid) #[.int .u16 0, .slice none 0 0, .slice none 0 0] 8 (World.laidAll_os _ _ _)
      (World.shaped_of_ZipB (by kernel_rfl) (by kernel_rfl)) (by kernel_rfl) (by kernel_rfl) (by kernel_rfl)
      (by rw [MakeChecks.laidMetH_plain _ _ _ (by kernel_rfl)]; exact laidMet_laidAll _ (by kernel_rfl) (by kernel_rfl))) ?_
  intro W base args ds gs before hval0 hW _ hlaid hsh
  have hval : ∀ (j : Nat) t v, Tryz.f3.params[j]? = some t → args[j]? = some v → Value.okWide Tryz.prog W .any base t v := hval0
  have hW' := hW
  obtain ⟨p, q, hA0, hV, rfl, _, _⟩ := hW
  have hA : DataW.TrodAll enc Tryz.prog W 0 (fun _ => true) true Tryz.f3.params.toList args.toList ds p := hA0
  rw [Tryz.params3] at hA hval
  obtain ⟨rfl, rfl⟩ := trodVars_none hV
  obtain ⟨v0, vs0, d0, ds0, p0, q0, hargs, rfl, rfl, h0, r0⟩ := trodAll_cons hA
  obtain ⟨v1, vs1, d1, ds1, p1, q1, rfl, rfl, rfl, h1, r1⟩ := trodAll_cons r0
  obtain ⟨v2, vs2, d2, ds2, p2, q2, rfl, rfl, rfl, h2, r2⟩ := trodAll_cons r1
  obtain ⟨rfl, rfl, rfl⟩ := trodAll_nil r2
  obtain rfl : args = #[v0, v1, v2] := by cases args; simp_all
  obtain ⟨a0, rfl, rfl, rfl, w0⟩ := open_int Tryz.underlying22 (hval 0 22 v0 rfl rfl) h0
  obtain ⟨a1, len1, cap1, rfl⟩ := okWide_slice Tryz.underlying23 (hval 1 23 v1 rfl rfl)
  obtain ⟨a2, len2, cap2, rfl⟩ := okWide_slice Tryz.underlying23 (hval 2 23 v2 rfl rfl)
  clear hA0 hval0
  simp only [List.append_nil, List.nil_append] at hW'
  have hlt1 : ∀ x ∈ p1, x.block < W.heap.size := fun x hx => by simpa using hW'.lt x (by simp [hx])
  have hlt2 : ∀ x ∈ p2, x.block < W.heap.size := fun x hx => by simpa using hW'.lt x (by simp [hx])
  have hw0 := word_wf w0
  obtain ⟨n0, rfl⟩ : ∃ n : Nat, a0 = (n : Int) := ⟨a0.toNat, by omega⟩
  obtain ⟨xs1, rfl, hm1, hx1⟩ := arg_rows h1
  obtain ⟨xs2, rfl, hm2, hx2⟩ := arg_rows h2
  refine (walk n0 a1 a2 xs1 xs2 cap1 cap2 W (by omega) hx1 hx2 hm1 hm2 (tab_of_laid hlaid)).mono fun e W' ⟨he, bel⟩ => ?_
  subst he
  exact ⟨_, rfl, _, _, _, [], _, [], hW', trodAll_mk1 (shut_bool Tryz.underlying4 _), (trodAll_cons_mk (shut_int Tryz.underlying22 w0) (trodAll_cons_mk (Below.trod laidOut (by kernel_rfl) (of_decide_eq_true (by kernel_rfl)) h1 bel hlt1) (trodAll_cons_mk (Below.trod laidOut (by kernel_rfl) (of_decide_eq_true (by kernel_rfl)) h2 bel hlt2) trodAll_mk0))), rfl, bel.frame _, fun h => by cases h⟩

theorem over : Rows.walPrunesRow.holds Tryz.pinned (OpenSpec.ofChange Rows.walPrunesSpec) :=
  OpenClaim.holds_of_wide 3 Tryz.f3 rfl rfl rfl rfl rfl rfl rfl ⟨rfl, rfl, rfl, rfl, rfl⟩ rfl rfl rfl rfl rfl (by kernel_rfl) Tryz.func3 (by kernel_rfl)
    (of_decide_eq_true (by kernel_rfl)) (by unfold Func.isWrapper; first | (rw [if_pos (by decide +kernel)]; kernel_rfl) | (rw [if_neg (by decide +kernel)]; exact ⟨rfl, rfl⟩))
    (fun os started H enc _ => lifted os started H enc)

/-- the statement -/
theorem proved : Rows.WalPrunesCardSaid :=
  Claim7.holds_tied_plain_at .later [] [.data, .data, .data] true Rows.walPrunesCard.stood.harness false over (fun _ h => by cases h) (by kernel_rfl) (fun _ h => by cases h) walPrunes_row_tie rfl ⟨rfl, rfl⟩ (by kernel_rfl) rfl
    (fun f fn hf hfn => by
      obtain rfl : f = 3 := Option.some.inj ((show Tryz.prog.funcNamed Rows.walPrunesRow.func = some 3 by kernel_rfl).symm.trans hf) |>.symm
      obtain rfl : fn = Tryz.f3 := (Option.some.inj (Tryz.func3.symm.trans hfn)).symm
      exact ⟨by kernel_rfl, fun j t ht => by
        rw [Tryz.params3] at ht
        have hm : t ∈ [22, 23, 23] := by simpa using Array.mem_of_getElem? ht
        have hall : ([22, 23, 23].all fun u => !Tryz.prog.wantsStandIn u) = true := by kernel_rfl
        exact (show Tryz.prog.wantsStandIn t = false by simpa using List.all_eq_true.1 hall t hm)⟩)
    (by kernel_rfl)
#print axioms proved
end Go.Proofs.YtohnhboeipckjaaGreatDoor.walPrunes
