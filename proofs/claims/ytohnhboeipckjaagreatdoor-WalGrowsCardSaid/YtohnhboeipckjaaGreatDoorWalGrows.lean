/-
  The statement WalGrowsCardSaid: for every input the law function WalGrows returns true (each payload that is appended makes the log longer by just its record, and its number never falls), and the arguments read afterwards as before.
  Conditions: none beyond the statement's own (the listed tables of the library hold what its text lays).
-/
import Derived.Test.YtohnhboeipckjaaGreatDoorWalLaw
import Derived.Test.YtohnhboeipckjaaGreatDoorWalGrow
import Derived.Test.YtohnhboeipckjaaGreatDoorRecRows
import Derived.IntWalk
namespace Go.Proofs.YtohnhboeipckjaaGreatDoor.walGrows
open Go.ChangeShapes Go.WideShapes Go.ChangeAt Go.RowKit
attribute [local go_sem] Oper.semAt_some

/-- where the loop stands: the files and the number, behind so many appends -/
structure GrowAt (w : World) (gl g : Nat) (X : Nat → Prop) (size : Nat) (fs : List Fl) (last i : Nat) (wr : World) : Prop where
  log : Lg wr gl g X ⟨fs, 16000, 0, false⟩ size last
  inv : Grown fs last i
  bel : Below w.heap.size w wr
theorem GrowAt.below {w wr w' : World} {gl g : Nat} {X : Nat → Prop} {size : Nat} {fs : List Fl} {last i : Nat} (h : GrowAt w gl g X size fs last i wr) (hb : Below wr.heap.size wr w') : GrowAt w gl g X size fs last i w' :=
  ⟨h.log.below hb, h.inv, h.bel.trans (hb.mono h.bel.size)⟩

set_option maxHeartbeats 8000000 in
set_option maxRecDepth 1000000 in
theorem walk (a : Nat) (A : Option Addr) (xs : List El) (cp : Nat) (w : World) (ha : a < 65536) (hx : ∀ i (hi : i < xs.length), RowAt w w.heap.size A i xs[i]) (hl : xs.length ≤ 9223372036854775807) (hT : Lib.TabIs Tryz.prog w "internal/strconv.uint64pow10" .u64 Lib.pow10Tab) :
    Calls Tryz.prog 7 #[.int .u16 (a : Int), .slice A xs.length cp] w fun e w' => e = .returned (.bool true) ∧ Below w.heap.size w w' := by
  have HA := Lib.hid (walAwake_any w hT)
  have HT := Lib.hid (Tab.of hT)
  clear hT
  by_cases hs : 20 < xs.length
  · go_enter Tryz.func7, Tryz.ntmps7
    go_wp2_with (go_at_call 8; (with_reducible refine HA.out.mono ?_); rintro e W1 ⟨rfl, b1⟩)
    go_ret
    exact ⟨rfl, b1⟩
  · have HX := Lib.hid hx
    clear hx
    go_enter Tryz.func7, Tryz.ntmps7
    go_wp2_with fail
    (with_reducible refine HA.out.mono ?_)
    rintro e W1 ⟨rfl, b1⟩
    have HB1 := Lib.hid b1
    have HN := Lib.hid (new_any 16000 W1 (by omega) (by omega))
    clear HA b1
    go_wp2_with fail
    refine HN.out.mono ?_
    rintro e W2 ⟨rfl, hS2, b2⟩
    obtain ⟨g, hg⟩ : ∃ g, g = W1.heap.size + 1 := ⟨_, rfl⟩
    rw [← hg] at hS2 ⊢
    have HS2 := Lib.hid hS2
    obtain ⟨sz, hsz⟩ : ∃ sz, sz = 1 + a % 300 := ⟨_, rfl⟩
    have HX0 : Hid (∀ i, i < w.heap.size → i < W1.heap.size) := Lib.hid fun i hi => Nat.lt_of_lt_of_le hi HB1.out.size
    have HB2 := Lib.hid (HB1.out.trans (b2.mono HB1.out.size))
    have HO : Hid (∀ z : Int, z = (sz : Int) → Calls Tryz.prog 10 #[.pointer (some ⟨g, 0, none⟩), .int .i64 z] W2 (OpenedIs W2 g (fun i => i < W1.heap.size) ⟨[], 16000, 0, false⟩ sz 1 [])) := Lib.hid (by
      rintro z rfl
      exact open_any g _ ⟨[], 16000, 0, false⟩ sz 1 [] W2 hS2 (HT.out.on (Keep.of_below HB2.out |>.mono fun _ h => h) HX0.out) ⟨rfl, rfl⟩ least_none run_none (by omega) (by omega))
    have hz : (1 : Int) + (a : Int) % 300 = (sz : Int) := by omega
    have HZ := Lib.hid hz
    clear HN hS2 b2 hg hz
    go_wp2_with fail
    refine (HO.out _ HZ.out).mono ?_
    rintro e W3 ⟨gl, v3, xs3, X, fs3, rfl, hgl, hL3, hR3, _, _, hF3, hXX3, hK3⟩
    have hfs3 := fewer_none hF3
    subst hfs3
    have hL3' : Lg W3 gl g X ⟨[], 16000, 0, false⟩ sz 1 := hL3
    obtain ⟨A3, c3, rfl, _⟩ := own_form hR3.own
    have hb12 := HB1.out.size
    have hb2 := HB2.out.size
    have HXX : Hid (∀ i, i < w.heap.size → X i ∧ i ≠ gl) := Lib.hid fun i hi => ⟨hXX3 i (HX0.out i hi), by omega⟩
    have HST : Hid (∃ fs last, GrowAt w gl g X sz fs last 0 W3) := Lib.hid ⟨[], 1, hL3', ⟨by omega, by omega, by simp [usedF], by simp, fun m _ h => by simp [lookBy] at h⟩,
      HB2.out.trans (hK3.below (by omega) (fun i hi => HX0.out i hi))⟩
    have hsz1 : 1 ≤ sz := by omega
    clear HO hL3 hL3' hR3 hF3 hXX3 hK3 hgl HS2
    go_wp2_with fail
    go_loopw [8] (fun p wr => ∃ i : Nat, p = .int .i64 i ∧ i ≤ xs.length ∧ Hid (∃ fs last, GrowAt w gl g X sz fs last i wr)) (fun p _ => xs.length - (intOf p).toNat)
    case atStart => exact ⟨0, rfl, by omega, HST⟩
    case round =>
      obtain ⟨i, rfl, hi, HG⟩ := hrel
      obtain ⟨fs, last, hG⟩ := HG.out
      have HG := Lib.hid hG
      clear hG
      by_cases hlt : i < xs.length
      · obtain ⟨⟨hxl, hxb⟩, b0, o0, rfl, hb0, hc0⟩ := (HX.out i hlt).below HG.out.bel
        have HR := HX.out i hlt
        generalize xs[i] = x at *
        rw [show x.val = .slice x.A x.l.length x.c from rfl] at hc0
        have HR := Lib.hid HR
        obtain ⟨n, hn⟩ : ∃ n, n = x.l.length := ⟨_, rfl⟩
        rw [← hn] at hc0 hxl
        have HNL := Lib.hid hn
        clear hn
        by_cases h40 : 40 < n
        · have hbel := HG.out.bel
          clear hxb
          go_wp2
          go_ret
          exact ⟨rfl, hbel⟩
        · have hbs := HG.out.bel.size
          have hTX : ∀ u, Below w.heap.size w u → Tab u (fun i => X i ∧ i ≠ gl) := fun u hu => HT.out.on (Keep.of_below hu) HXX.out
          have hmax : last ≤ 1073741824 := by have := HG.out.inv.top; omega
          have hlast : 1 ≤ last := HG.out.inv.low
          have HBY := Lib.hid (bytes_any gl g X _ sz last wr HG.out.log ((hTX wr HG.out.bel).more fun _ h => h.1) ⟨rfl, rfl⟩ hmax HG.out.inv.all)
          obtain ⟨s0, hs0⟩ : ∃ s0, s0 = segBytes fs := ⟨_, rfl⟩
          simp only [← hs0] at HBY
          have HS0 := Lib.hid hs0
          have hused := HG.out.inv.used
          have hsle := seg_used fs
          have hs0b : s0 ≤ 2000 := by omega
          clear hs0 hused hsle
          go_wp2_with fail
          (with_reducible refine HBY.out.mono ?_)
          rintro e W4 ⟨rfl, b4⟩
          have hG4 := HG.out.below b4
          have HLA := Lib.hid (last_any gl g X _ sz last W4 hG4.log)
          have HG4 := Lib.hid hG4
          clear HBY hG4 b4 HG
          go_wp2_with fail
          (with_reducible refine HLA.out.mono ?_)
          rintro e W5 ⟨rfl, rfl⟩
          have bd := (Below.refl W4.heap.size W4).drew
          have hG5 := HG4.out.below bd
          have hri := hG5.log.sto.ok.rise
          have hmany := hG5.inv.many
          have hused := hG5.inv.used
          obtain ⟨hgn, hsb⟩ := hG5.inv.next hri sz (b := x.l) (by rw [← HNL.out]; omega) (by omega)
          obtain ⟨hl1, hl2⟩ := last_le sz last fs
          obtain ⟨L, hL⟩ : ∃ L, L = lastS sz last fs := ⟨_, rfl⟩
          obtain ⟨fs2, hfs2⟩ : ∃ fs2, fs2 = appS sz last fs x.l := ⟨_, rfl⟩
          rw [← hL] at hl1 hl2 hgn
          rw [← hfs2] at hgn hsb
          rw [← HS0.out] at hsb
          have hby5 : Byt W4.drew W4.drew.heap.size x.A x.l := by
            obtain ⟨⟨_, hb⟩, _⟩ := HR.out.below hG5.bel
            exact hb.more hG5.bel.size
          have HAP : Hid (Calls Tryz.prog 11 #[.pointer (some ⟨gl, 0, none⟩), .slice x.A n x.c] W4.drew fun e w' => e = .returned (.int .i64 0) ∧ GrowAt w gl g X sz fs2 L (i + 1) w') := Lib.hid (by
            refine (wappend_any gl g X _ sz last x.A x.l x.c n W4.drew hG5.log (hTX _ hG5.bel) ⟨rfl, rfl⟩ ⟨hlast, by omega⟩ (by have := hG5.inv.top; omega) hsz1 hby5 HNL.out (by rw [← HNL.out]; omega) (by show _ ≤ 16000 - usedF fs; rw [← HNL.out]; omega) (by show fs.length < 256; omega)).mono ?_
            rintro e w' ⟨rfl, h1, h2⟩
            rw [hL, hfs2]
            refine ⟨rfl, h1, by rw [← hL, ← hfs2]; exact hgn, ?_⟩
            have := h2.mono HXX.out
            exact hG5.bel.trans (this.below hG5.bel.size (fun i hi => hi)))
          have HBY : ∀ u, GrowAt w gl g X sz fs2 L (i + 1) u → Hid (Calls Tryz.prog 15 #[.pointer (some ⟨gl, 0, none⟩)] u fun e w' => e = .returned (.int .i64 ((s0 + (n + 13) : Nat) : Int)) ∧ GrowAt w gl g X sz fs2 L (i + 1) w') := fun u hu => Lib.hid (by
            refine (bytes_any gl g X _ sz L u hu.log ((hTX u hu.bel).more fun _ h => h.1) ⟨rfl, rfl⟩ (by have := hu.inv.top; omega) hu.inv.all).mono ?_
            rintro e w' ⟨rfl, hb⟩
            refine ⟨?_, hu.below hb⟩
            rw [show segBytes (⟨fs2, 16000, 0, false⟩ : St).fs = segBytes fs2 from rfl, hsb, HNL.out])
          have HPU : ∀ u, GrowAt w gl g X sz fs2 L (i + 1) u → Hid (Calls Tryz.prog 16 #[.string ⟨x.l.toArray⟩] u fun e w' => e = .returned (.string ⟨(putL x.l).toArray⟩) ∧ GrowAt w gl g X sz fs2 L (i + 1) w') := fun u hu => Lib.hid (by
            have h := refPut_any (str x.l) u (by rw [str_size, ← HNL.out]; omega)
            rw [str_list] at h
            exact h.mono fun e w' ⟨he, hb⟩ => ⟨he, hu.below hb⟩)
          have HLS : ∀ u, GrowAt w gl g X sz fs2 L (i + 1) u → Hid (Calls Tryz.prog 13 #[.pointer (some ⟨gl, 0, none⟩)] u fun e w' => e = .returned (.int .i64 (L : Int)) ∧ u = w') := fun u hu => Lib.hid (last_any gl g X _ sz L u hu.log)
          have hcl : ∀ u, Below w.heap.size w u → u.cell? ⟨b0, o0 + i, none⟩ = some (.slice x.A n x.c) := fun u hu => by
            obtain ⟨_, b', o', e0, hb', hc⟩ := HR.out.below hu
            injection e0 with e0
            injection e0 with e1 e2
            subst e1 e2
            rw [hc, HNL.out]
            rfl
          have T3 : ∀ u, Below w.heap.size w u → (convert 31 9 (.slice x.A n x.c)).run Tryz.prog u = .ok (.string ⟨x.l.toArray⟩) u := fun u hu => by
            obtain ⟨⟨_, hb⟩, _⟩ := HR.out.below hu
            have h := Byt.text (P := Tryz.prog) hb 31 5 9 Tryz.underlying31 Tryz.underlying5 Tryz.underlying9 x.c
            rw [← HNL.out] at h
            exact h
          have hbd5 := hG5.bel
          obtain ⟨q, hq⟩ : ∃ q, q = putL x.l := ⟨_, rfl⟩
          simp only [← hq] at HPU
          have hql : q.length = n + 13 := by rw [hq, putL_len, HNL.out]
          have hw1 : IntKind.i64.wrap ((s0 : Int) + (q.length : Int)) = (s0 : Int) + (q.length : Int) := IntWalk.i64_in _ (by omega)
          have hw2 : IntKind.i64.wrap ((last : Int) + 1) = (last : Int) + 1 := IntWalk.i64_in _ (by omega)
          have hne1 : (((s0 + (n + 13) : Nat) : Int) != (s0 : Int) + (q.length : Int)) = false := by simp; omega
          have hne2 : decide ((L : Int) < (last : Int)) = false := by simp; omega
          have hne3 : decide ((last : Int) + 1 < (L : Int)) = false := by simp; omega
          have hne4 : decide (L < last) = false := by simp; omega
          have hne5 : decide (last + 1 < L) = false := by simp; omega
          generalize s0 + (n + 13) = s1 at *
          clear hri hmany hused hgn hsb hL hfs2 hby5 hG5 HLA hq hql hl1 hl2 bd HS0 hc0 hxb
          go_wp2_with fail
          go_region_held3 (fun u => Below w.heap.size w u) (first | exact hbd5 | assumption | exact (GrowAt.bel (by assumption)))
            (first
              | (go_at_call 11; (with_reducible refine HAP.out.mono ?_); rintro e w6 ⟨rfl, hG6⟩; have hb6 := hG6.bel)
              | (go_at_call 15; (with_reducible refine (HBY _ hG6).out.mono ?_); rintro e w7 ⟨rfl, hG7⟩; have hb7 := hG7.bel)
              | (go_at_call 16; (with_reducible refine (HPU _ hG7).out.mono ?_); rintro e w8 ⟨rfl, hG8⟩; have hb8 := hG8.bel)
              | (go_at_call 13; (with_reducible refine (HLS _ hG8).out.mono ?_); rintro e w9 ⟨rfl, rfl⟩))
          clear hw1 hw2 hne1 hne2 hne3 hne4 hne5
          go_wp2
          go_roundw
          case rel => exact ⟨i + 1, by go_num, by omega, Lib.hid ⟨fs2, L, hG8⟩⟩
          case measure => simp [intOf]; omega
      · have hbel := HG.out.bel
        go_wp2
        go_ret
        exact ⟨rfl, hbel⟩

set_option maxRecDepth 100000 in
theorem lifted (os : Os) (started : os.Started) (H : Type) (enc : TypeId × Value → H) :
    ReturnsInHanded {} Tryz.checked os 7 .any (fun w args => (Rows.walGrowsSpec.pre enc Tryz.prog Tryz.f7 Rows.walGrowsRow.domain false w args ∧ laidMetH Tryz.prog Rows.walGrowsRow.laid w) ∧ sizedMet enc Tryz.prog Tryz.f7 (OpenSpec.ofChange Rows.walGrowsSpec) false w args)
      (Rows.walGrowsSpec.post enc Tryz.prog Tryz.f7 false true false false) := by
  refine returns_both (C := Tryz.checked) (X := fun w _ => laidMetH Tryz.prog Rows.walGrowsRow.laid w) (fun _ _ _ hh h => h.of_heap hh) own started (by kernel_rfl) Tryz.func7
    (ChangeSpec.witness_shaped (enc := enc) (C := Tryz.checked) (os := os) (X := fun w _ => laidMetH Tryz.prog Rows.walGrowsRow.laid w) false (World.laidAll Tryz.prog os Rows.walGrowsRow.laid) #[.int .u16 0, .slice none 0 0] 8 (World.laidAll_os _ _ _)
      (World.shaped_of_ZipB (by kernel_rfl) (by kernel_rfl)) (by kernel_rfl) (by kernel_rfl) (by kernel_rfl)
      (by rw [MakeChecks.laidMetH_plain _ _ _ (by kernel_rfl)]; exact laidMet_laidAll _ (by kernel_rfl) (by kernel_rfl))) ?_
  intro W base args ds gs before hval0 hW _ hlaid hsh
  have hval : ∀ (j : Nat) t v, Tryz.f7.params[j]? = some t → args[j]? = some v → Value.okWide Tryz.prog W .any base t v := hval0
  have hW' := hW
  obtain ⟨p, q, hA0, hV, rfl, _, _⟩ := hW
  have hA : DataW.TrodAll enc Tryz.prog W 0 (fun _ => true) true Tryz.f7.params.toList args.toList ds p := hA0
  rw [Tryz.params7] at hA hval
  obtain ⟨rfl, rfl⟩ := trodVars_none hV
  obtain ⟨v0, vs0, d0, ds0, p0, q0, hargs, rfl, rfl, h0, r0⟩ := trodAll_cons hA
  obtain ⟨v1, vs1, d1, ds1, p1, q1, rfl, rfl, rfl, h1, r1⟩ := trodAll_cons r0
  obtain ⟨rfl, rfl, rfl⟩ := trodAll_nil r1
  obtain rfl : args = #[v0, v1] := by cases args; simp_all
  obtain ⟨a0, rfl, rfl, rfl, w0⟩ := open_int Tryz.underlying22 (hval 0 22 v0 rfl rfl) h0
  obtain ⟨a1, len, cap, rfl⟩ := okWide_slice Tryz.underlying23 (hval 1 23 v1 rfl rfl)
  clear hA0 hval0
  simp only [List.append_nil, List.nil_append] at hW'
  have hlt : ∀ x ∈ p1, x.block < W.heap.size := fun x hx => by simpa using hW'.lt x (by simp [hx])
  obtain ⟨xs, rfl, hm, hx⟩ := arg_rows h1
  have h16 := word_wf w0
  obtain ⟨n1, rfl⟩ : ∃ n : Nat, a0 = (n : Int) := ⟨a0.toNat, by omega⟩
  refine (walk n1 a1 xs cap W (by omega) hx hm (tab_of_laid hlaid)).mono fun e W' ⟨he, bel⟩ => ?_
  subst he
  exact ⟨_, rfl, _, _, _, [], _, [], hW', trodAll_mk1 (shut_bool Tryz.underlying4 _), (trodAll_cons_mk (shut_int Tryz.underlying22 w0) (trodAll_cons_mk (Below.trod laidOut (by kernel_rfl) (of_decide_eq_true (by kernel_rfl)) h1 bel hlt) trodAll_mk0)), rfl, bel.frame _, fun h => by cases h⟩

theorem over : Rows.walGrowsRow.holds Tryz.pinned (OpenSpec.ofChange Rows.walGrowsSpec) :=
  OpenClaim.holds_of_wide 7 Tryz.f7 rfl rfl rfl rfl rfl rfl rfl ⟨rfl, rfl, rfl, rfl, rfl⟩ rfl rfl rfl rfl rfl (by kernel_rfl) Tryz.func7 (by kernel_rfl)
    (of_decide_eq_true (by kernel_rfl)) (by unfold Func.isWrapper; first | (rw [if_pos (by decide +kernel)]; kernel_rfl) | (rw [if_neg (by decide +kernel)]; exact ⟨rfl, rfl⟩))
    (fun os started H enc _ => lifted os started H enc)

/-- the statement -/
theorem proved : Rows.WalGrowsCardSaid :=
  Claim7.holds_tied_plain_at .later [] [.data, .data, .data] true Rows.walGrowsCard.stood.harness false over (fun _ h => by cases h) (by kernel_rfl) (fun _ h => by cases h) walGrows_row_tie rfl ⟨rfl, rfl⟩ (by kernel_rfl) rfl
    (fun f fn hf hfn => by
      obtain rfl : f = 7 := Option.some.inj ((show Tryz.prog.funcNamed Rows.walGrowsRow.func = some 7 by kernel_rfl).symm.trans hf) |>.symm
      obtain rfl : fn = Tryz.f7 := (Option.some.inj (Tryz.func7.symm.trans hfn)).symm
      exact ⟨by kernel_rfl, fun j t ht => by
        rw [Tryz.params7] at ht
        have hm : t ∈ [22, 23] := by simpa using Array.mem_of_getElem? ht
        have hall : ([22, 23].all fun u => !Tryz.prog.wantsStandIn u) = true := by kernel_rfl
        exact (show Tryz.prog.wantsStandIn t = false by simpa using List.all_eq_true.1 hall t hm)⟩)
    (by kernel_rfl)
#print axioms proved
end Go.Proofs.YtohnhboeipckjaaGreatDoor.walGrows
