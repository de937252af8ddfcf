/- lathekeep: Pieces. -/
import Derived.Test.YtlobegpjenabaaaGreatDoorL37
import Derived.Test.YtlobegpjenabaaaGreatDoorL31
import Derived.Test.YtlobegpjenabaaaGreatDoorL32
namespace Go.Proofs.YtlobegpjenabaaaGreatDoor
open Go.RowKit
set_option linter.unusedSimpArgs false
set_option linter.unusedVariables false

/-- (+ 1 (* 2 3)) -/
def SixT : List UInt8 := [40, 43, 32, 49, 32, 40, 42, 32, 50, 32, 51, 41, 41]
def SixE : List E := [.apply [.var [43], .const (num 1), .apply [.var [42], .const (num 2), .const (num 3)]]]
set_option maxRecDepth 100000 in
theorem comp_Six : compE SixT = some SixE := by kernel_rfl
set_option maxRecDepth 100000 in
theorem says_Six : Says SixT 5000 [55] [] :=
  says_of' (N := 8001) (st := codeS SixE) ⟨by kernel_rfl, ⟨SixE, comp_Six, rfl⟩, (comp_any SixT SixE comp_Six).1⟩ [.int 1, .int 2, .int 3] (by kernel_rfl) 200 (by kernel_rfl)
/-- One machine more: the others stand as they stood. -/
theorem MW.more {B K K' : Nat} {w w' : World} {X X' : Nat → Prop} {o o' : Nat → Option Nat} {M M' b : Nat} {C : Cd} {r r' : RR} (h : MW B K w X o M b C r) (hg : Gw X (fun _ => none) w X' o' w') (hm : MW B K' w' X' o' M' b C r') : MW B K w' X' o M b C r ∧ Apart o o' := by
  refine ⟨h.other hg (fun k hk => absurd rfl hk) (fun k t e => by cases e) hm.own.2, fun k hk => ?_⟩
  cases e : o k with
  | none => exact absurd e hk
  | some t =>
    obtain ⟨_, c, T, hc, _⟩ := h.own.2 k (h.own.1 k t e)
    exact hg.o2 k (lt_of_some hc) rfl
/-- At a round's head. -/
def PcRel (w : World) (z : BS) (vs : List V) (Ka Kb Ko La Ma Lb Mb Lo Mo b : Nat) (n sum : Nat) (wr : World) : Prop :=
  ∃ ra ro X oa ob oo, Tri w.heap.size Ka Kb Ko La Ma Lb Mb Lo Mo b (cdOf z vs) ra (.run (startS (cdOf z vs))) ro X oa ob oo wr ∧ Stands z vs ra ∧ Stands z vs ro ∧ sum ≤ 99 * n ∧ (n = 0 → sum = 0 ∧ ra = .run (startS (cdOf z vs))) ∧ (n ≠ 0 → Reach (cdOf z vs) (startS (cdOf z vs)) sum ra) ∧ Below w.heap.size w wr
/-- Behind the last piece: the two machines stand alike. -/
theorem Tri.alike {B Ka Kb Ko La Ma Lb Mb Lo Mo b : Nat} {z : BS} {vs : List V} {r ro : RR} {X : Nat → Prop} {oa ob oo : Nat → Option Nat} {w : World} (h : Tri B Ka Kb Ko La Ma Lb Mb Lo Mo b (cdOf z vs) r r ro X oa ob oo w) (hS : Stands z vs r) : Calls Tryz.prog 31 #[.pointer (some ⟨La, 0, none⟩), .pointer (some ⟨Lb, 0, none⟩)] w (RckP w) :=
  same_go w La Lb _ _ _ _ _ (h.ma.seen hS h.la) (h.mb.seen hS h.lb) h.ma.outl
theorem vSt_run {r : RR} {m k : Nat} (h : ∀ s', r = .run s' → m = k) : (vSt r = 0 ∧ m = k) ∨ vSt r = 1 ∨ vSt r = 2 := by
  cases r with
  | run s => exact .inl ⟨rfl, h s rfl⟩
  | done t o => exact .inr (.inl rfl)
  | err e d o => exact .inr (.inr rfl)
set_option maxRecDepth 100000 in
set_option maxHeartbeats 8000000 in
theorem Pieces_go (s : ByteArray) (hs : s.size ≤ maxLen) (a : Option Addr) (cap : Nat) (l : List Int) (hm : l.length ≤ maxLen) (w : World) (he : Env w) (hT : ErrT w) (h : IntsAt w a l) :
    Calls Tryz.prog 10 #[.string s, .slice a l.length cap] w (RckP w) := by
  have HE := hide he
  have HET := hide hT
  have HIN := hide h
  unfold maxLen at hm
  clear he hT h
  go_enter Tryz.func10, Tryz.ntmps10
  go_wp2_with fail
  refine (is_says says_Six (by rfl) (by rfl) w HE.out).mono ?_
  rintro e w1 ⟨rfl, hb1⟩
  have HB1 := hide hb1
  clear hb1
  go_wp2_with fail
  refine (compile_any s hs w1 (HE.out.below HB1.out).mx).mono ?_
  rintro e w2 ⟨v, he, h1, hb2, hh⟩
  obtain ⟨q1, hq1⟩ : ∃ q, q = (compS s.data.toList).1 := ⟨_, rfl⟩
  obtain ⟨q2, hq2⟩ : ∃ q, q = (compS s.data.toList).2 := ⟨_, rfl⟩
  rw [← hq1] at h1 he
  rw [← hq2] at he
  have HB2 := hide (HB1.out.trans (hb2.mono HB1.out.size))
  subst he
  clear hq1 hq2
  cases v with
  | none =>
    have hne : ¬ q1 = 0 := by
      intro e0
      subst e0
      cases h1
    have HNE := hide (show (q1 != 0) = true from by simp [hne])
    clear h1 hh hb2
    go_wp2
    go_ret
    refine ⟨?_, HB2.out⟩
    show Ending.returned (.bool (q1 != 0)) = .returned (.bool true)
    rw [HNE.out]
  | some ad =>
    have hq : q1 = 0 := by
      have : (q1 == 0) = true := h1.symm
      simpa using this
    subst hq
    obtain ⟨B, Cb, ks, rfl, hk, hB, b, hC, hBC, hBd⟩ := hh ad rfl
    obtain ⟨hcd, hwf, hwt, hsz⟩ := comp_any _ ks hk
    obtain ⟨vs, hd, hcode⟩ := code_of (X := fun _ => False) hBd hcd (fun _ _ _ h => h)
    obtain ⟨hinv, hfa, hba⟩ := code_at ks hwf (by omega)
    obtain ⟨xs, _, hfx⟩ := forms_x hd hba ks 0 hwf hfa
    have HST := hide (stands_start hinv hfx)
    have hlen : (codeS ks).is.length ≤ 1000000 ∧ (codeS ks).ns.length < 1000000 := by
      have : (codeS ks).is.length + (codeS ks).cs.length + (codeS ks).ns.length + (codeS ks).ls.length ≤ 100000 := hsz
      omega
    have HGO := hide (fun r hr n => stands_go (vs := vs) hinv hlen r hr n)
    have hz2 := HB2.out.size
    have htb : Tab w.heap.size w2 := HE.out.tb.below HB2.out
    have HS := hide (start_go w2 w.heap.size b Cb (fun _ => False) (cdOf (codeS ks) vs) hC hcode (fun _ h => h.elim) htb hz2)
    have HC := hide hC
    obtain ⟨z, hz⟩ : ∃ z, z = codeS ks := ⟨_, rfl⟩
    rw [← hz] at HST HGO HS
    clear h1 hh hb2 hk hB hBC hBd hcd hwf hwt hsz hd hcode hinv hfa hba hfx hlen htb hC hz
    go_wp2_with fail
    refine HS.out.mono ?_
    rintro e w3 ⟨La, X3, oa, rfl, hLa, hLM3, hMR3, hG3⟩
    have hC3 := (hG3.upd.block Cb (lt_of_some HC.out) (fun h => h rfl)).trans HC.out
    have hz3 := hG3.upd.size
    have HS4 := hide (start_go w3 w.heap.size b Cb X3 (cdOf z vs) hC3 hMR3.code.up hMR3.own.2 hMR3.tab (by omega))
    have HC3 := hide hC3
    have HM3 : Hid (MW w.heap.size w2.heap.size w3 X3 oa w2.heap.size b (cdOf z vs) (.run (startS (cdOf z vs)))) := hMR3
    have HL3 := hide hLM3
    have HB3 := hide (show Below w.heap.size w w3 from HB2.out.trans ((hG3.upd.below (Nat.le_refl _) (fun k hk => absurd rfl hk)).mono hz2))
    clear hLa hLM3 hMR3 hG3 hC3 HS HC
    go_wp2_with fail
    refine HS4.out.mono ?_
    rintro e w4 ⟨Lb, X4, ob, rfl, hLb, hLM4, hMR4, hG4⟩
    have hC4 := (hG4.upd.block Cb (lt_of_some HC3.out) (fun h => h rfl)).trans HC3.out
    have hz4 := hG4.upd.size
    have HS5 := hide (start_go w4 w.heap.size b Cb X4 (cdOf z vs) hC4 hMR4.code.up hMR4.own.2 hMR4.tab (by omega))
    have HM4 : Hid (MW w.heap.size w3.heap.size w4 X4 ob w3.heap.size b (cdOf z vs) (.run (startS (cdOf z vs)))) := hMR4
    have HA4 := hide (HM3.out.more hG4 HM4.out)
    have HL4 := hide (And.intro ((hG4.upd.block La (lt_of_some HL3.out) (fun h => h rfl)).trans HL3.out) hLM4)
    have HB4 := hide (show Below w.heap.size w w4 from HB3.out.trans ((hG4.upd.below (Nat.le_refl _) (fun k hk => absurd rfl hk)).mono (by omega)))
    clear hLb hLM4 hMR4 hG4 hC4 HS4 HC3 HM3 HL3
    go_wp2_with fail
    refine HS5.out.mono ?_
    rintro e w5 ⟨Lo, X5, oo, rfl, hLo, hLM5, hMR5, hG5⟩
    have hz5 := hG5.upd.size
    have HR0 : Hid (PcRel w z vs w2.heap.size w3.heap.size w4.heap.size La w2.heap.size Lb w3.heap.size Lo w4.heap.size b 0 0 w5) := by
      have hm5 : MW w.heap.size w4.heap.size w5 X5 oo w4.heap.size b (cdOf z vs) (.run (startS (cdOf z vs))) := hMR5
      obtain ⟨p1, p2⟩ := HA4.out.1.more hG5 hm5
      obtain ⟨p3, p4⟩ := HM4.out.more hG5 hm5
      exact ⟨_, _, X5, oa, ob, oo, ⟨p1, p3, hm5, HA4.out.2, p2, p4, (hG5.upd.block La (lt_of_some HL4.out.1) (fun h => h rfl)).trans HL4.out.1, (hG5.upd.block Lb (lt_of_some HL4.out.2) (fun h => h rfl)).trans HL4.out.2, hLM5⟩, HST.out, HST.out, Nat.le_refl _, fun _ => ⟨rfl, rfl⟩, fun h => absurd rfl h, HB4.out.trans ((hG5.upd.below (Nat.le_refl _) (fun k hk => absurd rfl hk)).mono (by omega))⟩
    obtain ⟨Ma, hMa⟩ : ∃ n, n = w2.heap.size := ⟨_, rfl⟩
    obtain ⟨Mb, hMb⟩ : ∃ n, n = w3.heap.size := ⟨_, rfl⟩
    obtain ⟨Mo, hMo⟩ : ∃ n, n = w4.heap.size := ⟨_, rfl⟩
    rw [← hMa, ← hMb, ← hMo] at HR0
    clear hLo hLM5 hMR5 hG5 HS5 HM4 HA4 HL4 hMa hMb hMo HB1 HB2 HB3 HB4
    go_wp2
    go_loopw [4, 12, 13, 14, 15, 16, 17] (fun r su i u1 u2 u3 u4 wr => ∃ n sum : Nat, n ≤ l.length ∧ n ≤ 20 ∧ i = .int .i64 n ∧ su = .int .i64 sum ∧ PcRel w z vs Ma Mb Mo La Ma Lb Mb Lo Mo b n sum wr) (fun _ _ i _ _ _ _ _ => 20 - (intOf i).toNat)
    case atStart => exact ⟨0, 0, Nat.zero_le _, Nat.zero_le _, rfl, rfl, HR0.out⟩
    case round =>
      clear HR0
      obtain ⟨n, sum, hn, hn20, rfl, rfl, ra, ro, X, oa, ob, oo, htri, hsa, hso, hsum, hn0, hn1, hb⟩ := hrel
      have hbz := hb.size
      have HB := hide hb
      have hTr : ErrT wr := HET.out.below hb HET.out.lt
      have HTB := hide HET.out.lt
      by_cases hlt : n < l.length
      · by_cases h20 : n < 20
        · obtain ⟨g, off, rfl, hg, hc⟩ := (HIN.out.below hb).1 n hlt
          have hrk := HIN.out.2 l[n] (List.getElem_mem hlt)
          obtain ⟨v, hv⟩ : ∃ v, v = l[n] := ⟨_, rfl⟩
          rw [← hv] at hc hrk
          have HP1 := hide (pick_100 wr v hrk)
          obtain ⟨k, hk⟩ : ∃ k : Nat, pickS v 100 = (k : Int) := ⟨(pickS v 100).toNat, by have := (pickS_in v 100 (by omega)).1; omega⟩
          have hk9 : k < 100 := by have := (pickS_in v 100 (by omega)).2; omega
          rw [hk] at HP1
          obtain ⟨m, r', hgo, hS', hmk, hrun⟩ := HGO.out ra hsa k
          have HRUN := hide (ran_go htri.ma hTr HTB.out htri.la (by omega) hgo)
          have HREL := hide (show (n ≠ 0 → Reach (cdOf z vs) (startS (cdOf z vs)) (sum + m) r') ∧ (n = 0 → Reach (cdOf z vs) (startS (cdOf z vs)) (sum + m) r') from ⟨fun h => reach_next (hn1 h) hgo, fun h => by obtain ⟨rfl, rfl⟩ := hn0 h; rw [Nat.zero_add]; exact reach_first hgo⟩)
          have HTRI := hide htri
          have HSA := hide hS'
          have HSO := hide hso
          have hst := vSt_run hrun
          have hi1 : (n : Int) < (l.length : Int) := by omega
          have hi2 : (n : Int) < 20 := by omega
          clear hgo hS' hrun htri hsa hso hn0 hn1 hb hv hk hTr
          go_wp2_with fail
          refine HP1.out.mono ?_
          rintro e w' ⟨rfl, hw'⟩
          obtain rfl : wr = w' := hw'.symm
          clear hw' HP1
          go_wp2_with fail
          refine HRUN.out.mono ?_
          rintro e v1 ⟨_, _, rfl, rfl, rfl, X1, oa1, hm1, hg1⟩
          have hbv1 := HTRI.out.ma.bel hg1
          have HT1 := hide (HTRI.out.one hm1 hg1)
          have hv1z := hbv1.size
          have HBV1 := hide (HB.out.trans hbv1)
          have c1 : v1.cell? ⟨g, off + n, none⟩ = some (.int .i64 v) := by
            obtain ⟨g', off', e1, e2, e3⟩ := HIN.out.1 n hlt
            cases e1
            have hc0 := (HB.out.cell (p := ⟨g, off + n, none⟩) e2).symm.trans hc
            rw [HBV1.out.cell (p := ⟨g, off + n, none⟩) e2]; exact hc0
          clear hm1 hg1 hbv1 HRUN HTRI hc
          have HP2 := hide (pick_7 v1 v hrk)
          obtain ⟨k7, hk7⟩ : ∃ k : Nat, pickS v 7 = (k : Int) := ⟨(pickS v 7).toNat, by have := (pickS_in v 7 (by omega)).1; omega⟩
          have hk79 : k7 < 7 := by have := (pickS_in v 7 (by omega)).2; omega
          rw [hk7] at HP2
          clear hk7
          obtain ⟨m7, r7, hgo7, hS7, hmk7, _⟩ := HGO.out ro HSO.out k7
          have HRUN2 := hide (ran_go HT1.out.mo (HET.out.below HBV1.out HET.out.lt) HTB.out HT1.out.lo (by omega) hgo7)
          have HSO7 := hide hS7
          clear hgo7 hS7 HSO
          go_wp2_with fail
          refine HP2.out.mono ?_
          rintro e w' ⟨rfl, hw'⟩
          obtain rfl : v1 = w' := hw'.symm
          clear hw' HP2
          go_wp2_with fail
          refine HRUN2.out.mono ?_
          rintro e v2 ⟨_, _, rfl, rfl, rfl, X2, oo2, hm2, hg2⟩
          have hbv2 := HT1.out.mo.bel hg2
          have HT2 := hide ((HT1.out.rot.one hm2 hg2).rot.rot)
          have HBV2 := hide (HBV1.out.trans hbv2)
          have hv2z := hbv2.size
          have HLK := hide (looks_go HT2.out.ma HSA.out HT2.out.la)
          clear hm2 hg2 hbv2 HRUN2 HT1 c1
          obtain ⟨st, hst'⟩ : ∃ q, q = vSt r' := ⟨_, rfl⟩
          obtain ⟨er, her'⟩ : ∃ q, q = vEr r' := ⟨_, rfl⟩
          obtain ⟨de, hde'⟩ : ∃ q, q = vDe r' := ⟨_, rfl⟩
          obtain ⟨va, hva'⟩ : ∃ q, q = vVa r' := ⟨_, rfl⟩
          rw [← hst', ← her', ← hde', ← hva'] at HLK
          rw [← hst'] at hst
          clear hst' her' hde' hva'
          have hmi : (m : Int) ≤ (k : Int) := by omega
          have HFIN : Hid (∀ v4 : World, Below v2.heap.size v2 v4 → PcRel w z vs Ma Mb Mo La Ma Lb Mb Lo Mo b (n + 1) (sum + m) v4) := fun v4 hb4 =>
            ⟨r', r7, X2, _, _, _, HT2.out.below hb4, HSA.out, HSO7.out, by omega, fun h => by omega, fun _ => by
              by_cases hz : n = 0
              · exact HREL.out.2 hz
              · exact HREL.out.1 hz, HBV2.out.trans (hb4.mono (by omega))⟩
          clear HT2 HSA HSO7 HREL HB HBV1
          go_wp2_with fail
          refine HLK.out.mono ?_
          rintro e v3 ⟨he, hb3⟩
          unfold lookV at he
          subst he
          have HB3 := hide hb3
          have hz3' := hb3.size
          clear hb3 HLK
          rcases hst with ⟨rfl, rfl⟩ | rfl | rfl
          all_goals
            go_wp2
            go_roundw
            case rel => exact ⟨n + 1, sum + m, by omega, by omega, by first | rfl | (congr 1; omega), by first | rfl | (congr 1; omega), HFIN.out _ (HB3.out.alloc hz3' _)⟩
            case measure => simp [intOf]; omega
        · have hn2 : n = 20 := by omega
          subst hn2
          obtain ⟨F, hF⟩ := hn1 (by omega)
          have HRUN := hide (ran_go (n := sum) (m := sum) (r' := ra) htri.mb hTr HTB.out htri.lb (by omega) ⟨F, hF⟩)
          have HTRI := hide htri
          have HSA := hide hsa
          have hl2 : (20 : Int) < (l.length : Int) := by omega
          have hl0 : ¬ (l.length : Int) = 0 := by omega
          clear hn0 hn1 htri hsa hso hF hb hTr
          go_wp2_with fail
          refine HRUN.out.mono ?_
          rintro e v1 ⟨_, _, rfl, rfl, rfl, X1, ob1, hm1, hg1⟩
          have hbv1 := HTRI.out.mb.bel hg1
          have HSAM := hide ((HTRI.out.swap.one hm1 hg1).swap.alike HSA.out)
          have HBV1 := hide (HB.out.trans hbv1)
          clear hm1 hg1 hbv1 HRUN HTRI
          go_wp2_with fail
          refine HSAM.out.mono ?_
          rintro e v2 ⟨rfl, hb2⟩
          have HFI := hide (HBV1.out.trans (hb2.mono HBV1.out.size))
          clear hb2
          go_wp2
          go_ret
          exact ⟨rfl, HFI.out⟩
      · have hnl : n = l.length := by omega
        by_cases h0 : l.length = 0
        · obtain ⟨rfl, rfl⟩ := hn0 (by omega)
          obtain ⟨m, r', hgo, hS', hmk, _⟩ := HGO.out _ HST.out 0
          obtain rfl : m = 0 := by omega
          have HRUN := hide (ran_go (n := 0) htri.mb hTr HTB.out htri.lb (by omega) hgo)
          have HGO0 := hide hgo
          have HTRI := hide htri
          have HSA := hide hS'
          have hnl2 : ¬ ((n : Int) < (l.length : Int)) := by omega
          have hl0 : (l.length : Int) = 0 := by omega
          clear hn0 hn1 htri hsa hso hgo hS' hb hTr
          go_wp2_with fail
          refine HRUN.out.mono ?_
          rintro e v1 ⟨_, _, rfl, rfl, rfl, X1, ob1, hm1, hg1⟩
          have hbv1 := HTRI.out.mb.bel hg1
          have HT1 := hide (HTRI.out.swap.one hm1 hg1).swap
          have HBV1 := hide (HB.out.trans hbv1)
          have HRUN2 := hide (ran_go (n := 0) HT1.out.ma (HET.out.below HBV1.out HET.out.lt) HTB.out HT1.out.la (by omega) HGO0.out)
          clear hm1 hg1 hbv1 HRUN HTRI
          go_wp2_with fail
          refine HRUN2.out.mono ?_
          rintro e v2 ⟨_, _, rfl, rfl, rfl, X2, oa2, hm2, hg2⟩
          have hbv2 := HT1.out.ma.bel hg2
          have HSAM := hide ((HT1.out.one hm2 hg2).alike HSA.out)
          have HBV2 := hide (HBV1.out.trans hbv2)
          clear hm2 hg2 hbv2 HRUN2 HT1
          go_wp2_with fail
          refine HSAM.out.mono ?_
          rintro e v3 ⟨rfl, hb3⟩
          have HFI := hide (HBV2.out.trans (hb3.mono HBV2.out.size))
          clear hb3
          go_wp2
          go_ret
          exact ⟨rfl, HFI.out⟩
        · obtain ⟨F, hF⟩ := hn1 (by omega)
          have HRUN := hide (ran_go (n := sum) (m := sum) (r' := ra) htri.mb hTr HTB.out htri.lb (by omega) ⟨F, hF⟩)
          have HTRI := hide htri
          have HSA := hide hsa
          have hnl2 : ¬ ((n : Int) < (l.length : Int)) := by omega
          have hl0 : ¬ (l.length : Int) = 0 := by omega
          clear hn0 hn1 htri hsa hso hF hb hTr
          go_wp2_with fail
          refine HRUN.out.mono ?_
          rintro e v1 ⟨_, _, rfl, rfl, rfl, X1, ob1, hm1, hg1⟩
          have hbv1 := HTRI.out.mb.bel hg1
          have HSAM := hide ((HTRI.out.swap.one hm1 hg1).swap.alike HSA.out)
          have HBV1 := hide (HB.out.trans hbv1)
          clear hm1 hg1 hbv1 HRUN HTRI
          go_wp2_with fail
          refine HSAM.out.mono ?_
          rintro e v2 ⟨rfl, hb2⟩
          have HFI := hide (HBV1.out.trans (hb2.mono HBV1.out.size))
          clear hb2
          go_wp2
          go_ret
          exact ⟨rfl, HFI.out⟩
end Go.Proofs.YtlobegpjenabaaaGreatDoor

/- Pieces: the row's contract. -/
namespace Go.Proofs.YtlobegpjenabaaaGreatDoor.piex
open Go.ChangeShapes Go.WideShapes Go.ChangeAt Go.RowKit Go.Proofs.YtlobegpjenabaaaGreatDoor.rws
open Go.ChangeMaps (open_string shut_string)

set_option maxRecDepth 100000 in
theorem contract (H : Type) (enc : TypeId × Value → H) (W : World) (base : Nat) (args : Array Value) (ds gs : List (DataW H)) (before : List MemPlace)
    (hval : ∀ (j : Nat) t v, Tryz.f10.params[j]? = some t → args[j]? = some v → Value.okWide Tryz.prog W .any base t v)
    (hW : DataW.Whole enc Tryz.prog Tryz.f10.params.toList Rows.piecesSpec.vars false W args.toList ds gs before) (hE : Env W) (hR : ErrT W) :
    Calls Tryz.prog 10 args W fun e W' => ∃ v, e = .returned v ∧ Rows.piecesSpec.post enc Tryz.prog Tryz.f10 false true false false W args v W' := by
  have hW' := hW
  obtain ⟨p, q, hA0, hV, rfl, hfz, hnd⟩ := hW
  have hA : DataW.TrodAll enc Tryz.prog W 0 (fun _ => true) true Tryz.f10.params.toList args.toList ds p := hA0
  rw [Tryz.params10] at hA hval
  obtain ⟨v0, vs0, d0, ds0, p0, q0, hargs, rfl, rfl, h0, r0⟩ := trodAll_cons hA
  obtain ⟨v1, vs1, d1, ds1, p1, q1, rfl, rfl, rfl, h1, r1⟩ := trodAll_cons r0
  obtain ⟨rfl, rfl, rfl⟩ := trodAll_nil r1
  obtain rfl : args = #[v0, v1] := Array.toList_inj.1 hargs
  obtain ⟨rfl, rfl⟩ := trodVars_none hV
  obtain ⟨x0, rfl, rfl, rfl, wx0⟩ := open_string Tryz.underlying9 (hval 0 9 v0 rfl rfl) h0
  obtain ⟨a1, c1, x1, rfl, hi1, hm1⟩ := open_at (hval 1 30 v1 rfl rfl) h1
  have hlt : ∀ x ∈ (p1 ++ []), x.block < W.heap.size := fun x hx => by have := hW'.lt x (by simpa using hx); simpa using this
  clear hA0
  simp only [List.append_nil] at hW'
  refine (Pieces_go x0 wx0 a1 c1 x1 hm1 W hE hR hi1).mono fun e W' ⟨he, hg⟩ => ?_
  subst he
  have e1 : Rows.piecesSpec.fn H ([.lit (.string x0.data.toList), d1] ++ []) = { results := [.lit (.bool true)], args := [.lit (.string x0.data.toList), d1] } := rfl
  refine ⟨_, rfl, _, _, _, [], ([] ++ (p1 ++ [])), [], hW', ?_, ?_, ?_, hg.frame _, fun h => by cases h⟩
  · rw [e1]; exact trodAll_cons_mk (shut_bool Tryz.underlying4 _) trodAll_mk0
  · rw [e1]; exact trodAll_cons_mk (shut_string Tryz.underlying9 wx0) (trodAll_cons_mk (Below.trod laidOut (by kernel_rfl) (of_decide_eq_true (by kernel_rfl)) h1 hg (fun x hx => hlt x (by simp [hx]))) trodAll_mk0)
  · rw [e1]; rfl

theorem laid_met (os : Os) : laidMetH Tryz.prog Rows.piecesRow.laid ((laidW (World.holding Tryz.prog os wit0)).forCall (fun _ _ => 0) ⟨#[], #[Value.string ⟨#[]⟩, Value.slice none 0 0], []⟩).memory :=
  laidMetH_of_parts (laidMet_of_run' 8 (by kernel_rfl) (by kernel_rfl)) (by kernel_rfl)
theorem reads (os : Os) {H : Type} (enc : TypeId × Value → H) : ∃ places, DataW.whole enc Tryz.prog ((laidW (World.holding Tryz.prog os wit0)).forCall (fun _ _ => 0) ⟨#[], #[Value.string ⟨#[]⟩, Value.slice none 0 0], []⟩).memory Tryz.f10.params.toList Rows.piecesSpec.vars false #[Value.string ⟨#[]⟩, Value.slice none 0 0].toList 8 = some ([.lit (.string []), .nil], [], places) :=
  ⟨[], by kernel_rfl⟩

set_option maxRecDepth 100000 in
theorem lifted (os : Os) (started : os.Started) (H : Type) (enc : TypeId × Value → H) (F : Stop.Interp) :
    ReturnsInHanded {} Tryz.checked os 10 .any ((OpenSpec.ofChange Rows.piecesSpec).preRow enc Tryz.prog Tryz.f10 Rows.piecesRow.domain false Rows.piecesRow.laid) (((OpenSpec.ofChange Rows.piecesSpec).at F).post enc Tryz.prog Tryz.f10 false true false false) := by
  obtain ⟨places, hx⟩ := reads os enc
  refine returnsInHanded_of_row (C := Tryz.checked) (s := OpenSpec.ofChange Rows.piecesSpec) own started (by kernel_rfl) Tryz.func10
    (witness_row_at (enc := enc) (C := Tryz.checked) false (laidW (World.holding Tryz.prog os wit0)) #[Value.string ⟨#[]⟩, Value.slice none 0 0] rfl (by kernel_rfl) (by kernel_rfl) (by kernel_rfl)
      (OpenSpec.preRow_of_cond 8 hx (by kernel_rfl) (fun k hk => by cases hk) (by kernel_rfl) (laid_met os))) ?_
  intro W base args ds gs before hval hW _ _ _ hL hsh _
  exact contract H enc W base args ds gs before hval hW (env_of hsh hL) (errT_of hL)
end Go.Proofs.YtlobegpjenabaaaGreatDoor.piex
