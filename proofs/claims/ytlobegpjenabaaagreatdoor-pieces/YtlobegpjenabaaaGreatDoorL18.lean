/- value.Told: pairs. -/
import Derived.Test.YtlobegpjenabaaaGreatDoorL17
import Derived.Lib.SlBytesRow
import Derived.Laws.BytesArg
namespace Go.Proofs.YtlobegpjenabaaaGreatDoor
open Go.RowKit
set_option linter.unusedSimpArgs false
set_option linter.unusedVariables false

/-- In the midst of a list: the pair at hand, and the text so far. -/
structure PairAt (w : World) (B T : Nat) (m : Nat → Nat) (t g : List UInt8) (N : Nat) (wr : World) (id : Nat) (b : V) (x y : Value) (c s : List UInt8) : Prop where
  hid : m id < B
  hp : wr.heap[m id]? = some (Obj.cells #[x, y] 205 (0, 0))
  vb : VR wr B m b y
  sz : sizeV b ≤ N
  tl : Tl wr B T c
  pre : Pre c s
  goal : s ++ toldB true b = g
  len : t.length + 1 ≤ s.length
  lc : c.length ≤ 8199 - t.length
  bel : Below B w wr
def PairRel (w : World) (B T : Nat) (m : Nat → Nat) (t g : List UInt8) (N : Nat) (p : Value) (wr : World) (k : Nat) : Prop :=
  ∃ id b x y c s, p = .pointer (some ⟨m id, 0, none⟩) ∧ sizeV b = k ∧ PairAt w B T m t g N wr id b x y c s
def isPair : V → Bool
  | .pair _ _ _ => true
  | _ => false
def PairEnd (w : World) (B T : Nat) (m : Nat → Nat) (t g : List UInt8) (N : Nat) (p : Value) (wr : World) : Prop :=
  ∃ id b x y c s, p = .pointer (some ⟨m id, 0, none⟩) ∧ (100 ≤ c.length ∨ isPair b = false) ∧ PairAt w B T m t g N wr id b x y c s

theorem as_pair_Nothing (v : Value) (w : World) : (Instr.typeAssert (.iface 259 v) 81 136 true).run Tryz.prog w = .ok (.tuple #[.pointer none, .bool false]) w := by kernel_rfl
/-- How long a teller's text is. -/
def tlen (w : World) (T : Nat) : Nat := match w.cell? ⟨T, 0, none⟩ with
  | some (.slice _ n _) => n
  | _ => 0
theorem Tl.tlen {w : World} {B T : Nat} {t : List UInt8} (h : Tl w B T t) : tlen w T = t.length := by
  obtain ⟨hB, u, hS, hr⟩ := h
  obtain ⟨a, cap, rfl, _, _, _⟩ := ownsRow_slice hr
  have c0 := cell_of_block hS 0
  simp only [List.getElem?_toArray, List.getElem?_cons_zero] at c0
  unfold Go.Proofs.YtlobegpjenabaaaGreatDoor.tlen
  rw [c0]
theorem Pre.len {t s : List UInt8} (h : Pre t s) : min 100 s.length ≤ t.length := by
  have := congrArg List.length h.1
  rw [List.length_take, List.length_take] at this
  omega
theorem VR.noPair {w : World} {B : Nat} {m : Nat → Nat} : ∀ (b : V) (y : Value), VR w B m b y → isPair b = false → ∃ t v, y = .iface t v ∧ ∀ w', (Instr.typeAssert (.iface t v) 81 136 true).run Tryz.prog w' = .ok (.tuple #[.pointer none, .bool false]) w'
  | .int k, y, h, _ => ⟨_, _, h.1, as_pair_Int _⟩
  | .bool b, y, h, _ => ⟨_, _, h, as_pair_Bool _⟩
  | .sym s, y, h, _ => ⟨_, _, h.1, as_pair_Symbol _⟩
  | .empty, y, h, _ => ⟨_, _, h, as_pair_Empty _⟩
  | .nothing, y, h, _ => ⟨_, _, h, as_pair_Nothing _⟩
  | .pair _ _ _, y, h, hp => by cases hp
  | .proc id, y, h, _ => ⟨_, _, h.1, vp_Procedure _⟩

theorem ne_empty_Nothing (v : Value) (w : World) : (Go.binOp .neq 81 (.iface 259 v) (.iface 207 (.agg #[]))).run Tryz.prog w = .ok (.bool true) w := by kernel_rfl
theorem ne_empty_Proc (v : Value) (w : World) : (Go.binOp .neq 81 (.iface 216 v) (.iface 207 (.agg #[]))).run Tryz.prog w = .ok (.bool true) w := by kernel_rfl
def isEmptyV : V → Bool
  | .empty => true
  | _ => false
theorem VR.noEmpty {w : World} {B : Nat} {m : Nat → Nat} : ∀ (b : V) (y : Value), VR w B m b y → isPair b = false → isEmptyV b = false → ∃ t v, y = .iface t v ∧ ∀ w', (Go.binOp .neq 81 (.iface t v) (.iface 207 (.agg #[]))).run Tryz.prog w' = .ok (.bool true) w'
  | .int k, y, h, _, _ => ⟨_, _, h.1, ne_empty_Int _⟩
  | .bool b, y, h, _, _ => ⟨_, _, h, ne_empty_Bool _⟩
  | .sym s, y, h, _, _ => ⟨_, _, h.1, ne_empty_Symbol _⟩
  | .empty, y, h, _, he => by cases he
  | .nothing, y, h, _, _ => ⟨_, _, h, ne_empty_Nothing _⟩
  | .pair _ _ _, y, h, hp, _ => by cases hp
  | .proc id, y, h, _, _ => ⟨_, _, h.1, ne_empty_Proc _⟩
theorem told_atom : ∀ (b : V), isPair b = false → isEmptyV b = false → toldB true b = [32, 46, 32] ++ toldS b ++ [41]
  | .int k, _, _ => rfl
  | .bool b, _, _ => rfl
  | .sym s, _, _ => rfl
  | .empty, _, he => by cases he
  | .nothing, _, _ => rfl
  | .pair _ _ _, hp, _ => by cases hp
  | .proc id, _, _ => rfl

set_option maxRecDepth 100000 in
set_option maxHeartbeats 4000000 in
theorem pair_go (N : Nat) (hT : TellC N) (id : Nat) (a b : V) (w : World) (B T : Nat) (m : Nat → Nat) (t : List UInt8) (x y : Value) (hsz : sizeV a + sizeV b ≤ N) (hid : m id < B) (hp : w.heap[m id]? = some (Obj.cells #[x, y] 205 (0, 0))) (ha : VR w B m a x) (hb : VR w B m b y) (h : Tl w B T t) (hl : t.length < 100) (htab : Tab B w) :
    Calls Tryz.prog 237 #[.pointer (some ⟨T, 0, none⟩), .pointer (some ⟨m id, 0, none⟩)] w (TellPost w B T t (toldS (.pair id a b))) := by
  have HA1 := hide (add_go (w := w) ⟨#[40]⟩ h (by omega) (by decide))
  have HTC := hide hT
  have HP := hide hp
  have HVA := hide ha
  have HVB := hide hb
  have HTAB := hide htab
  have HLT := hide hl
  obtain ⟨tx, vx, rfl⟩ := VR.form _ _ ha
  obtain ⟨ty, vy, rfl⟩ := VR.form _ _ hb
  have HSZ := hide hsz
  have hBw := h.le
  have HG := hide (show toldS (.pair id a b) = [40] ++ (toldS a ++ toldB true b) from rfl)
  obtain ⟨g, hg⟩ : ∃ g, g = toldS (.pair id a b) := ⟨_, rfl⟩
  rw [← hg] at HG
  rw [← hg]
  clear hp ha hb h htab hT hsz hg hl
  go_enter Tryz.func237, Tryz.ntmps237
  go_wp2_with fail
  refine HA1.out.mono ?_
  rintro e w1 ⟨rfl, ht1, hb1⟩
  have hp1 : w1.heap[m id]? = some (Obj.cells #[.iface tx vx, .iface ty vy] 205 (0, 0)) := by rw [hb1.block _ hid]; exact HP.out
  have c0 := cell_of_block hp1 0
  simp only [List.getElem?_toArray, List.getElem?_cons_zero] at c0
  have HT1 := hide (HTC.out a w1 (.iface tx vx) B T m (t ++ [40]) (by have := HSZ.out; omega) (VR.below hb1 _ _ HVA.out) ht1 (by have := HLT.out; simp; omega) (HTAB.out.below hb1))
  have HB1 := hide hb1
  clear ht1 hb1 HA1 hp1
  go_wp2_with fail
  refine HT1.out.mono ?_
  rintro e w2 ⟨rfl, ⟨t2, ht2, hpre2, hf2, hn2⟩, hb2⟩
  have HREL := hide (show PairRel w B T m t (t ++ g) N (.pointer (some ⟨m id, 0, none⟩)) w2 (sizeV b) from by
    have hbb := HB1.out.trans hb2
    refine ⟨id, b, .iface tx vx, .iface ty vy, t2, t ++ [40] ++ toldS a, rfl, rfl, hid, by rw [hbb.block _ hid]; exact HP.out, VR.below hbb _ _ HVB.out, by have := HSZ.out; omega, ht2, hpre2, ?_, ?_, ?_, hbb⟩
    · rw [HG.out]; simp
    · simp
    · have h1 := HLT.out
      rcases Nat.lt_or_ge (t ++ [40]).length 100 with h | h
      · have := hn2 h; rw [List.length_append] at this; simp at this; omega
      · have := hf2 h; rw [this]; simp at h ⊢; omega)
  clear ht2 hpre2 hf2 hn2 hb2 HT1 c0
  go_upto_block 0 with fail
  go_cut [1] (fun v wc => PairEnd w B T m t (t ++ g) N v wc)
  case first =>
    go_wp2_with fail
    go_loopw [1] (fun v wr => ∃ k, PairRel w B T m t (t ++ g) N v wr k) (fun v wr => 101 - tlen wr T)
    case atStart => exact ⟨_, HREL.out⟩
    case round =>
      obtain ⟨k, id2, b2, x2, y2, c2, s2, rfl, hk, hat⟩ := hrel
      have hc2 : c2.length ≤ 8199 := by have := hat.lc; omega
      have HFU := hide (full_go hat.tl (by omega))
      have HAT := hide hat
      have HTN := hide hat.tl.tlen
      by_cases h100 : 100 ≤ c2.length
      · rw [decide_eq_true h100] at HFU
        have HEND := hide (show PairEnd w B T m t (t ++ g) N (.pointer (some ⟨m id2, 0, none⟩)) wr from ⟨id2, b2, x2, y2, c2, s2, rfl, Or.inl h100, hat⟩)
        clear hat hk h100
        go_wp2_with fail
        refine HFU.out.mono ?_
        rintro e w' ⟨rfl, rfl⟩
        go_wp2
        go_meet
        case rel => exact HEND.out
      · rw [decide_eq_false h100] at HFU
        cases hib : isPair b2 with
        | false =>
          obtain ⟨ty2, vy2, rfl, hta⟩ := VR.noPair b2 y2 hat.vb hib
          have HEND := hide (show PairEnd w B T m t (t ++ g) N (.pointer (some ⟨m id2, 0, none⟩)) wr from ⟨id2, b2, x2, _, c2, s2, rfl, Or.inr hib, hat⟩)
          have d1 := cell_of_block hat.hp 1
          simp only [List.getElem?_toArray, List.getElem?_cons_zero, List.getElem?_cons_succ] at d1
          clear hat hk h100 hib HAT
          go_wp2_with fail
          refine HFU.out.mono ?_
          rintro e w' ⟨rfl, rfl⟩
          go_wp2
          go_meet
          case rel => exact HEND.out
        | true =>
          match b2, hib, hat, HAT with
          | .pair id3 a3 b3, _, hat, HAT =>
            obtain ⟨rfl, hid3, x3, y3, hp3, va3, vb3⟩ := hat.vb
            obtain ⟨tx3, vx3, rfl⟩ := VR.form _ _ va3
            have hta := as_pair
            have d1 := cell_of_block hat.hp 1
            simp only [List.getElem?_toArray, List.getElem?_cons_zero, List.getElem?_cons_succ] at d1
            have HADD := hide (add_go (w := wr) ⟨#[32]⟩ hat.tl (by omega) (by decide))
            have H3 := hide (And.intro hp3 (And.intro va3 vb3))
            have HN3 := hide (show sizeV a3 ≤ N ∧ sizeV b3 ≤ N from by have := hat.sz; simp only [sizeV] at this; omega)
            have HC2 := hide (show c2.length < 100 ∧ c2 = s2 from ⟨by omega, hat.pre.2 (by omega)⟩)
            clear hat hk h100 hp3 va3 vb3
            go_wp2_with fail
            refine HFU.out.mono ?_
            rintro e w' ⟨rfl, rfl⟩
            go_wp2_with fail
            refine HADD.out.mono ?_
            rintro e w5 ⟨rfl, ht5, hb5⟩
            have hp5 : w5.heap[m id3]? = some (Obj.cells #[.iface tx3 vx3, y3] 205 (0, 0)) := by rw [hb5.block _ hid3]; exact H3.out.1
            have d0 := cell_of_block hp5 0
            simp only [List.getElem?_toArray, List.getElem?_cons_zero] at d0
            have HTL := hide (HTC.out a3 w5 (.iface tx3 vx3) B T m (c2 ++ [32]) HN3.out.1 (VR.below hb5 _ _ H3.out.2.1) ht5 (by simp; omega) (HTAB.out.below (HAT.out.bel.trans hb5)))
            have HB5 := hide hb5
            have HP5 := hide hp5
            clear ht5 hb5 hp5 HADD HFU
            go_wp2_with fail
            refine HTL.out.mono ?_
            rintro e w6 ⟨rfl, ⟨t6, ht6, hpre6, hf6, hn6⟩, hb6⟩
            have HNX := hide (show PairRel w B T m t (t ++ g) N (.pointer (some ⟨m id3, 0, none⟩)) w6 (sizeV b3) ∧ 101 - tlen w6 T < 101 - tlen w' T from by
              have h1 := HC2.out
              have h2 := HAT.out.len
              have h3 := HAT.out.goal
              refine ⟨⟨id3, b3, .iface tx3 vx3, y3, t6, s2 ++ [32] ++ toldS a3, rfl, rfl, hid3, by rw [hb6.block _ hid3]; exact HP5.out, VR.below (HB5.out.trans hb6) _ _ H3.out.2.2, HN3.out.2, ht6, by rw [← h1.2]; exact hpre6, ?_, ?_, ?_, (HAT.out.bel.trans HB5.out).trans hb6⟩, ?_⟩
              · rw [← h3]; simp [toldB, toldS]
              · simp; omega
              · rw [← h1.2] at h2
                rcases Nat.lt_or_ge (c2 ++ [32]).length 100 with h | h
                · have := hn6 h; rw [List.length_append] at this; simp at this; omega
                · have := hf6 h; rw [this]; simp at h ⊢; omega
              · rw [ht6.tlen, HTN.out]
                have := hpre6.len
                simp at this
                omega)
            clear ht6 hpre6 hf6 hn6 hb6 HTL d0 d1
            go_wp2
            go_roundw
            case rel => exact ⟨_, HNX.out.1⟩
            case measure => exact HNX.out.2
  case rest =>
    rename_i wc
    obtain ⟨id2, b2, x2, y2, c2, s2, hv, hor, hat⟩ := hcut
    subst hv
    have hc2 : c2.length ≤ 8199 := by have := hat.lc; omega
    have HFU := hide (full_go hat.tl (by omega))
    have HAT := hide hat
    by_cases h100 : 100 ≤ c2.length
    · rw [decide_eq_true h100] at HFU
      have HADD := hide (add_go ⟨#[41]⟩ hat.tl (by omega) (by decide))
      have H100 := hide h100
      clear hat hor h100
      go_wp2_with fail
      refine HFU.out.mono ?_
      rintro e w' ⟨rfl, rfl⟩
      go_wp2_with fail
      refine HADD.out.mono ?_
      rintro e w5 ⟨rfl, ht5, hb5⟩
      have HF := hide (show TellPost w B T t g (.returned (.tuple #[])) w5 from by
        refine ⟨rfl, ⟨_, ht5, ?_, fun h => absurd h (by have := HLT.out; omega), fun _ => ?_⟩, HAT.out.bel.trans hb5⟩
        · rw [← HAT.out.goal]; exact HAT.out.pre.full H100.out _ _
        · have h1 := HAT.out.lc; have h2 := HLT.out; simp; omega)
      clear ht5 hb5 HADD
      go_wp2
      refine bodyPost_ret (results_none rfl _ _ _) rfl ?_
      exact HF.out
    · rw [decide_eq_false h100] at HFU
      have hnp : isPair b2 = false := hor.resolve_left h100
      have hcs := hat.pre.2 (by omega)
      have HCS := hide hcs
      have HC1 := hide (show c2.length < 100 from by omega)
      have d1 := cell_of_block hat.hp 1
      simp only [List.getElem?_toArray, List.getElem?_cons_zero, List.getElem?_cons_succ] at d1
      cases hie : isEmptyV b2 with
      | true =>
        match b2, hie, hat, HAT with
        | .empty, _, hat, HAT =>
          have hy : y2 = .iface 207 (.agg #[]) := hat.vb
          subst hy
          have hne := ne_empty_Empty
          have HADD := hide (add_go ⟨#[41]⟩ hat.tl (by omega) (by decide))
          clear hat hor h100 hnp hcs
          go_wp2_with fail
          refine HFU.out.mono ?_
          rintro e w' ⟨rfl, rfl⟩
          go_wp2_with fail
          refine HADD.out.mono ?_
          rintro e w5 ⟨rfl, ht5, hb5⟩
          have HF := hide (show TellPost w B T t g (.returned (.tuple #[])) w5 from by
            refine ⟨rfl, ⟨_, ht5, ?_, fun h => absurd h (by have := HLT.out; omega), fun _ => ?_⟩, HAT.out.bel.trans hb5⟩
            · rw [← HAT.out.goal, HCS.out]; exact Pre.refl _
            · have h1 := HAT.out.lc; have h2 := HLT.out; simp; omega)
          clear ht5 hb5 HADD
          go_wp2
          refine bodyPost_ret (results_none rfl _ _ _) rfl ?_
          exact HF.out
      | false =>
        obtain ⟨ty2, vy2, rfl, hne⟩ := VR.noEmpty b2 y2 hat.vb hnp hie
        have HTD := hide (told_atom b2 hnp hie)
        have HADD := hide (add_go ⟨#[32, 46, 32]⟩ hat.tl (by omega) (by decide))
        have hidl := hat.hid
        clear hat hor h100 hnp hcs hie
        go_wp2_with fail
        refine HFU.out.mono ?_
        rintro e w' ⟨rfl, rfl⟩
        go_wp2_with fail
        refine HADD.out.mono ?_
        rintro e w5 ⟨rfl, ht5, hb5⟩
        have hp5 : w5.heap[m id2]? = some (Obj.cells #[x2, .iface ty2 vy2] 205 (0, 0)) := by rw [hb5.block _ hidl]; exact HAT.out.hp
        have d5 := cell_of_block hp5 1
        simp only [List.getElem?_toArray, List.getElem?_cons_zero, List.getElem?_cons_succ] at d5
        have HTL := hide (HTC.out b2 w5 (.iface ty2 vy2) B T m (c2 ++ [32, 46, 32]) HAT.out.sz (VR.below hb5 _ _ HAT.out.vb) ht5 (by simp; omega) (HTAB.out.below (HAT.out.bel.trans hb5)))
        have HB5 := hide hb5
        clear ht5 hb5 hp5 HADD HFU d1
        go_wp2_with fail
        refine HTL.out.mono ?_
        rintro e w6 ⟨rfl, ⟨t6, ht6, hpre6, hf6, hn6⟩, hb6⟩
        have hlen6 : t6.length ≤ 8199 - t.length := by
          have h1 := HC1.out; have h2 := HAT.out.len; rw [← HCS.out] at h2
          rcases Nat.lt_or_ge (c2 ++ [32, 46, 32]).length 100 with h | h
          · have := hn6 h; rw [List.length_append] at this; simp at this; omega
          · have := hf6 h; have h3 := HLT.out; rw [this]; simp at h ⊢; omega
        have HADD2 := hide (add_go ⟨#[41]⟩ ht6 (by omega) (by decide))
        have HP6 := hide hpre6
        have HB6 := hide ((HAT.out.bel.trans HB5.out).trans hb6)
        clear ht6 hpre6 hf6 hn6 hb6 HTL d5
        go_wp2_with fail
        refine HADD2.out.mono ?_
        rintro e w7 ⟨rfl, ht7, hb7⟩
        have HF := hide (show TellPost w B T t g (.returned (.tuple #[])) w7 from by
          refine ⟨rfl, ⟨_, ht7, ?_, fun h => absurd h (by have := HLT.out; omega), fun _ => ?_⟩, HB6.out.trans hb7⟩
          · rw [← HAT.out.goal, HTD.out, ← HCS.out]
            have := HP6.out.add [41]
            simpa using this
          · have h2 := HLT.out; simp; omega)
        clear ht7 hb7 HADD2
        go_wp2
        refine bodyPost_ret (results_none rfl _ _ _) rfl ?_
        exact HF.out
end Go.Proofs.YtlobegpjenabaaaGreatDoor

/- value.Told: of any value. -/
namespace Go.Proofs.YtlobegpjenabaaaGreatDoor
open Go.RowKit
set_option linter.unusedSimpArgs false
set_option linter.unusedVariables false

set_option maxHeartbeats 1000000 in
theorem tell_pair (N : Nat) (hT : TellC N) (id : Nat) (a b : V) (w : World) (B T : Nat) (m : Nat → Nat) (t : List UInt8) (v : Value) (hsz : sizeV a + sizeV b ≤ N) (hv : VR w B m (.pair id a b) v) (h : Tl w B T t) (hl : t.length < 100) (htab : Tab B w) :
    Calls Tryz.prog 220 #[.pointer (some ⟨T, 0, none⟩), v] w (TellPost w B T t (toldS (.pair id a b))) := by
  obtain ⟨rfl, hid, x, y, hp, ha, hb⟩ := hv
  have HF := hide (full_go h (by omega))
  have HP := hide (pair_go N hT id a b w B T m t x y hsz hid hp ha hb h hl htab)
  rw [decide_eq_false (by omega)] at HF
  have h1 := vi_Pair
  have h2 := vb_Pair
  have h3 := vs_Pair
  have h4 := ve_Pair
  have h5 := vn_Pair
  have h6 := as_pair
  obtain ⟨g, hg⟩ : ∃ g, g = toldS (.pair id a b) := ⟨_, rfl⟩
  rw [← hg] at HP
  rw [← hg]
  clear h hl hp ha hb htab hT hsz hg
  go_enter Tryz.func220, Tryz.ntmps220
  go_wp2_with fail
  refine HF.out.mono ?_
  rintro e w' ⟨rfl, rfl⟩
  go_wp2_with fail
  refine HP.out.mono ?_
  intro e w2 h2
  have HPP := hide h2
  obtain ⟨rfl, _, _⟩ := h2
  go_wp2
  refine bodyPost_ret (results_none rfl _ _ _) rfl ?_
  exact HPP.out

/-- tell, of any value. -/
theorem tell_any : ∀ N, TellC N := by
  intro N
  induction N with
  | zero =>
      intro v w x B T m t hs hv h hl ht
      rcases Nat.lt_or_ge t.length 100 with h100 | h100
      · match v, hv, hs with
        | .int k, hv, _ => obtain ⟨rfl, h0, h1⟩ := hv; exact tell_int t k w B T h0 h1 h h100 ht
        | .bool b, hv, _ => have e : x = _ := hv; subst e; exact tell_bool t b w B T h h100
        | .sym s, hv, _ => obtain ⟨rfl, h0⟩ := hv; exact tell_sym t s w B T h0 h h100
        | .empty, hv, _ => have e : x = _ := hv; subst e; exact tell_empty t w B T h h100
        | .nothing, hv, _ => have e : x = _ := hv; subst e; exact tell_nothing t w B T h h100
        | .proc id, hv, _ => obtain ⟨rfl, _⟩ := hv; exact tell_proc t w B T _ h h100
        | .pair id a b, hv, hs => simp only [sizeV] at hs; omega
      · obtain ⟨tt, y, rfl⟩ := VR.form _ _ hv
        exact tell_full t _ tt y w B T h hl h100
  | succ N ih =>
      intro v w x B T m t hs hv h hl ht
      rcases Nat.lt_or_ge t.length 100 with h100 | h100
      · match v, hv, hs with
        | .int k, hv, _ => obtain ⟨rfl, h0, h1⟩ := hv; exact tell_int t k w B T h0 h1 h h100 ht
        | .bool b, hv, _ => have e : x = _ := hv; subst e; exact tell_bool t b w B T h h100
        | .sym s, hv, _ => obtain ⟨rfl, h0⟩ := hv; exact tell_sym t s w B T h0 h h100
        | .empty, hv, _ => have e : x = _ := hv; subst e; exact tell_empty t w B T h h100
        | .nothing, hv, _ => have e : x = _ := hv; subst e; exact tell_nothing t w B T h h100
        | .proc id, hv, _ => obtain ⟨rfl, _⟩ := hv; exact tell_proc t w B T _ h h100
        | .pair id a b, hv, hs => exact tell_pair N ih id a b w B T m t x (by simp only [sizeV] at hs; omega) hv h h100 ht
      · obtain ⟨tt, y, rfl⟩ := VR.form _ _ hv
        exact tell_full t _ tt y w B T h hl h100

theorem ofBytes (z : ByteArray) (l : List UInt8) (h : z.data.toList = l) : z = ⟨l.toArray⟩ := by cases z; subst h; rfl
theorem take_min (t : List UInt8) : t.take (min t.length 100) = t.take 100 := by
  rcases Nat.le_total t.length 100 with h | h
  · rw [Nat.min_eq_left h, List.take_length, List.take_of_length_le h]
  · rw [Nat.min_eq_right h]
/-- A row of bytes, cut and made a text. -/
theorem conv_row {w : World} {B cap : Nat} {a : Option Addr} {t : List UInt8} (hr : w.ownsRow B 5 1 (.slice a t.length cap) t.length (Lib.byteCells t)) :
    (convert 72 9 (.slice a (min (t.length : Int) 100).toNat cap)).run Tryz.prog w = .ok (.string ⟨(t.take 100).toArray⟩) w := by
  have hmin : (min (t.length : Int) 100).toNat = min t.length 100 := by omega
  rw [hmin]
  rcases hr.2 with ⟨hv, h0⟩ | ⟨g, cap', cu, hv, hg, hh, h1, h2, h3, h4⟩
  · have ht : t = [] := List.length_eq_zero_iff.1 h0
    subst ht
    cases hv
    exact run_convert_bytes_nil w 72 5 Tryz.underlying72 Tryz.underlying5 _ _ 9 Tryz.underlying9
  · cases hv
    have hc : Lib.Bytes w g 0 ⟨t.toArray⟩ := fun i hi => by
      have hi' : i < t.length := by simpa [ByteArray.size] using hi
      rw [Nat.zero_add, cell_of_block hh]
      have hx : (cu.toList.take (t.length * 1))[i]? = some (.int .u8 (t[i]).toNat) := by rw [h4]; simp [Lib.byteCells, hi']
      rw [List.getElem?_take] at hx
      split at hx
      · rw [← Array.getElem?_toList, hx]; rfl
      · cases hx
    have := Lib.run_convert_window (P := Tryz.prog) w 72 5 9 Tryz.underlying72 Tryz.underlying5 Tryz.underlying9 g 0 ⟨t.toArray⟩ hc 0 (min t.length 100) cap (by simp [ByteArray.size]; omega)
    rw [Nat.add_zero, Nat.zero_add] at this
    rw [this, ofBytes ((ByteArray.mk t.toArray).extract 0 (min t.length 100)) (t.take 100) (by rw [Lib.extract_data, Nat.sub_zero, List.drop_zero]; exact take_min t)]

def ToldPost (w : World) (v : V) (e : Ending) (w' : World) : Prop := e = .returned (.string ⟨((toldS v).take 100).toArray⟩) ∧ Below w.heap.size w w'

set_option maxRecDepth 100000 in
set_option maxHeartbeats 2000000 in
theorem told_any (v : V) (w : World) (x : Value) (m : Nat → Nat) (hv : VR w w.heap.size m v x) (htab : Tab w.heap.size w) :
    Calls Tryz.prog 198 #[x] w (ToldPost w v) := by
  obtain ⟨W0, hW0⟩ : ∃ W0, W0 = w.alloc (.cells #[.slice none 0 0] 335) := ⟨_, rfl⟩
  have hb0 : Below w.heap.size w W0 := by rw [hW0]; exact (Below.refl _ _).alloc (Nat.le_refl _) _
  have hT0 : Tl W0 w.heap.size w.heap.size [] := ⟨Nat.le_refl _, .slice none 0 0, by rw [hW0]; exact Array.getElem?_push_size, World.ownsRow_nil _ _ _ _⟩
  have HT := hide (tell_any (sizeV v) v W0 x w.heap.size w.heap.size m [] (Nat.le_refl _) (VR.below hb0 _ _ hv) hT0 (by simp) (htab.below hb0))
  have HB0 := hide hb0
  obtain ⟨tx, vx, rfl⟩ := VR.form _ _ hv
  clear hv htab hT0 hb0
  go_enter Tryz.func198, Tryz.ntmps198
  go_wp2_with fail
  rw [← hW0]
  clear hW0
  refine HT.out.mono ?_
  rintro e w2 ⟨rfl, ⟨t2, ht2, hpre2, _, hn2⟩, hb2⟩
  have hlen2 := hn2 (by simp)
  simp only [List.length_nil, List.nil_append] at hlen2 hpre2
  have HPRE := hide hpre2
  have HB2 := hide (HB0.out.trans hb2)
  obtain ⟨hB, u, hS, hr⟩ := ht2
  have HR := hide hr
  obtain ⟨a, cap, rfl, hc1, hc2, hat⟩ := ownsRow_slice hr
  unfold maxLen at hc2
  have c0 := cell_of_block hS 0
  simp only [List.getElem?_toArray, List.getElem?_cons_zero] at c0
  have hcv := conv_row HR.out
  clear hpre2 hb2 hn2 HT hS hr hat
  go_wp2
  go_ret
  exact ⟨by rw [HPRE.out.1]; rfl, HB2.out⟩
end Go.Proofs.YtlobegpjenabaaaGreatDoor

/- The stack's entries: until, with, values. -/
namespace Go.Proofs.YtlobegpjenabaaaGreatDoor
open Go.RowKit
set_option linter.unusedSimpArgs false
set_option linter.unusedVariables false

/-- The values that an application has so far, the newest first: a chain of items. -/
def ItR (w : World) : Option Addr → List Value → Prop
  | p, [] => p = none
  | p, v :: r => ∃ g q, p = some ⟨g, 0, none⟩ ∧ w.heap[g]? = some (Obj.cells #[v, .pointer q, .int .i64 (r.length + 1 : Nat)] 333 (0, 0)) ∧ ItR w q r
theorem ItR.keep {w w' : World} (k : Keep 333 w w') : ∀ (l : List Value) (p : Option Addr), ItR w p l → ItR w' p l
  | [], p, h => h
  | v :: r, p, ⟨g, q, h1, h2, h3⟩ => ⟨g, q, h1, k _ _ h2, ItR.keep k r q h3⟩
/-- An entry's five cells. -/
def enC (below : Option Addr) (depth : Int) (frame : Option Addr) (at0 : Int) (got : Option Addr) : Array Value := #[.pointer below, .int .i64 depth, .pointer frame, .int .i64 at0, .pointer got]

/-- What a call that makes an entry comes to: where it lies, and that nothing else has turned. -/
def EnPost (w : World) (c : Array Value) (e : Ending) (w' : World) : Prop := ∃ g, e = .returned (.pointer (some ⟨g, 0, none⟩)) ∧ w.heap.size ≤ g ∧ w'.heap[g]? = some (Obj.cells c 115 (0, 0)) ∧ Below w.heap.size w w'

set_option maxRecDepth 100000 in
set_option maxHeartbeats 1000000 in
theorem until_go (w : World) (e : Nat) (below frame got : Option Addr) (depth at0 n : Int) (he : w.heap[e]? = some (Obj.cells (enC below depth frame at0 got) 115 (0, 0))) :
    Calls Tryz.prog 195 #[.pointer (some ⟨e, 0, none⟩), .int .i64 n] w (EnPost w (enC below depth frame n got)) := by
  unfold enC at *
  have c0 := cell_of_block he 0
  have c1 := cell_of_block he 1
  have c2 := cell_of_block he 2
  have c3 := cell_of_block he 3
  have c4 := cell_of_block he 4
  have hel := lt_of_some he
  simp only [List.getElem?_toArray, List.getElem?_cons_zero, List.getElem?_cons_succ] at c0 c1 c2 c3 c4
  clear he
  have HN := hide (fun c => Array.getElem?_push_size (xs := w.heap) (x := Obj.cells c 115 (0, 0)))
  have HB := hide (fun o => (Below.refl w.heap.size w).alloc (Nat.le_refl _) o)
  go_enter Tryz.func195, Tryz.ntmps195
  go_wp2
  go_ret
  exact ⟨w.heap.size, rfl, Nat.le_refl _, by first | exact HN.out _ | exact heap_setCell_same (HN.out _), by first | exact HB.out _ | exact (HB.out _).setCell (Nat.le_refl _) _⟩

set_option maxRecDepth 100000 in
set_option maxHeartbeats 1000000 in
/-- with, where there is nothing yet. -/
theorem with_nil (w : World) (e : Nat) (below frame : Option Addr) (depth at0 : Int) (t : TypeId) (x : Value) (he : w.heap[e]? = some (Obj.cells (enC below depth frame at0 none) 115 (0, 0))) :
    Calls Tryz.prog 194 #[.pointer (some ⟨e, 0, none⟩), .iface t x] w fun r w' => ∃ q, EnPost w (enC below depth frame at0 q) r w' ∧ ItR w' q [.iface t x] := by
  unfold enC at *
  have c0 := cell_of_block he 0
  have c1 := cell_of_block he 1
  have c2 := cell_of_block he 2
  have c3 := cell_of_block he 3
  have c4 := cell_of_block he 4
  have hel := lt_of_some he
  simp only [List.getElem?_toArray, List.getElem?_cons_zero, List.getElem?_cons_succ] at c0 c1 c2 c3 c4
  clear he
  go_enter Tryz.func194, Tryz.ntmps194
  go_wp2
  go_ret
  refine ⟨some ⟨w.heap.size + 1, 0, none⟩, ⟨w.heap.size, rfl, Nat.le_refl _, ?_, ((Below.refl _ _).alloc (Nat.le_refl _) _).alloc (by simp) _⟩, w.heap.size + 1, none, rfl, ?_, rfl⟩
  · rw [Below.heap_alloc _ _ _ (by simp)]; exact Array.getElem?_push_size
  · exact heap_alloc_new1 _ _ _

set_option maxRecDepth 100000 in
set_option maxHeartbeats 1000000 in
/-- with, where there are some. -/
theorem with_cons (w : World) (e g : Nat) (below frame q : Option Addr) (depth at0 : Int) (t : TypeId) (x v : Value) (l : List Value) (hl : l.length ≤ 1000000) (he : w.heap[e]? = some (Obj.cells (enC below depth frame at0 (some ⟨g, 0, none⟩)) 115 (0, 0)))
    (hg : w.heap[g]? = some (Obj.cells #[v, .pointer q, .int .i64 (l.length + 1 : Nat)] 333 (0, 0))) (hq : ItR w q l) :
    Calls Tryz.prog 194 #[.pointer (some ⟨e, 0, none⟩), .iface t x] w fun r w' => ∃ q, EnPost w (enC below depth frame at0 q) r w' ∧ ItR w' q (.iface t x :: v :: l) := by
  have HG := hide hg
  have HQ := hide hq
  unfold enC at *
  have c0 := cell_of_block he 0
  have c1 := cell_of_block he 1
  have c2 := cell_of_block he 2
  have c3 := cell_of_block he 3
  have c4 := cell_of_block he 4
  have d2 := cell_of_block hg 2
  have hel := lt_of_some he
  have hgl := lt_of_some hg
  simp only [List.getElem?_toArray, List.getElem?_cons_zero, List.getElem?_cons_succ] at c0 c1 c2 c3 c4 d2
  clear he hg hq
  go_enter Tryz.func194, Tryz.ntmps194
  go_wp2
  go_ret
  have hb : ∀ o o', Below w.heap.size w ((w.alloc o).alloc o') := fun o o' => ((Below.refl _ _).alloc (Nat.le_refl _) _).alloc (by simp) _
  refine ⟨some ⟨w.heap.size + 1, 0, none⟩, ⟨w.heap.size, rfl, Nat.le_refl _, ?_, hb _ _⟩, w.heap.size + 1, some ⟨g, 0, none⟩, rfl, ?_, g, q, rfl, ?_, ?_⟩
  · rw [Below.heap_alloc _ _ _ (by simp)]; exact Array.getElem?_push_size
  · rw [heap_alloc_new1]
    congr 2
    simp
    omega
  · rw [(hb _ _).block g hgl]; exact HG.out
  · exact ItR.keep (Keep.of_below (hb _ _)) _ _ HQ.out
end Go.Proofs.YtlobegpjenabaaaGreatDoor

/- The stack's entries: values. -/
namespace Go.Proofs.YtlobegpjenabaaaGreatDoor
open Go.RowKit
set_option linter.unusedSimpArgs false
set_option linter.unusedVariables false

theorem with_any (w : World) (e : Nat) (below frame got : Option Addr) (depth at0 : Int) (t : TypeId) (x : Value) (l : List Value) (hl : l.length ≤ 1000000) (he : w.heap[e]? = some (Obj.cells (enC below depth frame at0 got) 115 (0, 0))) (hq : ItR w got l) :
    Calls Tryz.prog 194 #[.pointer (some ⟨e, 0, none⟩), .iface t x] w fun r w' => ∃ q, EnPost w (enC below depth frame at0 q) r w' ∧ ItR w' q (.iface t x :: l) := by
  cases l with
  | nil => have h : got = none := hq; subst h; exact with_nil w e below frame depth at0 t x he
  | cons v l =>
    obtain ⟨g, q, rfl, hg, hq⟩ := hq
    exact with_cons w e g below frame q depth at0 t x v l (by simp at hl; omega) he hg hq

/-- In the midst of values: what is left of the chain, and what is written. -/
def ValRel (w : World) (l : List Value) (R : Nat) (p : Value) (wr : World) (k : Nat) : Prop :=
  ∃ q r d pre, p = .pointer q ∧ l = d ++ r ∧ r.length = k ∧ ItR wr q r ∧ pre.length = k ∧ wr.heap[R]? = some (Obj.cells (pre ++ d.reverse).toArray 81 (0, 0)) ∧ Below w.heap.size w wr
/-- How many there are from an item on. -/
def cntI (p : Value) (w : World) : Nat := match p with
  | .pointer (some a) => match w.cell? ⟨a.block, 2, none⟩ with
    | some (.int _ n) => n.toNat
    | _ => 0
  | _ => 0
theorem ItR.cnt {w : World} : ∀ (l : List Value) (q : Option Addr), ItR w q l → cntI (.pointer q) w = l.length
  | [], q, h => by have h : q = none := h; subst h; rfl
  | v :: r, q, ⟨g, q', h1, h2, h3⟩ => by
    subst h1
    have c2 := cell_of_block h2 2
    simp only [List.getElem?_toArray, List.getElem?_cons_zero, List.getElem?_cons_succ] at c2
    unfold cntI
    simp only [c2]
    simp
theorem set_last (pre : List Value) (z x : Value) (s : List Value) (k : Nat) (hk : pre.length = k) : (pre ++ [z] ++ s).set k x = pre ++ ([x] ++ s) := by
  subst hk
  rw [List.append_assoc, List.set_append_right _ _ (Nat.le_refl _), Nat.sub_self]
  simp
theorem snoc_of (l : List Value) (k : Nat) (h : l.length = k + 1) : ∃ p z, l = p ++ [z] ∧ p.length = k := by
  refine ⟨l.dropLast, l.getLast (by intro e; subst e; cases h), (List.dropLast_concat_getLast _).symm, by simp [h]⟩
/-- What values comes to. -/
def ValPost (w : World) (l : List Value) (e : Ending) (w' : World) : Prop :=
  ∃ g, e = .returned (.slice (some ⟨g, 0, none⟩) l.length l.length) ∧ w'.ownsRow w.heap.size 81 1 (.slice (some ⟨g, 0, none⟩) l.length l.length) l.length l.reverse ∧ Below w.heap.size w w'

set_option maxRecDepth 100000 in
set_option maxHeartbeats 2000000 in
theorem values_go (w : World) (e g : Nat) (below frame q : Option Addr) (depth at0 : Int) (v : Value) (l : List Value) (hl : l.length ≤ 1000000) (hone : ∀ x ∈ v :: l, ∃ t y, x = .iface t y) (he : w.heap[e]? = some (Obj.cells (enC below depth frame at0 (some ⟨g, 0, none⟩)) 115 (0, 0)))
    (hg : w.heap[g]? = some (Obj.cells #[v, .pointer q, .int .i64 (l.length + 1 : Nat)] 333 (0, 0))) (hq : ItR w q l) :
    Calls Tryz.prog 196 #[.pointer (some ⟨e, 0, none⟩)] w (ValPost w (v :: l)) := by
  have HG := hide hg
  have HQ := hide (show ItR w (some ⟨g, 0, none⟩) (v :: l) from ⟨g, q, rfl, hg, hq⟩)
  have HE := hide he
  have HONE := hide hone
  unfold enC at he
  have c4 := cell_of_block he 4
  have d2 := cell_of_block hg 2
  have hel := lt_of_some he
  have hgl := lt_of_some hg
  simp only [List.getElem?_toArray, List.getElem?_cons_zero, List.getElem?_cons_succ] at c4 d2
  have hmk : ∀ w, (Instr.makeSlice 76 (.int .i64 ((l.length : Int) + 1)) (.int .i64 ((l.length : Int) + 1))).run Tryz.prog w = .ok (.slice (some ⟨w.heap.size, 0, none⟩) (l.length + 1) (l.length + 1)) (w.alloc (.cells (madeCells #[.nilIface] (l.length + 1)) 81)) := fun w => by
    have h := run_make_row' (P := Tryz.prog) 76 81 .nilIface 16 Tryz.underlying76 infoVal rfl .i64 .i64 (l.length + 1) (by omega) (by omega) w
    rw [Int.natCast_add] at h
    exact h
  obtain ⟨row, hrow, hrl⟩ : ∃ row : List Value, madeCells #[Value.nilIface] (l.length + 1) = row.toArray ∧ row.length = l.length + 1 := ⟨(madeCells #[Value.nilIface] (l.length + 1)).toList, rfl, by simp [madeCells]⟩
  rw [hrow] at hmk
  have HRL := hide hrl
  obtain ⟨W0, hW0⟩ : ∃ W0, W0 = w.alloc (.cells row.toArray 81) := ⟨_, rfl⟩
  have hb0 : Below w.heap.size w W0 := by rw [hW0]; exact (Below.refl _ _).alloc (Nat.le_refl _) _
  have HREL := hide (show ValRel w (v :: l) w.heap.size (.pointer (some ⟨g, 0, none⟩)) W0 (l.length + 1) from ⟨_, v :: l, [], row, rfl, rfl, by simp, ItR.keep (Keep.of_below hb0) _ _ HQ.out, hrl, by rw [hW0, List.reverse_nil, List.append_nil]; exact Array.getElem?_push_size, hb0⟩)
  have HW := hide hW0
  clear he hg hq hone hrow hrl hb0
  go_enter Tryz.func196, Tryz.ntmps196
  go_wp2
  rw [← HW.out]
  clear hW0 HW
  go_loopw [4] (fun p wr => ∃ k, ValRel w (v :: l) w.heap.size p wr k) (fun p wr => cntI p wr)
  case atStart => exact ⟨_, HREL.out⟩
  case round =>
    obtain ⟨k, q2, r, d, pre, rfl, hlr, hrk, hit, hpk, hR, hbl⟩ := hrel
    cases r with
    | nil =>
      have hq2 : q2 = none := hit
      subst hq2
      have hpn : pre = [] := List.length_eq_zero_iff.1 (by rw [hpk, ← hrk]; rfl)
      subst hpn
      rw [List.append_nil] at hlr
      have HF := hide (show wr.ownsRow w.heap.size 81 1 (.slice (some ⟨w.heap.size, 0, none⟩) (l.length + 1) (l.length + 1)) (l.length + 1) (v :: l).reverse from by
        refine ⟨by simp, Or.inr ⟨w.heap.size, l.length + 1, _, rfl, Nat.le_refl _, hR, Nat.le_refl _, by unfold maxLen; omega, by rw [List.nil_append, ← hlr]; simp, ?_⟩⟩
        rw [List.nil_append, ← hlr, Nat.mul_one]
        exact List.take_of_length_le (by simp))
      have HBL := hide hbl
      clear hlr hrk hit hpk hR hbl
      go_wp2
      go_ret
      exact ⟨_, rfl, HF.out, HBL.out⟩
    | cons x r =>
      obtain ⟨g2, q3, rfl, hg2, hq3⟩ := hit
      obtain ⟨tx, vx, hx⟩ := HONE.out x (by rw [hlr]; simp)
      subst hx
      have e0 := cell_of_block hg2 0
      have e1 := cell_of_block hg2 1
      have e2 := cell_of_block hg2 2
      simp only [List.getElem?_toArray, List.getElem?_cons_zero, List.getElem?_cons_succ] at e0 e1 e2
      obtain ⟨p2, z, hpz, hp2⟩ := snoc_of pre r.length (by rw [hpk, ← hrk]; rfl)
      have hrl2 : r.length ≤ l.length := by have := congrArg List.length hlr; simp at this; omega
      have f0 := frozen_of_block hR r.length
      have k0 : wr.cell? ⟨w.heap.size, r.length, none⟩ = some z := by rw [cell_of_block hR, hpz]; simp [← hp2]
      have HREL2 := hide (show ValRel w (v :: l) w.heap.size (.pointer q3) (wr.setCell ⟨w.heap.size, r.length, none⟩ (.iface tx vx)).drew r.length ∧ cntI (.pointer q3) (wr.setCell ⟨w.heap.size, r.length, none⟩ (.iface tx vx)).drew < cntI (.pointer (some ⟨g2, 0, none⟩)) wr from by
        have kp : Keep 333 wr (wr.setCell ⟨w.heap.size, r.length, none⟩ (.iface tx vx)).drew := keep_set hR (by decide)
        have hit3 := ItR.keep kp r q3 hq3
        refine ⟨⟨q3, r, d ++ [.iface tx vx], p2, rfl, by rw [hlr]; simp, rfl, hit3, hp2, ?_, (hbl.setCell (p := ⟨w.heap.size, r.length, none⟩) (Nat.le_refl _) _).drew⟩, ?_⟩
        · show (wr.setCell ⟨w.heap.size, r.length, none⟩ (.iface tx vx)).heap[w.heap.size]? = _
          rw [heap_setCell_same hR, hpz]
          have := set_last p2 z (.iface tx vx) d.reverse r.length hp2
          simp only [List.setIfInBounds_toArray, this, List.reverse_append, List.reverse_cons, List.reverse_nil, List.nil_append]
        · rw [ItR.cnt r q3 hit3, ItR.cnt (.iface tx vx :: r) (some ⟨g2, 0, none⟩) ⟨g2, q3, rfl, hg2, hq3⟩]; simp)
      have hg2l := lt_of_some hg2
      have kq : Keep 333 wr (wr.setCell ⟨w.heap.size, r.length, none⟩ (.iface tx vx)).drew := keep_set hR (by decide)
      have e1' := cell_of_block (kq _ _ hg2) 1
      simp only [List.getElem?_toArray, List.getElem?_cons_zero, List.getElem?_cons_succ] at e1'
      have e1'' : (wr.setCell ⟨w.heap.size, r.length, none⟩ (.iface tx vx)).cell? ⟨g2, 1, none⟩ = some (.pointer q3) := e1'
      clear kq
      clear hlr hrk hpk hR hbl hg2 hq3 hpz hp2
      go_wp2
      go_region
      go_wp2
      go_roundw
      case rel => exact ⟨_, HREL2.out.1⟩
      case measure => exact HREL2.out.2
end Go.Proofs.YtlobegpjenabaaaGreatDoor
