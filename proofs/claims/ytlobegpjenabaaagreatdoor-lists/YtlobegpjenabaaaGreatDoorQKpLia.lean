/- Lists of any two slices answers true: its loop. -/
import Derived.Test.YtlobegpjenabaaaGreatDoorQKpLis
import Derived.Test.YtlobegpjenabaaaGreatDoorQKpSom
namespace Go.Proofs.YtlobegpjenabaaaGreatDoor
open Go.RowKit
set_option linter.unusedSimpArgs false
set_option linter.unusedVariables false

def backK (l : List Int) (k : Nat) : List Int := l.reverse.take k
def twiK (l : List Int) (k : Nat) : List Int := (l.take k).map fun x => 2 * x
def sumK (l : List Int) (k : Nat) : Int := (l.take k).foldl (fun a x => a + x) 0
theorem intV_snoc (l : List Int) (k : Int) : intV (l ++ [k]) = intV l ++ [.int .i64 k] := by simp [intV]
theorem backK_succ (l : List Int) (k : Nat) (h : k < l.length) : backK l (k + 1) = backK l k ++ [l[l.length - 1 - k]'(by omega)] := by
  unfold backK
  rw [List.take_succ_eq_append_getElem (by rw [List.length_reverse]; exact h), List.getElem_reverse]
theorem twiK_succ (l : List Int) (k : Nat) (h : k < l.length) : twiK l (k + 1) = twiK l k ++ [2 * l[k]] := by
  unfold twiK
  rw [List.take_succ_eq_append_getElem h, List.map_append]; rfl
theorem sumK_succ (l : List Int) (k : Nat) (h : k < l.length) : sumK l (k + 1) = sumK l k + l[k] := by
  unfold sumK
  rw [List.take_succ_eq_append_getElem h, List.foldl_append]; rfl
def In5 (l : List Int) : Prop := ∀ k ∈ l, -100000 < k ∧ k < 100000
theorem sumK_in (l : List Int) (h : In5 l) : ∀ k, k ≤ l.length → -100000 * (k : Int) ≤ sumK l k ∧ sumK l k ≤ 100000 * (k : Int)
  | 0, _ => by simp [sumK]
  | k + 1, hk => by
    have h1 := sumK_in l h k (by omega)
    have h2 := h l[k] (List.getElem_mem (by omega))
    rw [sumK_succ l k (by omega)]
    omega
theorem some_in5 (l : List Int) : In5 (someS l) := by
  intro k hk
  unfold someS someK at hk
  obtain ⟨x, _, rfl⟩ := List.mem_map.1 hk
  exact ⟨Int.lt_tmod_of_pos x (show (0 : Int) < 100000 by omega), Int.tmod_lt_of_pos x (show (0 : Int) < 100000 by omega)⟩
theorem some_len (l : List Int) : (someS l).length ≤ 12 := by
  unfold someS someK
  rw [List.length_map, List.length_take]; omega
/-- A row as its slice and cells. -/
theorem row_ints {w : World} {B : Nat} {v : Value} {l : List Int} (h : w.ownsRow B 3 1 v l.length (intV l)) : ∃ a cap, v = .slice a l.length cap ∧ ∀ i (hi : i < l.length), ∃ g, a = some ⟨g, 0, none⟩ ∧ v.ownBlock = some g ∧ g < w.heap.size ∧ w.cell? ⟨g, i, none⟩ = some (.int .i64 l[i]) := by
  obtain ⟨a, cap, rfl, _, _, _⟩ := ownsRow_slice h
  refine ⟨a, cap, rfl, fun i hi => ?_⟩
  rcases h.2 with ⟨hv, h0⟩ | ⟨g, cap', cu, hv, hg, hh, _⟩
  · omega
  · cases hv
    refine ⟨g, rfl, rfl, lt_of_some hh, ?_⟩
    have := h.cellAt i (by omega)
    rw [this]
    simp [intV, hi]
/-- The ints of a row, for spelled. -/
def SpAt (w : World) (a : Option Addr) (l : List Int) : Prop := ∀ i (hi : i < l.length), ∃ g off, a = some ⟨g, off, none⟩ ∧ g < w.heap.size ∧ w.cell? ⟨g, off + i, none⟩ = some (.int .i64 l[i])
theorem SpAt.below {w w' : World} {a : Option Addr} {l : List Int} (h : SpAt w a l) (hb : Below w.heap.size w w') : SpAt w' a l := fun i hi => by
  obtain ⟨g, off, h1, h2, h3⟩ := h i hi
  exact ⟨g, off, h1, by have := hb.size; omega, by rw [hb.cell (p := ⟨g, off + i, none⟩) h2]; exact h3⟩
theorem row_sp {w : World} {B n cap : Nat} {a : Option Addr} {l : List Int} (h : w.ownsRow B 3 1 (.slice a n cap) n (intV l)) (hn : n = l.length) : SpAt w a l := fun i hi => by
  subst hn
  obtain ⟨a', cap', hv, hc⟩ := row_ints h
  cases hv
  obtain ⟨g, h1, _, h2, h3⟩ := hc i hi
  exact ⟨g, 0, h1, h2, by rw [Nat.zero_add]; exact h3⟩
theorem In5.rng {l : List Int} (h : In5 l) : ∀ k ∈ l, -9223372036854775808 ≤ k ∧ k ≤ 9223372036854775807 := fun k hk => by have := h k hk; omega
theorem In5.sm {l : List Int} (h : In5 l) : ∀ k ∈ l, Small k := fun k hk => by have := h k hk; exact ⟨by omega, by omega⟩
theorem In5.rev {l : List Int} (h : In5 l) : In5 (backK l l.length) := fun k hk => by
  unfold backK at hk
  exact h k (List.mem_reverse.1 (List.mem_of_mem_take hk))
theorem backK_all (l : List Int) : backK l l.length = l.reverse := by unfold backK; rw [← List.length_reverse, List.take_length]
theorem twiK_all (l : List Int) : twiK l l.length = l.map fun x => 2 * x := by unfold twiK; rw [List.take_length]
theorem In5.twi {l : List Int} (h : In5 l) : ∀ k ∈ twiK l l.length, -9223372036854775808 ≤ k ∧ k ≤ 9223372036854775807 := fun k hk => by
  rw [twiK_all] at hk
  obtain ⟨x, hx, rfl⟩ := List.mem_map.1 hk
  have := h x hx
  omega
theorem In5.app {l m : List Int} (h : In5 l) (k : In5 m) : In5 (l ++ m) := fun x hx => (List.mem_append.1 hx).elim (h x) (k x)
theorem In5.map2 {l : List Int} (h : In5 l) : (l.map fun x => w64 (x + x)) = twiK l l.length := by
  rw [twiK_all]
  apply List.map_congr_left
  intro x hx
  have := h x hx
  rw [w64_of _ (by omega)]; omega
theorem foldW (l : List Int) : ∀ (a : Int) (N : Nat), In5 l → -100000 * (N : Int) ≤ a → a ≤ 100000 * (N : Int) → N + l.length ≤ 1000 → l.foldl (fun a x => w64 (a + x)) a = l.foldl (fun a x => a + x) a := by
  induction l with
  | nil => intros; rfl
  | cons k r ih =>
    intro a N h h1 h2 h3
    have hk := h k List.mem_cons_self
    simp only [List.length_cons] at h3
    simp only [List.foldl_cons]
    rw [w64_of _ (by omega)]
    exact ih (a + k) (N + 1) (fun x hx => h x (List.mem_cons_of_mem _ hx)) (by omega) (by omega) (by omega)
theorem In5.sum {l : List Int} (h : In5 l) (hl : l.length ≤ 12) : sumW l = sumK l l.length := by
  unfold sumW sumK
  rw [List.take_length]
  exact foldW l 0 0 h (by omega) (by omega) (by omega)
theorem news_at {w : World} {B g n cap : Nat} {l : List Int} (h : w.ownsRow B 3 1 (.slice (some ⟨g, 0, none⟩) n cap) n (intV l)) (hn : n = l.length) : ∀ j u, (intV l)[j]? = some u → w.cell? ((⟨g, 0, none⟩ : Addr).add j) = some u := by
  subst hn
  intro j u hu
  have hj : j < l.length := by
    rcases Nat.lt_or_ge j l.length with h1 | h1
    · exact h1
    · rw [List.getElem?_eq_none (by rw [intV_len]; exact h1)] at hu; cases hu
  have := h.cellAt j (by omega)
  rw [show (⟨g, 0, none⟩ : Addr).add j = ⟨g, j, none⟩ by cases j <;> simp [Addr.add]]
  rw [this]
  simpa [intV, hj] using hu
theorem intV_one (l : List Int) : ∀ u ∈ intV l, u.oneCell' = true := by
  intro u hu
  obtain ⟨k, _, rfl⟩ := List.mem_map.1 hu
  rfl
/-- The loop's rows. -/
structure LsRel (w2 : World) (L : List Int) (k : Nat) (u t : Value) (wr : World) : Prop where
  bk : wr.ownsRow w2.heap.size 3 1 u k (intV (backK L k))
  tw : wr.ownsRow w2.heap.size 3 1 t k (intV (twiK L k))
  ne : ∀ g, u.ownBlock = some g → t.ownBlock ≠ some g
  bl : Below w2.heap.size w2 wr
set_option maxRecDepth 100000 in
set_option maxHeartbeats 4000000 in
theorem Lists_go (raw more : List Int) (a0 b0 : Option Addr) (ca cb : Nat) (hm0 : raw.length ≤ maxLen) (hm1 : more.length ≤ maxLen) (w : World) (h0 : IntsAt w a0 raw) (h1 : IntsAt w b0 more) (he : Env w) :
    Calls Tryz.prog 6 #[.slice a0 raw.length ca, .slice b0 more.length cb] w (RckP w) := by
  obtain ⟨i0, hi, hz0, hz1, hz2⟩ := info_parts infoInt'
  have HI := hide (And.intro hi (And.intro hz0 (And.intro hz1 hz2)))
  have HS0 := hide (some_go w a0 ca raw hm0 h0)
  have H1 := hide h1
  have HE := hide he
  obtain ⟨L, hL⟩ : ∃ L, L = someS raw := ⟨_, rfl⟩
  have l12 : L.length ≤ 12 := by rw [hL]; exact some_len raw
  have HL5 : Hid (In5 L) := by show In5 L; rw [hL]; exact some_in5 raw
  rw [← hL] at HS0
  clear hi hz0 hz1 hz2 h0 h1 he hL
  go_enter Tryz.func6, Tryz.ntmps6
  go_wp2_with fail
  refine HS0.out.mono ?_
  rintro e w1 ⟨vl, rfl, hrl, hnl, hb1⟩
  have HS1 := hide (some_go w1 b0 cb more hm1 (H1.out.below hb1))
  obtain ⟨M, hM⟩ : ∃ M, M = someS more := ⟨_, rfl⟩
  have m12 : M.length ≤ 12 := by rw [hM]; exact some_len more
  have HM5 : Hid (In5 M) := by show In5 M; rw [hM]; exact some_in5 more
  rw [← hM] at HS1
  obtain ⟨al, cl, rfl, hcl⟩ := row_ints hrl
  have HRL := hide hrl
  have HCL := hide hcl
  have HNL := hide hnl
  have HB1 := hide hb1
  clear hM hrl hcl hnl hb1 HS0 hm0 hm1
  go_wp2_with fail
  refine HS1.out.mono ?_
  rintro e w2 ⟨vm, rfl, hrm, hnm, hb2⟩
  obtain ⟨am, cm, rfl, hcm⟩ := row_ints hrm
  have HRM := hide hrm
  have HCM := hide hcm
  have HNM := hide hnm
  have HB2 := hide hb2
  clear hrm hcm hnm hb2 HS1
  go_wp2
  go_loopw [7, 8, 9, 10] (fun u t s i wr => ∃ k : Nat, k ≤ L.length ∧ i = .int .i64 k ∧ s = .int .i64 (sumK L k) ∧ LsRel w2 L k u t wr) (fun _ _ _ i _ => L.length - (intOf i).toNat)
  case atStart => exact ⟨0, by omega, rfl, rfl, ⟨World.ownsRow_nil _ _ _ _, World.ownsRow_nil _ _ _ _, (fun g h => by cases h), Below.refl _ _⟩⟩
  case round =>
    obtain ⟨k, hk, rfl, rfl, hrel⟩ := hrel
    have hbs := hrel.bl.size
    have HREL := hide hrel
    obtain ⟨u1, c1, rfl, _, _, _⟩ := ownsRow_slice hrel.bk
    obtain ⟨t1, d1, rfl, _, _, _⟩ := ownsRow_slice hrel.tw
    by_cases hlt : k < L.length
    · obtain ⟨g, rfl, hob, hg, hc⟩ := HCL.out k hlt
      obtain ⟨g', hg', _, _, hc'⟩ := HCL.out (L.length - 1 - k) (by omega)
      cases hg'
      have hg2 : g < w2.heap.size := by have := HB2.out.size; omega
      have e0 : wr.cell? ⟨g, k, none⟩ = some (.int .i64 L[k]) := by rw [hrel.bl.cell (p := ⟨g, k, none⟩) hg2, HB2.out.cell (p := ⟨g, k, none⟩) hg]; exact hc
      have e1 : wr.cell? ⟨g, L.length - 1 - k, none⟩ = some (.int .i64 (L[L.length - 1 - k]'(by omega))) := by rw [hrel.bl.cell (p := ⟨g, L.length - 1 - k, none⟩) hg2, HB2.out.cell (p := ⟨g, L.length - 1 - k, none⟩) hg]; exact hc'
      have b0 := HL5.out L[k] (List.getElem_mem hlt)
      have s0 := sumK_in L HL5.out k hk
      have HBK := hide (backK_succ L k hlt)
      have HTK := hide (twiK_succ L k hlt)
      have HSK := hide (sumK_succ L k hlt)
      obtain ⟨x, hx⟩ : ∃ x, x = L[k] := ⟨_, rfl⟩
      obtain ⟨y, hy⟩ : ∃ y, y = L[L.length - 1 - k]'(by omega) := ⟨_, rfl⟩
      rw [← hx] at e0 b0 HTK HSK
      rw [← hy] at e1 HBK
      have hlt2 : (k : Int) < (L.length : Int) := by omega
      clear hc hc' hx hy hrel hob
      go_wp2_with (at_builtin; go_loud (refine wpList_append_lies _ rfl (.tmp 27) (.tmp 36) 30 rfl w2.heap.size 3 i0 (.int .i64 0) 1 8 Tryz.underlying30 HI.out.1 HI.out.2.1 HI.out.2.2.1 HI.out.2.2.2 rfl (by decide) _ k (intV (backK L k)) rfl (HREL.out.bk.alloc _) ⟨wr.heap.size, 0, none⟩ 1 1 [.int .i64 y] rfl rfl (cell_one_int _ _) (by intro u hu; simp at hu; subst hu; rfl) (by decide) (by unfold maxLen; omega) (by omega) (by simp; omega) (wr.heap.size + 1) (by simp) ?_))
      intro g4 cap4 w4 hown4 hgrow4 hat4 hlt4
      have hu4 := Upd.grown (Upd.refl (fun j => (Value.slice u1 k c1).ownBlock = some j) (wr.alloc (.cells #[.int .i64 y] 3))) hgrow4 (fun j hj _ => hj)
      have hb4 : Below w2.heap.size w2 w4 := (HREL.out.bl.alloc hbs _).trans (hu4.below (by simp; omega) fun j hj => (ownsRow_ge HREL.out.bk hj).1)
      have htw4 := ownsRow_of_upd (HREL.out.tw.alloc _) hu4 (fun j hj hx => HREL.out.ne j hx hj)
      have f0 : w4.cell? ⟨g, k, none⟩ = some (.int .i64 x) := by
        rw [hb4.cell (p := ⟨g, k, none⟩) hg2, ← HREL.out.bl.cell (p := ⟨g, k, none⟩) hg2]; exact e0
      have hne4 : ∀ q, (Value.slice t1 k d1).ownBlock = some q → q ≠ g4 := fun q hq e => by
        subst e
        rcases hat4 with h | h
        · exact HREL.out.ne _ h hq
        · have := (ownsRow_ge HREL.out.tw hq).2; omega
      have HO4 := hide hown4
      have HB4 := hide hb4
      have HT4 := hide htw4
      have HN4 := hide hne4
      have hz4 := hb4.size
      clear hown4 hgrow4 hat4 hu4 hb4 htw4 hne4 e0 e1
      go_wp2_with (at_builtin; go_loud (refine wpList_append_lies _ rfl (.tmp 38) (.tmp 44) 30 rfl w2.heap.size 3 i0 (.int .i64 0) 1 8 Tryz.underlying30 HI.out.1 HI.out.2.1 HI.out.2.2.1 HI.out.2.2.2 rfl (by decide) _ k (intV (twiK L k)) rfl (HT4.out.alloc _) ⟨w4.heap.size, 0, none⟩ 1 1 [.int .i64 (2 * x)] rfl rfl (cell_one_int _ _) (by intro u hu; simp at hu; subst hu; rfl) (by decide) (by unfold maxLen; omega) (by omega) (by simp; omega) (w4.heap.size + 1) (by simp) ?_))
      intro g5 cap5 w5 hown5 hgrow5 hat5 hlt5
      have hu5 := Upd.grown (Upd.refl (fun j => (Value.slice t1 k d1).ownBlock = some j) (w4.alloc (.cells #[.int .i64 (2 * x)] 3))) hgrow5 (fun j hj _ => hj)
      have hb5 : Below w2.heap.size w2 w5 := (HB4.out.alloc hz4 _).trans (hu5.below (by simp; omega) fun j hj => (ownsRow_ge HT4.out hj).1)
      have hbk5 := ownsRow_of_upd (HO4.out.alloc _) hu5 (fun j hj hx => HN4.out j hx (by simp [Value.ownBlock] at hj; exact hj.symm))
      have f1 : w5.cell? ⟨g, k, none⟩ = some (.int .i64 x) := by
        rw [hb5.cell (p := ⟨g, k, none⟩) hg2, ← HB4.out.cell (p := ⟨g, k, none⟩) hg2]; exact f0
      have hne5 : ∀ q, (Value.slice (some ⟨g4, 0, none⟩) (k + 1) cap4).ownBlock = some q → (Value.slice (some ⟨g5, 0, none⟩) (k + 1) cap5).ownBlock ≠ some q := fun q hq e => by
        simp [Value.ownBlock] at hq e
        subst hq
        rcases hat5 with h | h
        · exact HN4.out _ h e
        · omega
      have HF : Hid (LsRel w2 L (k + 1) (.slice (some ⟨g4, 0, none⟩) (k + 1) cap4) (.slice (some ⟨g5, 0, none⟩) (k + 1) cap5) w5) :=
        ⟨by rw [HBK.out, intV_snoc]; exact hbk5, by rw [HTK.out, intV_snoc]; exact hown5, hne5, hb5⟩
      clear hown5 hgrow5 hat5 hu5 hb5 hbk5 hne5 f0 HO4 HB4 HT4 HN4
      go_wp2
      go_roundw
      case rel => exact ⟨k + 1, by omega, rfl, by rw [HSK.out], HF.out⟩
      case measure => simp [intOf]; omega
    · have hke : k = L.length := by omega
      subst hke
      clear hrel
      -- tail
      have hbw : Below w.heap.size w wr := (HB1.out.trans (HB2.out.mono HB1.out.size)).trans (HREL.out.bl.mono (by have := HB1.out.size; have := HB2.out.size; omega))
      have HBW := hide hbw
      have hrl := ownsRow_of_upd (ownsRow_of_upd HRL.out (Upd.of_below (fun _ => False) HB2.out) (fun _ _ h => h)) (Upd.of_below (fun _ => False) HREL.out.bl) (fun _ _ h => h)
      have hrm := ownsRow_of_upd HRM.out (Upd.of_below (fun _ => False) HREL.out.bl) (fun _ _ h => h)
      have SL := hide (row_sp hrl rfl)
      have SM := hide (row_sp hrm rfl)
      have SB := hide (row_sp HREL.out.bk (by unfold backK; rw [List.length_take, List.length_reverse]; omega))
      have ST := hide (row_sp HREL.out.tw (by unfold twiK; rw [List.length_map, List.length_take]; omega))
      have HRLW := hide hrl
      have HRMW := hide hrm
      clear hbw hrl hrm
      go_wp2_with fail
      refine (spelled_go L wr al cl (by omega) HL5.out.rng SL.out).mono ?_
      rintro e v1 ⟨he, hb⟩
      obtain ⟨zl, hzl⟩ : ∃ z : ByteArray, z = ⟨(spellS L).toArray⟩ := ⟨_, rfl⟩
      have szl : (zl.size : Int) ≤ 300 := by
        have := spellS_len L fun k hk => itoa_lenS k (HL5.out.sm k hk)
        rw [hzl]; simp [ByteArray.size]; omega
      have HZL := hide hzl
      rw [← hzl] at he
      subst he
      have V1 := hide hb
      clear hzl hb
      go_wp2_with fail
      refine (spelled_go M v1 am cm (by omega) HM5.out.rng (SM.out.below V1.out)).mono ?_
      rintro e v2 ⟨he, hb⟩
      obtain ⟨zm, hzm⟩ : ∃ z : ByteArray, z = ⟨(spellS M).toArray⟩ := ⟨_, rfl⟩
      have szm : (zm.size : Int) ≤ 300 := by
        have := spellS_len M fun k hk => itoa_lenS k (HM5.out.sm k hk)
        rw [hzm]; simp [ByteArray.size]; omega
      have HZM := hide hzm
      rw [← hzm] at he
      subst he
      have V2 := hide (V1.out.trans (hb.mono V1.out.size))
      clear hzm hb
      have HSB : Hid (∀ W, Below wr.heap.size wr W → Calls Tryz.prog 23 #[.slice u1 L.length c1] W (StrP W (spellS L.reverse))) := fun W hW => by
        have hn : (backK L L.length).length = L.length := by rw [backK_all]; simp
        have := spelled_go (backK L L.length) W u1 c1 (by omega) HL5.out.rev.rng (SB.out.below hW)
        rw [hn, backK_all] at this
        exact this
      have HST : Hid (∀ W, Below wr.heap.size wr W → Calls Tryz.prog 23 #[.slice t1 L.length d1] W (StrP W (spellS (twiK L L.length)))) := fun W hW => by
        have hn : (twiK L L.length).length = L.length := by rw [twiK_all]; simp
        have := spelled_go (twiK L L.length) W t1 d1 (by omega) HL5.out.twi (ST.out.below hW)
        rw [hn] at this
        exact this
      have HSR := hide (says_LsR L HL5.out.sm l12)
      have HSM : Hid (Says (LsMT L) 5000 ((spellS (twiK L L.length)).take 100) []) := by
        have := says_LsM L HL5.out.sm l12
        rw [HL5.out.map2] at this
        exact this
      have hsi := sumK_in L HL5.out L.length (Nat.le_refl _)
      have HSI : Hid (-9223372036854775808 ≤ sumK L L.length ∧ sumK L L.length ≤ 9223372036854775807) := ⟨by omega, by omega⟩
      have HSF : Hid (Says (LsFT L) 5000 (Lib.itoa (sumK L L.length)) []) := by
        have := says_LsF L HL5.out.sm l12
        rw [HL5.out.sum l12, told_int' _ HSI.out] at this
        exact this
      have HSJ := hide (says_LsJ L M HL5.out.sm l12 HM5.out.sm m12)
      have HLR : Hid ((spellS L.reverse).length ≤ 8000) := by
        have := spellS_len L.reverse fun k hk => itoa_lenS k (HL5.out.sm k (List.mem_reverse.1 hk))
        rw [List.length_reverse] at this
        show _ ≤ _
        omega
      have HLT : Hid ((spellS (twiK L L.length)).length ≤ 8000) := by
        have := spellS_len (twiK L L.length) fun k hk => itoa_len k (HL5.out.twi k hk).1 (HL5.out.twi k hk).2
        rw [twiK_all, List.length_map] at this
        show (spellS (twiK L L.length)).length ≤ _
        rw [twiK_all]
        omega
      have HLJ : Hid ((spellS (L ++ M)).length ≤ 8000) := by
        have := spellS_len (L ++ M) fun k hk => itoa_lenS k ((In5.app HL5.out HM5.out).sm k hk)
        rw [List.length_append] at this
        show _ ≤ _
        omega
      clear hsi
      by_cases hLe : L = []
      · by_cases hMe : M = []
        · subst hLe
          have q1 := HNL.out rfl
          cases q1
          clear HNL
          subst hMe
          have q2 := HNM.out rfl
          cases q2
          clear HNM
          have RL2 := hide (ownsRow_of_upd HRLW.out (Upd.of_below (fun _ => False) V2.out) (fun _ _ h => h))
          have RM2 := hide (ownsRow_of_upd HRMW.out (Upd.of_below (fun _ => False) V2.out) (fun _ _ h => h))
          have hv2 := V2.out.size
          have hv2w := HBW.out.size
          have HBO : Hid (∀ W, Below v2.heap.size v2 W → Calls Tryz.prog 23 #[.slice none 0 0] W (StrP W (spellS ([] ++ [])))) := fun W _ => spelled_go [] W none 0 (by simp) (fun k hk => by cases hk) (fun i hi => absurd hi (by simp))
          have hzz : wr.heap.size ≤ v2.heap.size := V2.out.size
          go_wp2_with fail
          refine (HSB.out v2 (V2.out)).mono ?_
          rintro e y1 ⟨rfl, hb⟩
          have U1 := hide (hb)
          clear hb
          go_wp2_with fail
          refine (cut_go y1 _ HLR.out).mono ?_
          rintro e yy ⟨rfl, hq⟩
          obtain rfl : y1 = yy := hq.symm
          clear hq
          go_wp2_with fail
          refine (is_says HSR.out (by simp [LsRT, HZL.out]) rfl _ (HE.out.below (HBW.out.trans ((V2.out.trans (U1.out.mono V2.out.size)).mono HBW.out.size)))).mono ?_
          rintro e y2 ⟨rfl, hb⟩
          have U2 := hide (U1.out.trans (hb.mono U1.out.size))
          clear hb U1
          go_wp2_with fail
          refine (HST.out y2 (V2.out.trans (U2.out.mono V2.out.size))).mono ?_
          rintro e y3 ⟨rfl, hb⟩
          have U3 := hide (U2.out.trans (hb.mono U2.out.size))
          clear hb U2
          go_wp2_with fail
          refine (cut_go y3 _ HLT.out).mono ?_
          rintro e yy ⟨rfl, hq⟩
          obtain rfl : y3 = yy := hq.symm
          clear hq
          go_wp2_with fail
          refine (is_says HSM.out (by simp [LsMT, HZL.out]) rfl _ (HE.out.below (HBW.out.trans ((V2.out.trans (U3.out.mono V2.out.size)).mono HBW.out.size)))).mono ?_
          rintro e y4 ⟨rfl, hb⟩
          have U4 := hide (U3.out.trans (hb.mono U3.out.size))
          clear hb U3
          go_wp2_with fail
          refine (digits_go (sumK [] [].length) HSI.out.1 HSI.out.2 _).mono ?_
          rintro e y5 ⟨rfl, hb⟩
          have U5 := hide (U4.out.trans (hb.mono U4.out.size))
          clear hb U4
          go_wp2_with fail
          refine (is_says HSF.out (by simp [LsFT, HZL.out]) rfl _ (HE.out.below (HBW.out.trans ((V2.out.trans (U5.out.mono V2.out.size)).mono HBW.out.size)))).mono ?_
          rintro e y6 ⟨rfl, hb⟩
          have U6 := hide (U5.out.trans (hb.mono U5.out.size))
          clear hb U5
          go_wp2_with fail
          refine (HBO.out y6 U6.out).mono ?_
          rintro e y7 ⟨rfl, hb⟩
          have U7 := hide (U6.out.trans (hb.mono U6.out.size))
          clear hb U6
          go_wp2_with fail
          refine (cut_go y7 _ HLJ.out).mono ?_
          rintro e yy ⟨rfl, hq⟩
          obtain rfl : y7 = yy := hq.symm
          clear hq
          go_wp2_with fail
          refine (is_says HSJ.out (by simp [LsJT, HZL.out, HZM.out]) rfl _ (HE.out.below (HBW.out.trans ((V2.out.trans (U7.out.mono V2.out.size)).mono HBW.out.size)))).mono ?_
          rintro e y8 ⟨rfl, hb⟩
          have U8 := hide (U7.out.trans (hb.mono U7.out.size))
          clear hb U7
          go_wp2
          go_ret
          exact ⟨rfl, HBW.out.trans ((V2.out.trans (U8.out.mono V2.out.size)).mono HBW.out.size)⟩
        · subst hLe
          have q1 := HNL.out rfl
          cases q1
          clear HNL
          have hMp : 0 < M.length := by rcases M with _ | _ <;> simp_all
          obtain ⟨gm, hgm, _, _, _⟩ := HCM.out 0 hMp
          subst hgm
          have RL2 := hide (ownsRow_of_upd HRLW.out (Upd.of_below (fun _ => False) V2.out) (fun _ _ h => h))
          have RM2 := hide (ownsRow_of_upd HRMW.out (Upd.of_below (fun _ => False) V2.out) (fun _ _ h => h))
          have hv2 := V2.out.size
          have hv2w := HBW.out.size
          go_wp2_with (at_builtin; go_loud (refine wpList_append_lies _ rfl (.tmp 74) (.tmp 75) 30 rfl v2.heap.size 3 i0 (.int .i64 0) 1 8 Tryz.underlying30 HI.out.1 HI.out.2.1 HI.out.2.2.1 HI.out.2.2.2 rfl (by decide) _ 0 [] rfl (World.ownsRow_nil _ _ _ _) ⟨gm, 0, none⟩ M.length cm (intV M) rfl (by rw [intV_len]; omega) (news_at RM2.out rfl) (intV_one _) (by omega) (by unfold maxLen; omega) (by omega) (Nat.le_refl _) v2.heap.size rfl ?_))
          intro g4 cap4 v4 hown hgrow hat hlt4
          have hb4 : Below v2.heap.size v2 v4 := (Upd.grown (Upd.refl (fun _ => False) v2) hgrow (fun j hj => by cases hj)).below (Nat.le_refl _) (fun _ h => h.elim)
          have B4 := hide hb4
          have RB := hide (show v4.ownsRow v2.heap.size 3 1 (.slice (some ⟨g4, 0, none⟩) M.length cap4) M.length (intV ([] ++ M)) from hown)
          clear hown hgrow hat hb4
          have V4 := hide (V2.out.trans (B4.out.mono (by omega)))
          have HBO : Hid (∀ W, Below v4.heap.size v4 W → Calls Tryz.prog 23 #[(.slice (some ⟨g4, 0, none⟩) M.length cap4)] W (StrP W (spellS ([] ++ M)))) := fun W hW => by
            have hn : ([] ++ M).length = M.length := by first | rfl | simp
            have h1 : v4.ownsRow v2.heap.size 3 1 (.slice (some ⟨g4, 0, none⟩) M.length cap4) (M.length) (intV ([] ++ M)) := by first | exact RB.out | (rw [List.append_nil]; exact RB.out)
            have := spelled_go ([] ++ M) W (some ⟨g4, 0, none⟩) cap4 (by rw [hn]; omega) (In5.app HL5.out HM5.out).rng ((row_sp h1 hn.symm).below hW)
            rw [hn] at this
            exact this
          have hzz : wr.heap.size ≤ v4.heap.size := V4.out.size
          go_wp2_with fail
          refine (HSB.out v4 (V4.out)).mono ?_
          rintro e y1 ⟨rfl, hb⟩
          have U1 := hide (hb)
          clear hb
          go_wp2_with fail
          refine (cut_go y1 _ HLR.out).mono ?_
          rintro e yy ⟨rfl, hq⟩
          obtain rfl : y1 = yy := hq.symm
          clear hq
          go_wp2_with fail
          refine (is_says HSR.out (by simp [LsRT, HZL.out]) rfl _ (HE.out.below (HBW.out.trans ((V4.out.trans (U1.out.mono V4.out.size)).mono HBW.out.size)))).mono ?_
          rintro e y2 ⟨rfl, hb⟩
          have U2 := hide (U1.out.trans (hb.mono U1.out.size))
          clear hb U1
          go_wp2_with fail
          refine (HST.out y2 (V4.out.trans (U2.out.mono V4.out.size))).mono ?_
          rintro e y3 ⟨rfl, hb⟩
          have U3 := hide (U2.out.trans (hb.mono U2.out.size))
          clear hb U2
          go_wp2_with fail
          refine (cut_go y3 _ HLT.out).mono ?_
          rintro e yy ⟨rfl, hq⟩
          obtain rfl : y3 = yy := hq.symm
          clear hq
          go_wp2_with fail
          refine (is_says HSM.out (by simp [LsMT, HZL.out]) rfl _ (HE.out.below (HBW.out.trans ((V4.out.trans (U3.out.mono V4.out.size)).mono HBW.out.size)))).mono ?_
          rintro e y4 ⟨rfl, hb⟩
          have U4 := hide (U3.out.trans (hb.mono U3.out.size))
          clear hb U3
          go_wp2_with fail
          refine (digits_go (sumK [] [].length) HSI.out.1 HSI.out.2 _).mono ?_
          rintro e y5 ⟨rfl, hb⟩
          have U5 := hide (U4.out.trans (hb.mono U4.out.size))
          clear hb U4
          go_wp2_with fail
          refine (is_says HSF.out (by simp [LsFT, HZL.out]) rfl _ (HE.out.below (HBW.out.trans ((V4.out.trans (U5.out.mono V4.out.size)).mono HBW.out.size)))).mono ?_
          rintro e y6 ⟨rfl, hb⟩
          have U6 := hide (U5.out.trans (hb.mono U5.out.size))
          clear hb U5
          go_wp2_with fail
          refine (HBO.out y6 U6.out).mono ?_
          rintro e y7 ⟨rfl, hb⟩
          have U7 := hide (U6.out.trans (hb.mono U6.out.size))
          clear hb U6
          go_wp2_with fail
          refine (cut_go y7 _ HLJ.out).mono ?_
          rintro e yy ⟨rfl, hq⟩
          obtain rfl : y7 = yy := hq.symm
          clear hq
          go_wp2_with fail
          refine (is_says HSJ.out (by simp [LsJT, HZL.out, HZM.out]) rfl _ (HE.out.below (HBW.out.trans ((V4.out.trans (U7.out.mono V4.out.size)).mono HBW.out.size)))).mono ?_
          rintro e y8 ⟨rfl, hb⟩
          have U8 := hide (U7.out.trans (hb.mono U7.out.size))
          clear hb U7
          go_wp2
          go_ret
          exact ⟨rfl, HBW.out.trans ((V4.out.trans (U8.out.mono V4.out.size)).mono HBW.out.size)⟩
      · by_cases hMe : M = []
        · have hLp : 0 < L.length := by rcases L with _ | _ <;> simp_all
          obtain ⟨gl, hgl, _, _, _⟩ := HCL.out 0 hLp
          subst hgl
          subst hMe
          have q2 := HNM.out rfl
          cases q2
          clear HNM
          have RL2 := hide (ownsRow_of_upd HRLW.out (Upd.of_below (fun _ => False) V2.out) (fun _ _ h => h))
          have RM2 := hide (ownsRow_of_upd HRMW.out (Upd.of_below (fun _ => False) V2.out) (fun _ _ h => h))
          have hv2 := V2.out.size
          have hv2w := HBW.out.size
          go_wp2_with (at_builtin; go_loud (refine wpList_append_lies _ rfl (.tmp 71) (.tmp 72) 30 rfl v2.heap.size 3 i0 (.int .i64 0) 1 8 Tryz.underlying30 HI.out.1 HI.out.2.1 HI.out.2.2.1 HI.out.2.2.2 rfl (by decide) _ 0 [] rfl (World.ownsRow_nil _ _ _ _) ⟨gl, 0, none⟩ L.length cl (intV L) rfl (by rw [intV_len]; omega) (news_at RL2.out rfl) (intV_one _) (by omega) (by unfold maxLen; omega) (by omega) (Nat.le_refl _) v2.heap.size rfl ?_))
          intro g3 cap3 v3 hown hgrow hat hlt3
          have hb3 : Below v2.heap.size v2 v3 := (Upd.grown (Upd.refl (fun _ => False) v2) hgrow (fun j hj => by cases hj)).below (Nat.le_refl _) (fun _ h => h.elim)
          obtain ⟨_, _, hvv, hc31, hc32, _⟩ := ownsRow_slice hown
          cases hvv
          have RO3 := hide hown
          have B3 := hide hb3
          have RM3 := hide (ownsRow_of_upd RM2.out (Upd.of_below (fun _ => False) hb3) (fun _ _ h => h))
          have hv3 := hb3.size
          clear hown hgrow hat hb3
          have V4 := hide (V2.out.trans (B3.out.mono (by omega)))
          rw [List.append_nil] at HLJ HSJ
          have HBO : Hid (∀ W, Below v3.heap.size v3 W → Calls Tryz.prog 23 #[(.slice (some ⟨g3, 0, none⟩) L.length cap3)] W (StrP W (spellS L))) := fun W hW => by
            have hn : L.length = L.length := by first | rfl | simp
            have h1 : v3.ownsRow v2.heap.size 3 1 (.slice (some ⟨g3, 0, none⟩) L.length cap3) (L.length) (intV L) := by first | exact RO3.out | (rw [List.append_nil]; exact RO3.out)
            have := spelled_go L W (some ⟨g3, 0, none⟩) cap3 (by rw [hn]; omega) HL5.out.rng ((row_sp h1 hn.symm).below hW)
            rw [hn] at this
            exact this
          have hzz : wr.heap.size ≤ v3.heap.size := V4.out.size
          go_wp2_with fail
          refine (HSB.out v3 (V4.out)).mono ?_
          rintro e y1 ⟨rfl, hb⟩
          have U1 := hide (hb)
          clear hb
          go_wp2_with fail
          refine (cut_go y1 _ HLR.out).mono ?_
          rintro e yy ⟨rfl, hq⟩
          obtain rfl : y1 = yy := hq.symm
          clear hq
          go_wp2_with fail
          refine (is_says HSR.out (by simp [LsRT, HZL.out]) rfl _ (HE.out.below (HBW.out.trans ((V4.out.trans (U1.out.mono V4.out.size)).mono HBW.out.size)))).mono ?_
          rintro e y2 ⟨rfl, hb⟩
          have U2 := hide (U1.out.trans (hb.mono U1.out.size))
          clear hb U1
          go_wp2_with fail
          refine (HST.out y2 (V4.out.trans (U2.out.mono V4.out.size))).mono ?_
          rintro e y3 ⟨rfl, hb⟩
          have U3 := hide (U2.out.trans (hb.mono U2.out.size))
          clear hb U2
          go_wp2_with fail
          refine (cut_go y3 _ HLT.out).mono ?_
          rintro e yy ⟨rfl, hq⟩
          obtain rfl : y3 = yy := hq.symm
          clear hq
          go_wp2_with fail
          refine (is_says HSM.out (by simp [LsMT, HZL.out]) rfl _ (HE.out.below (HBW.out.trans ((V4.out.trans (U3.out.mono V4.out.size)).mono HBW.out.size)))).mono ?_
          rintro e y4 ⟨rfl, hb⟩
          have U4 := hide (U3.out.trans (hb.mono U3.out.size))
          clear hb U3
          go_wp2_with fail
          refine (digits_go (sumK L L.length) HSI.out.1 HSI.out.2 _).mono ?_
          rintro e y5 ⟨rfl, hb⟩
          have U5 := hide (U4.out.trans (hb.mono U4.out.size))
          clear hb U4
          go_wp2_with fail
          refine (is_says HSF.out (by simp [LsFT, HZL.out]) rfl _ (HE.out.below (HBW.out.trans ((V4.out.trans (U5.out.mono V4.out.size)).mono HBW.out.size)))).mono ?_
          rintro e y6 ⟨rfl, hb⟩
          have U6 := hide (U5.out.trans (hb.mono U5.out.size))
          clear hb U5
          go_wp2_with fail
          refine (HBO.out y6 U6.out).mono ?_
          rintro e y7 ⟨rfl, hb⟩
          have U7 := hide (U6.out.trans (hb.mono U6.out.size))
          clear hb U6
          go_wp2_with fail
          refine (cut_go y7 _ HLJ.out).mono ?_
          rintro e yy ⟨rfl, hq⟩
          obtain rfl : y7 = yy := hq.symm
          clear hq
          go_wp2_with fail
          refine (is_says HSJ.out (by simp [LsJT, HZL.out, HZM.out]) rfl _ (HE.out.below (HBW.out.trans ((V4.out.trans (U7.out.mono V4.out.size)).mono HBW.out.size)))).mono ?_
          rintro e y8 ⟨rfl, hb⟩
          have U8 := hide (U7.out.trans (hb.mono U7.out.size))
          clear hb U7
          go_wp2
          go_ret
          exact ⟨rfl, HBW.out.trans ((V4.out.trans (U8.out.mono V4.out.size)).mono HBW.out.size)⟩
        · have hLp : 0 < L.length := by rcases L with _ | _ <;> simp_all
          obtain ⟨gl, hgl, _, _, _⟩ := HCL.out 0 hLp
          subst hgl
          have hMp : 0 < M.length := by rcases M with _ | _ <;> simp_all
          obtain ⟨gm, hgm, _, _, _⟩ := HCM.out 0 hMp
          subst hgm
          have RL2 := hide (ownsRow_of_upd HRLW.out (Upd.of_below (fun _ => False) V2.out) (fun _ _ h => h))
          have RM2 := hide (ownsRow_of_upd HRMW.out (Upd.of_below (fun _ => False) V2.out) (fun _ _ h => h))
          have hv2 := V2.out.size
          have hv2w := HBW.out.size
          go_wp2_with (at_builtin; go_loud (refine wpList_append_lies _ rfl (.tmp 71) (.tmp 72) 30 rfl v2.heap.size 3 i0 (.int .i64 0) 1 8 Tryz.underlying30 HI.out.1 HI.out.2.1 HI.out.2.2.1 HI.out.2.2.2 rfl (by decide) _ 0 [] rfl (World.ownsRow_nil _ _ _ _) ⟨gl, 0, none⟩ L.length cl (intV L) rfl (by rw [intV_len]; omega) (news_at RL2.out rfl) (intV_one _) (by omega) (by unfold maxLen; omega) (by omega) (Nat.le_refl _) v2.heap.size rfl ?_))
          intro g3 cap3 v3 hown hgrow hat hlt3
          have hb3 : Below v2.heap.size v2 v3 := (Upd.grown (Upd.refl (fun _ => False) v2) hgrow (fun j hj => by cases hj)).below (Nat.le_refl _) (fun _ h => h.elim)
          obtain ⟨_, _, hvv, hc31, hc32, _⟩ := ownsRow_slice hown
          cases hvv
          have RO3 := hide hown
          have B3 := hide hb3
          have RM3 := hide (ownsRow_of_upd RM2.out (Upd.of_below (fun _ => False) hb3) (fun _ _ h => h))
          have hv3 := hb3.size
          clear hown hgrow hat hb3
          go_wp2_with (at_builtin; go_loud (refine wpList_append_lies _ rfl (.tmp 74) (.tmp 75) 30 rfl v2.heap.size 3 i0 (.int .i64 0) 1 8 Tryz.underlying30 HI.out.1 HI.out.2.1 HI.out.2.2.1 HI.out.2.2.2 rfl (by decide) _ L.length (intV L) rfl RO3.out ⟨gm, 0, none⟩ M.length cm (intV M) rfl (by rw [intV_len]; omega) (news_at RM3.out rfl) (intV_one _) (by omega) (by unfold maxLen; omega) (by omega) (by omega) v3.heap.size rfl ?_))
          intro g4 cap4 v4 hown hgrow hat hlt4
          have hb4 : Below v2.heap.size v3 v4 := (Upd.grown (Upd.refl (fun j => (Value.slice (some ⟨g3, 0, none⟩) L.length cap3).ownBlock = some j) v3) hgrow (fun j hj _ => hj)).below hv3 (fun j hj => (ownsRow_ge RO3.out hj).1)
          have B4 := hide (B3.out.trans hb4)
          have RB := hide (show v4.ownsRow v2.heap.size 3 1 (.slice (some ⟨g4, 0, none⟩) (L.length + M.length) cap4) (L.length + M.length) (intV (L ++ M)) from by rw [show intV (L ++ M) = intV L ++ intV M by simp [intV]]; exact hown)
          clear hown hgrow hat hb4
          have V4 := hide (V2.out.trans (B4.out.mono (by omega)))
          have HBO : Hid (∀ W, Below v4.heap.size v4 W → Calls Tryz.prog 23 #[(.slice (some ⟨g4, 0, none⟩) (L.length + M.length) cap4)] W (StrP W (spellS (L ++ M)))) := fun W hW => by
            have hn : (L ++ M).length = L.length + M.length := by first | rfl | simp
            have h1 : v4.ownsRow v2.heap.size 3 1 (.slice (some ⟨g4, 0, none⟩) (L.length + M.length) cap4) (L.length + M.length) (intV (L ++ M)) := by first | exact RB.out | (rw [List.append_nil]; exact RB.out)
            have := spelled_go (L ++ M) W (some ⟨g4, 0, none⟩) cap4 (by rw [hn]; omega) (In5.app HL5.out HM5.out).rng ((row_sp h1 hn.symm).below hW)
            rw [hn] at this
            exact this
          have hzz : wr.heap.size ≤ v4.heap.size := V4.out.size
          go_wp2_with fail
          refine (HSB.out v4 (V4.out)).mono ?_
          rintro e y1 ⟨rfl, hb⟩
          have U1 := hide (hb)
          clear hb
          go_wp2_with fail
          refine (cut_go y1 _ HLR.out).mono ?_
          rintro e yy ⟨rfl, hq⟩
          obtain rfl : y1 = yy := hq.symm
          clear hq
          go_wp2_with fail
          refine (is_says HSR.out (by simp [LsRT, HZL.out]) rfl _ (HE.out.below (HBW.out.trans ((V4.out.trans (U1.out.mono V4.out.size)).mono HBW.out.size)))).mono ?_
          rintro e y2 ⟨rfl, hb⟩
          have U2 := hide (U1.out.trans (hb.mono U1.out.size))
          clear hb U1
          go_wp2_with fail
          refine (HST.out y2 (V4.out.trans (U2.out.mono V4.out.size))).mono ?_
          rintro e y3 ⟨rfl, hb⟩
          have U3 := hide (U2.out.trans (hb.mono U2.out.size))
          clear hb U2
          go_wp2_with fail
          refine (cut_go y3 _ HLT.out).mono ?_
          rintro e yy ⟨rfl, hq⟩
          obtain rfl : y3 = yy := hq.symm
          clear hq
          go_wp2_with fail
          refine (is_says HSM.out (by simp [LsMT, HZL.out]) rfl _ (HE.out.below (HBW.out.trans ((V4.out.trans (U3.out.mono V4.out.size)).mono HBW.out.size)))).mono ?_
          rintro e y4 ⟨rfl, hb⟩
          have U4 := hide (U3.out.trans (hb.mono U3.out.size))
          clear hb U3
          go_wp2_with fail
          refine (digits_go (sumK L L.length) HSI.out.1 HSI.out.2 _).mono ?_
          rintro e y5 ⟨rfl, hb⟩
          have U5 := hide (U4.out.trans (hb.mono U4.out.size))
          clear hb U4
          go_wp2_with fail
          refine (is_says HSF.out (by simp [LsFT, HZL.out]) rfl _ (HE.out.below (HBW.out.trans ((V4.out.trans (U5.out.mono V4.out.size)).mono HBW.out.size)))).mono ?_
          rintro e y6 ⟨rfl, hb⟩
          have U6 := hide (U5.out.trans (hb.mono U5.out.size))
          clear hb U5
          go_wp2_with fail
          refine (HBO.out y6 U6.out).mono ?_
          rintro e y7 ⟨rfl, hb⟩
          have U7 := hide (U6.out.trans (hb.mono U6.out.size))
          clear hb U6
          go_wp2_with fail
          refine (cut_go y7 _ HLJ.out).mono ?_
          rintro e yy ⟨rfl, hq⟩
          obtain rfl : y7 = yy := hq.symm
          clear hq
          go_wp2_with fail
          refine (is_says HSJ.out (by simp [LsJT, HZL.out, HZM.out]) rfl _ (HE.out.below (HBW.out.trans ((V4.out.trans (U7.out.mono V4.out.size)).mono HBW.out.size)))).mono ?_
          rintro e y8 ⟨rfl, hb⟩
          have U8 := hide (U7.out.trans (hb.mono U7.out.size))
          clear hb U7
          go_wp2
          go_ret
          exact ⟨rfl, HBW.out.trans ((V4.out.trans (U8.out.mono V4.out.size)).mono HBW.out.size)⟩
end Go.Proofs.YtlobegpjenabaaaGreatDoor
