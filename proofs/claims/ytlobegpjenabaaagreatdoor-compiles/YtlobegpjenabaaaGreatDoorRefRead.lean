/- latheref.Read: the forms of a text, or what is wrong with it, and where. -/
import Derived.Test.YtlobegpjenabaaaGreatDoorRefDtk
namespace Go.Proofs.YtlobegpjenabaaaGreatDoor
open Go.RowKit
set_option linter.unusedSimpArgs false
set_option linter.unusedVariables false
attribute [local go_sem ↓] Go.wp_at_zero Go.wp_at_succ

/-- What a call of Read comes to. -/
def ReadPost (w : World) (r : Res (List D)) (e : Ending) (w' : World) : Prop :=
  Below w.heap.size w w' ∧ (∀ er p, r = .inl (er, p) → e = .returned (.tuple #[.slice none 0 0, .int .i64 er, .int .i64 (p : Nat)]) ∧ ¬ er = 0) ∧
    (∀ f, r = .inr f → ∃ v css, e = .returned (.tuple #[v, .int .i64 0, .int .i64 0]) ∧ Row5 w.heap.size w' v css ∧ RVs w' 21 css f ∧ f.length ≤ 1000)

def ReadRel (s : ByteArray) (w : World) (R : Res (List D)) (v : Value) (wr : World) (n i : Nat) (acc : List D) (css : List (Array Value)) : Prop :=
  i ≤ s.size ∧ s.size - i < n ∧ readS n s.data.toList i acc = R ∧ acc.length ≤ i ∧ wr.heap[w.heap.size]? = some (cur s i 0 0) ∧ Row5 (w.heap.size + 1) wr v css ∧ RVs wr 21 css acc ∧ Below w.heap.size w wr ∧ w.heap.size + 1 ≤ wr.heap.size

theorem readS_end (n : Nat) (l : List UInt8) (i : Nat) (acc : List D) (h : skipTo l i = l.length) : readS (n + 1) l i acc = .inr acc := by simp only [readS]; rw [if_pos h]
theorem readS_err (n : Nat) (l : List UInt8) (i : Nat) (acc : List D) (h : ¬ skipTo l i = l.length) (e : Int × Nat) (h3 : rd (2 * l.length + 2) l 0 (skipTo l i) none = .inl e) : readS (n + 1) l i acc = .inl e := by simp only [readS]; rw [if_neg h, h3]
theorem readS_ok (n : Nat) (l : List UInt8) (i : Nat) (acc : List D) (h : ¬ skipTo l i = l.length) (d : D) (k : Nat) (h3 : rd (2 * l.length + 2) l 0 (skipTo l i) none = .inr (d, k)) : readS (n + 1) l i acc = readS n l k (acc ++ [d]) := by simp only [readS]; rw [if_neg h, h3]

theorem read_round {s : ByteArray} {n i k : Nat} {w wr w2 w3 : World} {R : Res (List D)} {v v' : Value} {acc : List D} {css : List (Array Value)} {g : D} {k0 m0 : Int} {s0 : ByteArray} {p0 : Option Addr} {e a : Int}
    (h2 : k ≤ s.size) (h3 : s.size - k < n) (h4 : readS n s.data.toList k (acc ++ [g]) = R) (h5 : acc.length + 1 ≤ k) (hb : Below w.heap.size w wr)
    (hCr : wr.heap[w.heap.size]? = some (cur s i e a)) (hrow : Row5 (w.heap.size + 1) wr v css) (hrv : RVs wr 21 css acc) (hUW : Upd (fun j => j = w.heap.size) wr w2) (hC2 : w2.heap[w.heap.size]? = some (cur s k 0 0))
    (hg : RV w2 21 (rcells k0 m0 s0 p0) g) (hsz : w.heap.size + 1 ≤ wr.heap.size)
    (hu3 : Upd (fun j => v.ownBlock = some j) w2 w3) (ho : w3.ownsRow (w.heap.size + 1) 96 5 v' (css.length + 1) (flat css ++ [.int .i64 k0, .int .i64 m0, .string s0, .pointer p0, .pointer none])) :
    ReadRel s w R v' w3 n k (acc ++ [g]) (css ++ [rcells k0 m0 s0 p0]) := by
  have hrow2 : Row5 (w.heap.size + 1) w2 v css := row_keep hrow hUW (by omega)
  have hk3 : Keep 162 w2 w3 := Keep.of_upd hu3 (ownsRow_notPair hrow2 (by decide))
  have hkk := (cur_keep hCr hUW).trans hk3
  refine ⟨h2, h3, h4, by simpa using h5, hu3.at hC2 (fun h => by have := (ownsRow_ge hrow2 h).1; omega), ?_, ?_, ?_, ?_⟩
  · unfold Row5; rw [flat_snoc, List.length_append]; exact ho
  · exact RVs.append (RVs.keep hkk _ _ _ hrv) ⟨rfl, RV.keep hk3 _ _ _ hg, trivial⟩
  · exact (hb.trans (hUW.below hb.size (by intro k hk; omega))).trans (hu3.below (Nat.le_trans hb.size hUW.size) (fun j h => by have := (ownsRow_ge hrow2 h).1; omega))
  · have := hUW.size; have := hu3.size; omega

set_option maxRecDepth 100000 in
set_option maxHeartbeats 1000000 in
theorem read_any (s : ByteArray) (hs : s.size ≤ 1000) (w : World) : Calls Tryz.prog 44 #[.string s] w (ReadPost w (readS (s.data.toList.length + 1) s.data.toList 0 [])) := by
  have HDat := hide (cursor_all s hs (2 * s.size + 2) (2 * s.size + 2) (Nat.le_refl _)).1
  obtain ⟨i0, hinf, hz0, hz1, hz2⟩ := info_parts infoV
  have HI := hide (And.intro hinf (And.intro hz0 (And.intro hz1 hz2)))
  clear hinf hz0 hz1 hz2
  go_enter Tryz.func44, Tryz.ntmps44
  go_wp2
  go_loopw [6] (fun v wr => ∃ n i acc css, ReadRel s w (readS (s.data.toList.length + 1) s.data.toList 0 []) v wr n i acc css) (fun _ wr => s.size - curI w.heap.size wr)
  case atStart =>
    refine ⟨_, 0, [], [], Nat.zero_le _, by simp, rfl, Nat.le_refl _, heap_alloc_new _ _, Row5.nil _ _, trivial, (Below.refl _ _).alloc (Nat.le_refl _) _, by simp⟩
  case round =>
    obtain ⟨n, i, acc, css, hi, hfu, hrd, hal, hCr, hrow, hrvs, hb, hsz⟩ := hrel
    obtain ⟨n, rfl⟩ : ∃ m, n = m + 1 := ⟨n - 1, by omega⟩
    have c0 := cell_of_block hCr 0
    have c1 := cell_of_block hCr 1
    have f1 := frozen_of_block hCr 1
    simp at c0 c1
    have HCr := hide hCr
    have HRow := hide hrow
    have HRv := hide hrvs
    have HB := hide hb
    have HRd := hide hrd
    clear hCr hrow hrvs hb hrd
    go_wp2_with fail
    refine (skip_any s i _ hi hs).mono ?_
    rintro e w' ⟨rfl, rfl⟩
    have hj1 := skipTo_le s.data.toList i (by simpa using hi)
    have hj2 := le_skipTo s.data.toList i
    obtain ⟨j, hj⟩ : ∃ j, skipTo s.data.toList i = j := ⟨_, rfl⟩
    rw [hj] at hj1 hj2
    rw [hj]
    have Hj := hide hj
    clear hj
    simp at hj1
    by_cases hje : j = s.size
    · have bje : ((j : Int) == (s.size : Int)) = true := by rw [beq_iff_eq]; omega
      have HE := hide (readS_end n s.data.toList i acc (by rw [Hj.out, hje]; simp))
      clear hje
      go_wp2
      go_ret3
      have hu := (Upd.refl (fun k => k = w.heap.size) w').setCell ⟨w.heap.size, 1, none⟩ (.int .i64 j) (fun _ => rfl)
      refine ⟨HB.out.trans (hu.below HB.out.size (by intro k hk; omega)), ?_, ?_⟩
      · intro er p h; rw [← HRd.out, HE.out] at h; cases h
      · intro f h; rw [← HRd.out, HE.out] at h; cases h
        exact ⟨_, css, rfl, ownsRow_base (row_keep HRow.out hu (by omega)) (by omega), RVs.keep (cur_keep HCr.out hu) _ _ _ HRv.out, by omega⟩
    · have bje : ((j : Int) == (s.size : Int)) = false := by rw [beq_eq_false_iff_ne]; omega
      have hjs : j < s.size := by omega
      have Hne : Hid (¬ skipTo s.data.toList i = s.data.toList.length) := by show ¬ _; rw [Hj.out]; simpa using hje
      clear hje
      go_wp2_with fail
      have hu1 := (Upd.refl (fun k => k = w.heap.size) w').setCell ⟨w.heap.size, 1, none⟩ (.int .i64 j) (fun _ => rfl)
      have hC1 : (w'.setCell ⟨w.heap.size, 1, none⟩ (.int .i64 j)).heap[w.heap.size]? = some (cur s j 0 0) := heap_setCell_same HCr.out
      have HU1 := hide hu1
      have HC1 := hide hC1
      clear hu1 hC1
      refine (HDat.out w.heap.size 0 j _ (by omega) hjs (by exact HC1.out) (by omega)).mono ?_
      rintro e w2 ⟨cs, g, rfl, hRV2, hU2, i2, e2, a2, hC2, hin1, hin2⟩
      obtain ⟨k0, m0, s0, p0, rfl⟩ := RV.form _ _ _ hRV2
      have hUW := HU1.out.trans hU2 (fun _ _ h => h)
      have hsz2 := hUW.size
      have e2c := cell_of_block hC2 2
      have a2c := cell_of_block hC2 3
      simp at e2c a2c
      have hlt2 : w.heap.size < w2.heap.size := by omega
      cases hrd : rd (2 * s.size + 2) s.data.toList 0 j none with
      | inl ep =>
        obtain ⟨er, pp⟩ := ep
        obtain ⟨rfl, rfl⟩ := hin1 er pp hrd
        have hne0 := rd_err s.data.toList _ 0 j none e2 pp (by simp; omega) (fun _ => by simpa using hjs) (by simp; omega) hrd
        have bne0 : (e2 != 0) = true := by rw [bne_iff_ne]; exact hne0
        have HE := hide (readS_err n s.data.toList i acc Hne.out (e2, pp) (by rw [Hj.out, len_eq]; exact hrd))
        have HN0 := hide hne0
        have HUW := hide hUW
        clear hne0 hrd hin1 hin2 hRV2 hU2 hC2 hUW
        unfold rcells
        go_wp2_with fail
        go_quiet (fail)
        go_wp2
        go_ret3
        have hb2 := HB.out.trans ((((HUW.out.alloc (.cells #[.int .i64 k0, .int .i64 m0, .string s0, .pointer p0, .pointer none] 96)).drewN nq).below HB.out.size (by intro k hk; omega)))
        refine ⟨hb2, ?_, ?_⟩
        · intro er p h; rw [← HRd.out, HE.out] at h; cases h; exact ⟨rfl, HN0.out⟩
        · intro f h; rw [← HRd.out, HE.out] at h; cases h
      | inr dk =>
        obtain ⟨d, k⟩ := dk
        obtain ⟨rfl, rfl, rfl, rfl⟩ := hin2 d k hrd
        have hadv := rd_adv s.data.toList _ 0 j none g k (by simp; omega) (fun _ => by simpa using hjs) hrd
        simp only [len_eq] at hadv
        have hcl := HRv.out.length
        have hlen : css.length ≤ 1000 := by omega
        have hrow2 : Row5 (w.heap.size + 1) w2 u6 css := row_keep HRow.out hUW (by omega)
        have HRow2 := hide hrow2
        have HC2 := hide hC2
        have HUW := hide hUW
        have HRV2 := hide hRV2
        have HOK := hide (readS_ok n s.data.toList i acc Hne.out g k (by rw [Hj.out, len_eq]; exact hrd))
        clear hC2 hUW hRV2 hU2 hin1 hin2 hrd hrow2 hcl
        unfold rcells
        go_wp2_with (at_builtin; refine wpList_append_lies _ rfl (.tmp 43) (.tmp 45) 65 rfl (w.heap.size + 1) 96 i0 zero5 5 48 Tryz.underlying65 HI.out.1 HI.out.2.1 HI.out.2.2.1 HI.out.2.2.2 rfl (by decide) _ css.length (flat css) rfl ((HRow2.out.alloc _).alloc _) ⟨w2.heap.size + 1, 0, none⟩ 1 1 [.int .i64 k0, .int .i64 m0, .string s0, .pointer p0, .pointer none] rfl rfl (news5 (heap_alloc_new1 _ _ _)) (one5 _ _ _ _) (by decide) (by unfold maxLen; omega) (by omega) (by simp; omega) (w2.heap.size + 2) (by simp) ?_)
        intro g' cap w3 hown3 hgrow hat hlt3
        have H3 := seq_upd hgrow
        have HO3 := hide hown3
        have HU3 := hide H3
        clear hown3 hgrow hat H3
        go_wp2
        go_roundw
        case rel => exact ⟨n, k, acc ++ [g], css ++ [rcells k0 m0 s0 p0], read_round (by omega) (by omega) (by rw [← HRd.out, HOK.out]) (by omega) HB.out HCr.out HRow.out HRv.out HUW.out HC2.out HRV2.out hsz HU3.out HO3.out⟩
        case measure =>
          rw [curI_of HCr.out, curI_of (HU3.out.at HC2.out (fun h => by have := (ownsRow_ge HRow2.out h).1; omega))]
          simp; omega
end Go.Proofs.YtlobegpjenabaaaGreatDoor
