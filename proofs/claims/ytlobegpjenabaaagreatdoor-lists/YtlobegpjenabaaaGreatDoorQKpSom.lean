/- lathekeep: some, cut. -/
import Derived.Test.YtlobegpjenabaaaGreatDoorQKpLst
namespace Go.Proofs.YtlobegpjenabaaaGreatDoor
open Go.RowKit
set_option linter.unusedSimpArgs false
set_option linter.unusedVariables false

def intV (l : List Int) : List Value := l.map (Value.int .i64)
theorem intV_len (l : List Int) : (intV l).length = l.length := by simp [intV]
/-- Ints of a slice that came in. -/
def IntsAt (w : World) (a : Option Addr) (l : List Int) : Prop := (∀ i (hi : i < l.length), ∃ g off, a = some ⟨g, off, none⟩ ∧ g < w.heap.size ∧ w.cell? ⟨g, off + i, none⟩ = some (.int .i64 l[i])) ∧ ∀ k ∈ l, -9223372036854775808 ≤ k ∧ k ≤ 9223372036854775807
/-- A new row of ints. -/
def RowP (w : World) (l : List Int) (e : Ending) (w' : World) : Prop := ∃ v, e = .returned v ∧ w'.ownsRow w.heap.size 3 1 v l.length (intV l) ∧ (l = [] → v = .slice none 0 0) ∧ Below w.heap.size w w'
def cut5 (k : Int) : Int := k.tmod 100000
def someK (l : List Int) (k : Nat) : List Int := (l.take k).map cut5
def someS (l : List Int) : List Int := someK l 12
theorem IntsAt.below {w w' : World} {a : Option Addr} {l : List Int} (h : IntsAt w a l) (hb : Below w.heap.size w w') : IntsAt w' a l := by
  refine ⟨fun i hi => ?_, h.2⟩
  obtain ⟨g, off, h1, h2, h3⟩ := h.1 i hi
  exact ⟨g, off, h1, by have := hb.size; omega, by rw [hb.cell (p := ⟨g, off + i, none⟩) h2]; exact h3⟩
theorem cell_one_int (w : World) (k : Int) : ∀ j u, [Value.int .i64 k][j]? = some u → (w.alloc (.cells #[.int .i64 k] 3)).cell? ((⟨w.heap.size, 0, none⟩ : Addr).add j) = some u := by
  intro j u hu
  cases j with
  | zero =>
    simp at hu; subst hu
    exact (World.cell?_alloc_at _ _ _ _ (by simp)).trans rfl
  | succ j => simp at hu

set_option maxRecDepth 100000 in
set_option maxHeartbeats 1000000 in
theorem some_go (w : World) (a : Option Addr) (cap : Nat) (l : List Int) (hm : l.length ≤ maxLen) (h : IntsAt w a l) : Calls Tryz.prog 22 #[.slice a l.length cap, .int .i64 12] w (RowP w (someS l)) := by
  obtain ⟨i0, hi, hz0, hz1, hz2⟩ := info_parts infoInt'
  have HI := hide (And.intro hi (And.intro hz0 (And.intro hz1 hz2)))
  have HA := hide h
  unfold maxLen at hm
  clear hi hz0 hz1 hz2 h
  go_enter Tryz.func22, Tryz.ntmps22
  go_wp2
  go_loopw [5, 6] (fun u i wr => ∃ k : Nat, k ≤ l.length ∧ k ≤ 12 ∧ i = .int .i64 k ∧ wr.ownsRow w.heap.size 3 1 u k (intV (someK l k)) ∧ (k = 0 → u = .slice none 0 0) ∧ Below w.heap.size w wr) (fun _ i _ => 12 - (intOf i).toNat)
  case atStart => exact ⟨0, by omega, by omega, rfl, World.ownsRow_nil _ _ _ _, fun _ => rfl, Below.refl _ _⟩
  case round =>
    obtain ⟨k, hk, hk2, rfl, hr, hn0, hb⟩ := hrel
    have HR := hide hr
    have HN0 := hide hn0
    clear hn0
    have HB := hide hb
    have hbs := hb.size
    obtain ⟨a1, cap1, rfl, _, _, _⟩ := ownsRow_slice hr
    by_cases hlt : k < l.length
    · by_cases h12 : (k : Int) < 12
      · obtain ⟨g, off, rfl, hg, hc⟩ := HA.out.1 k hlt
        have d0 : wr.cell? ⟨g, off + k, none⟩ = some (.int .i64 l[k]) := by rw [hb.cell (p := ⟨g, off + k, none⟩) hg]; exact hc
        have hrk := HA.out.2 l[k] (List.getElem_mem hlt)
        have HTK := hide (show someK l (k + 1) = someK l k ++ [cut5 l[k]] from by unfold someK; rw [List.take_succ_eq_append_getElem hlt, List.map_append]; rfl)
        obtain ⟨v, hv⟩ : ∃ v, v = l[k] := ⟨_, rfl⟩
        rw [← hv] at d0 hrk HTK
        have hl2 : (k : Int) < (l.length : Int) := by omega
        clear hc hb hv hr
        go_wp2_with (at_builtin; go_loud (refine wpList_append_lies _ rfl (.tmp 18) (.tmp 24) 30 rfl w.heap.size 3 i0 (.int .i64 0) 1 8 Tryz.underlying30 HI.out.1 HI.out.2.1 HI.out.2.2.1 HI.out.2.2.2 rfl (by decide) _ k (intV (someK l k)) rfl (HR.out.alloc _) ⟨wr.heap.size, 0, none⟩ 1 1 [.int .i64 (v.tmod 100000)] rfl rfl (cell_one_int _ _) (by intro u hu; simp at hu; subst hu; rfl) (by decide) (by unfold maxLen; omega) (by omega) (by simp; omega) (wr.heap.size + 1) (by simp) ?_))
        intro g4 cap4 w4 hown4 hgrow4 hat4 hlt4
        have HU4 := hide (Upd.grown (Upd.refl (fun j => (Value.slice a1 k cap1).ownBlock = some j) _) hgrow4 (fun j hj _ => hj))
        have HO4 := hide hown4
        clear hown4 hgrow4 hat4
        go_wp2
        go_roundw
        case rel =>
          refine ⟨k + 1, by omega, by omega, rfl, ?_, fun h => by omega, ?_⟩
          · rw [HTK.out]
            have := HO4.out
            rw [show intV (someK l k ++ [cut5 v]) = intV (someK l k) ++ [.int .i64 (v.tmod 100000)] by simp [intV, cut5]]
            exact this
          · have h1 : Below w.heap.size w (wr.alloc (.cells #[.int .i64 (v.tmod 100000)] 3)) := HB.out.alloc (by omega) _
            refine h1.trans (HU4.out.below (by simp; omega) fun j hj => ?_)
            exact (ownsRow_ge HR.out hj).1
        case measure => simp [intOf]; omega
      · have hke : k = 12 := by omega
        subst hke
        have hl2 : (12 : Int) < (l.length : Int) := by omega
        clear hb hr
        go_wp2
        go_ret
        refine ⟨_, rfl, ?_, fun h => ?_, HB.out⟩
        rotate_left
        · have := congrArg List.length h
          rw [show (someS l).length = 12 by unfold someS someK; rw [List.length_map, List.length_take]; omega] at this
          cases this
        have := HR.out
        unfold someS
        rw [show (someK l 12).length = 12 by unfold someK; rw [List.length_map, List.length_take]; omega]
        exact this
    · have hke : k = l.length := by omega
      subst hke
      clear hb hr
      go_wp2
      go_ret
      refine ⟨_, rfl, ?_, fun h => ?_, HB.out⟩
      rotate_left
      · have := congrArg List.length h
        rw [show (someS l).length = l.length by unfold someS someK; rw [List.length_map, List.length_take]; omega] at this
        exact HN0.out (by simpa using this)
      have := HR.out
      unfold someS
      rw [show someK l 12 = someK l l.length by unfold someK; rw [List.take_of_length_le hk2, List.take_length]]
      rw [show (someK l l.length).length = l.length by unfold someK; rw [List.length_map, List.length_take]; omega]
      exact this
set_option maxRecDepth 100000 in
set_option maxHeartbeats 1000000 in
theorem cut_go (w : World) (s : List UInt8) (hs : s.length ≤ 8000) : Calls Tryz.prog 24 #[.string ⟨s.toArray⟩] w (RetW (.string ⟨(s.take 100).toArray⟩) w) := by
  obtain ⟨z, hz⟩ : ∃ z : ByteArray, z = ⟨s.toArray⟩ := ⟨_, rfl⟩
  have hzl : z.size = s.length := by rw [hz]; simp [ByteArray.size]
  rw [← hz]
  by_cases hl : (100 : Int) < (z.size : Int)
  · have hl2 : 100 < s.length := by omega
    have HX : Hid (((⟨s.toArray⟩ : ByteArray).extract 0 100) = ⟨(s.take 100).toArray⟩) := by
      show _ = _
      exact ofBytes _ _ (by rw [Lib.extract_data, Nat.sub_zero, List.drop_zero])
    go_enter Tryz.func24, Tryz.ntmps24
    go_wp2
    go_ret
    exact ⟨by rw [← HX.out]; rfl, rfl⟩
  · have HZ := hide (show z = ⟨(s.take 100).toArray⟩ from by rw [hz, List.take_of_length_le (by omega)])
    clear hz
    go_enter Tryz.func24, Tryz.ntmps24
    go_wp2
    go_ret
    exact ⟨by rw [← HZ.out]; rfl, rfl⟩
end Go.Proofs.YtlobegpjenabaaaGreatDoor
