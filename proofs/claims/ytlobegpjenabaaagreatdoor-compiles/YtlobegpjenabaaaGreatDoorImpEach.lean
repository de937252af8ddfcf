/- expr: each, given Of. -/
import Derived.Test.YtlobegpjenabaaaGreatDoorImpTree
namespace Go.Proofs.YtlobegpjenabaaaGreatDoor
open Go.RowKit
set_option linter.unusedSimpArgs false
set_option linter.unusedVariables false

/-- What a call that makes an expression of a weight up to m comes to. -/
def OfPost (w : World) (m : Nat) (r : Bool) (e : Ending) (w' : World) : Prop :=
  (∃ u, e = .returned (.tuple #[u, .bool r]) ∧ (r = true → ∃ k, k ≤ m ∧ EV w' (fun g => w.heap.size ≤ g) k u)) ∧ Below w.heap.size w w'
def OfC (n : Nat) : Prop := ∀ (d : D) (v : Value) (w : World) (r : Bool), IV w n v d → Hid (r = exprF n d) → Calls Tryz.prog 40 #[v] w (OfPost w (wtD d) r)
/-- What a call of each comes to. -/
def EachPost (w : World) (ds : List D) (r : Bool) (e : Ending) (w' : World) : Prop :=
  (∃ u, e = .returned (.tuple #[u, .bool r]) ∧ (r = false → u = .slice none 0 0) ∧ (r = true → ∃ es k, k ≤ wtL ds ∧ es.length = ds.length ∧ w'.ownsRow w.heap.size 83 1 u es.length es ∧ EVs w' (fun g => w.heap.size ≤ g ∧ ¬ u.ownBlock = some g) k es)) ∧ Below w.heap.size w w'

theorem infoE : (Tryz.prog.info? 83).map (fun i => (i.zero, i.size, i.bytes)) = some (some .nilIface, 1, 16) := by kernel_rfl

/-- At a round's head of each. -/
def EachRel (w : World) (n : Nat) (ds : List D) (u : Value) (wr : World) (k : Nat) : Prop :=
  (∃ es m, m ≤ wtL (ds.take k) ∧ es.length = k ∧ wr.ownsRow w.heap.size 83 1 u es.length es ∧ EVs wr (fun g => w.heap.size ≤ g ∧ ¬ u.ownBlock = some g) m es) ∧ Below w.heap.size w wr ∧ (∀ j (hj : j < ds.length), j < k → exprF n ds[j] = true)

theorem wtL_take (ds : List D) (k : Nat) (hk : k < ds.length) : wtL (ds.take (k + 1)) = wtL (ds.take k) + wtD ds[k] := by
  rw [List.take_succ_eq_append_getElem hk, wtL_append]; simp [wtL]
theorem allE_no {f : D → Bool} (ds : List D) (k : Nat) (hk : k < ds.length) (h : f ds[k] = false) : ds.all f = false := by
  rw [Bool.eq_false_iff]
  intro ha
  rw [List.all_eq_true] at ha
  have := ha ds[k] (List.getElem_mem hk)
  rw [h] at this; cases this
theorem allE_yes {f : D → Bool} (ds : List D) (h : ∀ j (hj : j < ds.length), f ds[j] = true) : ds.all f = true := by
  rw [List.all_eq_true]
  intro d hd
  obtain ⟨j, hj, rfl⟩ := List.getElem_of_mem hd
  exact h j hj

theorem each_round {w wr w2 w4 : World} {n k m m2 : Nat} {ds : List D} {u x : Value} {es : List Value} {g4 c4 : Nat} (hk : k < ds.length) (hm : m ≤ wtL (ds.take k)) (hes : es.length = k)
    (hr : wr.ownsRow w.heap.size 83 1 u es.length es) (he : EVs wr (fun g => w.heap.size ≤ g ∧ ¬ u.ownBlock = some g) m es) (hb : Below w.heap.size w wr) (hok : ∀ j (hj : j < ds.length), j < k → exprF n ds[j] = true)
    (hb2 : Below wr.heap.size wr w2) (hm2 : m2 ≤ wtD ds[k]) (hx : EV w2 (fun g => wr.heap.size ≤ g) m2 x) (hokk : exprF n ds[k] = true)
    (hu4 : Upd (fun k => u.ownBlock = some k) w2 w4) (ho4 : w4.ownsRow w.heap.size 83 1 (.slice (some ⟨g4, 0, none⟩) (es.length + 1) c4) (es.length + 1) (es ++ [x])) (hg4 : u.ownBlock = some g4 ∨ w2.heap.size ≤ g4) :
    EachRel w n ds (.slice (some ⟨g4, 0, none⟩) (es.length + 1) c4) w4 (k + 1) := by
  have hlt : ∀ g, u.ownBlock = some g → g < wr.heap.size := fun g h => (ownsRow_ge hr h).2
  have hs2 := hb2.size
  refine ⟨⟨es ++ [x], m + m2, by rw [wtL_take ds k hk]; omega, by simp [hes], by rw [List.length_append]; exact ho4, ?_⟩, ?_, ?_⟩
  · refine EVs.append (he.imp fun g o hg ho => ?_) ?_
    · have hgl := lt_of_some ho
      refine ⟨hu4.at (by rw [hb2.block g hgl]; exact ho) hg.2, hg.1, fun h => ?_⟩
      have h : g4 = g := Option.some.inj h
      subst h
      rcases hg4 with h4 | h4
      · exact hg.2 h4
      · omega
    · have hx' : EV w4 (fun g => w.heap.size ≤ g ∧ ¬ (Value.slice (some ⟨g4, 0, none⟩) (es.length + 1) c4).ownBlock = some g) m2 x := hx.imp fun g o hg ho => by
        have hgl := lt_of_some ho
        refine ⟨hu4.at ho (fun h => by have := hlt g h; omega), Nat.le_trans hb.size hg, fun h => ?_⟩
        have h : g4 = g := Option.some.inj h
        subst h
        rcases hg4 with h4 | h4
        · have := hlt g4 h4; omega
        · omega
      have := EVs.cons hx' EVs.nil
      rwa [Nat.add_zero] at this
  · have hw2 : Below w.heap.size w w2 := hb.trans (hb2.mono hb.size)
    exact hw2.trans (hu4.below hw2.size (by intro j hj; exact (ownsRow_ge hr hj).1))
  · intro j hj hjk
    rcases Nat.lt_or_eq_of_le (Nat.le_of_lt_succ hjk) with h | h
    · exact hok j hj h
    · subst h; exact hokk

set_option maxRecDepth 100000 in
set_option maxHeartbeats 2000000 in
theorem each_go (n : Nat) (hof : OfC n) (vs : List Value) (ds : List D) (v : Value) (w : World) (hrow : RowQ w v vs) (hds : IVs w n vs ds) (hlen : ds.length ≤ 1000) (r : Bool) (HR : Hid (r = ds.all (exprF n))) :
    Calls Tryz.prog 144 #[v] w (EachPost w ds r) := by
  obtain ⟨a, cap, rfl, hc1, hc2, hat⟩ := rowQ_at hrow hds
  have HAT := hide hat
  have HOF := hide hof
  clear hat hrow hds hof
  unfold maxLen at hc2
  obtain ⟨i0, hi, hz0, hz1, hz2⟩ := info_parts infoE
  have HI := hide (And.intro hi (And.intro hz0 (And.intro hz1 hz2)))
  clear hi hz0 hz1 hz2
  go_enter Tryz.func144, Tryz.ntmps144
  go_wp2
  go_loopw [4, 11] (fun u i wr => ∃ k : Nat, k ≤ ds.length ∧ i = .int .i64 k ∧ EachRel w n ds u wr k) (fun _ i _ => ds.length - (intOf i).toNat)
  case atStart => exact ⟨0, Nat.zero_le _, rfl, ⟨[], 0, Nat.zero_le _, rfl, World.ownsRow_nil _ _ _ _, .nil⟩, Below.refl _ _, fun j _ h => absurd h (by omega)⟩
  case round =>
    obtain ⟨k, hk, rfl, ⟨es, m, hm, hes, hr, he⟩, hb, hok⟩ := hrel
    have hbs := hb.size
    have hel : es.length ≤ 1000 := by omega
    have HES := hide hes
    clear hes
    have H2 := hide hr
    have HE := hide he
    have HB := hide hb
    have HOK := hide hok
    have HM := hide hm
    by_cases hlt : k < ds.length
    · obtain ⟨g, off, rfl, hg, t, x, hiv, c0⟩ := HAT.out k hlt
      have d0 : wr.cell? ⟨g, off + k, none⟩ = some (.iface t x) := by rw [hb.cell (p := ⟨g, off + k, none⟩) hg]; exact c0
      have HIV := hide (IV.keep (Keep.of_below hb) _ _ _ hiv)
      clear hiv hb c0 hr he hok hm
      cases hex : exprF n ds[k] with
      | false =>
        have HFN := hide (allE_no ds k hlt hex)
        have HEX := hide hex.symm
        clear hex
        go_wp2_with fail
        refine (HOF.out ds[k] (.iface t x) _ false HIV.out HEX).mono ?_
        rintro e w2 ⟨⟨x2, rfl, _⟩, hb2⟩
        have HB2 := hide hb2
        clear hb2
        go_wp2
        go_ret2
        exact ⟨⟨_, ret_pair_bool (by rw [HR.out, HFN.out]), fun _ => rfl, fun h => by rw [HR.out, HFN.out] at h; cases h⟩, HB.out.trans (HB2.out.mono HB.out.size)⟩
      | true =>
        have HEX := hide hex.symm
        clear hex
        go_wp2_with fail
        refine (HOF.out ds[k] (.iface t x) _ true HIV.out HEX).mono ?_
        rintro e w2 ⟨⟨x2, rfl, hx2⟩, hb2⟩
        obtain ⟨m2, hm2, hev⟩ := hx2 rfl
        obtain ⟨t1, x1, rfl⟩ := hev.form
        have hb2s := hb2.size
        have HB2 := hide hb2
        have HEV := hide hev
        have HM2 := hide hm2
        have HRW := hide (ownsRow_of_upd H2.out (Upd.of_below (fun _ => False) hb2) (fun _ _ h => h))
        clear hb2 hev hx2 hm2
        go_wp2_with (at_builtin; refine wpList_append_lies _ rfl (.tmp 22) (.tmp 24) 79 rfl w.heap.size 83 i0 .nilIface 1 16 Tryz.underlying79 HI.out.1 HI.out.2.1 HI.out.2.2.1 HI.out.2.2.2 rfl (by decide) _ es.length es rfl (HRW.out.alloc _) ⟨w2.heap.size, 0, none⟩ 1 1 [.iface t1 x1] rfl rfl (cell_one_new _ _ _) (by intro u hu; simp at hu; subst hu; rfl) (by decide) (by unfold maxLen; omega) (by omega) (by simp; omega) (w2.heap.size + 1) (by simp) ?_)
        intro g4 c4 w4 ho4 hgr4 hat4 hlt4
        have HU4 := hide (items_upd hgr4)
        have HO4 := hide ho4
        have HG4 := hide (show u4.ownBlock = some g4 ∨ w2.heap.size ≤ g4 from hat4.imp id (fun h => by omega))
        clear ho4 hgr4 hat4
        go_wp2
        go_roundw
        case rel => exact ⟨k + 1, by omega, rfl, each_round hlt HM.out HES.out H2.out HE.out HB.out HOK.out HB2.out HM2.out HEV.out HEX.out.symm HU4.out HO4.out HG4.out⟩
        case measure => simp [intOf]; omega
    · have hke : k = ds.length := by omega
      subst hke
      clear hb hr he hok hm
      have HAL := hide (allE_yes (f := exprF n) ds (fun j hj => HOK.out j hj hj))
      go_wp2
      go_ret2
      exact ⟨⟨_, ret_pair_bool (by rw [HR.out, HAL.out]), (fun h => by rw [HR.out, HAL.out] at h; cases h), fun _ => ⟨es, m, by have := HM.out; rwa [List.take_length] at this, HES.out, H2.out, HE.out⟩⟩, HB.out⟩
end Go.Proofs.YtlobegpjenabaaaGreatDoor
