/- code: the builder in memory; what its rows keep. -/
import Derived.Test.YtlobegpjenabaaaGreatDoorImpExp
import Derived.Maps.OwnSet
import Derived.Maps.OwnOps
import Derived.Deep.RegionLaw
namespace Go.Proofs.YtlobegpjenabaaaGreatDoor
open Go.RowKit
set_option linter.unusedSimpArgs false
set_option linter.unusedVariables false

/-- A builder in block b, its rows and its map from block B on; nI instructions, nC constants, nN names, the bodies bs. -/
structure BdAt (w : World) (B b : Nat) (u0 u1 u2 u3 : Value) (m : Nat) (u5 : Value) (nI nC nN : Nat) (x0 x1 x2 x3 bs : List Value) : Prop where
  hb : B ≤ b
  hS : w.heap[b]? = some (Obj.cells #[u0, u1, u2, u3, .map (some m), u5] 147 (0, 0))
  r0 : w.ownsRow B 174 2 u0 nI x0
  r1 : w.ownsRow B 81 1 u1 nC x1
  r2 : w.ownsRow B 9 1 u2 nN x2
  r3 : w.ownsRow B 213 3 u3 bs.length x3
  r5 : w.ownsRow B 83 1 u5 bs.length bs
  hm : B ≤ m
  mp : ∃ Dm, w.ownsMap Tryz.prog 9 (plainElem (H := Unit) Tryz.prog 3) m nN Dm
/-- A builder that holds no more than K things. -/
def Bd (w : World) (B b nI K : Nat) (bs : List Value) : Prop :=
  ∃ u0 u1 u2 u3 m u5 nC nN x0 x1 x2 x3, BdAt w B b u0 u1 u2 u3 m u5 nI nC nN x0 x1 x2 x3 bs ∧ nI + nC + nN + bs.length ≤ K

theorem ownsRow_keep {w w' : World} {B T s n : Nat} {u : Value} {xs : List Value} (hk : Keep T w w') (h : w.ownsRow B T s u n xs) : w'.ownsRow B T s u n xs := by
  obtain ⟨h1, h2⟩ := h
  refine ⟨h1, ?_⟩
  rcases h2 with h2 | ⟨g, cap, cu, hv, hg, hh, r⟩
  · exact .inl h2
  · exact .inr ⟨g, cap, cu, hv, hg, hk _ _ hh, r⟩
theorem keep_row {w w1 : World} {B T T' s n : Nat} {u : Value} {xs : List Value} (hr : w.ownsRow B T s u n xs) (hu : Upd (fun k => u.ownBlock = some k) w w1) (hne : T' ≠ T) : Keep T' w w1 :=
  Keep.of_upd hu fun k c hk h => by
    rcases hr.2 with ⟨hv, _⟩ | ⟨g, cap, cu, hv, hg, hh, r⟩
    · rw [hv] at hk; cases hk
    · rw [hv] at hk; cases hk
      rw [hh] at h; cases h; exact hne rfl
theorem keep_set {w : World} {b o Tb T' : Nat} {c : Array Value} {fz : Nat × Nat} {v : Value} (hb : w.heap[b]? = some (Obj.cells c Tb fz)) (hne : T' ≠ Tb) : Keep T' w (w.setCell ⟨b, o, none⟩ v) := fun x y h => by
  rw [Below.heap_setCell]
  · exact h
  · intro e
    have e : x = b := e
    subst e
    rw [hb] at h; cases h; exact hne rfl
theorem ownsMap_block {w w' : World} {m n : Nat} {Dm : DataW Unit} (h : w.ownsMap Tryz.prog 9 (plainElem (H := Unit) Tryz.prog 3) m n Dm) (he : w'.heap[m]? = w.heap[m]?) : w'.ownsMap Tryz.prog 9 (plainElem (H := Unit) Tryz.prog 3) m n Dm := by
  obtain ⟨es, cl, h1, h2⟩ := h
  exact ⟨es, cl, by rw [he]; exact h1, h2⟩
theorem map_upd {w w1 : World} {B T s n m k : Nat} {u : Value} {xs : List Value} {Dm : DataW Unit} (hr : w.ownsRow B T s u n xs) (hu : Upd (fun k => u.ownBlock = some k) w w1) (h : w.ownsMap Tryz.prog 9 (plainElem (H := Unit) Tryz.prog 3) m k Dm) : w1.heap[m]? = w.heap[m]? := by
  obtain ⟨es, cl, h1, h2⟩ := h
  refine hu.block m (lt_of_some h1) fun hk => ?_
  rcases hr.2 with ⟨hv, _⟩ | ⟨g, cap, cu, hv, hg, hh, r⟩
  · rw [hv] at hk; cases hk
  · rw [hv] at hk; cases hk
    rw [hh] at h1; cases h1
theorem map_set {w : World} {b o Tb m k : Nat} {c : Array Value} {fz : Nat × Nat} {v : Value} {Dm : DataW Unit} (hb : w.heap[b]? = some (Obj.cells c Tb fz)) (h : w.ownsMap Tryz.prog 9 (plainElem (H := Unit) Tryz.prog 3) m k Dm) : (w.setCell ⟨b, o, none⟩ v).heap[m]? = w.heap[m]? := by
  obtain ⟨es, cl, h1, h2⟩ := h
  rw [Below.heap_setCell]
  intro e
  have e : m = b := e
  subst e
  rw [hb] at h1; cases h1

theorem BdAt.below {w w' : World} {B b m nI nC nN : Nat} {u0 u1 u2 u3 u5 : Value} {x0 x1 x2 x3 bs : List Value} (h : BdAt w B b u0 u1 u2 u3 m u5 nI nC nN x0 x1 x2 x3 bs) (hb : Below w.heap.size w w') : BdAt w' B b u0 u1 u2 u3 m u5 nI nC nN x0 x1 x2 x3 bs := by
  obtain ⟨Dm, mp⟩ := h.mp
  exact ⟨h.hb, Keep.of_below hb _ _ h.hS, ownsRow_keep (Keep.of_below hb) h.r0, ownsRow_keep (Keep.of_below hb) h.r1, ownsRow_keep (Keep.of_below hb) h.r2, ownsRow_keep (Keep.of_below hb) h.r3, ownsRow_keep (Keep.of_below hb) h.r5, h.hm, Dm, ownsMap_block mp (hb.block m mp.lt)⟩
theorem Bd.below {w w' : World} {B b nI K : Nat} {bs : List Value} (h : Bd w B b nI K bs) (hb : Below w.heap.size w w') : Bd w' B b nI K bs := by
  obtain ⟨u0, u1, u2, u3, m, u5, nC, nN, x0, x1, x2, x3, h, hk⟩ := h
  exact ⟨u0, u1, u2, u3, m, u5, nC, nN, x0, x1, x2, x3, h.below hb, hk⟩

/-- Behind an append to the instructions, and the store. -/
theorem BdAt.app0 {w w1 : World} {B b m nI nC nN n' : Nat} {u0 u1 u2 u3 u5 v : Value} {x0 x1 x2 x3 bs xs : List Value} (h : BdAt w B b u0 u1 u2 u3 m u5 nI nC nN x0 x1 x2 x3 bs) (hu : Upd (fun k => u0.ownBlock = some k) w w1) (hr : w1.ownsRow B 174 2 v n' xs) :
    BdAt (w1.setCell ⟨b, 0, none⟩ v) B b v u1 u2 u3 m u5 n' nC nN xs x1 x2 x3 bs := by
  have hS := keep_row h.r0 hu (by decide) _ _ h.hS
  obtain ⟨Dm, mp⟩ := h.mp
  have mp1 := ownsMap_block mp (map_upd h.r0 hu mp)
  exact ⟨h.hb, heap_setCell_same hS, ownsRow_keep (keep_set hS (by decide)) hr, ownsRow_keep (keep_set hS (by decide)) (ownsRow_keep (keep_row h.r0 hu (by decide)) h.r1), ownsRow_keep (keep_set hS (by decide)) (ownsRow_keep (keep_row h.r0 hu (by decide)) h.r2), ownsRow_keep (keep_set hS (by decide)) (ownsRow_keep (keep_row h.r0 hu (by decide)) h.r3), ownsRow_keep (keep_set hS (by decide)) (ownsRow_keep (keep_row h.r0 hu (by decide)) h.r5), h.hm, Dm, ownsMap_block mp1 (map_set hS mp1)⟩
theorem BdAt.app1 {w w1 : World} {B b m nI nC nN n' : Nat} {u0 u1 u2 u3 u5 v : Value} {x0 x1 x2 x3 bs xs : List Value} (h : BdAt w B b u0 u1 u2 u3 m u5 nI nC nN x0 x1 x2 x3 bs) (hu : Upd (fun k => u1.ownBlock = some k) w w1) (hr : w1.ownsRow B 81 1 v n' xs) :
    BdAt (w1.setCell ⟨b, 1, none⟩ v) B b u0 v u2 u3 m u5 nI n' nN x0 xs x2 x3 bs := by
  have hS := keep_row h.r1 hu (by decide) _ _ h.hS
  obtain ⟨Dm, mp⟩ := h.mp
  have mp1 := ownsMap_block mp (map_upd h.r1 hu mp)
  exact ⟨h.hb, heap_setCell_same hS, ownsRow_keep (keep_set hS (by decide)) (ownsRow_keep (keep_row h.r1 hu (by decide)) h.r0), ownsRow_keep (keep_set hS (by decide)) hr, ownsRow_keep (keep_set hS (by decide)) (ownsRow_keep (keep_row h.r1 hu (by decide)) h.r2), ownsRow_keep (keep_set hS (by decide)) (ownsRow_keep (keep_row h.r1 hu (by decide)) h.r3), ownsRow_keep (keep_set hS (by decide)) (ownsRow_keep (keep_row h.r1 hu (by decide)) h.r5), h.hm, Dm, ownsMap_block mp1 (map_set hS mp1)⟩
theorem BdAt.app2 {w w1 : World} {B b m nI nC nN n' : Nat} {u0 u1 u2 u3 u5 v : Value} {x0 x1 x2 x3 bs xs : List Value} (h : BdAt w B b u0 u1 u2 u3 m u5 nI nC nN x0 x1 x2 x3 bs) (hu : Upd (fun k => u2.ownBlock = some k) w w1) (hr : w1.ownsRow B 9 1 v n' xs) (hn : nN ≤ n') :
    BdAt (w1.setCell ⟨b, 2, none⟩ v) B b u0 u1 v u3 m u5 nI nC n' x0 x1 xs x3 bs := by
  have hS := keep_row h.r2 hu (by decide) _ _ h.hS
  obtain ⟨Dm, mp⟩ := h.mp
  have mp1 := ownsMap_block mp (map_upd h.r2 hu mp)
  exact ⟨h.hb, heap_setCell_same hS, ownsRow_keep (keep_set hS (by decide)) (ownsRow_keep (keep_row h.r2 hu (by decide)) h.r0), ownsRow_keep (keep_set hS (by decide)) (ownsRow_keep (keep_row h.r2 hu (by decide)) h.r1), ownsRow_keep (keep_set hS (by decide)) hr, ownsRow_keep (keep_set hS (by decide)) (ownsRow_keep (keep_row h.r2 hu (by decide)) h.r3), ownsRow_keep (keep_set hS (by decide)) (ownsRow_keep (keep_row h.r2 hu (by decide)) h.r5), h.hm, Dm, (ownsMap_block mp1 (map_set hS mp1)).mono hn⟩

/-- The types of the builder's own blocks. -/
def BT : List TypeId := [174, 81, 9, 213, 83, 147]
/-- What has turned: nothing below B, and no block of another type than the builder's. -/
structure Chg (B : Nat) (w w' : World) : Prop where
  below : Below B w w'
  kp : ∀ T, BT.contains T = false → Keep T w w'
theorem Chg.refl (B : Nat) (w : World) : Chg B w w := ⟨Below.refl _ _, fun _ _ => Keep.refl _⟩
theorem Chg.trans {B : Nat} {a b c : World} (h : Chg B a b) (k : Chg B b c) : Chg B a c := ⟨h.below.trans k.below, fun T hT => (h.kp T hT).trans (k.kp T hT)⟩
theorem Chg.drew {B : Nat} {a b : World} (h : Chg B a b) : Chg B a b.drew := ⟨h.below.drew, h.kp⟩
theorem Chg.new {B : Nat} {w w' : World} (hB : B ≤ w.heap.size) (h : Below w.heap.size w w') : Chg B w w' := ⟨h.mono hB, fun _ _ => Keep.of_below h⟩
theorem Chg.row {B T s n : Nat} {w w1 : World} {u : Value} {xs : List Value} (hr : w.ownsRow B T s u n xs) (hT : BT.contains T = true) (hu : Upd (fun k => u.ownBlock = some k) w w1) (hB : B ≤ w.heap.size) : Chg B w w1 :=
  ⟨hu.below hB (by intro k hk; exact (ownsRow_ge hr hk).1), fun T' h' => keep_row hr hu (fun e => by rw [e, hT] at h'; cases h')⟩
theorem Chg.set {B b o T : Nat} {w w1 : World} {c : Array Value} {fz : Nat × Nat} {v : Value} (h : Chg B w w1) (hS : w1.heap[b]? = some (Obj.cells c T fz)) (hT : BT.contains T = true) (hb : B ≤ b) : Chg B w (w1.setCell ⟨b, o, none⟩ v) :=
  ⟨h.below.setCell hb _, fun T' h' => (h.kp T' h').trans (keep_set hS (fun e => by rw [e, hT] at h'; cases h'))⟩
theorem Chg.map {B m n : Nat} {w w1 : World} {Dm : DataW Unit} (hm : w.ownsMap Tryz.prog 9 (plainElem (H := Unit) Tryz.prog 3) m n Dm) (hB : B ≤ m) (hBw : B ≤ w.heap.size) (hg : w.grownBy w1 (some m)) : Chg B w w1 :=
  ⟨(Below.refl B w).grown hg hBw (fun k hk => by cases hk; exact hB), fun T _ x c hx => by
    obtain ⟨es, cl, hm1, _⟩ := hm
    rw [hg.block x (lt_of_some hx) (fun e => by cases e; rw [hm1] at hx; cases hx)]; exact hx⟩
end Go.Proofs.YtlobegpjenabaaaGreatDoor

/- code: here, emit, pointHere, constant, end. -/
namespace Go.Proofs.YtlobegpjenabaaaGreatDoor
open Go.RowKit Go.Maps
set_option linter.unusedSimpArgs false
set_option linter.unusedVariables false

theorem infoI : (Tryz.prog.info? 174).map (fun i => (i.zero, i.size, i.bytes)) = some (some (.agg #[.int .i64 0, .int .i64 0]), 2, 16) := by kernel_rfl

set_option maxHeartbeats 1000000 in
theorem here_go {w : World} {B b nI K : Nat} {bs : List Value} (h : Bd w B b nI K bs) (hK : K ≤ 2097152) :
    Calls Tryz.prog 99 #[.pointer (some ⟨b, 0, none⟩)] w fun e w' => e = .returned (.int .i64 nI) ∧ w' = w := by
  obtain ⟨u0, u1, u2, u3, m, u5, nC, nN, x0, x1, x2, x3, h, hk⟩ := h
  obtain ⟨a, cap, rfl, hc1, hc2, _⟩ := ownsRow_slice h.r0
  have c0 := cell_of_block h.hS 0
  simp only [List.getElem?_toArray, List.getElem?_cons_zero] at c0
  have hnI : nI ≤ 2097152 := by omega
  clear h hk hc1 hc2
  go_enter Tryz.func99, Tryz.ntmps99
  go_wp2
  go_ret
  exact ⟨rfl, rfl⟩

/-- What a call that adds one thing comes to. -/
def OnePost (w : World) (B b nI K : Nat) (bs : List Value) (r : Nat) (e : Ending) (w' : World) : Prop :=
  e = .returned (.int .i64 r) ∧ Bd w' B b nI K bs ∧ Chg B w w'

set_option maxRecDepth 100000 in
set_option maxHeartbeats 2000000 in
theorem emit_go {w : World} {B b nI K : Nat} {bs : List Value} (op n : Int) (h : Bd w B b nI K bs) (hK : K ≤ 1048576) :
    Calls Tryz.prog 59 #[.pointer (some ⟨b, 0, none⟩), .int .i64 op, .int .i64 n] w (OnePost w B b (nI + 1) (K + 1) bs nI) := by
  obtain ⟨u0, u1, u2, u3, m, u5, nC, nN, x0, x1, x2, x3, h, hk⟩ := h
  have HH := hide h
  have HR := hide h.r0
  have hBw : B ≤ w.heap.size := Nat.le_of_lt (Nat.lt_of_le_of_lt h.hb (lt_of_some h.hS))
  obtain ⟨a, cap, rfl, hc1, hc2, _⟩ := ownsRow_slice h.r0
  have c0 := cell_of_block h.hS 0
  simp only [List.getElem?_toArray, List.getElem?_cons_zero] at c0
  have hnI : nI ≤ 1048576 := by omega
  have HK := hide hk
  have hK2 : K + 1 ≤ 2097152 := by omega
  have hbl := lt_of_some h.hS
  obtain ⟨i0, hi, hz0, hz1, hz2⟩ := info_parts infoI
  have HI := hide (And.intro hi (And.intro hz0 (And.intro hz1 hz2)))
  clear h hk hc1 hc2 hi hz0 hz1 hz2
  go_enter Tryz.func59, Tryz.ntmps59
  go_wp2_with (at_builtin; refine wpList_append_lies _ rfl (.tmp 12) (.tmp 16) 142 rfl B 174 i0 (.agg #[.int .i64 0, .int .i64 0]) 2 16 Tryz.underlying142 HI.out.1 HI.out.2.1 HI.out.2.2.1 HI.out.2.2.2 rfl (by decide) _ nI x0 rfl (HR.out.alloc _) ⟨w.heap.size, 0, none⟩ 1 1 [.int .i64 op, .int .i64 n] rfl rfl (news2 (heap_alloc_new _ _)) (by intro u hu; simp at hu; rcases hu with rfl | rfl <;> rfl) (by decide) (by unfold maxLen; omega) (by omega) (by simp; omega) (w.heap.size + 1) (by simp) ?_)
  intro g2 cap2 w1 hown1 hgrow hat hlt1
  have HU1 := hide (items_upd hgrow)
  have HO1 := hide hown1
  have hS1 := keep_row HR.out HU1.out (T' := 147) (by decide) _ _ HH.out.hS
  have d0 := cell_of_block hS1 0
  simp only [List.getElem?_toArray, List.getElem?_cons_zero] at d0
  have f0 := frozen_of_block hS1 0
  have HB := hide (show Bd (w1.setCell ⟨b, 0, none⟩ (.slice (some ⟨g2, 0, none⟩) (nI + 1) cap2)) B b (nI + 1) (K + 1) bs from ⟨_, _, _, _, _, _, _, _, _, _, _, _, HH.out.app0 HU1.out HO1.out, by have := HK.out; omega⟩)
  have HBL := hide (show Chg B w (w1.setCell ⟨b, 0, none⟩ (.slice (some ⟨g2, 0, none⟩) (nI + 1) cap2)) from (Chg.row HR.out rfl HU1.out hBw).set hS1 rfl HH.out.hb)
  clear hown1 hgrow hat hS1
  go_wp2_with fail
  refine (here_go HB.out hK2).mono ?_
  rintro e w3 ⟨rfl, rfl⟩
  go_wp2
  go_ret
  exact ⟨by simp, HB.out, HBL.out⟩

/-- What a call that gives nothing comes to. -/
def NonePost (w : World) (B b nI K : Nat) (bs : List Value) (e : Ending) (w' : World) : Prop :=
  e = .returned (.tuple #[]) ∧ Bd w' B b nI K bs ∧ Chg B w w'

theorem BdAt.point {w : World} {B b m nI nC nN g o cap : Nat} {u1 u2 u3 u5 v : Value} {x0 x1 x2 x3 bs : List Value} (h : BdAt w B b (.slice (some ⟨g, 0, none⟩) nI cap) u1 u2 u3 m u5 nI nC nN x0 x1 x2 x3 bs) (ho : o < nI * 2) :
    ∃ x0', BdAt (w.setCell ⟨g, o, none⟩ v) B b (.slice (some ⟨g, 0, none⟩) nI cap) u1 u2 u3 m u5 nI nC nN x0' x1 x2 x3 bs := by
  obtain ⟨Dm, mp⟩ := h.mp
  rcases h.r0.2 with ⟨hv, _⟩ | ⟨g', cap', cu, hv, hg, hh, h1, h2, h3, h4⟩
  · cases hv
  · cases hv
    refine ⟨x0.set o v, h.hb, keep_set hh (by decide) _ _ h.hS, ⟨by rw [List.length_set]; exact h.r0.1, Or.inr ⟨g, cap, _, rfl, hg, heap_setCell_same hh, h1, h2, by simpa using h3, ?_⟩⟩, ownsRow_keep (keep_set hh (by decide)) h.r1, ownsRow_keep (keep_set hh (by decide)) h.r2, ownsRow_keep (keep_set hh (by decide)) h.r3, ownsRow_keep (keep_set hh (by decide)) h.r5, h.hm, Dm, ownsMap_block mp (map_set hh mp)⟩
    rw [Array.toList_setIfInBounds, List.take_set, h4]

set_option maxRecDepth 100000 in
set_option maxHeartbeats 2000000 in
theorem pointHere_go {w : World} {B b nI K : Nat} {bs : List Value} (i : Nat) (hi : i < nI) (h : Bd w B b nI K bs) (hK : K ≤ 1048576) :
    Calls Tryz.prog 98 #[.pointer (some ⟨b, 0, none⟩), .int .i64 i] w (NonePost w B b nI K bs) := by
  have HHE := hide (here_go (h.below (Below.refl w.heap.size w).drew) (by omega))
  obtain ⟨u0, u1, u2, u3, m, u5, nC, nN, x0, x1, x2, x3, h, hk⟩ := h
  obtain ⟨a, cap, rfl, hc1, hc2, hat⟩ := ownsRow_slice h.r0
  have hw : ∃ g, a = some ⟨g, 0, none⟩ ∧ B ≤ g ∧ (w.cell? ⟨g, i * 2 + 1, none⟩).isSome = true ∧ w.frozen? ⟨g, i * 2 + 1, none⟩ = false ∧ ∃ cu, w.heap[g]? = some (Obj.cells cu 174 (0, 0)) := by
    rcases h.r0.2 with ⟨hv, h0⟩ | ⟨g', cap', cu, hv, hg, hh, h1, h2, h3, h4⟩
    · omega
    · cases hv
      exact ⟨g', rfl, hg, by rw [cell_of_block hh, Array.getElem?_eq_getElem (by omega)]; rfl, frozen_of_block hh _, _, hh⟩
  obtain ⟨g, rfl, hBg, hcell, hfz, cu0, hh0⟩ := hw
  have HHH := hide hh0
  clear hh0
  obtain ⟨old, hcell⟩ := Option.isSome_iff_exists.1 hcell
  have c0 := cell_of_block h.hS 0
  simp only [List.getElem?_toArray, List.getElem?_cons_zero] at c0
  have hnI : nI ≤ 1048576 := by omega
  unfold maxLen at hc2
  have HB := hide (fun (W : World) (v : Value) (hW : W = w ∨ W = w.drew) => show Bd (W.setCell ⟨g, i * 2 + 1, none⟩ v).drew B b nI K bs from by
    refine Bd.below (w := W.setCell ⟨g, i * 2 + 1, none⟩ v) ?_ (Below.refl _ _).drew
    have hw' : BdAt W B b (.slice (some ⟨g, 0, none⟩) nI cap) u1 u2 u3 m u5 nI nC nN x0 x1 x2 x3 bs := by
      rcases hW with rfl | rfl
      · exact h
      · exact h.below (Below.refl _ _).drew
    obtain ⟨x0', hx⟩ := hw'.point (o := i * 2 + 1) (v := v) (by omega)
    exact ⟨_, _, _, _, _, _, _, _, _, _, _, _, hx, hk⟩)
  clear h hk hat
  go_enter Tryz.func98, Tryz.ntmps98
  go_region_with (go_at_call 99; refine (HHE.out).mono ?_; rintro e w' ⟨rfl, rfl⟩)
  all_goals
    refine bodyPost_ret (results_none rfl _ _ _) rfl ?_
    exact ⟨rfl, HB.out _ _ (Or.inl rfl), ((Chg.refl B w).set HHH.out rfl hBg).drew⟩

set_option maxRecDepth 100000 in
set_option maxHeartbeats 2000000 in
theorem constant_go {w : World} {B b nI K : Nat} {bs : List Value} (t : TypeId) (x : Value) (h : Bd w B b nI K bs) (hK : K ≤ 1048576) :
    Calls Tryz.prog 151 #[.pointer (some ⟨b, 0, none⟩), .iface t x] w fun e w' => ∃ r : Nat, OnePost w B b nI (K + 1) bs r e w' := by
  obtain ⟨u0, u1, u2, u3, m, u5, nC, nN, x0, x1, x2, x3, h, hk⟩ := h
  have HH := hide h
  have HR := hide h.r1
  have hBw : B ≤ w.heap.size := Nat.le_of_lt (Nat.lt_of_le_of_lt h.hb (lt_of_some h.hS))
  obtain ⟨a, cap, rfl, hc1, hc2, _⟩ := ownsRow_slice h.r1
  have c0 := cell_of_block h.hS 1
  simp only [List.getElem?_toArray, List.getElem?_cons_zero, List.getElem?_cons_succ] at c0
  have hnC : nC ≤ 1048576 := by omega
  have HK := hide hk
  have hbl := lt_of_some h.hS
  obtain ⟨i0, hi, hz0, hz1, hz2⟩ := info_parts infoVal
  have HI := hide (And.intro hi (And.intro hz0 (And.intro hz1 hz2)))
  clear h hk hc1 hc2 hi hz0 hz1 hz2
  go_enter Tryz.func151, Tryz.ntmps151
  go_wp2_with (at_builtin; refine wpList_append_lies _ rfl (.tmp 10) (.tmp 12) 76 rfl B 81 i0 .nilIface 1 16 Tryz.underlying76 HI.out.1 HI.out.2.1 HI.out.2.2.1 HI.out.2.2.2 rfl (by decide) _ nC x1 rfl (HR.out.alloc _) ⟨w.heap.size, 0, none⟩ 1 1 [.iface t x] rfl rfl (cell_one_new _ _ _) (by intro u hu; simp at hu; subst hu; rfl) (by decide) (by unfold maxLen; omega) (by omega) (by simp; omega) (w.heap.size + 1) (by simp) ?_)
  intro g2 cap2 w1 hown1 hgrow hat hlt1
  have HU1 := hide (items_upd hgrow)
  have HO1 := hide hown1
  have hS1 := keep_row HR.out HU1.out (T' := 147) (by decide) _ _ HH.out.hS
  have d0 := cell_of_block hS1 1
  simp only [List.getElem?_toArray, List.getElem?_cons_zero, List.getElem?_cons_succ] at d0
  have f0 := frozen_of_block hS1 1
  have HB := hide (show Bd (w1.setCell ⟨b, 1, none⟩ (.slice (some ⟨g2, 0, none⟩) (nC + 1) cap2)) B b nI (K + 1) bs from ⟨_, _, _, _, _, _, _, _, _, _, _, _, HH.out.app1 HU1.out HO1.out, by have := HK.out; omega⟩)
  have HBL := hide (show Chg B w (w1.setCell ⟨b, 1, none⟩ (.slice (some ⟨g2, 0, none⟩) (nC + 1) cap2)) from (Chg.row HR.out rfl HU1.out hBw).set hS1 rfl HH.out.hb)
  clear hown1 hgrow hat hS1
  go_wp2
  go_ret
  exact ⟨nC, by simp, HB.out, HBL.out⟩

def MorePost (w : World) (B b nI K : Nat) (bs : List Value) (e : Ending) (w' : World) : Prop :=
  e = .returned (.tuple #[]) ∧ (∃ nI', nI ≤ nI' ∧ Bd w' B b nI' K bs) ∧ Chg B w w'
set_option maxHeartbeats 1000000 in
theorem end_go {w : World} {B b nI K : Nat} {bs : List Value} (last : Bool) (h : Bd w B b nI K bs) (hK : K ≤ 1048576) :
    Calls Tryz.prog 152 #[.pointer (some ⟨b, 0, none⟩), .bool last] w (MorePost w B b nI (K + 1) bs) := by
  have HE := hide (emit_go 13 0 h hK)
  have HH := hide h
  clear h
  cases last with
  | false =>
    go_enter Tryz.func152, Tryz.ntmps152
    go_wp2
    refine bodyPost_ret (results_none rfl _ _ _) rfl ?_
    obtain ⟨u0, u1, u2, u3, m, u5, nC, nN, x0, x1, x2, x3, h, hk⟩ := HH.out
    exact ⟨rfl, ⟨nI, Nat.le_refl _, u0, u1, u2, u3, m, u5, nC, nN, x0, x1, x2, x3, h, by omega⟩, Chg.refl _ _⟩
  | true =>
    go_enter Tryz.func152, Tryz.ntmps152
    go_wp2_with fail
    refine HE.out.mono ?_
    rintro e w2 ⟨rfl, hb2, hbl⟩
    have HB := hide hb2
    have HBL := hide hbl
    clear hb2 hbl
    go_wp2
    refine bodyPost_ret (results_none rfl _ _ _) rfl ?_
    exact ⟨rfl, ⟨nI + 1, by omega, HB.out⟩, HBL.out⟩
end Go.Proofs.YtlobegpjenabaaaGreatDoor

/- code: name. -/
namespace Go.Proofs.YtlobegpjenabaaaGreatDoor
open Go.RowKit Go.Maps
set_option linter.unusedSimpArgs false
set_option linter.unusedVariables false

theorem law_key : Go.Maps.Keyed Tryz.prog 9 := Go.Maps.string_keyed Tryz.underlying9
theorem zero_int (w : World) : (zeroValue 3).run Tryz.prog w = .ok (.int .i64 0) w := by kernel_rfl

/-- Behind a store into the map. -/
theorem BdAt.put {w w1 : World} {B b m nI nC nN : Nat} {u0 u1 u2 u3 u5 : Value} {x0 x1 x2 x3 bs : List Value} {Dm : DataW Unit} (h : BdAt w B b u0 u1 u2 u3 m u5 nI nC nN x0 x1 x2 x3 bs) (hm : w.ownsMap Tryz.prog 9 (plainElem (H := Unit) Tryz.prog 3) m nN Dm) (hg : w.grownBy w1 (some m)) :
    w1.heap[b]? = w.heap[b]? ∧ w1.ownsRow B 174 2 u0 nI x0 ∧ w1.ownsRow B 81 1 u1 nC x1 ∧ w1.ownsRow B 9 1 u2 nN x2 ∧ w1.ownsRow B 213 3 u3 bs.length x3 ∧ w1.ownsRow B 83 1 u5 bs.length bs := by
  obtain ⟨es, cl, hm1, _⟩ := hm
  have kp : ∀ T, Keep T w w1 := fun T x c hx => by
    rw [hg.block x (lt_of_some hx) (fun e => by cases e; rw [hm1] at hx; cases hx)]; exact hx
  exact ⟨by rw [kp _ _ _ h.hS, h.hS], ownsRow_keep (kp _) h.r0, ownsRow_keep (kp _) h.r1, ownsRow_keep (kp _) h.r2, ownsRow_keep (kp _) h.r3, ownsRow_keep (kp _) h.r5⟩

set_option maxRecDepth 100000 in
set_option maxHeartbeats 4000000 in
theorem name_go {w : World} {B b nI K : Nat} {bs : List Value} (s : ByteArray) (hs : s.size ≤ maxLen) (h : Bd w B b nI K bs) (hK : K ≤ 1048576) :
    Calls Tryz.prog 153 #[.pointer (some ⟨b, 0, none⟩), .string s] w fun e w' => ∃ r : Int, e = .returned (.int .i64 r) ∧ Bd w' B b nI (K + 1) bs ∧ Chg B w w' := by
  obtain ⟨u0, u1, u2, u3, m, u5, nC, nN, x0, x1, x2, x3, h, hk⟩ := h
  obtain ⟨Dm, hmp⟩ := h.mp
  have HH := hide h
  have HM := hide hmp
  have HR := hide h.r2
  have hkey := WideMaps.keyOf_string_mk (P := Tryz.prog) Tryz.underlying9 hs
  have HKY := hide hkey
  have hBw : B ≤ w.heap.size := Nat.le_of_lt (Nat.lt_of_le_of_lt h.hb (lt_of_some h.hS))
  obtain ⟨a, cap, rfl, hc1, hc2, _⟩ := ownsRow_slice h.r2
  have c4 := cell_of_block h.hS 4
  have c2 := cell_of_block h.hS 2
  simp only [List.getElem?_toArray, List.getElem?_cons_zero, List.getElem?_cons_succ] at c2 c4
  have hnN : nN ≤ 1048576 := by omega
  have HK := hide hk
  have hbl := lt_of_some h.hS
  obtain ⟨i0, hi, hz0, hz1, hz2⟩ := info_parts infoStr
  have HI := hide (And.intro hi (And.intro hz0 (And.intro hz1 hz2)))
  clear h hk hc1 hc2 hi hz0 hz1 hz2 hmp hkey
  go_enter Tryz.func153, Tryz.ntmps153
  go_wp2_with (at_lookup; refine wpList_lookup_own_ok_int _ rfl _ _ 141 rfl 9 3 .i64 law_key Tryz.underlying141 Tryz.underlying3 (zero_int _) m nN _ rfl HM.out _ _ rfl HKY.out ?_)
  intro c hat hwc
  generalize Maps.has Dm (Lit.string s.data.toList) = has
  clear hat hwc
  cases has with
  | true =>
    go_wp2
    go_ret
    exact ⟨c, rfl, ⟨_, _, _, _, _, _, _, _, _, _, _, _, HH.out, by have := HK.out; omega⟩, Chg.refl _ _⟩
  | false =>
    go_wp2_with (at_mapUpdate; refine wpList_mapUpdate_own _ rfl _ _ _ 141 rfl 9 3 law_key Tryz.underlying141 _ m nN _ rfl HM.out (by unfold maxLen; omega) _ _ _ rfl rfl HKY.out _ [] (plainElem_int Tryz.underlying3 (WalkArith.wf_i64 (by omega))) ?_)
    intro w1 hown1 hgrow1
    have HO1 := hide hown1
    have HP := hide (BdAt.put HH.out HM.out hgrow1)
    have hwb : w1.heap[b]? = some (Obj.cells #[u0, u1, .slice a nN cap, u3, .map (some m), u5] 147 (0, 0)) := by rw [HP.out.1]; exact HH.out.hS
    have d2 := cell_of_block hwb 2
    simp only [List.getElem?_toArray, List.getElem?_cons_zero, List.getElem?_cons_succ] at d2
    have HW := hide hwb
    have HBL1 := hide (Chg.map HM.out HH.out.hm hBw hgrow1)
    have hBw1 : B ≤ w1.heap.size := Nat.le_trans hBw hgrow1.size
    have hbl1 := lt_of_some hwb
    clear hown1 hgrow1 hwb
    go_wp2_with (at_builtin; refine wpList_append_lies _ rfl (.tmp 35) (.tmp 37) 26 rfl B 9 i0 (.string ⟨#[]⟩) 1 16 Tryz.underlying26 HI.out.1 HI.out.2.1 HI.out.2.2.1 HI.out.2.2.2 rfl (by decide) _ nN x2 rfl (HP.out.2.2.2.1.alloc _) ⟨w1.heap.size, 0, none⟩ 1 1 [.string s] rfl rfl (cell_one_new _ _ _) (by intro u hu; simp at hu; subst hu; rfl) (by decide) (by unfold maxLen; omega) (by omega) (by simp; omega) (w1.heap.size + 1) (by simp) ?_)
    intro g2 cap2 w2 hown2 hgrow2 hat2 hlt2
    have HU2 := hide (items_upd hgrow2)
    have HO2 := hide hown2
    have hS2 := keep_row HP.out.2.2.2.1 HU2.out (T' := 147) (by decide) _ _ HW.out
    have e2 := cell_of_block hS2 2
    simp only [List.getElem?_toArray, List.getElem?_cons_zero, List.getElem?_cons_succ] at e2
    have f2 := frozen_of_block hS2 2
    have HB := hide (show Bd (w2.setCell ⟨b, 2, none⟩ (.slice (some ⟨g2, 0, none⟩) (nN + 1) cap2)) B b nI (K + 1) bs from by
      obtain ⟨q1, q2, q3, q4, q5, q6⟩ := HP.out
      refine ⟨u0, u1, .slice (some ⟨g2, 0, none⟩) (nN + 1) cap2, u3, m, u5, nC, nN + 1, x0, x1, x2 ++ [.string s], x3, ?_, by have := HK.out; omega⟩
      have m2 := ownsMap_block HO1.out (map_upd q4 HU2.out HO1.out)
      exact ⟨HH.out.hb, heap_setCell_same hS2, ownsRow_keep (keep_set hS2 (by decide)) (ownsRow_keep (keep_row q4 HU2.out (by decide)) q2), ownsRow_keep (keep_set hS2 (by decide)) (ownsRow_keep (keep_row q4 HU2.out (by decide)) q3), ownsRow_keep (keep_set hS2 (by decide)) HO2.out, ownsRow_keep (keep_set hS2 (by decide)) (ownsRow_keep (keep_row q4 HU2.out (by decide)) q5), ownsRow_keep (keep_set hS2 (by decide)) (ownsRow_keep (keep_row q4 HU2.out (by decide)) q6), HH.out.hm, _, ownsMap_block m2 (map_set hS2 m2)⟩)
    have HBL := hide (show Chg B w (w2.setCell ⟨b, 2, none⟩ (.slice (some ⟨g2, 0, none⟩) (nN + 1) cap2)) from (HBL1.out.trans (Chg.row HP.out.2.2.2.1 rfl HU2.out hBw1)).set hS2 rfl HH.out.hb)
    clear hown2 hgrow2 hat2 hS2
    go_wp2
    go_ret
    exact ⟨nN, by simp, HB.out, HBL.out⟩
end Go.Proofs.YtlobegpjenabaaaGreatDoor

/- code: lambda. -/
namespace Go.Proofs.YtlobegpjenabaaaGreatDoor
open Go.RowKit Go.Maps
set_option linter.unusedSimpArgs false
set_option linter.unusedVariables false

theorem infoInt : (Tryz.prog.info? 3).map (fun i => (i.zero, i.size, i.bytes)) = some (some (.int .i64 0), 1, 8) := by kernel_rfl
theorem infoL : (Tryz.prog.info? 213).map (fun i => (i.zero, i.size, i.bytes)) = some (some (.agg #[.string ⟨#[]⟩, .slice none 0 0, .int .i64 0]), 3, 48) := by kernel_rfl

/-- A builder whose lambdas may be more than its bodies. -/
structure BdL (w : World) (B b : Nat) (u0 u1 u2 u3 : Value) (m : Nat) (u5 : Value) (nI nC nN nL : Nat) (x0 x1 x2 x3 bs : List Value) : Prop where
  hb : B ≤ b
  hS : w.heap[b]? = some (Obj.cells #[u0, u1, u2, u3, .map (some m), u5] 147 (0, 0))
  r0 : w.ownsRow B 174 2 u0 nI x0
  r1 : w.ownsRow B 81 1 u1 nC x1
  r2 : w.ownsRow B 9 1 u2 nN x2
  r3 : w.ownsRow B 213 3 u3 nL x3
  r5 : w.ownsRow B 83 1 u5 bs.length bs
  hm : B ≤ m
  mp : ∃ Dm, w.ownsMap Tryz.prog 9 (plainElem (H := Unit) Tryz.prog 3) m nN Dm

theorem BdAt.app3 {w w1 : World} {B b m nI nC nN n' : Nat} {u0 u1 u2 u3 u5 v : Value} {x0 x1 x2 x3 bs xs : List Value} (h : BdAt w B b u0 u1 u2 u3 m u5 nI nC nN x0 x1 x2 x3 bs) (hu : Upd (fun k => u3.ownBlock = some k) w w1) (hr : w1.ownsRow B 213 3 v n' xs) :
    BdL (w1.setCell ⟨b, 3, none⟩ v) B b u0 u1 u2 v m u5 nI nC nN n' x0 x1 x2 xs bs := by
  have hS := keep_row h.r3 hu (by decide) _ _ h.hS
  obtain ⟨Dm, mp⟩ := h.mp
  have mp1 := ownsMap_block mp (map_upd h.r3 hu mp)
  exact ⟨h.hb, heap_setCell_same hS, ownsRow_keep (keep_set hS (by decide)) (ownsRow_keep (keep_row h.r3 hu (by decide)) h.r0), ownsRow_keep (keep_set hS (by decide)) (ownsRow_keep (keep_row h.r3 hu (by decide)) h.r1), ownsRow_keep (keep_set hS (by decide)) (ownsRow_keep (keep_row h.r3 hu (by decide)) h.r2), ownsRow_keep (keep_set hS (by decide)) hr, ownsRow_keep (keep_set hS (by decide)) (ownsRow_keep (keep_row h.r3 hu (by decide)) h.r5), h.hm, Dm, ownsMap_block mp1 (map_set hS mp1)⟩
theorem BdL.app5 {w w1 : World} {B b m nI nC nN : Nat} {u0 u1 u2 u3 u5 v a : Value} {x0 x1 x2 x3 bs : List Value} (h : BdL w B b u0 u1 u2 u3 m u5 nI nC nN (bs.length + 1) x0 x1 x2 x3 bs) (hu : Upd (fun k => u5.ownBlock = some k) w w1) (hr : w1.ownsRow B 83 1 v (bs.length + 1) (bs ++ [a])) :
    BdAt (w1.setCell ⟨b, 5, none⟩ v) B b u0 u1 u2 u3 m v nI nC nN x0 x1 x2 x3 (bs ++ [a]) := by
  have hS := keep_row h.r5 hu (by decide) _ _ h.hS
  obtain ⟨Dm, mp⟩ := h.mp
  have mp1 := ownsMap_block mp (map_upd h.r5 hu mp)
  exact ⟨h.hb, heap_setCell_same hS, ownsRow_keep (keep_set hS (by decide)) (ownsRow_keep (keep_row h.r5 hu (by decide)) h.r0), ownsRow_keep (keep_set hS (by decide)) (ownsRow_keep (keep_row h.r5 hu (by decide)) h.r1), ownsRow_keep (keep_set hS (by decide)) (ownsRow_keep (keep_row h.r5 hu (by decide)) h.r2), by rw [List.length_append]; exact ownsRow_keep (keep_set hS (by decide)) (ownsRow_keep (keep_row h.r5 hu (by decide)) h.r3), by rw [List.length_append]; exact ownsRow_keep (keep_set hS (by decide)) hr, h.hm, Dm, ownsMap_block mp1 (map_set hS mp1)⟩
theorem BdL.below {w w' : World} {B b m nI nC nN nL : Nat} {u0 u1 u2 u3 u5 : Value} {x0 x1 x2 x3 bs : List Value} (h : BdL w B b u0 u1 u2 u3 m u5 nI nC nN nL x0 x1 x2 x3 bs) (hb : Below w.heap.size w w') : BdL w' B b u0 u1 u2 u3 m u5 nI nC nN nL x0 x1 x2 x3 bs := by
  obtain ⟨Dm, mp⟩ := h.mp
  exact ⟨h.hb, Keep.of_below hb _ _ h.hS, ownsRow_keep (Keep.of_below hb) h.r0, ownsRow_keep (Keep.of_below hb) h.r1, ownsRow_keep (Keep.of_below hb) h.r2, ownsRow_keep (Keep.of_below hb) h.r3, ownsRow_keep (Keep.of_below hb) h.r5, h.hm, Dm, ownsMap_block mp (hb.block m mp.lt)⟩
/-- A row of ints of one's own. -/
theorem Bd.ints {w w1 : World} {B B' b nI K n : Nat} {bs xs : List Value} {u : Value} (h : Bd w B b nI K bs) (hr : w.ownsRow B' 3 1 u n xs) (hu : Upd (fun k => u.ownBlock = some k) w w1) : Bd w1 B b nI K bs := by
  obtain ⟨u0, u1, u2, u3, m, u5, nC, nN, x0, x1, x2, x3, h, hk⟩ := h
  obtain ⟨Dm, mp⟩ := h.mp
  exact ⟨u0, u1, u2, u3, m, u5, nC, nN, x0, x1, x2, x3, ⟨h.hb, keep_row hr hu (by decide) _ _ h.hS, ownsRow_keep (keep_row hr hu (by decide)) h.r0, ownsRow_keep (keep_row hr hu (by decide)) h.r1, ownsRow_keep (keep_row hr hu (by decide)) h.r2, ownsRow_keep (keep_row hr hu (by decide)) h.r3, ownsRow_keep (keep_row hr hu (by decide)) h.r5, h.hm, Dm, ownsMap_block mp (map_upd hr hu mp)⟩, hk⟩
theorem Chg.own {B T s n : Nat} {w w1 w2 : World} {u : Value} {xs : List Value} (h : Chg B w w1) (hB : B ≤ w.heap.size) (hr : w1.ownsRow w.heap.size T s u n xs) (hu : Upd (fun k => u.ownBlock = some k) w1 w2) : Chg B w w2 := by
  refine ⟨h.below.trans (hu.below (Nat.le_trans hB h.below.size) (by intro k hk; exact Nat.le_trans hB (ownsRow_ge hr hk).1)), fun T' h' x c hx => ?_⟩
  exact hu.at (h.kp T' h' x c hx) (fun hk => by have := (ownsRow_ge hr hk).1; have := lt_of_some hx; omega)

/-- At a round's head of lambda. -/
def LamRel (w : World) (B b nI K : Nat) (bs : List Value) (u : Value) (wr : World) (k : Nat) : Prop :=
  (∃ xs, wr.ownsRow w.heap.size 3 1 u k xs) ∧ Bd wr B b nI (K + k) bs ∧ Chg B w wr

set_option maxRecDepth 100000 in
set_option maxHeartbeats 4000000 in
theorem lambda_loop {w : World} {B b nI K : Nat} {bs : List Value} (nm : ByteArray) (u : Value) (zs : List ByteArray) (t : TypeId) (x : Value) (hr : RowN w (fun g => g < B) u zs) (h : Bd w B b nI K bs) (hK : K + zs.length + 1 ≤ 1048576) (hz : ∀ z ∈ zs, z.size ≤ maxLen) :
    Calls Tryz.prog 154 #[.pointer (some ⟨b, 0, none⟩), .agg #[.string nm, u, .iface t x]] w fun e w' => ∃ r : Nat, OnePost w B b nI (K + zs.length + 1) (bs ++ [.iface t x]) r e w' := by
  obtain ⟨a, cap, rfl, hc1, hc2, hat⟩ := ownsRow_slice hr.1
  unfold maxLen at hc2
  have HAT := hide (show ∀ k (hk : k < zs.length), ∃ g, a = some ⟨g, 0, none⟩ ∧ g < B ∧ w.cell? ⟨g, k, none⟩ = some (.string zs[k]) from fun k hk => by
    obtain ⟨g, rfl, _, hg, hc⟩ := hat (by omega)
    exact ⟨g, rfl, hr.2 g rfl, hc k _ (by simp [hk])⟩)
  have HZ := hide hz
  have hBw : B ≤ w.heap.size := by
    obtain ⟨u0, u1, u2, u3, m, u5, nC, nN, x0, x1, x2, x3, h, hk⟩ := h
    exact Nat.le_of_lt (Nat.lt_of_le_of_lt h.hb (lt_of_some h.hS))
  have HB0 := hide h
  obtain ⟨i0, hi, hz0, hz1, hz2⟩ := info_parts infoInt
  have HI := hide (And.intro hi (And.intro hz0 (And.intro hz1 hz2)))
  clear hi hz0 hz1 hz2 hz hat hr h
  obtain ⟨W0, hW0⟩ : ∃ W0, W0 = w.alloc (.cells #[.string nm, .slice a zs.length cap, .iface t x] 277) := ⟨_, rfl⟩
  have hL : W0.heap[w.heap.size]? = some (Obj.cells #[.string nm, .slice a zs.length cap, .iface t x] 277 (0, 0)) := by rw [hW0]; exact Array.getElem?_push_size
  have hb0 : Below w.heap.size w W0 := by rw [hW0]; exact (Below.refl _ _).alloc (Nat.le_refl _) _
  have HL := hide hL
  have HBB := hide hb0
  have hW0s : B ≤ W0.heap.size := Nat.le_trans hBw hb0.size
  go_enter Tryz.func154, Tryz.ntmps154
  go_wp2
  rw [← hW0]
  clear hW0 hL hb0
  go_loopw [5, 11] (fun u i wr => ∃ k : Nat, k ≤ zs.length ∧ i = .int .i64 k ∧ LamRel W0 B b nI K bs u wr k) (fun _ i _ => zs.length - (intOf i).toNat)
  case atStart => exact ⟨0, Nat.zero_le _, rfl, ⟨[], World.ownsRow_nil _ _ _ _⟩, HB0.out.below HBB.out, Chg.refl _ _⟩
  case round =>
    obtain ⟨k, hk, rfl, ⟨xs, hrx⟩, hbd, hch⟩ := hrel
    have HRX := hide hrx
    have HBD := hide hbd
    have HCH := hide hch
    by_cases hlt : k < zs.length
    · obtain ⟨g, rfl, hgB, c0⟩ := HAT.out k hlt
      have d0 : wr.cell? ⟨g, k, none⟩ = some (.string zs[k]) := by
        rw [hch.below.cell (p := ⟨g, k, none⟩) hgB, HBB.out.cell (p := ⟨g, k, none⟩) (by show g < _; omega)]; exact c0
      have HN := hide (name_go zs[k] (HZ.out _ (List.getElem_mem hlt)) hbd (by omega))
      have hxl := hrx.1
      clear c0 hrx hbd hch
      go_wp2_with fail
      refine HN.out.mono ?_
      rintro e w2 ⟨r, rfl, hbd2, hch2⟩
      have HBD2 := hide hbd2
      have HCH2 := hide (HCH.out.trans hch2)
      have HRX2 := hide (ownsRow_keep (hch2.kp 3 rfl) HRX.out)
      have hsz2 := HCH2.out.below.size
      have hW2 : W0.heap.size ≤ w2.heap.size := hsz2
      obtain ⟨a3, cap3, rfl, _, _, _⟩ := ownsRow_slice HRX.out
      clear hbd2 hch2 HN hsz2
      go_wp2_with (at_builtin; refine wpList_append_lies _ rfl (.tmp 15) (.tmp 19) 30 rfl W0.heap.size 3 i0 (.int .i64 0) 1 8 Tryz.underlying30 HI.out.1 HI.out.2.1 HI.out.2.2.1 HI.out.2.2.2 rfl (by decide) _ k xs rfl (HRX2.out.alloc _) ⟨w2.heap.size, 0, none⟩ 1 1 [.int .i64 r] rfl rfl (cell_one_new _ _ _) (by intro u hu; simp at hu; subst hu; rfl) (by decide) (by unfold maxLen; omega) (by omega) (by simp; omega) (w2.heap.size + 1) (by simp) ?_)
      intro g2 cap2 w3 hown3 hgrow3 hat3 hlt3
      have HU3 := hide (items_upd hgrow3)
      have HO3 := hide hown3
      clear hown3 hgrow3 hat3
      go_wp2
      go_roundw
      case rel => exact ⟨k + 1, by omega, rfl, ⟨_, HO3.out⟩, HBD2.out.ints HRX2.out HU3.out, HCH2.out.own hW0s HRX2.out HU3.out⟩
      case measure => simp [intOf]; omega
    · have hke : k = zs.length := by omega
      subst hke
      obtain ⟨u0, u1, u2, u3, m, u5, nC, nN, x0, x1, x2, x3, hat2, hk2⟩ := hbd
      have HH := hide hat2
      have HK := hide hk2
      have HR3 := hide hat2.r3
      have HR5 := hide hat2.r5
      obtain ⟨a3, cap3, rfl, _, _, _⟩ := ownsRow_slice hat2.r3
      obtain ⟨a5, cap5, rfl, _, _, _⟩ := ownsRow_slice hat2.r5
      obtain ⟨a6, cap6, rfl, _, _, _⟩ := ownsRow_slice hrx
      have hLw := hch.kp 277 rfl _ _ HL.out
      have HLW := hide hLw
      have l0 := cell_of_block hLw 0
      have l2 := cell_of_block hLw 2
      have c3 := cell_of_block hat2.hS 3
      have c5 := cell_of_block hat2.hS 5
      simp only [List.getElem?_toArray, List.getElem?_cons_zero, List.getElem?_cons_succ] at l0 l2 c3 c5
      have f3 := frozen_of_block hat2.hS 3
      have hLl := lt_of_some hLw
      have hbl := lt_of_some hat2.hS
      have hnL : bs.length ≤ 1048576 := by omega
      obtain ⟨j0, hj, hy0, hy1, hy2⟩ := info_parts infoL
      have HJ := hide (And.intro hj (And.intro hy0 (And.intro hy1 hy2)))
      have hBwr : B ≤ wr.heap.size := by omega
      have mixed : Tryz.prog.follows Departure.mixedOrders = true := by kernel_rfl
      clear hrx hch hat2 hk2 hLw hj hy0 hy1 hy2
      go_wp2
      go_region_law (refine step_append_lies _ rfl (.tmp 27) (.tmp 32) 143 rfl B 213 j0 (.agg #[.string ⟨#[]⟩, .slice none 0 0, .int .i64 0]) 3 48 Tryz.underlying143 HJ.out.1 HJ.out.2.1 HJ.out.2.2.1 HJ.out.2.2.2 rfl (by decide) (.slice a3 bs.length cap3) bs.length x3 (by simp [Act.eval, Act.put]) (HR3.out.alloc _) ⟨wr.heap.size, 0, none⟩ 1 1 [.string nm, .slice a6 zs.length cap6, .int .i64 0] (by simp [Act.eval, Act.put]) rfl (World.news_of_block (heap_alloc_new _ _)) (by intro u hu; simp at hu; rcases hu with rfl | rfl | rfl <;> rfl) (by decide) (by unfold maxLen; omega) (by omega) (by simp; omega) (wr.heap.size + 1) (by simp) ?_; intro g7 cap7 w7 hown7 hgrow7 hat7 hlt7; have HU7 := hide (Upd.grown (((Upd.refl (fun k => (Value.slice a3 bs.length cap3).ownBlock = some k) wr).alloc _).drew) hgrow7 (fun k hk _ => hk)); have HO7 := hide hown7; have hS7 := keep_row HR3.out HU7.out (T' := 147) (by decide) _ _ HH.out.hS; have d3 := cell_of_block hS7 3; simp only [List.getElem?_toArray, List.getElem?_cons_zero, List.getElem?_cons_succ] at d3; have f7 := frozen_of_block hS7 3; have HS7 := hide hS7; clear hown7 hgrow7 hat7 hS7)
      all_goals
        have HL8 := hide (HH.out.app3 HU7.out HO7.out)
        have hlw8 : (w7.setCell ⟨b, 3, none⟩ (.slice (some ⟨g7, 0, none⟩) (bs.length + 1) cap7)).heap[w.heap.size]? = some (Obj.cells #[.string nm, .slice a zs.length cap, .iface t x] 277 (0, 0)) := keep_set HS7.out (by decide) _ _ (keep_row HR3.out HU7.out (by decide) _ _ HLW.out)
        have HC8 := hide (show Chg B wr (w7.setCell ⟨b, 3, none⟩ (.slice (some ⟨g7, 0, none⟩) (bs.length + 1) cap7)) from (Chg.row HR3.out rfl HU7.out hBwr).set HS7.out rfl HH.out.hb)
        obtain ⟨W8, hW8⟩ : ∃ W8, W8 = w7.setCell ⟨b, 3, none⟩ (.slice (some ⟨g7, 0, none⟩) (bs.length + 1) cap7) := ⟨_, rfl⟩
        rw [← hW8] at HL8 hlw8 HC8
        rw [← hW8]
        have hB8 : B ≤ W8.heap.size := Nat.le_trans hBwr HC8.out.below.size
        have m0 := cell_of_block hlw8 2
        have m5 := cell_of_block HL8.out.hS 5
        simp only [List.getElem?_toArray, List.getElem?_cons_zero, List.getElem?_cons_succ] at m0 m5
        have hl8 := lt_of_some hlw8
        have hb8 := lt_of_some HL8.out.hS
        have HR58 := hide HL8.out.r5
        obtain ⟨k0, hk0, hy0, hy1, hy2⟩ := info_parts infoE
        have HKE := hide (And.intro hk0 (And.intro hy0 (And.intro hy1 hy2)))
        clear hW8 hlw8 HU7 HO7 HS7 d3 f7 l0 l2 c3 c5 f3 hk0 hy0 hy1 hy2 hlt7 HLW HJ
        go_wp2
        go_region_law (refine step_append_lies _ rfl (.tmp 41) (.tmp 44) 79 rfl B 83 k0 .nilIface 1 16 Tryz.underlying79 HKE.out.1 HKE.out.2.1 HKE.out.2.2.1 HKE.out.2.2.2 rfl (by decide) (.slice a5 bs.length cap5) bs.length bs (by simp [Act.eval, Act.put]) (HR58.out.alloc _) ⟨W8.heap.size, 0, none⟩ 1 1 [.iface t x] (by simp [Act.eval, Act.put]) rfl (World.news_of_block (heap_alloc_new _ _)) (by intro u hu; simp at hu; subst hu; rfl) (by decide) (by unfold maxLen; omega) (by omega) (by simp; omega) (W8.heap.size + 1) (by simp) ?_; intro g9 cap9 w9 hown9 hgrow9 hat9 hlt9; have HU9 := hide (Upd.grown (((Upd.refl (fun k => (Value.slice a5 bs.length cap5).ownBlock = some k) W8).alloc _).drew) hgrow9 (fun k hk _ => hk)); have HO9 := hide hown9; have hS9 := keep_row HR58.out HU9.out (T' := 147) (by decide) _ _ HL8.out.hS; have d5 := cell_of_block hS9 5; simp only [List.getElem?_toArray, List.getElem?_cons_zero, List.getElem?_cons_succ] at d5; have f9 := frozen_of_block hS9 5; have HS9 := hide hS9; clear hown9 hgrow9 hat9 hS9)
        all_goals
          have HF := hide (HL8.out.app5 HU9.out HO9.out)
          have HC := hide (show Chg B w (w9.setCell ⟨b, 5, none⟩ (.slice (some ⟨g9, 0, none⟩) (bs.length + 1) cap9)) from (((Chg.new hBw HBB.out).trans HCH.out).trans HC8.out).trans ((Chg.row HR58.out rfl HU9.out hB8).set HS9.out rfl HL8.out.hb))
          clear HL8 HC8 HR58 HKE HS9 HU9 HO9 m0 m5
          go_wp2
          go_ret
          exact ⟨bs.length, by simp, ⟨_, _, _, _, _, _, _, _, _, _, _, _, HF.out, by have := HK.out; simp; omega⟩, HC.out⟩
end Go.Proofs.YtlobegpjenabaaaGreatDoor
