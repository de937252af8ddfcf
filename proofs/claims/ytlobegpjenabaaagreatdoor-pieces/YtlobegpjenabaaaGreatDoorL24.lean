/- The outermost frame is made: what is asked for ahead of the walk. -/
import Derived.Test.YtlobegpjenabaaaGreatDoorL22
import Derived.Test.YtlobegpjenabaaaGreatDoorL23
import Derived.Test.YtlobegpjenabaaaGreatDoorL01
import Derived.Laws.ResultCell
import Derived.Laws.Rows
namespace Go.Proofs.YtlobegpjenabaaaGreatDoor
open Go.RowKit
set_option linter.unusedSimpArgs false
set_option linter.unusedVariables false

/-- What slices.Index tells of a name. -/
def sixN (l : List (List UInt8)) (x : List UInt8) : Int := if l.contains x then ((l.idxOf x : Nat) : Int) else -1
theorem ba_inj {a b : List UInt8} (h : (⟨a.toArray⟩ : ByteArray) = ⟨b.toArray⟩) : a = b := by
  have := congrArg (fun z : ByteArray => z.data.toList) h
  simpa using this
theorem idxFromS_eq (x : List UInt8) : ∀ (l : List (List UInt8)) (i : Nat), Lib.idxFromS (l.map fun s => (⟨s.toArray⟩ : ByteArray)) ⟨x.toArray⟩ i = if l.contains x then ((i + l.idxOf x : Nat) : Int) else -1
  | [], i => rfl
  | z :: zs, i => by
    by_cases h : z = x
    · subst h; simp [Lib.idxFromS]
    · have h' : ¬ x = z := fun e => h e.symm
      have hb : (z == x) = false := by simp [h]
      have hn : ¬ ((⟨z.toArray⟩ : ByteArray) = ⟨x.toArray⟩) := fun e => h (ba_inj e)
      rw [List.map_cons, Lib.idxFromS, idxFromS_eq x zs (i + 1)]
      simp only [hn, if_false, List.contains_cons, List.idxOf_cons, hb, cond_false]
      have : (x == z) = false := by simp [h']
      simp only [this, Bool.false_or]
      split
      · congr 1; omega
      · rfl
/-- slices.Index of a row of texts. -/
theorem index_str {w : World} {B : Nat} {u : Value} {l : List (List UInt8)} (h : w.ownsRow B 9 1 u l.length (l.map strV)) (x : List UInt8) (hl : l.length ≤ 1000000) :
    Calls Tryz.prog 101 #[u, .string ⟨x.toArray⟩] w fun e w' => e = .returned (.int .i64 (sixN l x)) ∧ w' = w := by
  have hr : Rw w 9 (fun _ => True) (fun _ => True) u (l.map strV) := Rw.of_own h fun _ _ => trivial
  have hq : Lib.idxOfS (l.map fun s => (⟨s.toArray⟩ : ByteArray)) ⟨x.toArray⟩ = sixN l x := by
    unfold Lib.idxOfS sixN
    rw [idxFromS_eq, Nat.zero_add]
  rcases hr with ⟨rfl, hx⟩ | ⟨g, off, cap, cu, rfl, h2, h2', h3, h4, h5⟩
  · have : l = [] := by simpa using hx
    subst this
    have := Tryz.slices_Index_string_empty none 0 ⟨x.toArray⟩ w
    rw [← hq]; exact this
  · simp only [List.length_map] at *
    have := Tryz.slices_Index_string g off l.length cap (l.map fun s => (⟨s.toArray⟩ : ByteArray)) ⟨x.toArray⟩ w (by simp) (by omega) (fun j hj => by
      have hj : j < l.length := by simpa using hj
      rw [cell_of_block h3, ← Array.getElem?_toList]
      have hx : ((cu.toList.drop off).take l.length)[j]? = some (.string ((l.map fun s => (⟨s.toArray⟩ : ByteArray)).getD j ByteArray.empty)) := by rw [h4]; simp [hj, strV]
      rw [List.getElem?_take, if_pos hj, List.getElem?_drop] at hx
      exact hx)
    rw [← hq]
    rw [List.take_of_length_le (by simp)] at this; exact this

/-- Where the first procedures lie. -/
def pbN (S k : Nat) : Nat := if k < 12 then S + (3 * k + 2) else S + (24 + k)
/-- The first procedures' fields. -/
theorem fs_get (M S k : Nat) (hk : k < 14) : ∃ fv, (fsL S M)[if k < 12 then 3 * k + 2 else 24 + k]? = some (Obj.cells #[strV (firstN.getD k []), .int .i64 (needS k : Nat), fv] 220 (0, 0)) ∧
    ((k = 12 ∧ fv = .func (.func 175) #[ptrV M] #[]) ∨ (k = 13 ∧ fv = .func (.func 176) #[ptrV M] #[]) ∨ (k < 12 ∧ ∃ T, MT.contains T = false ∧ fv = .func (.func (wrF.getD k 0)) #[] #[ptrV (S + 3 * k), ptrV (S + (3 * k + 1))] ∧ (fsL S M)[3 * k]? = some (Obj.cells #[ptrV M] 73 (0, 0)) ∧ (fsL S M)[3 * k + 1]? = some (Obj.cells #[.func (.func (mtF.getD k 0)) #[ptrV M] #[]] T (0, 0)))) := by
  rcases k with _ | _ | _ | _ | _ | _ | _ | _ | _ | _ | _ | _ | _ | _ | k
  iterate 12 exact ⟨_, rfl, .inr (.inr ⟨by decide, _, by decide, rfl, rfl, rfl⟩)⟩
  · exact ⟨_, rfl, .inl ⟨rfl, rfl⟩⟩
  · exact ⟨_, rfl, .inr (.inl ⟨rfl, rfl⟩)⟩
  · omega
theorem pbN_eq (S k : Nat) : pbN S k = S + (if k < 12 then 3 * k + 2 else 24 + k) := by unfold pbN; split <;> rfl
/-- Where pairs of the code and the first procedures lie. -/
def moN (K S : Nat) : Nat → Option Nat := fun i => if i % 2 = 0 then (if i / 2 < 14 then some (pbN S (i / 2)) else none) else datM K i
/-- A procedure that there is at first. -/
theorem first_prx {w : World} {X : Nat → Prop} {mf : Nat → Option Nat} (K M : Nat) (C : Cd) (w0 : World) (k : Nat) (hk : k < 14) (hb : Below (allocs w0 (fsL w0.heap.size M)).heap.size (allocs w0 (fsL w0.heap.size M)) w ∨ KI (allocs w0 (fsL w0.heap.size M)) w) : PrX w X (moN K w0.heap.size) mf M C (2 * k) (.first k) := by
  have hkk : KI (allocs w0 (fsL w0.heap.size M)) w := hb.elim KI.of_below id
  obtain ⟨fv, h1, h2⟩ := fs_get M w0.heap.size k hk
  have g1 := allocs_get _ w0 _ _ h1
  rw [← pbN_eq] at g1
  refine ⟨pbN w0.heap.size k, ⟨(firstN.getD k []).toArray⟩, fv, ?_, hkk _ (by decide) _ _ g1, ?_⟩
  · unfold moN
    rw [if_pos (by omega), show 2 * k / 2 = k by omega, if_pos hk]
  · rcases h2 with h2 | h2 | ⟨h3, T, h4, h5, h6, h7⟩
    · exact .inl h2
    · exact .inr (.inl h2)
    · exact .inr (.inr ⟨h3, _, _, T, h4, h5, hkk _ (by decide) _ _ (allocs_get _ w0 _ _ h6), hkk _ h4 _ _ (allocs_get _ w0 _ _ h7)⟩)

/-- The outermost frame, while it is filled: in block g, its rows behind S. -/
structure OutF (S g : Nat) (mo : Nat → Option Nat) (fr : Fr) (w : World) (nv vv : Value) (xs : List Value) : Prop where
  hS : w.heap[g]? = some (Obj.cells #[.string ⟨#[116, 104, 101, 32, 112, 114, 111, 103, 114, 97, 109]⟩, nv, vv, .pointer none] 176 (0, 0))
  nr : Rw w 3 (fun k => S ≤ k) (fun _ => False) nv (fr.ns.map (Value.int .i64))
  vr : Rw w 81 (fun k => S ≤ k) (fun k => S ≤ k) vv xs
  vs : ∀ W, VXs W mo fr.vs xs
  out : fr.out = none
  len : fr.ns.length = fr.vs.length
def owN (S g : Nat) : Nat → Option Nat := fun k => if k = g ∨ S ≤ k then some 1 else none
theorem OutF.fr {S g : Nat} {mo : Nat → Option Nat} {fr : Fr} {w : World} {nv vv : Value} {xs : List Value} (h : OutF S g mo fr w nv vv xs) (hl : fr.ns.length ≤ 1000000) : FrR w (fun _ => True) (owN S g) mo (fun _ => none) 0 fr g ⟨#[116, 104, 101, 32, 112, 114, 111, 103, 114, 97, 109]⟩ nv vv none xs :=
  ⟨by simp [owN], h.hS, h.nr.imp (fun b c hb hc => ⟨by simp [owN, hb], hc⟩) (fun _ _ h _ => h.elim), h.vr.imp (fun b c hb hc => ⟨by simp [owN, hb], hc⟩) (fun _ _ h _ => by simp [owN, h] at *; simp_all), h.vs w, by rw [h.out], h.len, hl⟩
/-- One more is defined. -/
theorem OutF.define {S g : Nat} {mo : Nat → Option Nat} {fr : Fr} {w w' : World} {nv vv : Value} {xs : List Value} (h : OutF S g mo fr w nv vv xs) (hSw : S ≤ w.heap.size) (n : Int) (v : V) (x : Value) (hx : ∀ W, VX W mo v x) (e : Ending)
    (hp : DefPost' w (fun _ => True) (owN S g) 0 g fr ⟨#[116, 104, 101, 32, 112, 114, 111, 103, 114, 97, 109]⟩ none xs n x e w') : Upd (fun k => k = g ∨ S ≤ k) w w' ∧ ∃ nv' vv' xs', OutF S g mo (fr.define n v) w' nv' vv' xs' := by
  obtain ⟨nv', vv', hS', hn, hv⟩ := hp.rows v
  have hu' : Upd (fun k => k = g ∨ S ≤ k) w w' := hp.2.1.mono fun k hk => by
    unfold owN at hk
    split at hk
    · assumption
    · cases hk
  have hown : ∀ (T : TypeId) (k : Nat) (c : Array Value), T ≠ 176 → w'.heap[k]? = some (Obj.cells c T (0, 0)) → (owN S g k = some (0 + 1) ∨ w.heap.size ≤ k) → S ≤ k := fun T k c hT hc ho => by
    rcases ho with ho | ho
    · unfold owN at ho
      split at ho
      · rename_i hk
        rcases hk with hk | hk
        · subst hk; rw [hS'] at hc; cases hc; exact absurd rfl hT
        · exact hk
      · cases ho
    · omega
  have hlen := idxI_none_len fr n v h.len
  refine ⟨hu', nv', vv', _, hS', hn.imp (fun k c hk hc => ⟨hown _ k c (by decide) hc hk, hc⟩) (fun k c hk hc => absurd trivial hk), hv.imp (fun k c hk hc => ⟨hown _ k c (by decide) hc hk, hc⟩) (fun k c hk hc => ⟨hown _ k c (by decide) hc hk, hc⟩), fun W => ?_, by rw [hlen.2.2, h.out], hlen.1⟩
  have a1 := h.vs W
  have a2 := hx W
  unfold Fr.define
  cases idxI fr.ns n with
  | some j => exact VXs.set j v _ a1 a2
  | none => exact VXs.append a1 ⟨a2, trivial⟩
/-- One of the first procedures goes into the frame, if the text names it. -/
def outer1 (C : Cd) (k : Nat) (f : Fr) : Fr := if C.ns.contains (firstN.getD k []) then f.define (C.ns.idxOf (firstN.getD k []) : Nat) (.proc (2 * k)) else f
def outerK (C : Cd) : Nat → Fr
  | 0 => ⟨[], [], none⟩
  | k + 1 => outer1 C k (outerK C k)
theorem outerK_all (C : Cd) : outerK C 14 = outerS C 0 firstN ⟨[], [], none⟩ := rfl
theorem outerK_len (C : Cd) : ∀ k, (outerK C k).ns.length = (outerK C k).vs.length ∧ (outerK C k).ns.length ≤ k
  | 0 => ⟨rfl, Nat.le_refl _⟩
  | k + 1 => by
    have h := outerK_len C k
    unfold outerK outer1
    split
    · have := idxI_none_len (outerK C k) (C.ns.idxOf (firstN.getD k []) : Nat) (.proc (2 * k)) h.1
      exact ⟨this.1, by omega⟩
    · exact ⟨h.1, by omega⟩
end Go.Proofs.YtlobegpjenabaaaGreatDoor

/- The outermost frame is made. -/
namespace Go.Proofs.YtlobegpjenabaaaGreatDoor
open Go.RowKit
set_option linter.unusedSimpArgs false
set_option linter.unusedVariables false

theorem fs_row (S M k : Nat) (hk : k < 14) : ∃ c, (fsL S M)[38]? = some (Obj.cells c 216 (0, 0)) ∧ c[k]? = some (ptrV (pbN S k)) := by
  refine ⟨_, rfl, ?_⟩
  rcases k with _ | _ | _ | _ | _ | _ | _ | _ | _ | _ | _ | _ | _ | _ | k
  iterate 14 rfl
  omega
theorem cell_eq_block {w w' : World} {g o : Nat} (h : w'.heap[g]? = w.heap[g]?) : w'.cell? ⟨g, o, none⟩ = w.cell? ⟨g, o, none⟩ := by
  unfold World.cell?
  rw [h]
theorem size_alloc (w : World) (o : Obj) : (w.alloc o).heap.size = w.heap.size + 1 := by simp
/-- The world with the frame's block and the first procedures. -/
def outW (w : World) (M : Nat) : World := allocs (w.alloc (.cells #[.string ⟨#[116, 104, 101, 32, 112, 114, 111, 103, 114, 97, 109]⟩, .slice none 0 0, .slice none 0 0, .pointer none] 176)) (fsL (w.heap.size + 1) M)
theorem outW_size (w : World) (M : Nat) : (outW w M).heap.size = w.heap.size + 40 := by
  unfold outW
  rw [allocs_size]; simp [fsL]
theorem outW_below (w : World) (M : Nat) : Below w.heap.size w (outW w M) := by
  unfold outW
  refine ((Below.refl _ w).alloc (Nat.le_refl _) _).trans ((allocs_below _ _).mono ?_)
  simp
theorem outW_get (w : World) (M i : Nat) (o : Obj) (h : (fsL (w.heap.size + 1) M)[i]? = some o) : (outW w M).heap[w.heap.size + 1 + i]? = some o := by
  unfold outW
  rw [show w.heap.size + 1 = (w.alloc (.cells #[.string ⟨#[116, 104, 101, 32, 112, 114, 111, 103, 114, 97, 109]⟩, .slice none 0 0, .slice none 0 0, .pointer none] 176)).heap.size by simp] at *
  exact allocs_get _ _ _ _ h
def OutPost (w : World) (K M : Nat) (C : Cd) (e : Ending) (w' : World) : Prop := e = .returned (.pointer (some ⟨w.heap.size, 0, none⟩)) ∧ Upd (fun k => k = w.heap.size ∨ w.heap.size + 40 ≤ k) (outW w M) w' ∧ ∃ nv vv xs, OutF (w.heap.size + 40) w.heap.size (moN K (w.heap.size + 1)) (outerK C 14) w' nv vv xs
theorem moN_first (K S k : Nat) (hk : k < 14) (W : World) : VX W (moN K S) (.proc (2 * k)) (.iface 216 (ptrV (pbN S k))) := by
  refine ⟨by omega, pbN S k, ?_, rfl⟩
  unfold moN
  rw [if_pos (by omega), show 2 * k / 2 = k by omega, if_pos hk]

set_option maxRecDepth 100000 in
set_option maxHeartbeats 4000000 in
theorem outermost_go (w : World) (K M b : Nat) (C : Cd) (u2 : Value) (hMl : M < w.heap.size) (hbl : b < w.heap.size) (m0 : w.cell? ⟨M, 0, none⟩ = some (.pointer (some ⟨b, 0, none⟩))) (b2 : w.cell? ⟨b, 2, none⟩ = some u2) (hr : w.ownsRow 0 9 1 u2 C.ns.length (C.ns.map strV)) (hl : C.ns.length ≤ 1000000) :
    Calls Tryz.prog 61 #[.pointer (some ⟨M, 0, none⟩)] w (OutPost w K M C) := by
  have HR := hide hr
  obtain ⟨a2, cap2, rfl, _, _, _⟩ := ownsRow_slice hr
  obtain ⟨W1, hW1⟩ : ∃ W1, W1 = outW w M := ⟨_, rfl⟩
  have hsz : W1.heap.size = w.heap.size + 40 := by rw [hW1]; exact outW_size w M
  have HB := hide (show Below w.heap.size w W1 from by rw [hW1]; exact outW_below w M)
  have HGET := hide (show ∀ i o, (fsL (w.heap.size + 1) M)[i]? = some o → W1.heap[w.heap.size + 1 + i]? = some o from by rw [hW1]; exact outW_get w M)
  have HST : Hid (OutF (w.heap.size + 40) w.heap.size (moN K (w.heap.size + 1)) (outerK C 0) W1 (.slice none 0 0) (.slice none 0 0) []) := by
    refine ⟨?_, .inl ⟨rfl, rfl⟩, .inl ⟨rfl, rfl⟩, fun _ => trivial, rfl, rfl⟩
    rw [hW1]; unfold outW
    rw [(allocs_below _ _).block w.heap.size (by simp)]
    exact Array.getElem?_push_size
  have HF := hide (firsts_go (w.alloc (.cells #[.string ⟨#[116, 104, 101, 32, 112, 114, 111, 103, 114, 97, 109]⟩, .slice none 0 0, .slice none 0 0, .pointer none] 176)) M)
  have HW1 := hide hW1
  clear hr hW1
  go_enter Tryz.func61, Tryz.ntmps61
  go_wp2_with fail
  refine HF.out.mono ?_
  rintro e w1 ⟨rfl, hw0⟩
  have hw1 : w1 = W1 := hw0.trans ((congrArg (fun n => allocs _ (fsL n M)) (size_alloc w _)).trans HW1.out.symm)
  clear hw0
  subst hw1
  clear HF
  rw [size_alloc]
  go_wp2
  go_loopw [12] (fun i wr => ∃ k : Nat, k ≤ 14 ∧ i = .int .i64 k ∧ Upd (fun j => j = w.heap.size ∨ w.heap.size + 40 ≤ j) w1 wr ∧ ∃ nv vv xs, OutF (w.heap.size + 40) w.heap.size (moN K (w.heap.size + 1)) (outerK C k) wr nv vv xs) (fun i _ => 14 - (intOf i).toNat)
  case atStart => exact ⟨0, by omega, rfl, Upd.refl _ _, _, _, _, HST.out⟩
  case round =>
    obtain ⟨k, hk, rfl, hu, nv, vv, xs, ho⟩ := hrel
    have HU := hide hu
    have HO := hide ho
    have hsz2 := hu.size
    by_cases hlt : k < 14
    · obtain ⟨c, hc1, hc2⟩ := fs_row (w.heap.size + 1) M k hlt
      obtain ⟨fv, hp1, _⟩ := fs_get M (w.heap.size + 1) k hlt
      have hp1 := HGET.out _ _ hp1
      rw [← pbN_eq] at hp1
      have hpl : pbN (w.heap.size + 1) k < w.heap.size + 40 := by have := lt_of_some hp1; omega
      have hpg : w.heap.size < pbN (w.heap.size + 1) k := by unfold pbN; split <;> omega
      have hblk : ∀ j, j < w.heap.size + 40 → j ≠ w.heap.size → wr.heap[j]? = w1.heap[j]? := fun j hj hn => hu.block j (by omega) (by omega)
      have d1 : wr.cell? ⟨w.heap.size + 1 + 38, k, none⟩ = some (ptrV (pbN (w.heap.size + 1) k)) := by rw [cell_of_block ((hblk _ (by omega) (by omega)).trans (HGET.out _ _ hc1))]; exact hc2
      have d2 : wr.cell? ⟨pbN (w.heap.size + 1) k, 0, none⟩ = some (.string ⟨(firstN.getD k []).toArray⟩) := by rw [cell_of_block ((hblk _ hpl (by omega)).trans hp1)]; rfl
      have d3 : wr.cell? ⟨M, 0, none⟩ = some (.pointer (some ⟨b, 0, none⟩)) := by rw [cell_eq_block (hu.block M (by omega) (by omega)), HB.out.cell (p := ⟨M, 0, none⟩) hMl]; exact m0
      have d4 : wr.cell? ⟨b, 2, none⟩ = some (.slice a2 C.ns.length cap2) := by rw [cell_eq_block (hu.block b (by omega) (by omega)), HB.out.cell (p := ⟨b, 2, none⟩) hbl]; exact b2
      have hrw : wr.ownsRow 0 9 1 (.slice a2 C.ns.length cap2) C.ns.length (C.ns.map strV) := by
        have h1 := ownsRow_of_upd HR.out (Upd.of_below (fun _ => False) HB.out) (fun _ _ h => h)
        refine ownsRow_of_upd h1 hu (fun j hj hx => ?_)
        have := (ownsRow_ge HR.out hj).2
        omega
      have HIX := hide (index_str (w := wr.drew) hrw (firstN.getD k []) hl)
      obtain ⟨P, hP⟩ : ∃ P, P = pbN (w.heap.size + 1) k := ⟨_, rfl⟩
      obtain ⟨x, hx⟩ : ∃ x, x = firstN.getD k [] := ⟨_, rfl⟩
      rw [← hP] at d1 d2 hpl hpg
      rw [← hx] at d2
      rw [← hx] at HIX
      unfold ptrV at d1
      have HX := hide hx
      have HP := hide hP
      have hwl : w.heap.size < wr.heap.size := by omega
      clear hc1 hc2 hp1 hblk hrw hx hP hu ho b2 m0
      have hns := (outerK_len C k).2
      cases hco : C.ns.contains x with
      | true =>
        have HI2 : Hid (Calls Tryz.prog 101 #[.slice a2 C.ns.length cap2, .string ⟨x.toArray⟩] wr.drew fun e w' => e = .returned (.int .i64 ((C.ns.idxOf x : Nat) : Int)) ∧ w' = wr.drew) := by
          have := HIX.out
          unfold sixN at this
          rw [hco, if_pos rfl] at this
          exact this
        have HOD : Hid (OutF (w.heap.size + 40) w.heap.size (moN K (w.heap.size + 1)) (outerK C k) wr.drew nv vv xs) := ⟨HO.out.hS, HO.out.nr, HO.out.vr, HO.out.vs, HO.out.out, HO.out.len⟩
        have HDF := hide (define_go (HOD.out.fr (by omega)) (fun _ _ _ => trivial) ((C.ns.idxOf x : Nat) : Int) 216 (.pointer (some ⟨P, 0, none⟩)) (by omega))
        have HNX : Hid (outerK C (k + 1) = (outerK C k).define (C.ns.idxOf x : Nat) (.proc (2 * k))) := by
          show outer1 C k (outerK C k) = _
          unfold outer1
          rw [← HX.out, hco, if_pos rfl]
        have hil : (C.ns.idxOf x) ≤ 1000000 := by have := List.idxOf_le_length (a := x) (l := C.ns); omega
        clear hco HIX hns
        go_wp2_with fail
        go_region_held3 (fun wx => wx.cell? ⟨M, 0, none⟩ = some (.pointer (some ⟨b, 0, none⟩)) ∧ wx.cell? ⟨b, 2, none⟩ = some (.slice a2 C.ns.length cap2) ∧ wx.cell? ⟨P, 0, none⟩ = some (.string ⟨x.toArray⟩)) (go_keep) (first | (go_at_call 101; refine HI2.out.mono ?_; rintro e w' ⟨rfl, rfl⟩))
        go_wp2_with fail
        refine HDF.out.mono ?_
        intro e w2 hp
        have he := hp.1
        subst he
        have HP2 := hide (HOD.out.define (by show _ ≤ wr.heap.size; omega) _ (.proc (2 * k)) _ (fun W => by have := moN_first K (w.heap.size + 1) k hlt W; rw [← HP.out] at this; exact this) _ hp)
        clear hp HDF
        go_wp2
        go_roundw
        case rel => exact ⟨k + 1, by omega, rfl, HU.out.drew.trans HP2.out.1 (fun j _ h => h), by rw [HNX.out]; exact HP2.out.2⟩
        case measure => simp [intOf]; omega
      | false =>
        have HI2 : Hid (Calls Tryz.prog 101 #[.slice a2 C.ns.length cap2, .string ⟨x.toArray⟩] wr.drew fun e w' => e = .returned (.int .i64 (-1)) ∧ w' = wr.drew) := by
          have := HIX.out
          unfold sixN at this
          rw [hco, if_neg (by decide)] at this
          exact this
        have HOD : Hid (OutF (w.heap.size + 40) w.heap.size (moN K (w.heap.size + 1)) (outerK C k) wr.drew nv vv xs) := ⟨HO.out.hS, HO.out.nr, HO.out.vr, HO.out.vs, HO.out.out, HO.out.len⟩
        have HNX : Hid (outerK C (k + 1) = outerK C k) := by
          show outer1 C k (outerK C k) = _
          unfold outer1
          rw [← HX.out, hco, if_neg (by decide)]
        clear hco HIX hns
        go_wp2_with fail
        go_region_held3 (fun wx => wx.cell? ⟨M, 0, none⟩ = some (.pointer (some ⟨b, 0, none⟩)) ∧ wx.cell? ⟨b, 2, none⟩ = some (.slice a2 C.ns.length cap2) ∧ wx.cell? ⟨P, 0, none⟩ = some (.string ⟨x.toArray⟩)) (go_keep) (first | (go_at_call 101; refine HI2.out.mono ?_; rintro e w' ⟨rfl, rfl⟩))
        go_wp2
        go_roundw
        case rel => exact ⟨k + 1, by omega, rfl, HU.out.drew, nv, vv, xs, by rw [HNX.out]; exact HOD.out⟩
        case measure => simp [intOf]; omega
    · have hke : k = 14 := by omega
      subst hke
      clear hu ho
      go_wp2
      go_ret
      exact ⟨rfl, by rw [← HW1.out]; exact HU.out, nv, vv, xs, HO.out⟩
end Go.Proofs.YtlobegpjenabaaaGreatDoor

/- A machine is made. -/
namespace Go.Proofs.YtlobegpjenabaaaGreatDoor
open Go.RowKit
set_option linter.unusedSimpArgs false
set_option linter.unusedVariables false

/-- A machine with nothing in it. -/
def mc0 (b : Nat) : Obj := .cells (mcC b 0 .nilIface (.pointer none) .nilIface (.slice none 0 0) (.pointer none) (.slice none 0 0) 0 0 0 ⟨#[]⟩) 119
/-- What New leaves, of what outermost left. -/
def newW (w2 : World) (M g : Nat) : World := ((w2.setCell ⟨M, 3, none⟩ (ptrV g)).setCell ⟨M, 6, none⟩ (ptrV w2.heap.size)).alloc (.cells (enC none 0 (some ⟨g, 0, none⟩) 0 none) 115)
def NewPost (w : World) (K b : Nat) (C : Cd) (e : Ending) (w' : World) : Prop := e = .returned (.pointer (some ⟨w.heap.size, 0, none⟩)) ∧ ∃ w2, OutPost (w.alloc (mc0 b)) K w.heap.size C (.returned (.pointer (some ⟨w.heap.size + 1, 0, none⟩))) w2 ∧ w' = newW w2 w.heap.size (w.heap.size + 1)
theorem out_machine {w w2 : World} {K b : Nat} {C : Cd} {e : Ending} (h : OutPost (w.alloc (mc0 b)) K w.heap.size C e w2) : w2.heap[w.heap.size]? = some (mc0 b) ∧ Below w.heap.size w w2 ∧ w.heap.size + 41 ≤ w2.heap.size := by
  have hs := size_alloc w (mc0 b)
  have h1 := outW_below (w.alloc (mc0 b)) w.heap.size
  have hz := outW_size (w.alloc (mc0 b)) w.heap.size
  have hb : Below w.heap.size w (outW (w.alloc (mc0 b)) w.heap.size) := ((Below.refl _ w).alloc (Nat.le_refl _) _).trans (h1.mono (by omega))
  have hu := h.2.1
  refine ⟨?_, hb.trans (hu.below (by omega) (fun k hk => by omega)), by have := hu.size; omega⟩
  rw [hu.block w.heap.size (by omega) (by omega), h1.block w.heap.size (by omega)]
  exact Array.getElem?_push_size

set_option maxRecDepth 100000 in
set_option maxHeartbeats 4000000 in
theorem new_go (w : World) (K b : Nat) (C : Cd) (u2 : Value) (hbl : b < w.heap.size) (b2 : w.cell? ⟨b, 2, none⟩ = some u2) (hr : w.ownsRow 0 9 1 u2 C.ns.length (C.ns.map strV)) (hl : C.ns.length ≤ 1000000) :
    Calls Tryz.prog 42 #[.pointer (some ⟨b, 0, none⟩)] w (NewPost w K b C) := by
  have HO := hide (outermost_go (w.alloc (mc0 b)) K w.heap.size b C u2 (by simp) (by simp; omega) ((World.cell?_alloc_at _ _ _ _ (by simp)).trans rfl) ((World.cell?_alloc_past _ _ _ hbl).trans b2) (hr.alloc _) hl)
  clear b2 hr
  go_enter Tryz.func42, Tryz.ntmps42
  go_wp2_with fail
  refine HO.out.mono ?_
  intro e w2 hp
  have he : e = .returned (.pointer (some ⟨w.heap.size + 1, 0, none⟩)) := by rw [hp.1, size_alloc]
  subst he
  obtain ⟨hm, _, hz⟩ := out_machine hp
  have k3 := cell_of_block hm 3
  have k6 := cell_of_block hm 6
  have f3 := frozen_of_block hm 3
  have f6 := frozen_of_block hm 6
  simp only [mcC, List.getElem?_toArray, List.getElem?_cons_zero, List.getElem?_cons_succ] at k3 k6
  have hMl : w.heap.size < w2.heap.size := by omega
  have HP := hide hp
  clear hp hm hz HO
  go_wp2
  go_ret
  exact ⟨rfl, w2, HP.out, rfl⟩

theorem newW_upd (w2 : World) (M g : Nat) : Upd (fun k => k = M) w2 (newW w2 M g) := (((Upd.refl (fun k => k = M) w2).setCell ⟨M, 3, none⟩ (ptrV g) (fun _ => rfl)).setCell ⟨M, 6, none⟩ (ptrV w2.heap.size) (fun _ => rfl)).alloc _
theorem newW_machine {w2 : World} {M b g : Nat} (h : w2.heap[M]? = some (mc0 b)) : (newW w2 M g).heap[M]? = some (Obj.cells (mcC b 0 .nilIface (ptrV g) .nilIface (.slice none 0 0) (ptrV w2.heap.size) (.slice none 0 0) 0 0 0 ⟨#[]⟩) 119 (0, 0)) := by
  have hl := lt_of_some h
  have h1 := heap_setCell_same (o := 3) (v := ptrV g) h
  have h2 := heap_setCell_same (o := 6) (v := ptrV w2.heap.size) h1
  unfold newW
  rw [Below.heap_alloc _ _ _ (by simpa using hl)]
  exact h2
theorem newW_entry (w2 : World) (M g : Nat) : (newW w2 M g).heap[w2.heap.size]? = some (Obj.cells (enC none 0 (some ⟨g, 0, none⟩) 0 none) 115 (0, 0)) := by
  have := Array.getElem?_push_size (xs := ((w2.setCell ⟨M, 3, none⟩ (ptrV g)).setCell ⟨M, 6, none⟩ (ptrV w2.heap.size)).heap) (x := Obj.cells (enC none 0 (some ⟨g, 0, none⟩) 0 none) 115 (0, 0))
  rw [show ((w2.setCell ⟨M, 3, none⟩ (ptrV g)).setCell ⟨M, 6, none⟩ (ptrV w2.heap.size)).heap.size = w2.heap.size by simp] at this
  exact this
theorem pbN_lt (S k : Nat) (h : k < 14) : S + 2 ≤ pbN S k ∧ pbN S k < S + 38 := by unfold pbN; split <;> omega
theorem pbN_inj (S i j : Nat) (hi : i < 14) (hj : j < 14) (h : pbN S i = pbN S j) : i = j := by
  unfold pbN at h
  split at h <;> split at h <;> omega
theorem moN_some {K S i g : Nat} (h : moN K S i = some g) : (i % 2 = 0 ∧ i / 2 < 14 ∧ g = pbN S (i / 2)) ∨ (i % 2 = 1 ∧ i / 2 < K ∧ g = i / 2) := by
  unfold moN datM at h
  split at h
  · split at h
    · cases h; exact .inl ⟨by assumption, by assumption, rfl⟩
    · cases h
  · split at h
    · rename_i h1
      cases h; exact .inr ⟨h1.1, h1.2, rfl⟩
    · cases h
theorem new_mr {w w2 : World} {B b : Nat} {X0 : Nat → Prop} {C : Cd} {e : Ending} (hc : Code w.heap.size w X0 b C) (hx : XTy w B X0) (ht : Tab B w) (hB : B ≤ w.heap.size) (hp : OutPost (w.alloc (mc0 b)) w.heap.size w.heap.size C e w2) :
    ∃ X ow, MR B w.heap.size (newW w2 w.heap.size (w.heap.size + 1)) X ow w.heap.size b C (startS C) ∧ Gw X0 (fun _ => none) w X ow (newW w2 w.heap.size (w.heap.size + 1)) := by
  classical
  obtain ⟨hm, hb2, hz2⟩ := out_machine hp
  obtain ⟨_, hu, nv, vv, xs, hO⟩ := hp
  have hsz := size_alloc w (mc0 b)
  have hoz := outW_size (w.alloc (mc0 b)) w.heap.size
  rw [hsz] at hO hu hoz
  obtain ⟨w3, hw3⟩ : ∃ w3, w3 = newW w2 w.heap.size (w.heap.size + 1) := ⟨_, rfl⟩
  have hu3 : Upd (fun k => k = w.heap.size) w2 w3 := by rw [hw3]; exact newW_upd _ _ _
  have hM3 : w3.heap[w.heap.size]? = some (Obj.cells (mcC b 0 .nilIface (ptrV (w.heap.size + 1)) .nilIface (.slice none 0 0) (ptrV w2.heap.size) (.slice none 0 0) 0 0 0 ⟨#[]⟩) 119 (0, 0)) := by rw [hw3]; exact newW_machine hm
  have hE3 : w3.heap[w2.heap.size]? = some (Obj.cells (enC none 0 (some ⟨w.heap.size + 1, 0, none⟩) 0 none) 115 (0, 0)) := by rw [hw3]; exact newW_entry _ _ _
  rw [← hw3]
  have hb3 : Below w.heap.size w w3 := hb2.trans (hu3.below (by omega) (fun k hk => by omega))
  have hgb : ∀ k c T, T ≠ 119 → w2.heap[k]? = some (Obj.cells c T (0, 0)) → w3.heap[k]? = some (Obj.cells c T (0, 0)) := fun k c T hT hk => by
    rw [hu3.block k (lt_of_some hk) (fun e => by subst e; rw [hm] at hk; cases hk; exact hT rfl)]; exact hk
  obtain ⟨kn, hkn, hn⟩ := hO.nr.split
  obtain ⟨kv, hkv, hv⟩ := hO.vr.split2
  have hkl : ∀ k, KeepF (w.heap.size + 1) kn kv k → w.heap.size < k := fun k hk => by
    rcases hk with hk | hk | hk
    · omega
    · have := (hkn k hk).1; omega
    · have := (hkv k hk).1; omega
  have hkt : ∀ k, KeepF (w.heap.size + 1) kn kv k → ∃ c T, w3.heap[k]? = some (Obj.cells c T (0, 0)) ∧ MT.contains T = true := fun k hk => by
    rcases hk with hk | hk | hk
    · subst hk; exact ⟨_, _, hgb _ _ _ (by decide) hO.hS, by decide⟩
    · obtain ⟨c, hc⟩ := (hkn k hk).2; exact ⟨_, _, hgb _ _ _ (by decide) hc, by decide⟩
    · obtain ⟨c, hc⟩ := (hkv k hk).2; exact ⟨_, _, hgb _ _ _ (by decide) hc, by decide⟩
  have hxl : ∀ k, X0 k → k < w.heap.size := fun k hk => by obtain ⟨_, c, T, h1, _⟩ := hx k hk; exact lt_of_some h1
  -- the first procedures as they lie
  have hKI : KI (outW (w.alloc (mc0 b)) w.heap.size) w3 := by
    have hu2 : Upd (fun k => k = w.heap.size + 1) (outW (w.alloc (mc0 b)) w.heap.size) w2 := ⟨hu.os, hu.tape, hu.output, hu.size, fun k hk hn => hu.block k hk (by omega)⟩
    have hf : (outW (w.alloc (mc0 b)) w.heap.size).heap[w.heap.size + 1]? = some (Obj.cells #[.string ⟨#[116, 104, 101, 32, 112, 114, 111, 103, 114, 97, 109]⟩, .slice none 0 0, .slice none 0 0, .pointer none] 176 (0, 0)) := by
      unfold outW
      rw [(allocs_below _ _).block (w.heap.size + 1) (by simp)]
      rw [← hsz]
      exact Array.getElem?_push_size
    refine (KI.of_upd (B := 0) (fun k hk => ⟨Nat.zero_le _, ?_⟩) hu2).trans (KI.of_upd (B := 0) (fun k hk => ⟨Nat.zero_le _, ?_⟩) hu3)
    · subst hk; exact ⟨_, _, hf, by decide⟩
    · subst hk; exact ⟨_, _, hm, by decide⟩
  have hPR : ∀ (X : Nat → Prop) (mf : Nat → Option Nat) k, k < 14 → PrX w3 X (moN w.heap.size (w.heap.size + 2)) mf w.heap.size C (2 * k) (.first k) := fun X mf k hk => by
    have := first_prx (X := X) (mf := mf) (w := w3) w.heap.size w.heap.size C ((w.alloc (mc0 b)).alloc (.cells #[.string ⟨#[116, 104, 101, 32, 112, 114, 111, 103, 114, 97, 109]⟩, .slice none 0 0, .slice none 0 0, .pointer none] 176)) k hk
    rw [size_alloc, size_alloc] at this
    refine this (.inr ?_)
    unfold outW at hKI
    rw [hsz] at hKI
    exact hKI
  have hown : ∀ k, (if k = w.heap.size then some 0 else if KeepF (w.heap.size + 1) kn kv k then some 1 else none : Option Nat) = some 1 ↔ KeepF (w.heap.size + 1) kn kv k := fun k => by
    constructor
    · intro h
      split at h
      · cases h
      · split at h
        · assumption
        · cases h
    · intro h
      have := hkl k h
      rw [if_neg (by omega), if_pos h]
  refine ⟨fun k => X0 k ∨ k = w.heap.size ∨ KeepF (w.heap.size + 1) kn kv k, fun k => if k = w.heap.size then some 0 else if KeepF (w.heap.size + 1) kn kv k then some 1 else none, ⟨moN w.heap.size (w.heap.size + 2), fun i => if i = 0 then some (w.heap.size + 1) else none, .nilIface, .nilIface, .slice none 0 0, .slice none 0 0, some ⟨w2.heap.size, 0, none⟩, w.heap.size + 1, hM3, ?_⟩, ?_⟩
  · refine ⟨hc.keep (KI.of_below hb3) hb3.size (fun k hk hn => ⟨fun h => ?_, hb3.block k hk⟩), rfl, rfl, trivial, ?_, ⟨World.ownsRow_nil _ _ _ _, ⟨(fun k hk => by cases hk), Nat.zero_le 40⟩⟩, fun i fr hi => ?_, fun k p hk => ?_, fun i g hg => ?_, fun k g hg => ?_, fun k g hg => ?_, fun i j g hi hj => ?_, fun i g hg => ?_, fun i g hg => ?_, fun k t ht => ?_, fun k hk => ?_, by simp, ht.below (hb3.mono hB), hB⟩
    · rcases h with h | h | h
      · exact hn h
      · omega
      · have := hkl k h; omega
    · exact ⟨w2.heap.size, none, w.heap.size + 1, none, rfl, hE3, rfl, ⟨[], rfl, trivial⟩, by decide, by decide, rfl⟩
    · cases i with
      | succ i => simp [startS] at hi
      | zero =>
        simp only [startS, List.getElem?_cons_zero, Option.some.injEq] at hi
        rw [← outerK_all] at hi
        subst hi
        refine ⟨w.heap.size + 1, _, nv, vv, none, xs, rfl, ⟨(hown _).2 (.inl rfl), hgb _ _ _ (by decide) hO.hS, hn.imp (fun k c hk hc => ⟨(hown k).2 (.inr (.inl hk)), hgb _ _ _ (by decide) hc⟩) (fun k c hk hc => hk.1.elim), hv.imp (fun k c hk hc => ⟨(hown k).2 (.inr (.inr hk)), hgb _ _ _ (by decide) hc⟩) (fun k c hk hc => ⟨(hown k).2 (.inr (.inr hk)), hgb _ _ _ (by decide) hc⟩), hO.vs w3, by rw [hO.out], hO.len, by have := (outerK_len C 14).2; omega⟩⟩
    · simp only [startS] at hk
      rw [List.getElem?_map] at hk
      by_cases hk14 : k < 14
      · rw [List.getElem?_range hk14] at hk
        cases hk
        exact hPR _ _ k hk14
      · rw [List.getElem?_eq_none (by simp; omega)] at hk; cases hk
    · rcases moN_some hg with ⟨_, h2, rfl⟩ | ⟨_, h2, rfl⟩
      · have := pbN_lt (w.heap.size + 2) _ h2
        have := hu3.size
        omega
      · have := hb3.size; omega
    · rcases moN_some hg with ⟨_, h2, rfl⟩ | ⟨h1, h2, rfl⟩
      · show k < 14
        omega
      · omega
    · rcases moN_some hg with ⟨_, h2, rfl⟩ | ⟨h1, h2, rfl⟩
      · obtain ⟨g', z, fv, h3, h4, _⟩ := hPR (fun _ => True) (fun _ => none) (2 * k / 2) h2
        have h5 : moN w.heap.size (w.heap.size + 2) (2 * (2 * k / 2)) = some (pbN (w.heap.size + 2) (2 * k / 2)) := by unfold moN; rw [if_pos (by omega), show 2 * (2 * k / 2) / 2 = 2 * k / 2 by omega, if_pos h2]
        rw [h5] at h3; cases h3
        exact ⟨_, _, h4, by decide⟩
      · omega
    · rcases moN_some hi with ⟨h1, h2, rfl⟩ | ⟨h1, h2, rfl⟩ <;> rcases moN_some hj with ⟨h3, h4, h5⟩ | ⟨h3, h4, h5⟩
      · have := pbN_inj _ _ _ h2 h4 h5
        omega
      · have := pbN_lt (w.heap.size + 2) _ h2
        omega
      · have := pbN_lt (w.heap.size + 2) _ h4
        omega
      · omega
    · unfold moN
      have : i % 2 = 1 := by
        unfold datM at hg
        split at hg
        · rename_i h; exact h.1
        · cases hg
      rw [if_neg (by omega)]; exact hg
    · show i < 1
      by_cases hi : i = 0
      · omega
      · rw [if_neg hi] at hg; cases hg
    · by_cases h1 : k = w.heap.size
      · exact .inr (.inl h1)
      · by_cases h2 : KeepF (w.heap.size + 1) kn kv k
        · exact .inr (.inr h2)
        · rw [if_neg h1, if_neg h2] at ht; cases ht
    · rcases hk with hk | hk | hk
      · obtain ⟨h1, c, T, h2, h3⟩ := hx k hk
        exact ⟨h1, c, T, by rw [hb3.block k (hxl k hk)]; exact h2, h3⟩
      · subst hk; exact ⟨hB, _, _, hM3, by decide⟩
      · exact ⟨by have := hkl k hk; omega, hkt k hk⟩
  · refine ⟨Upd.of_below _ hb3, fun k hk hX _ => .inl hX, fun k hk h => ?_, fun k hk _ => ?_⟩
    · rcases h with h | h | h
      · exact h
      · omega
      · have := hkl k h; omega
    · rw [if_neg (by omega), if_neg (fun h => by have := hkl k h; omega)]
end Go.Proofs.YtlobegpjenabaaaGreatDoor

/- The code that Compile gives, as a machine wants it. -/
namespace Go.Proofs.YtlobegpjenabaaaGreatDoor
open Go.RowKit
set_option linter.unusedSimpArgs false
set_option linter.unusedVariables false

/-- A datum whose ints and symbols are as a machine wants them. -/
def dOk : Nat → D → Bool
  | 0, _ => false
  | n + 1, .agg l => l.all (dOk n)
  | _ + 1, .lit (.int .i64 k) => decide (-9223372036854775808 ≤ k) && decide (k ≤ 9223372036854775807)
  | _ + 1, .lit (.bool _) => true
  | _ + 1, .lit (.string t) => decide (t.length ≤ 8000)
  | _ + 1, _ => false
/-- A datum's list as a value. -/
def ChV (R : D → V → Prop) : List D → V → Prop
  | [], v => v = .empty
  | d :: r, v => ∃ id a b, v = .pair id a b ∧ id % 2 = 1 ∧ R d a ∧ ChV R r b
/-- A datum as a value. -/
def DV : Nat → D → V → Prop
  | 0, _, _ => False
  | n + 1, .agg l, v => ChV (DV n) l v
  | _ + 1, .lit (.int .i64 k), v => v = .int k
  | _ + 1, .lit (.bool b), v => v = .bool b
  | _ + 1, .lit (.string t), v => v = .sym t
  | _ + 1, _, _ => False
theorem datM_at {K g : Nat} (h : g < K) : datM K (2 * g + 1) = some g := by
  unfold datM
  rw [if_pos ⟨by omega, by omega⟩]
  congr 1; omega
theorem chain_vx {w : World} {N n : Nat} (ih : ∀ d x, IV w n x d → dOk N d = true → ∃ v, VX w (datM w.heap.size) v x ∧ DV N d v) : ∀ (l : List D) (x : Value), ChainI w (IV w n) x l → l.all (dOk N) = true → ∃ v, VX w (datM w.heap.size) v x ∧ ChV (DV N) l v
  | [], x, h, _ => ⟨.empty, h, rfl⟩
  | d :: r, x, ⟨g, v1, v2, h1, h2, h3, h4⟩, hok => by
    simp only [List.all_cons, Bool.and_eq_true] at hok
    obtain ⟨a, ha, ha'⟩ := ih d v1 h3 hok.1
    obtain ⟨b, hb, hb'⟩ := chain_vx ih r v2 h4 hok.2
    exact ⟨.pair (2 * g + 1) a b, ⟨g, v1, v2, datM_at (lt_of_some h2), h1, h2, ha, hb⟩, _, a, b, rfl, by omega, ha', hb'⟩
theorem iv_vx {w : World} : ∀ (N n : Nat) (d : D) (x : Value), IV w n x d → dOk N d = true → ∃ v, VX w (datM w.heap.size) v x ∧ DV N d v
  | 0, n, d, x, _, h => by simp [dOk] at h
  | N + 1, 0, d, x, h, _ => h.elim
  | N + 1, n + 1, .agg l, x, h, hok => by
    obtain ⟨v, h1, h2⟩ := chain_vx (fun d x => iv_vx N n d x) l x h.2 (by simpa only [dOk] using hok)
    exact ⟨v, h1, h2⟩
  | N + 1, n + 1, .lit (.int .i64 k), x, h, hok => by
    simp only [dOk, Bool.and_eq_true, decide_eq_true_eq] at hok
    simp only [IV, atomI, Option.some.injEq] at h
    exact ⟨.int k, ⟨h.symm, hok.1, hok.2⟩, rfl⟩
  | N + 1, n + 1, .lit (.bool b), x, h, hok => by
    simp only [IV, atomI, Option.some.injEq] at h
    exact ⟨.bool b, h.symm, rfl⟩
  | N + 1, n + 1, .lit (.string t), x, h, hok => by
    simp only [dOk, decide_eq_true_eq] at hok
    simp only [IV, atomI, Option.some.injEq] at h
    exact ⟨.sym t, ⟨h.symm, hok⟩, rfl⟩
/-- Constants as values. -/
def DVs (N : Nat) : List (Option D) → List V → Prop
  | [], [] => True
  | none :: r, v :: vs => v = .nothing ∧ DVs N r vs
  | some d :: r, v :: vs => DV N d v ∧ DVs N r vs
  | _, _ => False
def csOk (N : Nat) : List (Option D) → Bool
  | [] => true
  | none :: r => csOk N r
  | some d :: r => dOk N d && csOk N r
theorem cvs_vxs {w : World} (N : Nat) : ∀ (cs : List (Option D)) (xs : List Value), CVs w cs xs → csOk N cs = true → ∃ vs, VXs w (datM w.heap.size) vs xs ∧ DVs N cs vs
  | [], [], _, _ => ⟨[], trivial, trivial⟩
  | [], _ :: _, h, _ => h.elim
  | _ :: _, [], h, _ => h.elim
  | none :: r, x :: xs, h, hok => by
    obtain ⟨vs, h1, h2⟩ := cvs_vxs N r xs h.2 hok
    exact ⟨.nothing :: vs, ⟨h.1, h1⟩, rfl, h2⟩
  | some d :: r, x :: xs, h, hok => by
    simp only [csOk, Bool.and_eq_true] at hok
    obtain ⟨n, hd⟩ := h.1
    obtain ⟨v, h3, h4⟩ := iv_vx N n d x hd hok.1
    obtain ⟨vs, h1, h2⟩ := cvs_vxs N r xs h.2 hok.2
    exact ⟨v :: vs, ⟨h3, h1⟩, h4, h2⟩
theorem DVs.length {N : Nat} : ∀ {cs : List (Option D)} {vs : List V}, DVs N cs vs → cs.length = vs.length
  | [], [], _ => rfl
  | [], _ :: _, h => h.elim
  | none :: _, [], h => h.elim
  | some _ :: _, [], h => h.elim
  | none :: r, v :: vs, h => by simp [DVs.length h.2]
  | some d :: r, v :: vs, h => by simp [DVs.length h.2]
/-- Code that is not too much. -/
def cdOk (N : Nat) (st : BS) : Bool := decide (st.is.length ≤ 1000000) && decide (st.ns.length ≤ 1000000) && decide (st.cs.length ≤ 1000000) && decide (st.ls.length ≤ 1000000) && st.ls.all (fun l => decide (l.2.1.length ≤ 1000000)) && csOk N st.cs
theorem lx_of {w : World} {B : Nat} {X : Nat → Prop} (hX : ∀ k, B ≤ k → k < w.heap.size → ¬ X k) : ∀ (ls : List (List UInt8 × List Nat × Nat)) (vs : List Value), LVs w B ls vs → ls.all (fun l => decide (l.2.1.length ≤ 1000000)) = true → LX w X ls vs
  | [], [], _, _ => trivial
  | [], _ :: _, h, _ => h.elim
  | _ :: _, [], h, _ => h.elim
  | _ :: _, [_], h, _ => h.elim
  | _ :: _, [_, _], h, _ => h.elim
  | l :: ls, a :: b :: c :: vs, h, hok => by
    simp only [List.all_cons, Bool.and_eq_true, decide_eq_true_eq] at hok
    exact ⟨⟨h.1.1, ⟨ownsRow_base h.1.2.1 (Nat.zero_le _), fun k hk => hX k (ownsRow_ge h.1.2.1 hk).1 (ownsRow_ge h.1.2.1 hk).2⟩, h.1.2.2, hok.1⟩, lx_of hX ls vs h.2 hok.2⟩
/-- The code of a builder, with these constants. -/
def cdOf (st : BS) (cs : List V) : Cd := ⟨st.is, cs, st.ns, st.ls⟩
theorem code_of {w : World} {B b N : Nat} {st : BS} {X : Nat → Prop} (h : Bd w B b st) (hok : cdOk N st = true) (hX : ∀ k, B ≤ k → k < w.heap.size → ¬ X k) : ∃ cs, DVs N st.cs cs ∧ Code w.heap.size w X b (cdOf st cs) := by
  obtain ⟨_, u0, u1, u2, u3, m, u5, x1, x3, us, h⟩ := h
  simp only [cdOk, Bool.and_eq_true, decide_eq_true_eq] at hok
  obtain ⟨⟨⟨⟨⟨h1, h2⟩, h3⟩, h4⟩, h5⟩, h6⟩ := hok
  obtain ⟨cs, hv, hd⟩ := cvs_vxs N st.cs x1 h.c1 h6
  have hl := hd.length
  have row : ∀ {T : TypeId} {s n : Nat} {u : Value} {xs : List Value}, w.ownsRow B T s u n xs → OR w X T s u n xs := fun hr => ⟨ownsRow_base hr (Nat.zero_le _), fun k hk => hX k (ownsRow_ge hr hk).1 (ownsRow_ge hr hk).2⟩
  refine ⟨cs, hd, _, u0, u1, u2, u3, x1, x3, h.hS, rfl, rfl, rfl, rfl, row h.r0, ?_, hv, row h.r2, row h.r3, lx_of hX _ _ h.l3 h5, h1, h2, ?_, h4, Nat.le_refl _⟩
  · have := row h.r1
    rw [hl] at this
    exact this
  · show cs.length ≤ _
    omega
end Go.Proofs.YtlobegpjenabaaaGreatDoor

/- The table of the kinds. -/
namespace Go.Proofs.YtlobegpjenabaaaGreatDoor
open Go.RowKit
set_option linter.unusedSimpArgs false
set_option linter.unusedVariables false

/-- The methods of the kinds, in the order of their numbers. -/
def kindF : List Nat := [116, 117, 118, 119, 120, 121, 122, 123, 124, 125, 126, 127, 128, 129, 130]
def kindA : Array Value := (kindF.map fun k => Value.func (.func k) #[] #[]).toArray
set_option maxRecDepth 100000 in
set_option maxHeartbeats 1000000 in
theorem kinds_raw (w : World) : Calls Tryz.prog 76 #[] w (RetW (.agg kindA) (w.alloc (.cells kindA 171))) := by
  have hsf : ∀ (W : World) (a : Addr) (m : Mode) (fn : Fn) (x y : Array Value), (store a (.func fn x y) m).run Tryz.prog W = stored Tryz.prog W a (.func fn x y) m := fun W a m fn x y => run_store _ _ _ _ _ rfl
  go_enter Tryz.func76, Tryz.ntmps76
  go_wp2
  refine bodyPost_ret (results_cell_row rfl _ _ w.heap.size 171 kindA (0, 0) _ rfl (heap_alloc_new _ _) Tryz.underlying171 rfl (by kernel_rfl)) rfl ?_
  exact ⟨rfl, rfl⟩
end Go.Proofs.YtlobegpjenabaaaGreatDoor
