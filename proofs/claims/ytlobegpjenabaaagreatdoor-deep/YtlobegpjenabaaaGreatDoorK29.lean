/- A machine is made. -/
import Derived.Test.YtlobegpjenabaaaGreatDoorK28
import Derived.Test.YtlobegpjenabaaaGreatDoorK01
import Derived.Laws.ResultCell
import Derived.Laws.Rows
import Derived.Test.YtlobegpjenabaaaGreatDoorK25
namespace Go.Proofs.YtlobegpjenabaaaGreatDoor
open Go.RowKit
set_option linter.unusedSimpArgs false
set_option linter.unusedVariables false

/-- A machine with nothing in it. -/
def mc0 (b : Nat) : Obj := .cells (mcC b 0 .nilIface (.pointer none) .nilIface (.slice none 0 0) (.pointer none) (.slice none 0 0) 0 0 0 ⟨#[]⟩) 119
/-- What New leaves, of what outermost left. -/
def newW (w2 : World) (M g : Nat) : World := ((w2.setCell ⟨M, 3, none⟩ (ptrV g)).setCell ⟨M, 6, none⟩ (ptrV w2.heap.size)).alloc (.cells (enC none 0 (some ⟨g, 0, none⟩) 0 none) 115)
def NewPost (w : World) (K b : Nat) (C : Cd) (e : Ending) (w' : World) : Prop := e = .returned (.pointer (some ⟨w.heap.size, 0, none⟩)) ∧ ∃ w2, OutPost (w.alloc (mc0 b)) K w.heap.size C (.returned (.pointer (some ⟨w.heap.size + 1, 0, none⟩))) w2 ∧ w' = newW w2 w.heap.size (w.heap.size + 1)
theorem out_machine {w w2 : World} {K b : Nat} {C : Cd} {e : Ending} (h : OutPost (w.alloc (mc0 b)) K w.heap.size C e w2) : w2.heap[w.heap.size]? = some (mc0 b) ∧ Below w.heap.size w w2 ∧ w.heap.size + 41 ≤ w2.heap.size := by
  have hs := size_alloc w (mc0 b)
  have h1 := outW_below (w.alloc (mc0 b)) w.heap.size
  have hz := outW_size (w.alloc (mc0 b)) w.heap.size
  have hb : Below w.heap.size w (outW (w.alloc (mc0 b)) w.heap.size) := ((Below.refl _ w).alloc (Nat.le_refl _) _).trans (h1.mono (by omega))
  have hu := h.2.1
  refine ⟨?_, hb.trans (hu.below (by omega) (fun k hk => by omega)), by have := hu.size; omega⟩
  rw [hu.block w.heap.size (by omega) (by omega), h1.block w.heap.size (by omega)]
  exact Array.getElem?_push_size

set_option maxRecDepth 100000 in
set_option maxHeartbeats 4000000 in
theorem new_go (w : World) (K b : Nat) (C : Cd) (u2 : Value) (hbl : b < w.heap.size) (b2 : w.cell? ⟨b, 2, none⟩ = some u2) (hr : w.ownsRow 0 9 1 u2 C.ns.length (C.ns.map strV)) (hl : C.ns.length ≤ 1000000) :
    Calls Tryz.prog 42 #[.pointer (some ⟨b, 0, none⟩)] w (NewPost w K b C) := by
  have HO := hide (outermost_go (w.alloc (mc0 b)) K w.heap.size b C u2 (by simp) (by simp; omega) ((World.cell?_alloc_at _ _ _ _ (by simp)).trans rfl) ((World.cell?_alloc_past _ _ _ hbl).trans b2) (hr.alloc _) hl)
  clear b2 hr
  go_enter Tryz.func42, Tryz.ntmps42
  go_wp2_with fail
  refine HO.out.mono ?_
  intro e w2 hp
  have he : e = .returned (.pointer (some ⟨w.heap.size + 1, 0, none⟩)) := by rw [hp.1, size_alloc]
  subst he
  obtain ⟨hm, _, hz⟩ := out_machine hp
  have k3 := cell_of_block hm 3
  have k6 := cell_of_block hm 6
  have f3 := frozen_of_block hm 3
  have f6 := frozen_of_block hm 6
  simp only [mcC, List.getElem?_toArray, List.getElem?_cons_zero, List.getElem?_cons_succ] at k3 k6
  have hMl : w.heap.size < w2.heap.size := by omega
  have HP := hide hp
  clear hp hm hz HO
  go_wp2
  go_ret
  exact ⟨rfl, w2, HP.out, rfl⟩

theorem newW_upd (w2 : World) (M g : Nat) : Upd (fun k => k = M) w2 (newW w2 M g) := (((Upd.refl (fun k => k = M) w2).setCell ⟨M, 3, none⟩ (ptrV g) (fun _ => rfl)).setCell ⟨M, 6, none⟩ (ptrV w2.heap.size) (fun _ => rfl)).alloc _
theorem newW_machine {w2 : World} {M b g : Nat} (h : w2.heap[M]? = some (mc0 b)) : (newW w2 M g).heap[M]? = some (Obj.cells (mcC b 0 .nilIface (ptrV g) .nilIface (.slice none 0 0) (ptrV w2.heap.size) (.slice none 0 0) 0 0 0 ⟨#[]⟩) 119 (0, 0)) := by
  have hl := lt_of_some h
  have h1 := heap_setCell_same (o := 3) (v := ptrV g) h
  have h2 := heap_setCell_same (o := 6) (v := ptrV w2.heap.size) h1
  unfold newW
  rw [Below.heap_alloc _ _ _ (by simpa using hl)]
  exact h2
theorem newW_entry (w2 : World) (M g : Nat) : (newW w2 M g).heap[w2.heap.size]? = some (Obj.cells (enC none 0 (some ⟨g, 0, none⟩) 0 none) 115 (0, 0)) := by
  have := Array.getElem?_push_size (xs := ((w2.setCell ⟨M, 3, none⟩ (ptrV g)).setCell ⟨M, 6, none⟩ (ptrV w2.heap.size)).heap) (x := Obj.cells (enC none 0 (some ⟨g, 0, none⟩) 0 none) 115 (0, 0))
  rw [show ((w2.setCell ⟨M, 3, none⟩ (ptrV g)).setCell ⟨M, 6, none⟩ (ptrV w2.heap.size)).heap.size = w2.heap.size by simp] at this
  exact this
theorem pbN_lt (S k : Nat) (h : k < 14) : S + 2 ≤ pbN S k ∧ pbN S k < S + 38 := by unfold pbN; split <;> omega
theorem pbN_inj (S i j : Nat) (hi : i < 14) (hj : j < 14) (h : pbN S i = pbN S j) : i = j := by
  unfold pbN at h
  split at h <;> split at h <;> omega
theorem moN_some {K S i g : Nat} (h : moN K S i = some g) : (i % 2 = 0 ∧ i / 2 < 14 ∧ g = pbN S (i / 2)) ∨ (i % 2 = 1 ∧ i / 2 < K ∧ g = i / 2) := by
  unfold moN datM at h
  split at h
  · split at h
    · cases h; exact .inl ⟨by assumption, by assumption, rfl⟩
    · cases h
  · split at h
    · rename_i h1
      cases h; exact .inr ⟨h1.1, h1.2, rfl⟩
    · cases h
theorem new_mr {w w2 : World} {B b : Nat} {X0 : Nat → Prop} {C : Cd} {e : Ending} (hc : Code w.heap.size w X0 b C) (hx : XTy w B X0) (ht : Tab B w) (hB : B ≤ w.heap.size) (hp : OutPost (w.alloc (mc0 b)) w.heap.size w.heap.size C e w2) :
    ∃ X ow, MR B w.heap.size (newW w2 w.heap.size (w.heap.size + 1)) X ow w.heap.size b C (startS C) ∧ Gw X0 (fun _ => none) w X ow (newW w2 w.heap.size (w.heap.size + 1)) := by
  classical
  obtain ⟨hm, hb2, hz2⟩ := out_machine hp
  obtain ⟨_, hu, nv, vv, xs, hO⟩ := hp
  have hsz := size_alloc w (mc0 b)
  have hoz := outW_size (w.alloc (mc0 b)) w.heap.size
  rw [hsz] at hO hu hoz
  obtain ⟨w3, hw3⟩ : ∃ w3, w3 = newW w2 w.heap.size (w.heap.size + 1) := ⟨_, rfl⟩
  have hu3 : Upd (fun k => k = w.heap.size) w2 w3 := by rw [hw3]; exact newW_upd _ _ _
  have hM3 : w3.heap[w.heap.size]? = some (Obj.cells (mcC b 0 .nilIface (ptrV (w.heap.size + 1)) .nilIface (.slice none 0 0) (ptrV w2.heap.size) (.slice none 0 0) 0 0 0 ⟨#[]⟩) 119 (0, 0)) := by rw [hw3]; exact newW_machine hm
  have hE3 : w3.heap[w2.heap.size]? = some (Obj.cells (enC none 0 (some ⟨w.heap.size + 1, 0, none⟩) 0 none) 115 (0, 0)) := by rw [hw3]; exact newW_entry _ _ _
  rw [← hw3]
  have hb3 : Below w.heap.size w w3 := hb2.trans (hu3.below (by omega) (fun k hk => by omega))
  have hgb : ∀ k c T, T ≠ 119 → w2.heap[k]? = some (Obj.cells c T (0, 0)) → w3.heap[k]? = some (Obj.cells c T (0, 0)) := fun k c T hT hk => by
    rw [hu3.block k (lt_of_some hk) (fun e => by subst e; rw [hm] at hk; cases hk; exact hT rfl)]; exact hk
  obtain ⟨kn, hkn, hn⟩ := hO.nr.split
  obtain ⟨kv, hkv, hv⟩ := hO.vr.split2
  have hkl : ∀ k, KeepF (w.heap.size + 1) kn kv k → w.heap.size < k := fun k hk => by
    rcases hk with hk | hk | hk
    · omega
    · have := (hkn k hk).1; omega
    · have := (hkv k hk).1; omega
  have hkt : ∀ k, KeepF (w.heap.size + 1) kn kv k → ∃ c T, w3.heap[k]? = some (Obj.cells c T (0, 0)) ∧ MT.contains T = true := fun k hk => by
    rcases hk with hk | hk | hk
    · subst hk; exact ⟨_, _, hgb _ _ _ (by decide) hO.hS, by decide⟩
    · obtain ⟨c, hc⟩ := (hkn k hk).2; exact ⟨_, _, hgb _ _ _ (by decide) hc, by decide⟩
    · obtain ⟨c, hc⟩ := (hkv k hk).2; exact ⟨_, _, hgb _ _ _ (by decide) hc, by decide⟩
  have hxl : ∀ k, X0 k → k < w.heap.size := fun k hk => by obtain ⟨_, c, T, h1, _⟩ := hx k hk; exact lt_of_some h1
  -- the first procedures as they lie
  have hKI : KI (outW (w.alloc (mc0 b)) w.heap.size) w3 := by
    have hu2 : Upd (fun k => k = w.heap.size + 1) (outW (w.alloc (mc0 b)) w.heap.size) w2 := ⟨hu.os, hu.tape, hu.output, hu.size, fun k hk hn => hu.block k hk (by omega)⟩
    have hf : (outW (w.alloc (mc0 b)) w.heap.size).heap[w.heap.size + 1]? = some (Obj.cells #[.string ⟨#[116, 104, 101, 32, 112, 114, 111, 103, 114, 97, 109]⟩, .slice none 0 0, .slice none 0 0, .pointer none] 176 (0, 0)) := by
      unfold outW
      rw [(allocs_below _ _).block (w.heap.size + 1) (by simp)]
      rw [← hsz]
      exact Array.getElem?_push_size
    refine (KI.of_upd (B := 0) (fun k hk => ⟨Nat.zero_le _, ?_⟩) hu2).trans (KI.of_upd (B := 0) (fun k hk => ⟨Nat.zero_le _, ?_⟩) hu3)
    · subst hk; exact ⟨_, _, hf, by decide⟩
    · subst hk; exact ⟨_, _, hm, by decide⟩
  have hPR : ∀ (X : Nat → Prop) (mf : Nat → Option Nat) k, k < 14 → PrX w3 X (moN w.heap.size (w.heap.size + 2)) mf w.heap.size C (2 * k) (.first k) := fun X mf k hk => by
    have := first_prx (X := X) (mf := mf) (w := w3) w.heap.size w.heap.size C ((w.alloc (mc0 b)).alloc (.cells #[.string ⟨#[116, 104, 101, 32, 112, 114, 111, 103, 114, 97, 109]⟩, .slice none 0 0, .slice none 0 0, .pointer none] 176)) k hk
    rw [size_alloc, size_alloc] at this
    refine this (.inr ?_)
    unfold outW at hKI
    rw [hsz] at hKI
    exact hKI
  have hown : ∀ k, (if k = w.heap.size then some 0 else if KeepF (w.heap.size + 1) kn kv k then some 1 else none : Option Nat) = some 1 ↔ KeepF (w.heap.size + 1) kn kv k := fun k => by
    constructor
    · intro h
      split at h
      · cases h
      · split at h
        · assumption
        · cases h
    · intro h
      have := hkl k h
      rw [if_neg (by omega), if_pos h]
  refine ⟨fun k => X0 k ∨ k = w.heap.size ∨ KeepF (w.heap.size + 1) kn kv k, fun k => if k = w.heap.size then some 0 else if KeepF (w.heap.size + 1) kn kv k then some 1 else none, ⟨moN w.heap.size (w.heap.size + 2), fun i => if i = 0 then some (w.heap.size + 1) else none, .nilIface, .nilIface, .slice none 0 0, .slice none 0 0, some ⟨w2.heap.size, 0, none⟩, w.heap.size + 1, hM3, ?_⟩, ?_⟩
  · refine ⟨hc.keep (KI.of_below hb3) hb3.size (fun k hk hn => ⟨fun h => ?_, hb3.block k hk⟩), rfl, rfl, trivial, ?_, ⟨World.ownsRow_nil _ _ _ _, ⟨(fun k hk => by cases hk), Nat.zero_le 40⟩⟩, fun i fr hi => ?_, fun k p hk => ?_, fun i g hg => ?_, fun k g hg => ?_, fun k g hg => ?_, fun i j g hi hj => ?_, fun i g hg => ?_, fun i g hg => ?_, fun k t ht => ?_, fun k hk => ?_, by simp, ht.below (hb3.mono hB), hB⟩
    · rcases h with h | h | h
      · exact hn h
      · omega
      · have := hkl k h; omega
    · exact ⟨w2.heap.size, none, w.heap.size + 1, none, rfl, hE3, rfl, ⟨[], rfl, trivial⟩, by decide, by decide, rfl⟩
    · cases i with
      | succ i => simp [startS] at hi
      | zero =>
        simp only [startS, List.getElem?_cons_zero, Option.some.injEq] at hi
        rw [← outerK_all] at hi
        subst hi
        refine ⟨w.heap.size + 1, _, nv, vv, none, xs, rfl, ⟨(hown _).2 (.inl rfl), hgb _ _ _ (by decide) hO.hS, hn.imp (fun k c hk hc => ⟨(hown k).2 (.inr (.inl hk)), hgb _ _ _ (by decide) hc⟩) (fun k c hk hc => hk.1.elim), hv.imp (fun k c hk hc => ⟨(hown k).2 (.inr (.inr hk)), hgb _ _ _ (by decide) hc⟩) (fun k c hk hc => ⟨(hown k).2 (.inr (.inr hk)), hgb _ _ _ (by decide) hc⟩), hO.vs w3, by rw [hO.out], hO.len, by have := (outerK_len C 14).2; omega⟩⟩
    · simp only [startS] at hk
      rw [List.getElem?_map] at hk
      by_cases hk14 : k < 14
      · rw [List.getElem?_range hk14] at hk
        cases hk
        exact hPR _ _ k hk14
      · rw [List.getElem?_eq_none (by simp; omega)] at hk; cases hk
    · rcases moN_some hg with ⟨_, h2, rfl⟩ | ⟨_, h2, rfl⟩
      · have := pbN_lt (w.heap.size + 2) _ h2
        have := hu3.size
        omega
      · have := hb3.size; omega
    · rcases moN_some hg with ⟨_, h2, rfl⟩ | ⟨h1, h2, rfl⟩
      · show k < 14
        omega
      · omega
    · rcases moN_some hg with ⟨_, h2, rfl⟩ | ⟨h1, h2, rfl⟩
      · obtain ⟨g', z, fv, h3, h4, _⟩ := hPR (fun _ => True) (fun _ => none) (2 * k / 2) h2
        have h5 : moN w.heap.size (w.heap.size + 2) (2 * (2 * k / 2)) = some (pbN (w.heap.size + 2) (2 * k / 2)) := by unfold moN; rw [if_pos (by omega), show 2 * (2 * k / 2) / 2 = 2 * k / 2 by omega, if_pos h2]
        rw [h5] at h3; cases h3
        exact ⟨_, _, h4, by decide⟩
      · omega
    · rcases moN_some hi with ⟨h1, h2, rfl⟩ | ⟨h1, h2, rfl⟩ <;> rcases moN_some hj with ⟨h3, h4, h5⟩ | ⟨h3, h4, h5⟩
      · have := pbN_inj _ _ _ h2 h4 h5
        omega
      · have := pbN_lt (w.heap.size + 2) _ h2
        omega
      · have := pbN_lt (w.heap.size + 2) _ h4
        omega
      · omega
    · unfold moN
      have : i % 2 = 1 := by
        unfold datM at hg
        split at hg
        · rename_i h; exact h.1
        · cases hg
      rw [if_neg (by omega)]; exact hg
    · show i < 1
      by_cases hi : i = 0
      · omega
      · rw [if_neg hi] at hg; cases hg
    · by_cases h1 : k = w.heap.size
      · exact .inr (.inl h1)
      · by_cases h2 : KeepF (w.heap.size + 1) kn kv k
        · exact .inr (.inr h2)
        · rw [if_neg h1, if_neg h2] at ht; cases ht
    · rcases hk with hk | hk | hk
      · obtain ⟨h1, c, T, h2, h3⟩ := hx k hk
        exact ⟨h1, c, T, by rw [hb3.block k (hxl k hk)]; exact h2, h3⟩
      · subst hk; exact ⟨hB, _, _, hM3, by decide⟩
      · exact ⟨by have := hkl k hk; omega, hkt k hk⟩
  · refine ⟨Upd.of_below _ hb3, fun k hk hX _ => .inl hX, fun k hk h => ?_, fun k hk _ => ?_⟩
    · rcases h with h | h | h
      · exact h
      · omega
      · have := hkl k h; omega
    · rw [if_neg (by omega), if_neg (fun h => by have := hkl k h; omega)]
end Go.Proofs.YtlobegpjenabaaaGreatDoor

/- The code that Compile gives, as a machine wants it. -/
namespace Go.Proofs.YtlobegpjenabaaaGreatDoor
open Go.RowKit
set_option linter.unusedSimpArgs false
set_option linter.unusedVariables false

/-- A datum whose ints and symbols are as a machine wants them. -/
def dOk : Nat → D → Bool
  | 0, _ => false
  | n + 1, .agg l => l.all (dOk n)
  | _ + 1, .lit (.int .i64 k) => decide (-9223372036854775808 ≤ k) && decide (k ≤ 9223372036854775807)
  | _ + 1, .lit (.bool _) => true
  | _ + 1, .lit (.string t) => decide (t.length ≤ 8000)
  | _ + 1, _ => false
/-- A datum's list as a value. -/
def ChV (R : D → V → Prop) : List D → V → Prop
  | [], v => v = .empty
  | d :: r, v => ∃ id a b, v = .pair id a b ∧ id % 2 = 1 ∧ R d a ∧ ChV R r b
/-- A datum as a value. -/
def DV : Nat → D → V → Prop
  | 0, _, _ => False
  | n + 1, .agg l, v => ChV (DV n) l v
  | _ + 1, .lit (.int .i64 k), v => v = .int k
  | _ + 1, .lit (.bool b), v => v = .bool b
  | _ + 1, .lit (.string t), v => v = .sym t
  | _ + 1, _, _ => False
theorem datM_at {K g : Nat} (h : g < K) : datM K (2 * g + 1) = some g := by
  unfold datM
  rw [if_pos ⟨by omega, by omega⟩]
  congr 1; omega
theorem chain_vx {w : World} {N n : Nat} (ih : ∀ d x, IV w n x d → dOk N d = true → ∃ v, VX w (datM w.heap.size) v x ∧ DV N d v) : ∀ (l : List D) (x : Value), ChainI w (IV w n) x l → l.all (dOk N) = true → ∃ v, VX w (datM w.heap.size) v x ∧ ChV (DV N) l v
  | [], x, h, _ => ⟨.empty, h, rfl⟩
  | d :: r, x, ⟨g, v1, v2, h1, h2, h3, h4⟩, hok => by
    simp only [List.all_cons, Bool.and_eq_true] at hok
    obtain ⟨a, ha, ha'⟩ := ih d v1 h3 hok.1
    obtain ⟨b, hb, hb'⟩ := chain_vx ih r v2 h4 hok.2
    exact ⟨.pair (2 * g + 1) a b, ⟨g, v1, v2, datM_at (lt_of_some h2), h1, h2, ha, hb⟩, _, a, b, rfl, by omega, ha', hb'⟩
theorem iv_vx {w : World} : ∀ (N n : Nat) (d : D) (x : Value), IV w n x d → dOk N d = true → ∃ v, VX w (datM w.heap.size) v x ∧ DV N d v
  | 0, n, d, x, _, h => by simp [dOk] at h
  | N + 1, 0, d, x, h, _ => h.elim
  | N + 1, n + 1, .agg l, x, h, hok => by
    obtain ⟨v, h1, h2⟩ := chain_vx (fun d x => iv_vx N n d x) l x h.2 (by simpa only [dOk] using hok)
    exact ⟨v, h1, h2⟩
  | N + 1, n + 1, .lit (.int .i64 k), x, h, hok => by
    simp only [dOk, Bool.and_eq_true, decide_eq_true_eq] at hok
    simp only [IV, atomI, Option.some.injEq] at h
    exact ⟨.int k, ⟨h.symm, hok.1, hok.2⟩, rfl⟩
  | N + 1, n + 1, .lit (.bool b), x, h, hok => by
    simp only [IV, atomI, Option.some.injEq] at h
    exact ⟨.bool b, h.symm, rfl⟩
  | N + 1, n + 1, .lit (.string t), x, h, hok => by
    simp only [dOk, decide_eq_true_eq] at hok
    simp only [IV, atomI, Option.some.injEq] at h
    exact ⟨.sym t, ⟨h.symm, hok⟩, rfl⟩
/-- Constants as values. -/
def DVs (N : Nat) : List (Option D) → List V → Prop
  | [], [] => True
  | none :: r, v :: vs => v = .nothing ∧ DVs N r vs
  | some d :: r, v :: vs => DV N d v ∧ DVs N r vs
  | _, _ => False
def csOk (N : Nat) : List (Option D) → Bool
  | [] => true
  | none :: r => csOk N r
  | some d :: r => dOk N d && csOk N r
theorem cvs_vxs {w : World} (N : Nat) : ∀ (cs : List (Option D)) (xs : List Value), CVs w cs xs → csOk N cs = true → ∃ vs, VXs w (datM w.heap.size) vs xs ∧ DVs N cs vs
  | [], [], _, _ => ⟨[], trivial, trivial⟩
  | [], _ :: _, h, _ => h.elim
  | _ :: _, [], h, _ => h.elim
  | none :: r, x :: xs, h, hok => by
    obtain ⟨vs, h1, h2⟩ := cvs_vxs N r xs h.2 hok
    exact ⟨.nothing :: vs, ⟨h.1, h1⟩, rfl, h2⟩
  | some d :: r, x :: xs, h, hok => by
    simp only [csOk, Bool.and_eq_true] at hok
    obtain ⟨n, hd⟩ := h.1
    obtain ⟨v, h3, h4⟩ := iv_vx N n d x hd hok.1
    obtain ⟨vs, h1, h2⟩ := cvs_vxs N r xs h.2 hok.2
    exact ⟨v :: vs, ⟨h3, h1⟩, h4, h2⟩
theorem DVs.length {N : Nat} : ∀ {cs : List (Option D)} {vs : List V}, DVs N cs vs → cs.length = vs.length
  | [], [], _ => rfl
  | [], _ :: _, h => h.elim
  | none :: _, [], h => h.elim
  | some _ :: _, [], h => h.elim
  | none :: r, v :: vs, h => by simp [DVs.length h.2]
  | some d :: r, v :: vs, h => by simp [DVs.length h.2]
/-- Code that is not too much. -/
def cdOk (N : Nat) (st : BS) : Bool := decide (st.is.length ≤ 1000000) && decide (st.ns.length ≤ 1000000) && decide (st.cs.length ≤ 1000000) && decide (st.ls.length ≤ 1000000) && st.ls.all (fun l => decide (l.2.1.length ≤ 1000000)) && csOk N st.cs
theorem lx_of {w : World} {B : Nat} {X : Nat → Prop} (hX : ∀ k, B ≤ k → k < w.heap.size → ¬ X k) : ∀ (ls : List (List UInt8 × List Nat × Nat)) (vs : List Value), LVs w B ls vs → ls.all (fun l => decide (l.2.1.length ≤ 1000000)) = true → LX w X ls vs
  | [], [], _, _ => trivial
  | [], _ :: _, h, _ => h.elim
  | _ :: _, [], h, _ => h.elim
  | _ :: _, [_], h, _ => h.elim
  | _ :: _, [_, _], h, _ => h.elim
  | l :: ls, a :: b :: c :: vs, h, hok => by
    simp only [List.all_cons, Bool.and_eq_true, decide_eq_true_eq] at hok
    exact ⟨⟨h.1.1, ⟨ownsRow_base h.1.2.1 (Nat.zero_le _), fun k hk => hX k (ownsRow_ge h.1.2.1 hk).1 (ownsRow_ge h.1.2.1 hk).2⟩, h.1.2.2, hok.1⟩, lx_of hX ls vs h.2 hok.2⟩
/-- The code of a builder, with these constants. -/
def cdOf (st : BS) (cs : List V) : Cd := ⟨st.is, cs, st.ns, st.ls⟩
theorem code_of {w : World} {B b N : Nat} {st : BS} {X : Nat → Prop} (h : Bd w B b st) (hok : cdOk N st = true) (hX : ∀ k, B ≤ k → k < w.heap.size → ¬ X k) : ∃ cs, DVs N st.cs cs ∧ Code w.heap.size w X b (cdOf st cs) := by
  obtain ⟨_, u0, u1, u2, u3, m, u5, x1, x3, us, h⟩ := h
  simp only [cdOk, Bool.and_eq_true, decide_eq_true_eq] at hok
  obtain ⟨⟨⟨⟨⟨h1, h2⟩, h3⟩, h4⟩, h5⟩, h6⟩ := hok
  obtain ⟨cs, hv, hd⟩ := cvs_vxs N st.cs x1 h.c1 h6
  have hl := hd.length
  have row : ∀ {T : TypeId} {s n : Nat} {u : Value} {xs : List Value}, w.ownsRow B T s u n xs → OR w X T s u n xs := fun hr => ⟨ownsRow_base hr (Nat.zero_le _), fun k hk => hX k (ownsRow_ge hr hk).1 (ownsRow_ge hr hk).2⟩
  refine ⟨cs, hd, _, u0, u1, u2, u3, x1, x3, h.hS, rfl, rfl, rfl, rfl, row h.r0, ?_, hv, row h.r2, row h.r3, lx_of hX _ _ h.l3 h5, h1, h2, ?_, h4, Nat.le_refl _⟩
  · have := row h.r1
    rw [hl] at this
    exact this
  · show cs.length ≤ _
    omega
end Go.Proofs.YtlobegpjenabaaaGreatDoor

/- The table of the kinds. -/
namespace Go.Proofs.YtlobegpjenabaaaGreatDoor
open Go.RowKit
set_option linter.unusedSimpArgs false
set_option linter.unusedVariables false

/-- The methods of the kinds, in the order of their numbers. -/
def kindF : List Nat := [116, 117, 118, 119, 120, 121, 122, 123, 124, 125, 126, 127, 128, 129, 130]
def kindA : Array Value := (kindF.map fun k => Value.func (.func k) #[] #[]).toArray
set_option maxRecDepth 100000 in
set_option maxHeartbeats 1000000 in
theorem kinds_raw (w : World) : Calls Tryz.prog 76 #[] w (RetW (.agg kindA) (w.alloc (.cells kindA 171))) := by
  have hsf : ∀ (W : World) (a : Addr) (m : Mode) (fn : Fn) (x y : Array Value), (store a (.func fn x y) m).run Tryz.prog W = stored Tryz.prog W a (.func fn x y) m := fun W a m fn x y => run_store _ _ _ _ _ rfl
  go_enter Tryz.func76, Tryz.ntmps76
  go_wp2
  refine bodyPost_ret (results_cell_row rfl _ _ w.heap.size 171 kindA (0, 0) _ rfl (heap_alloc_new _ _) Tryz.underlying171 rfl (by kernel_rfl)) rfl ?_
  exact ⟨rfl, rfl⟩
end Go.Proofs.YtlobegpjenabaaaGreatDoor

/- The kinds of instructions, as they walk, XI: ready, halt. -/
namespace Go.Proofs.YtlobegpjenabaaaGreatDoor
open Go.RowKit
set_option linter.unusedSimpArgs false
set_option linter.unusedVariables false

/-- An application is to be made: of p, to the values from the second on. -/
def ReadyW (w : World) (M : Nat) (q : Option Addr) (p : Value) (rs : List Value) (e : Ending) (w' : World) : Prop :=
  ∃ w2 g, e = .returned .nilIface ∧ w' = (((w2.setCell ⟨M, 4, none⟩ p).setCell ⟨M, 5, none⟩ (.slice (some ⟨g, if rs.length = 0 then 0 else 1, none⟩) rs.length rs.length)).setCell ⟨M, 6, none⟩ (.pointer q)).drew ∧ Below w.heap.size w w2 ∧ w.heap.size ≤ g ∧ w2.heap[g]? = some (Obj.cells (p :: rs).toArray 81 (0, 0))
set_option maxRecDepth 100000 in
set_option maxHeartbeats 2000000 in
theorem ready_zero (m : Nat) (w : World) (M E : Nat) (n : Int) (below frame got : Option Addr) (depth at0 : Int) (t tp : TypeId) (x xp v4 v5 : Value) (l rs : List Value) (hll : l.length ≤ 1000000) (hM : M < w.heap.size) (hEM : E ≠ M) (k6 : w.cell? ⟨M, 6, none⟩ = some (.pointer (some ⟨E, 0, none⟩))) (k4 : w.cell? ⟨M, 4, none⟩ = some v4) (k5 : w.cell? ⟨M, 5, none⟩ = some v5) (hf : ∀ o, w.frozen? ⟨M, o, none⟩ = false) (k2 : w.cell? ⟨M, 2, none⟩ = some (.iface t x)) (hE : w.heap[E]? = some (Obj.cells (enC below depth frame at0 got) 115 (0, 0))) (hl : ItR w got l) (hone : ∀ y ∈ l, ∃ t z, y = Value.iface t z)
    (hr : (.iface t x :: l).reverse = .iface tp xp :: rs) (hal2 : rs.length = 0) :
    Calls Tryz.prog 127 #[.pointer (some ⟨M, 0, none⟩), .int .i64 n] w (ReadyW w M below (.iface tp xp) rs) := by
  have HW := hide (with_any w.drew E below frame got depth at0 t x l hll hE (ItR.keep (show Keep _ w w.drew from fun _ _ h => h) _ _ hl))
  have HONE := hide hone
  have HR := hide hr
  have HLL := hide hll
  have hal : rs.length = l.length := by have := congrArg List.length hr; simp at this; omega
  have HE := hide hE
  have HF := hide hf
  have HK4 := hide k4
  have HK5 := hide k5
  have hel := lt_of_some hE
  have HAL := hide hal2
  have hal3 : 0 ≤ 1000000 := by omega
  have HL2 := hide (show (Value.iface t x :: l).length = 0 + 1 by rw [← hal2, hal]; rfl)
  have HP : Hid (∀ w2 g, Below w.heap.size w w2 → w.heap.size ≤ g → w2.heap[g]? = some (Obj.cells (.iface tp xp :: rs).toArray 81 (0, 0)) → ReadyW w M below (.iface tp xp) rs (.returned .nilIface) ((((w2.setCell ⟨M, 4, none⟩ (.iface tp xp)).setCell ⟨M, 5, none⟩ (.slice (some ⟨g, 0, none⟩) (0) (0))).setCell ⟨M, 6, none⟩ (.pointer below)).drew)) := by
    intro w2 g h1 h2 h3
    exact ⟨w2, g, rfl, by rw [HAL.out]; rfl, h1, h2, h3⟩
  have i0 : (0 : Int) < (m : Int) + 1 + 1 := by omega
  have i1 : (1 : Int) ≤ (m : Int) + 1 + 1 := by omega
  clear hE hl hone hr hll hal hal2 hf k4 k5
  go_enter Tryz.func127, Tryz.ntmps127
  go_wp2_with fail
  go_region_with (first | (go_at_call 194; refine HW.out.mono ?_; rintro e w1 ⟨q, ⟨g, rfl, hg, hc, hb⟩, hi⟩; have HQ := hide (And.intro hg (And.intro hc (And.intro hb hi))); clear hg hc hb hi) | (go_at_call 196; obtain ⟨g3, q3, hq0, hg3, hq3⟩ := HQ.out.2.2.2; refine (values_go _ _ g3 below frame q3 depth at0 _ l HLL.out (fun y hy => by rcases List.mem_cons.1 hy with e | e; exact ⟨_, _, e⟩; exact HONE.out y e) (by have := HQ.out.2.1; rw [hq0] at this; exact this) hg3 hq3).mono ?_; rintro e w2 ⟨g2, rfl, ho2, hb2⟩; rw [HL2.out] at *; have HV := hide (And.intro ho2 hb2); clear ho2 hb2 hg3 hq3 hq0))
  all_goals
    have hb12 : Below w.heap.size w w2 := ((Below.refl w.heap.size w).drew).trans (HQ.out.2.2.1.trans (HV.out.2.mono HQ.out.2.2.1.size))
    have hrow : w2.heap[g2]? = some (Obj.cells (.iface tp xp :: rs).toArray 81 (0, 0)) := by
      obtain ⟨hx, hx2⟩ := HV.out.1
      rcases hx2 with ⟨hx3, _⟩ | ⟨g9, cap9, cu9, hv9, hb9, hg9, h19, h29, h39, h49⟩
      · cases hx3
      · cases hv9
        rw [hg9]
        congr 2
        rw [← HR.out]
        apply Array.toList_inj.1
        rw [← h49, List.take_of_length_le (by simp; omega)]
    have hgw : w.heap.size ≤ g2 := Nat.le_trans HQ.out.2.2.1.size (ownsRow_ge HV.out.1 rfl).1
    have a0 : w2.cell? ⟨g2, 0, none⟩ = some (.iface tp xp) := by rw [cell_of_block hrow]; rfl
    have m4 : w2.cell? ⟨M, 4, none⟩ = some v4 := by rw [hb12.cell (p := ⟨M, 4, none⟩) hM]; exact HK4.out
    have m5 : w2.cell? ⟨M, 5, none⟩ = some v5 := by rw [hb12.cell (p := ⟨M, 5, none⟩) hM]; exact HK5.out
    have m6 : w2.cell? ⟨M, 6, none⟩ = some (.pointer (some ⟨E, 0, none⟩)) := by rw [hb12.cell (p := ⟨M, 6, none⟩) hM]; exact k6
    have f4 : w2.frozen? ⟨M, 4, none⟩ = false := by rw [hb12.frozen (p := ⟨M, 4, none⟩) hM]; exact HF.out 4
    have f5 : w2.frozen? ⟨M, 5, none⟩ = false := by rw [hb12.frozen (p := ⟨M, 5, none⟩) hM]; exact HF.out 5
    have f6 : w2.frozen? ⟨M, 6, none⟩ = false := by rw [hb12.frozen (p := ⟨M, 6, none⟩) hM]; exact HF.out 6
    have e0 : w2.cell? ⟨E, 0, none⟩ = some (.pointer below) := by rw [hb12.cell (p := ⟨E, 0, none⟩) hel, cell_of_block HE.out]; rfl
    have e1 : ∀ a b, ((w2.setCell ⟨M, 4, none⟩ a).setCell ⟨M, 5, none⟩ b).cell? ⟨E, 0, none⟩ = some (.pointer below) := fun a b => by
      rw [World.cell?_setCell_other _ _ _ _ (by simp), World.cell?_setCell_other _ _ _ _ (by simp)]; exact e0
    have HX := hide (HP.out w2 g2 hb12 hgw hrow)
    clear hb12 hrow hgw HP HQ HV HR HONE HE HF HK4 HK5 HW
    go_wp2
    go_region
    all_goals
      go_wp2
      go_ret
      exact HX.out
set_option maxRecDepth 100000 in
set_option maxHeartbeats 2000000 in
theorem ready_pos (m : Nat) (w : World) (M E : Nat) (n : Int) (below frame got : Option Addr) (depth at0 : Int) (t tp : TypeId) (x xp v4 v5 : Value) (l rs : List Value) (hll : l.length ≤ 1000000) (hM : M < w.heap.size) (hEM : E ≠ M) (k6 : w.cell? ⟨M, 6, none⟩ = some (.pointer (some ⟨E, 0, none⟩))) (k4 : w.cell? ⟨M, 4, none⟩ = some v4) (k5 : w.cell? ⟨M, 5, none⟩ = some v5) (hf : ∀ o, w.frozen? ⟨M, o, none⟩ = false) (k2 : w.cell? ⟨M, 2, none⟩ = some (.iface t x)) (hE : w.heap[E]? = some (Obj.cells (enC below depth frame at0 got) 115 (0, 0))) (hl : ItR w got l) (hone : ∀ y ∈ l, ∃ t z, y = Value.iface t z)
    (hr : (.iface t x :: l).reverse = .iface tp xp :: rs) (hal2 : rs.length = m + 1) :
    Calls Tryz.prog 127 #[.pointer (some ⟨M, 0, none⟩), .int .i64 n] w (ReadyW w M below (.iface tp xp) rs) := by
  have HW := hide (with_any w.drew E below frame got depth at0 t x l hll hE (ItR.keep (show Keep _ w w.drew from fun _ _ h => h) _ _ hl))
  have HONE := hide hone
  have HR := hide hr
  have HLL := hide hll
  have hal : rs.length = l.length := by have := congrArg List.length hr; simp at this; omega
  have HE := hide hE
  have HF := hide hf
  have HK4 := hide k4
  have HK5 := hide k5
  have hel := lt_of_some hE
  have HAL := hide hal2
  have hal3 : m + 1 ≤ 1000000 := by omega
  have HL2 := hide (show (Value.iface t x :: l).length = m + 1 + 1 by rw [← hal2, hal]; rfl)
  have HP : Hid (∀ w2 g, Below w.heap.size w w2 → w.heap.size ≤ g → w2.heap[g]? = some (Obj.cells (.iface tp xp :: rs).toArray 81 (0, 0)) → ReadyW w M below (.iface tp xp) rs (.returned .nilIface) ((((w2.setCell ⟨M, 4, none⟩ (.iface tp xp)).setCell ⟨M, 5, none⟩ (.slice (some ⟨g, 1, none⟩) (m + 1) (m + 1))).setCell ⟨M, 6, none⟩ (.pointer below)).drew)) := by
    intro w2 g h1 h2 h3
    exact ⟨w2, g, rfl, by rw [HAL.out]; rfl, h1, h2, h3⟩
  have i0 : (0 : Int) < (m : Int) + 1 + 1 := by omega
  have i1 : (1 : Int) ≤ (m : Int) + 1 + 1 := by omega
  clear hE hl hone hr hll hal hal2 hf k4 k5
  go_enter Tryz.func127, Tryz.ntmps127
  go_wp2_with fail
  go_region_with (first | (go_at_call 194; refine HW.out.mono ?_; rintro e w1 ⟨q, ⟨g, rfl, hg, hc, hb⟩, hi⟩; have HQ := hide (And.intro hg (And.intro hc (And.intro hb hi))); clear hg hc hb hi) | (go_at_call 196; obtain ⟨g3, q3, hq0, hg3, hq3⟩ := HQ.out.2.2.2; refine (values_go _ _ g3 below frame q3 depth at0 _ l HLL.out (fun y hy => by rcases List.mem_cons.1 hy with e | e; exact ⟨_, _, e⟩; exact HONE.out y e) (by have := HQ.out.2.1; rw [hq0] at this; exact this) hg3 hq3).mono ?_; rintro e w2 ⟨g2, rfl, ho2, hb2⟩; rw [HL2.out] at *; have HV := hide (And.intro ho2 hb2); clear ho2 hb2 hg3 hq3 hq0))
  all_goals
    have hb12 : Below w.heap.size w w2 := ((Below.refl w.heap.size w).drew).trans (HQ.out.2.2.1.trans (HV.out.2.mono HQ.out.2.2.1.size))
    have hrow : w2.heap[g2]? = some (Obj.cells (.iface tp xp :: rs).toArray 81 (0, 0)) := by
      obtain ⟨hx, hx2⟩ := HV.out.1
      rcases hx2 with ⟨hx3, _⟩ | ⟨g9, cap9, cu9, hv9, hb9, hg9, h19, h29, h39, h49⟩
      · cases hx3
      · cases hv9
        rw [hg9]
        congr 2
        rw [← HR.out]
        apply Array.toList_inj.1
        rw [← h49, List.take_of_length_le (by simp; omega)]
    have hgw : w.heap.size ≤ g2 := Nat.le_trans HQ.out.2.2.1.size (ownsRow_ge HV.out.1 rfl).1
    have a0 : w2.cell? ⟨g2, 0, none⟩ = some (.iface tp xp) := by rw [cell_of_block hrow]; rfl
    have m4 : w2.cell? ⟨M, 4, none⟩ = some v4 := by rw [hb12.cell (p := ⟨M, 4, none⟩) hM]; exact HK4.out
    have m5 : w2.cell? ⟨M, 5, none⟩ = some v5 := by rw [hb12.cell (p := ⟨M, 5, none⟩) hM]; exact HK5.out
    have m6 : w2.cell? ⟨M, 6, none⟩ = some (.pointer (some ⟨E, 0, none⟩)) := by rw [hb12.cell (p := ⟨M, 6, none⟩) hM]; exact k6
    have f4 : w2.frozen? ⟨M, 4, none⟩ = false := by rw [hb12.frozen (p := ⟨M, 4, none⟩) hM]; exact HF.out 4
    have f5 : w2.frozen? ⟨M, 5, none⟩ = false := by rw [hb12.frozen (p := ⟨M, 5, none⟩) hM]; exact HF.out 5
    have f6 : w2.frozen? ⟨M, 6, none⟩ = false := by rw [hb12.frozen (p := ⟨M, 6, none⟩) hM]; exact HF.out 6
    have e0 : w2.cell? ⟨E, 0, none⟩ = some (.pointer below) := by rw [hb12.cell (p := ⟨E, 0, none⟩) hel, cell_of_block HE.out]; rfl
    have e1 : ∀ a b, ((w2.setCell ⟨M, 4, none⟩ a).setCell ⟨M, 5, none⟩ b).cell? ⟨E, 0, none⟩ = some (.pointer below) := fun a b => by
      rw [World.cell?_setCell_other _ _ _ _ (by simp), World.cell?_setCell_other _ _ _ _ (by simp)]; exact e0
    have HX := hide (HP.out w2 g2 hb12 hgw hrow)
    clear hb12 hrow hgw HP HQ HV HR HONE HE HF HK4 HK5 HW
    go_wp2
    go_region
    all_goals
      go_wp2
      go_ret
      exact HX.out
end Go.Proofs.YtlobegpjenabaaaGreatDoor

/- One step of the machine in memory, V: a lambda, ready. -/
namespace Go.Proofs.YtlobegpjenabaaaGreatDoor
open Go.RowKit
set_option linter.unusedSimpArgs false
set_option linter.unusedVariables false

theorem RS.xlt {B K : Nat} {w : World} {X : Nat → Prop} {ow mo mf : Nat → Option Nat} {M b : Nat} {C : Cd} {s : MS} {val app args out : Value} {top : Option Addr} {gf : Nat} (h : RS B K w X ow mo mf M b C s val app args out top gf) (k : Nat) (hk : X k) : k < w.heap.size := by obtain ⟨_, c, T, h1, _⟩ := h.xty k hk; exact lt_of_some h1
theorem lambda_step {B K : Nat} {w : World} {X : Nat → Prop} {ow mo mf : Nat → Option Nat} {M b : Nat} {C : Cd} {s : MS} {val app args out : Value} {top : Option Addr} {gf : Nat} (h : RS B K w X ow mo mf M b C s val app args out top gf) (hM : w.heap[M]? = some (Obj.cells (mcC b s.pc val (ptrV gf) app args (.pointer top) out 0 0 0 ⟨#[]⟩) 119 (0, 0))) (n : Int) (hn0 : 0 ≤ n) (hn : opS C s 3 n ≠ .bad) : Calls Tryz.prog 119 #[.pointer (some ⟨M, 0, none⟩), .int .i64 n] w (StepPost B K X ow w M b C (opS C s 3 n)) := by
  obtain ⟨k0, k1, k2, k3, k4, k5, k6, k7, k8, k9, k10, k11⟩ := mc_cell hM
  simp only [opS] at hn ⊢
  by_cases hlt : n.toNat < C.ls.length
  · rw [if_pos hlt]
    obtain ⟨c, u0, u1, u2, u3, x1, x3, hcd⟩ := h.code
    obtain ⟨l, hl⟩ : ∃ l, C.ls[n.toNat]? = some l := ⟨C.ls[n.toNat], by simp [hlt]⟩
    obtain ⟨la, lb', lc, ha, hb, hc, hL1⟩ := LX.get C.ls x3 n.toNat l hcd.l3 hl
    obtain ⟨hL1a, hL1b, hL1c, hL1d⟩ := hL1
    subst hL1a hL1c
    obtain ⟨g, cap, rfl, _, hglt, _, _, hcell⟩ := ownsRow_cell hcd.r3.1 (by omega)
    obtain ⟨ua, ucap, hub, hule, _, _⟩ := ownsRow_slice hL1b.1
    subst hub
    have b3 : w.cell? ⟨b, 3, none⟩ = some (.slice (some ⟨g, 0, none⟩) C.ls.length cap) := by rw [cell_of_block hcd.hS]; exact hcd.c3
    have := lambda_raw w M b g C.ls.length cap gf l.2.1.length ucap n.toNat ⟨l.1.toArray⟩ _ l.2.2 (lt_of_some hM) (lt_of_some hcd.hS) hglt k0 k2 (frozen_of_block hM 2) k3 b3 hlt hcd.ll ua (hcell _ _ ha) (hcell _ _ hb) (hcell _ _ hc)
    rw [Int.toNat_of_nonneg hn0] at this
    refine this.mono ?_
    rintro e w' ⟨g1, nb, lb, ob, mb, z', rfl, hg1, hnb, hbl, hMc, ho1, ho2, ho3, hsz, p1, p2, p3, p4, p5⟩
    have hu : Upd (fun k => k = M) w w' := ⟨ho1, ho2, ho3, hsz, fun k hk hne => hbl k hk hne⟩
    have hM' := (hMc _ hM).trans (show _ = some (Obj.cells (mcC b s.pc (.iface 216 (.pointer (some ⟨g1, 0, none⟩))) (ptrV gf) app args (.pointer top) out 0 0 0 ⟨#[]⟩) 119 (0, 0)) from rfl)
    have h' := h.ext hM hu hM'
    have hnX : ∀ k, w.heap.size ≤ k → ¬ X k := fun k hk hx => by have := h.xlt k hx; omega
    have hor : OR w' X 3 1 (.slice ua l.2.1.length ucap) l.2.1.length (intsV l.2.1) := hL1b.keep (fun k hk hnx => ⟨hnx, hbl k hk (fun e => by subst e; exact hnx (h.owx _ _ h.owM))⟩)
    have h2 := h'.obj g1 (lt_of_some p1) (fun i hi => by have := h.mlt i g1 hi; omega) ⟨_, _, p1, by decide⟩ (some (.clo n.toNat s.fr)) (fun p hp => by
      cases hp
      refine ⟨g1, z', _, upd1_at _ _ _, ?_, nb, lb, ob, mb, gf, z', l.1, .slice ua l.2.1.length ucap, l.2.1, l.2.2, rfl, p2, hnX _ hnb, p3, p4, p5, h'.fr, hl, hor, hL1d⟩
      rw [p1]
      simp [wantS, hl, ptrV])
    refine ⟨rfl, X, ow, ⟨_, _, _, _, _, _, _, _, hM', h2.regs _ _ app args top gf rfl rfl rfl ⟨by omega, g1, upd1_at _ _ _, rfl⟩ h2.fr h2.app h2.st⟩, h.gw hu⟩
  · rw [if_neg hlt] at hn; exact absurd rfl hn
/-- An application is to be made. -/
theorem ready_end {B K : Nat} {w : World} {X : Nat → Prop} {ow mo mf : Nat → Option Nat} {M b : Nat} {C : Cd} {s : MS} {val app args out : Value} {top : Option Addr} {gf : Nat} (h : RS B K w X ow mo mf M b C s val app args out top gf) (hM : w.heap[M]? = some (Obj.cells (mcC b s.pc val (ptrV gf) app args (.pointer top) out 0 0 0 ⟨#[]⟩) 119 (0, 0))) (en : En) (r : List En) (hs : s.st = en :: r) (q : Option Addr) (hq : StX w mo mf q r) (p : V) (a : List V) (tp : TypeId) (xp : Value) (rs : List Value) (hp : VX w mo p (.iface tp xp)) (ha : VXs w mo a rs) (hrl : rs.length ≤ 1000000) (e : Ending) (w' : World) (hw : ReadyW w M q (.iface tp xp) rs e w') :
    e = .returned .nilIface ∧ ∃ X' ow', MR B K w' X' ow' M b C { s with app := some (p, a), st := r } ∧ Gw X ow w X' ow' w' := by
  obtain ⟨w2, g, rfl, rfl, hb, hge, hg⟩ := hw
  have hMl := lt_of_some hM
  have hM2 : w2.heap[M]? = some (Obj.cells (mcC b s.pc val (ptrV gf) app args (.pointer top) out 0 0 0 ⟨#[]⟩) 119 (0, 0)) := by rw [hb.block M hMl]; exact hM
  have hu2 : Upd (fun k => k = M) w w2 := Upd.of_below _ hb
  have hu : Upd (fun k => k = M) w (((w2.setCell ⟨M, 4, none⟩ (.iface tp xp)).setCell ⟨M, 5, none⟩ (.slice (some ⟨g, if rs.length = 0 then 0 else 1, none⟩) rs.length rs.length)).setCell ⟨M, 6, none⟩ (.pointer q)).drew := (((hu2.setCell ⟨M, 4, none⟩ _ (fun _ => rfl)).setCell ⟨M, 5, none⟩ _ (fun _ => rfl)).setCell ⟨M, 6, none⟩ _ (fun _ => rfl)).drew
  have hM' : (((w2.setCell ⟨M, 4, none⟩ (.iface tp xp)).setCell ⟨M, 5, none⟩ (.slice (some ⟨g, if rs.length = 0 then 0 else 1, none⟩) rs.length rs.length)).setCell ⟨M, 6, none⟩ (.pointer q)).drew.heap[M]? = some (Obj.cells (mcC b s.pc val (ptrV gf) (.iface tp xp) (.slice (some ⟨g, if rs.length = 0 then 0 else 1, none⟩) rs.length rs.length) (.pointer q) out 0 0 0 ⟨#[]⟩) 119 (0, 0)) := (heap_setCell_same (heap_setCell_same (heap_setCell_same hM2))).trans rfl
  have hne : g ≠ M := by omega
  have hg' : (((w2.setCell ⟨M, 4, none⟩ (.iface tp xp)).setCell ⟨M, 5, none⟩ (.slice (some ⟨g, if rs.length = 0 then 0 else 1, none⟩) rs.length rs.length)).setCell ⟨M, 6, none⟩ (.pointer q)).drew.heap[g]? = some (Obj.cells (.iface tp xp :: rs).toArray 81 (0, 0)) := by
    rw [heap_drew_at, heap_set_ne _ _ _ _ _ hne, heap_set_ne _ _ _ _ _ hne, heap_set_ne _ _ _ _ _ hne]; exact hg
  have hog : ow g = none := by
    cases e : ow g with
    | none => rfl
    | some t => have := h.xlt g (h.owx _ _ e); omega
  have h' := h.ext' hM hu hM' (X' := fun k => X k ∨ k = g) (ow' := fun k => if k = g then some 0 else ow k) (fun k hk => .inl hk) (fun k hk hx => hx.elim id (fun e => by omega)) (fun k hk => if_neg (by omega)) (fun k t ht => by
      have ht : (if k = g then some 0 else ow k) = some t := ht
      by_cases e : k = g
      · exact .inr e
      · rw [if_neg e] at ht; exact .inl (h.owx _ _ ht)) (fun k hx hk => by
      rcases hx with hx | hx
      · have := h.xlt k hx; omega
      · subst hx; exact ⟨_, _, hg', by decide⟩)
  refine ⟨rfl, _, _, ⟨_, _, _, _, _, _, _, _, hM', h'.regs { s with app := some (p, a), st := r } val (.iface tp xp) _ q gf rfl rfl rfl h'.val h'.fr ⟨hp.keepM hM hu, rs, VXs.keep (Go.Proofs.YtlobegpjenabaaaGreatDoor.keepM hM hu (by decide)) (Le.refl _) _ _ ha, ?_⟩ (hq.keepM hM hu)⟩, ?_⟩
  · refine .inr ⟨g, _, rs.length, _, rfl, Nat.le_refl _, ?_, hg', ?_, .inr ⟨if_pos rfl, rfl⟩⟩
    · unfold maxLen; omega
    · by_cases h0 : rs.length = 0
      · rw [if_pos h0, h0]; simp [List.eq_nil_of_length_eq_zero h0]
      · rw [if_neg h0]; simp
  · exact ⟨hu.mono (fun k e => by subst e; rw [h.owM]; simp), fun k hk hx _ => .inl hx, fun k hk hx => hx.elim id (fun e => by omega), fun k hk ho => by show (if k = g then some 0 else ow k) = none; rw [if_neg (by omega)]; exact ho⟩
theorem ready_step {B K : Nat} {w : World} {X : Nat → Prop} {ow mo mf : Nat → Option Nat} {M b : Nat} {C : Cd} {s : MS} {val app args out : Value} {top : Option Addr} {gf : Nat} (h : RS B K w X ow mo mf M b C s val app args out top gf) (hM : w.heap[M]? = some (Obj.cells (mcC b s.pc val (ptrV gf) app args (.pointer top) out 0 0 0 ⟨#[]⟩) 119 (0, 0))) (n : Int) (hn : opS C s 11 n ≠ .bad) : Calls Tryz.prog 127 #[.pointer (some ⟨M, 0, none⟩), .int .i64 n] w (StepPost B K X ow w M b C (opS C s 11 n)) := by
  obtain ⟨k0, k1, k2, k3, k4, k5, k6, k7, k8, k9, k10, k11⟩ := mc_cell hM
  have hst := h.st
  have hv := h.val
  simp only [opS] at hn ⊢
  cases hs : s.st with
  | nil => rw [hs] at hn; exact absurd rfl hn
  | cons en r =>
    rw [hs] at hst hn
    cases hsv : s.val with
    | none => rw [hsv] at hn; exact absurd rfl hn
    | some v =>
      rw [hsv] at hv hn
      simp only [] at hn ⊢
      have hv : VX w mo v val := hv
      obtain ⟨t, x, rfl⟩ := hv.form
      obtain ⟨g, q, gf0, got, rfl, hg, hf0, ⟨xs, hi, hxs⟩, hgl, hrl, hr⟩ := hst
      have hrev := VXs.reverse (show VXs w mo (v :: en.got) (.iface t x :: xs) from ⟨hv, hxs⟩)
      cases hrv : (v :: en.got).reverse with
      | nil => rw [hrv] at hn; exact absurd rfl hn
      | cons p a =>
        simp only []
        rw [hrv] at hrev
        cases hrx : (Value.iface t x :: xs).reverse with
        | nil => rw [hrx] at hrev; exact hrev.elim
        | cons y rs =>
          rw [hrx] at hrev
          obtain ⟨hp, ha⟩ := hrev
          obtain ⟨tp, xp, rfl⟩ := hp.form
          have hxl : xs.length ≤ 1000000 := by rw [← hxs.length]; exact hgl
          have hne : g ≠ M := ne_types hg hM (by decide)
          have hrl3 : rs.length ≤ 1000000 := by have := congrArg List.length hrx; simp at this; omega
          have hfin := fun e w' hw => ready_end h hM en r hs q hr p a tp xp rs hp ha hrl3 e w' hw
          rw [hsv] at hfin
          cases hrl2 : rs.length with
          | zero => exact (ready_zero 0 w M g n q (some ⟨gf0, 0, none⟩) got r.length en.nx t tp x xp _ _ xs rs hxl (lt_of_some hM) hne k6 k4 k5 (fun o => frozen_of_block hM o) k2 hg hi (VXs.forms hxs) hrx hrl2).mono fun e w' hw => hfin e w' hw
          | succ m => exact (ready_pos m w M g n q (some ⟨gf0, 0, none⟩) got r.length en.nx t tp x xp _ _ xs rs hxl (lt_of_some hM) hne k6 k4 k5 (fun o => frozen_of_block hM o) k2 hg hi (VXs.forms hxs) hrx hrl2).mono fun e w' hw => hfin e w' hw
end Go.Proofs.YtlobegpjenabaaaGreatDoor
