/- One step of the machine in memory, IV: define. -/
import Derived.Test.YtlobegpjenabaaaGreatDoorK27
import Derived.Test.YtlobegpjenabaaaGreatDoorK26
namespace Go.Proofs.YtlobegpjenabaaaGreatDoor
open Go.RowKit
set_option linter.unusedSimpArgs false
set_option linter.unusedVariables false

theorem Rw.imp2 {w w' : World} {T : TypeId} {own sh own' sh' : Nat → Prop} {u : Value} {xs : List Value} (h : Rw w T own sh u xs) (ho : ∀ g c, u.ownBlock = some g → own g → w.heap[g]? = some (Obj.cells c T (0, 0)) → own' g ∧ w'.heap[g]? = some (Obj.cells c T (0, 0))) (hs : ∀ g c, u.ownBlock = some g → sh g → w.heap[g]? = some (Obj.cells c T (0, 0)) → sh' g ∧ w'.heap[g]? = some (Obj.cells c T (0, 0))) : Rw w' T own' sh' u xs := by
  rcases h with h | ⟨g, off, cap, cu, h1, h2, h2', h3, h4, h5⟩
  · exact .inl h
  · rcases h5 with ⟨a, b, c⟩ | ⟨a, b⟩
    · have := ho g cu (by rw [h1]; rfl) a h3
      exact .inr ⟨g, off, cap, cu, h1, h2, h2', this.2, h4, .inl ⟨this.1, b, c⟩⟩
    · have := hs g cu (by rw [h1]; rfl) a h3
      exact .inr ⟨g, off, cap, cu, h1, h2, h2', this.2, h4, .inr ⟨this.1, b⟩⟩
theorem Rw.typ {w : World} {T : TypeId} {own sh : Nat → Prop} {u : Value} {xs : List Value} (h : Rw w T own sh u xs) {k : Nat} (hk : u.ownBlock = some k) : ∃ c, w.heap[k]? = some (Obj.cells c T (0, 0)) := by
  rcases h with ⟨rfl, _⟩ | ⟨g, off, cap, cu, rfl, h2, h2', h3, h4, h5⟩
  · cases hk
  · have : g = k := by simpa [Value.ownBlock] using hk
    subst this; exact ⟨cu, h3⟩
theorem Rw.split {w : World} {T : TypeId} {own sh : Nat → Prop} {u : Value} {xs : List Value} (h : Rw w T own sh u xs) : ∃ kn : Option Nat, (∀ k, kn = some k → own k ∧ ∃ c, w.heap[k]? = some (Obj.cells c T (0, 0))) ∧ Rw w T (fun k => kn = some k) (fun k => sh k ∧ kn = none) u xs := by
  rcases h with h | ⟨g, off, cap, cu, h1, h2, h2', h3, h4, h5⟩
  · exact ⟨none, (fun k hk => by cases hk), .inl h⟩
  · rcases h5 with ⟨a, b, c⟩ | ⟨a, b⟩
    · exact ⟨some g, (fun k hk => by cases hk; exact ⟨a, cu, h3⟩), .inr ⟨g, off, cap, cu, h1, h2, h2', h3, h4, .inl ⟨rfl, b, c⟩⟩⟩
    · exact ⟨none, (fun k hk => by cases hk), .inr ⟨g, off, cap, cu, h1, h2, h2', h3, h4, .inr ⟨⟨a, rfl⟩, b⟩⟩⟩
theorem Rw.split2 {w : World} {T : TypeId} {own : Nat → Prop} {u : Value} {xs : List Value} (h : Rw w T own own u xs) : ∃ kn : Option Nat, (∀ k, kn = some k → own k ∧ ∃ c, w.heap[k]? = some (Obj.cells c T (0, 0))) ∧ Rw w T (fun k => kn = some k) (fun k => kn = some k) u xs := by
  rcases h with h | ⟨g, off, cap, cu, h1, h2, h2', h3, h4, h5⟩
  · exact ⟨none, (fun k hk => by cases hk), .inl h⟩
  · rcases h5 with ⟨a, b, c⟩ | ⟨a, b⟩
    · exact ⟨some g, (fun k hk => by cases hk; exact ⟨a, cu, h3⟩), .inr ⟨g, off, cap, cu, h1, h2, h2', h3, h4, .inl ⟨rfl, b, c⟩⟩⟩
    · exact ⟨some g, (fun k hk => by cases hk; exact ⟨a, cu, h3⟩), .inr ⟨g, off, cap, cu, h1, h2, h2', h3, h4, .inr ⟨rfl, b⟩⟩⟩
/-- The blocks that a frame goes on with. -/
def KeepF (g : Nat) (kn kv : Option Nat) (k : Nat) : Prop := k = g ∨ kn = some k ∨ kv = some k
/-- A frame's rows are others now. -/
theorem RS.reframe {B K : Nat} {w : World} {X : Nat → Prop} {ow mo mf : Nat → Option Nat} {M b : Nat} {C : Cd} {s : MS} {val app args out : Value} {top : Option Addr} {gf : Nat} (h : RS B K w X ow mo mf M b C s val app args out top gf) {w' : World} (i g : Nat) (fr' : Fr) (pn : ByteArray) (nv vv : Value) (op : Option Addr) (xs' : List Value) (hi : i < s.frs.length) (hg : mf i = some g) (hu : Upd (fun k => ow k = some (i + 1)) w w') (htag : ow g = some (i + 1))
    (hS : w'.heap[g]? = some (Obj.cells #[.string pn, nv, vv, .pointer op] 176 (0, 0))) (hn : Rw w' 3 (fun k => ow k = some (i + 1) ∨ w.heap.size ≤ k) (fun k => ¬ X k) nv (fr'.ns.map (Value.int .i64))) (hv : Rw w' 81 (fun k => ow k = some (i + 1) ∨ w.heap.size ≤ k) (fun k => ow k = some (i + 1) ∨ w.heap.size ≤ k) vv xs') (hvs : VXs w' mo fr'.vs xs')
    (hout : match fr'.out with
      | none => op = none
      | some j => j < i ∧ ∃ gj, mf j = some gj ∧ op = some ⟨gj, 0, none⟩) (hlen : fr'.ns.length = fr'.vs.length) (hle : fr'.ns.length ≤ 1000000) :
    ∃ X' ow', RS B K w' X' ow' mo mf M b C { s with frs := s.frs.set i fr' } val app args out top gf ∧ Gw X ow w X' ow' w' := by
  classical
  obtain ⟨kn, hkn, hn⟩ := hn.split
  obtain ⟨kv, hkv, hv⟩ := hv.split2
  have hxl : ∀ k, X k → k < w.heap.size := fun k hk => by obtain ⟨_, c, T, h1, _⟩ := h.xty k hk; exact lt_of_some h1
  have hgX : X g := h.owx _ _ htag
  have hKX : ∀ k, KeepF g kn kv k → k < w.heap.size → X k ∧ ow k = some (i + 1) := fun k hx hk => by
    rcases hx with hx | hx | hx
    · subst hx; exact ⟨hgX, htag⟩
    · rcases (hkn k hx).1 with e | e
      · exact ⟨h.owx _ _ e, e⟩
      · omega
    · rcases (hkv k hx).1 with e | e
      · exact ⟨h.owx _ _ e, e⟩
      · omega
  have hKT : ∀ k, KeepF g kn kv k → ∃ c T, w'.heap[k]? = some (Obj.cells c T (0, 0)) ∧ MT.contains T = true := fun k hx => by
    rcases hx with hx | hx | hx
    · subst hx; exact ⟨_, _, hS, by decide⟩
    · obtain ⟨c, hc⟩ := (hkn k hx).2; exact ⟨_, _, hc, by decide⟩
    · obtain ⟨c, hc⟩ := (hkv k hx).2; exact ⟨_, _, hc, by decide⟩
  refine ⟨fun k => (X k ∧ ow k ≠ some (i + 1)) ∨ KeepF g kn kv k, fun k => if KeepF g kn kv k then some (i + 1) else if ow k = some (i + 1) then none else ow k, ?_, ?_⟩
  · refine h.setf i fr' hi hu (fun k hk hx => ?_) (fun k hk ho => ?_) (fun k t ht => ?_) (fun k hx hk => ?_) ⟨g, pn, nv, vv, op, xs', hg, ?_⟩
    · rcases hx with hx | hx
      · exact hx.1
      · exact (hKX k hx hk).1
    · have : ¬ KeepF g kn kv k := fun hx => ho (hKX k hx hk).2
      simp only [this, if_false, ho]
    · have ht : (if KeepF g kn kv k then some (i + 1) else if ow k = some (i + 1) then none else ow k) = some t := ht
      by_cases hkf : KeepF g kn kv k
      · exact .inr hkf
      · rw [if_neg hkf] at ht
        by_cases ho : ow k = some (i + 1)
        · rw [if_pos ho] at ht; cases ht
        · rw [if_neg ho] at ht; exact .inl ⟨h.owx _ _ ht, ho⟩
    · rcases hx with ⟨hx, ho⟩ | hx
      · rcases hk with hk | hk
        · exact absurd hk ho
        · exact absurd (hxl k hx) (by omega)
      · exact hKT k hx
    · refine ⟨?_, hS, hn.imp (fun k c hk hc => ⟨?_, hc⟩) (fun k c hk hc => ⟨?_, hc⟩), hv.imp (fun k c hk hc => ⟨?_, hc⟩) (fun k c hk hc => ⟨?_, hc⟩), hvs, hout, hlen, hle⟩
      · show (if KeepF g kn kv g then some (i + 1) else _) = _
        rw [if_pos (.inl rfl)]
      · show (if KeepF g kn kv k then some (i + 1) else _) = _
        rw [if_pos (.inr (.inl hk))]
      · rintro (hx | hx | hx | hx)
        · exact hk.1 hx.1
        · subst hx; exact hk.1 hgX
        · rw [hk.2] at hx; cases hx
        · obtain ⟨c', hc'⟩ := (hkv k hx).2
          exact ne_types hc hc' (by decide) rfl
      · show (if KeepF g kn kv k then some (i + 1) else _) = _
        rw [if_pos (.inr (.inr hk))]
      · show (if KeepF g kn kv k then some (i + 1) else _) = _
        rw [if_pos (.inr (.inr hk))]
  · refine ⟨hu.mono (fun k e => by rw [e]; simp), fun k hk hx ho => .inl ⟨hx, by rw [ho]; simp⟩, fun k hk hx => ?_, fun k hk ho => ?_⟩
    · rcases hx with hx | hx
      · exact hx.1
      · exact (hKX k hx hk).1
    · have : ¬ KeepF g kn kv k := fun hx => by have := (hKX k hx hk).2; rw [ho] at this; cases this
      show (if KeepF g kn kv k then some (i + 1) else if ow k = some (i + 1) then none else ow k) = none
      rw [if_neg this, ho]; simp
/-- The rows that define leaves. -/
theorem DefPost'.rows {w w' : World} {X : Nat → Prop} {ow : Nat → Option Nat} {i g : Nat} {fr : Fr} {pn : ByteArray} {op : Option Addr} {xs : List Value} {n : Int} {x : Value} {e : Ending} (h : DefPost' w X ow i g fr pn op xs n x e w') (v : V) :
    ∃ nv vv, w'.heap[g]? = some (Obj.cells #[.string pn, nv, vv, .pointer op] 176 (0, 0)) ∧ Rw w' 3 (fun k => ow k = some (i + 1) ∨ w.heap.size ≤ k) (fun k => ¬ X k) nv ((fr.define n v).ns.map (Value.int .i64)) ∧ Rw w' 81 (fun k => ow k = some (i + 1) ∨ w.heap.size ≤ k) (fun k => ow k = some (i + 1) ∨ w.heap.size ≤ k) vv (match idxI fr.ns n with
      | some j => xs.set j x
      | none => xs ++ [x]) := by
  obtain ⟨_, hu, nv, vv, xs', hS, hm⟩ := h
  refine ⟨nv, vv, hS, ?_⟩
  unfold Fr.define
  cases hix : idxI fr.ns n with
  | some j =>
    rw [hix] at hm
    obtain ⟨rfl, h1, h2⟩ := hm
    exact ⟨h1.imp (fun k c hk hc => ⟨.inl hk, hc⟩) (fun k c hk hc => ⟨hk, hc⟩), h2.imp (fun k c hk hc => ⟨.inl hk, hc⟩) (fun k c hk hc => ⟨.inl hk, hc⟩)⟩
  | none =>
    rw [hix] at hm
    obtain ⟨rfl, gn, gv, h1, h2, h3, h4, h5, h6⟩ := hm
    exact ⟨Rw.of_own h5 (fun k hk => by rw [h3] at hk; cases hk; exact h1), Rw.of_own h6 (fun k hk => by rw [h4] at hk; cases hk; exact h2)⟩
theorem idxI_none_len (fr : Fr) (n : Int) (v : V) (h : fr.ns.length = fr.vs.length) : (fr.define n v).ns.length = (fr.define n v).vs.length ∧ (fr.define n v).ns.length ≤ fr.ns.length + 1 ∧ (fr.define n v).out = fr.out := by
  unfold Fr.define
  cases idxI fr.ns n with
  | some j => simp [Fr.put, h]
  | none => simp [h]
theorem define_step {B K : Nat} {w : World} {X : Nat → Prop} {ow mo mf : Nat → Option Nat} {M b : Nat} {C : Cd} {s : MS} {val app args out : Value} {top : Option Addr} {gf : Nat} (h : RS B K w X ow mo mf M b C s val app args out top gf) (hM : w.heap[M]? = some (Obj.cells (mcC b s.pc val (ptrV gf) app args (.pointer top) out 0 0 0 ⟨#[]⟩) 119 (0, 0))) (n : Int) (hn : opS C s 9 n ≠ .bad) : Calls Tryz.prog 125 #[.pointer (some ⟨M, 0, none⟩), .int .i64 n] w (StepPost B K X ow w M b C (opS C s 9 n)) := by
  obtain ⟨k0, k1, k2, k3, k4, k5, k6, k7, k8, k9, k10, k11⟩ := mc_cell hM
  have hst := h.st
  have hv := h.val
  simp only [opS] at hn ⊢
  cases hs : s.st with
  | nil => rw [hs] at hn; exact absurd rfl hn
  | cons en r =>
    rw [hs] at hst hn
    cases hsv : s.val with
    | none => rw [hsv] at hn; exact absurd rfl hn
    | some v =>
      rw [hsv] at hv hn
      simp only [] at hn ⊢
      have hv : VX w mo v val := hv
      obtain ⟨t, x, rfl⟩ := hv.form
      obtain ⟨g, q, gf0, got, rfl, hg, _, _, _, _, hr⟩ := hst
      have c0 := cell_of_block hg 0
      have hu1 := setM w M 6 (.pointer q)
      have hM1 : (w.setCell ⟨M, 6, none⟩ (.pointer q)).heap[M]? = some (Obj.cells (mcC b s.pc (.iface t x) (ptrV gf) app args (.pointer q) out 0 0 0 ⟨#[]⟩) 119 (0, 0)) := (heap_setCell_same hM).trans rfl
      have h1 := (h.ext hM hu1 hM1).regs { s with st := r } (.iface t x) app args q gf rfl rfl rfl (by have := OV.keep (Go.Proofs.YtlobegpjenabaaaGreatDoor.keepM hM hu1 (by decide)) (Le.refl _) _ _ h.val; exact this) h.fr (h.ext hM hu1 hM1).app (hr.keepM hM hu1)
      have hfl : s.fr < s.frs.length := h.fdm _ _ h.fr
      have h1d := h1.drew
      have hgw1 : Gw X ow w X ow (w.setCell ⟨M, 6, none⟩ (.pointer q)).drew := h.gw hu1.drew
      cases hfr : s.frs[s.fr]? with
      | none => rw [hfr] at hn; exact absurd rfl hn
      | some fr =>
        rw [hfr] at hn
        simp only [] at hn ⊢
        by_cases hlt : fr.ns.length < 1000000
        · rw [if_pos hlt]
          obtain ⟨g', pn, nv, vv, op, xs, hg', hF⟩ := h1d.frs s.fr fr hfr
          have hgf : g' = gf := by have h2 := h.fr; rw [h2] at hg'; cases hg'; rfl
          subst hgf
          have hMd : (w.setCell ⟨M, 6, none⟩ (.pointer q)).drew.heap[M]? = some (Obj.cells (mcC b s.pc (.iface t x) (ptrV g') app args (.pointer q) out 0 0 0 ⟨#[]⟩) 119 (0, 0)) := hM1
          have hMw : ∀ w2, Upd (fun k => ow k = some (s.fr + 1)) (w.setCell ⟨M, 6, none⟩ (.pointer q)).drew w2 → w2.heap[M]? = some (Obj.cells (mcC b s.pc (.iface t x) (ptrV g') app args (.pointer q) out 0 0 0 ⟨#[]⟩) 119 (0, 0)) := fun w2 hu2 => by
            rw [hu2.block M (lt_of_some hMd) (by rw [h.owM]; simp)]; exact hMd
          refine (define_raw w M g g' n q t x _ k6 (frozen_of_block hM 6) c0 k3 k2 (hide (define_go hF h1d.owx n t x hlt)) (hide ?_)).mono ?_
          · intro e w2 hp
            have hM2 := hMw w2 hp.2.1
            exact ⟨hp.1, by rw [cell_of_block hM2]; rfl, frozen_of_block hM2 2⟩
          · rintro e w' ⟨w2, rfl, hp, rfl⟩
            have hM2 := hMw w2 hp.2.1
            obtain ⟨nv2, vv2, hS2, hn2, hv2⟩ := hp.rows v
            have hlen := idxI_none_len fr n v hF.len
            have hkp : Keep 205 (w.setCell ⟨M, 6, none⟩ (.pointer q)).drew w2 := KI.of_upd (fun k hk => h1d.xty k (h1d.owx _ _ hk)) hp.2.1 _ (by decide)
            have hvs : VXs w2 mo (fr.define n v).vs (match idxI fr.ns n with
              | some j => xs.set j (.iface t x)
              | none => xs ++ [.iface t x]) := by
              have a1 := VXs.keep hkp (Le.refl _) _ _ hF.vs
              have a2 : VX w2 mo v (.iface t x) := VX.keep hkp (Le.refl _) _ _ (VX.keep (Go.Proofs.YtlobegpjenabaaaGreatDoor.keepM hM hu1.drew (by decide)) (Le.refl _) _ _ hv)
              unfold Fr.define
              cases idxI fr.ns n with
              | some j => exact VXs.set j v _ a1 a2
              | none => exact VXs.append a1 ⟨a2, trivial⟩
            obtain ⟨X', ow', h2, hG2⟩ := h1d.reframe s.fr g' (fr.define n v) pn nv2 vv2 op _ hfl hg' hp.2.1 hF.tag hS2 hn2 hv2 hvs (by rw [hlen.2.2]; exact hF.out) hlen.1 (by have := hlen.2.1; omega)
            obtain ⟨X2, ow2, hMR, hG⟩ := h2.go hM2 (setM w2 M 2 (.iface 259 (.agg #[]))) { s with st := r, val := some .nothing, frs := s.frs.set s.fr (fr.define n v) } (.iface 259 (.agg #[])) app args q g' ((heap_setCell_same hM2).trans rfl) rfl rfl rfl (fun h' => ⟨rfl, h'.fr, h'.app, h'.st⟩)
            exact ⟨rfl, X2, ow2, hMR, (hgw1.trans hG2).trans hG⟩
        · rw [if_neg hlt] at hn; exact absurd rfl hn
end Go.Proofs.YtlobegpjenabaaaGreatDoor

/- The outermost frame is made: what is asked for ahead of the walk. -/
namespace Go.Proofs.YtlobegpjenabaaaGreatDoor
open Go.RowKit
set_option linter.unusedSimpArgs false
set_option linter.unusedVariables false

/-- What slices.Index tells of a name. -/
def sixN (l : List (List UInt8)) (x : List UInt8) : Int := if l.contains x then ((l.idxOf x : Nat) : Int) else -1
theorem ba_inj {a b : List UInt8} (h : (⟨a.toArray⟩ : ByteArray) = ⟨b.toArray⟩) : a = b := by
  have := congrArg (fun z : ByteArray => z.data.toList) h
  simpa using this
theorem idxFromS_eq (x : List UInt8) : ∀ (l : List (List UInt8)) (i : Nat), Lib.idxFromS (l.map fun s => (⟨s.toArray⟩ : ByteArray)) ⟨x.toArray⟩ i = if l.contains x then ((i + l.idxOf x : Nat) : Int) else -1
  | [], i => rfl
  | z :: zs, i => by
    by_cases h : z = x
    · subst h; simp [Lib.idxFromS]
    · have h' : ¬ x = z := fun e => h e.symm
      have hb : (z == x) = false := by simp [h]
      have hn : ¬ ((⟨z.toArray⟩ : ByteArray) = ⟨x.toArray⟩) := fun e => h (ba_inj e)
      rw [List.map_cons, Lib.idxFromS, idxFromS_eq x zs (i + 1)]
      simp only [hn, if_false, List.contains_cons, List.idxOf_cons, hb, cond_false]
      have : (x == z) = false := by simp [h']
      simp only [this, Bool.false_or]
      split
      · congr 1; omega
      · rfl
/-- slices.Index of a row of texts. -/
theorem index_str {w : World} {B : Nat} {u : Value} {l : List (List UInt8)} (h : w.ownsRow B 9 1 u l.length (l.map strV)) (x : List UInt8) (hl : l.length ≤ 1000000) :
    Calls Tryz.prog 101 #[u, .string ⟨x.toArray⟩] w fun e w' => e = .returned (.int .i64 (sixN l x)) ∧ w' = w := by
  have hr : Rw w 9 (fun _ => True) (fun _ => True) u (l.map strV) := Rw.of_own h fun _ _ => trivial
  have hq : Lib.idxOfS (l.map fun s => (⟨s.toArray⟩ : ByteArray)) ⟨x.toArray⟩ = sixN l x := by
    unfold Lib.idxOfS sixN
    rw [idxFromS_eq, Nat.zero_add]
  rcases hr with ⟨rfl, hx⟩ | ⟨g, off, cap, cu, rfl, h2, h2', h3, h4, h5⟩
  · have : l = [] := by simpa using hx
    subst this
    have := Tryz.slices_Index_string_empty none 0 ⟨x.toArray⟩ w
    rw [← hq]; exact this
  · simp only [List.length_map] at *
    have := Tryz.slices_Index_string g off l.length cap (l.map fun s => (⟨s.toArray⟩ : ByteArray)) ⟨x.toArray⟩ w (by simp) (by omega) (fun j hj => by
      have hj : j < l.length := by simpa using hj
      rw [cell_of_block h3, ← Array.getElem?_toList]
      have hx : ((cu.toList.drop off).take l.length)[j]? = some (.string ((l.map fun s => (⟨s.toArray⟩ : ByteArray)).getD j ByteArray.empty)) := by rw [h4]; simp [hj, strV]
      rw [List.getElem?_take, if_pos hj, List.getElem?_drop] at hx
      exact hx)
    rw [← hq]
    rw [List.take_of_length_le (by simp)] at this; exact this

/-- Where the first procedures lie. -/
def pbN (S k : Nat) : Nat := if k < 12 then S + (3 * k + 2) else S + (24 + k)
/-- The first procedures' fields. -/
theorem fs_get (M S k : Nat) (hk : k < 14) : ∃ fv, (fsL S M)[if k < 12 then 3 * k + 2 else 24 + k]? = some (Obj.cells #[strV (firstN.getD k []), .int .i64 (needS k : Nat), fv] 220 (0, 0)) ∧
    ((k = 12 ∧ fv = .func (.func 175) #[ptrV M] #[]) ∨ (k = 13 ∧ fv = .func (.func 176) #[ptrV M] #[]) ∨ (k < 12 ∧ ∃ T, MT.contains T = false ∧ fv = .func (.func (wrF.getD k 0)) #[] #[ptrV (S + 3 * k), ptrV (S + (3 * k + 1))] ∧ (fsL S M)[3 * k]? = some (Obj.cells #[ptrV M] 73 (0, 0)) ∧ (fsL S M)[3 * k + 1]? = some (Obj.cells #[.func (.func (mtF.getD k 0)) #[ptrV M] #[]] T (0, 0)))) := by
  rcases k with _ | _ | _ | _ | _ | _ | _ | _ | _ | _ | _ | _ | _ | _ | k
  iterate 12 exact ⟨_, rfl, .inr (.inr ⟨by decide, _, by decide, rfl, rfl, rfl⟩)⟩
  · exact ⟨_, rfl, .inl ⟨rfl, rfl⟩⟩
  · exact ⟨_, rfl, .inr (.inl ⟨rfl, rfl⟩)⟩
  · omega
theorem pbN_eq (S k : Nat) : pbN S k = S + (if k < 12 then 3 * k + 2 else 24 + k) := by unfold pbN; split <;> rfl
/-- Where pairs of the code and the first procedures lie. -/
def moN (K S : Nat) : Nat → Option Nat := fun i => if i % 2 = 0 then (if i / 2 < 14 then some (pbN S (i / 2)) else none) else datM K i
/-- A procedure that there is at first. -/
theorem first_prx {w : World} {X : Nat → Prop} {mf : Nat → Option Nat} (K M : Nat) (C : Cd) (w0 : World) (k : Nat) (hk : k < 14) (hb : Below (allocs w0 (fsL w0.heap.size M)).heap.size (allocs w0 (fsL w0.heap.size M)) w ∨ KI (allocs w0 (fsL w0.heap.size M)) w) : PrX w X (moN K w0.heap.size) mf M C (2 * k) (.first k) := by
  have hkk : KI (allocs w0 (fsL w0.heap.size M)) w := hb.elim KI.of_below id
  obtain ⟨fv, h1, h2⟩ := fs_get M w0.heap.size k hk
  have g1 := allocs_get _ w0 _ _ h1
  rw [← pbN_eq] at g1
  refine ⟨pbN w0.heap.size k, ⟨(firstN.getD k []).toArray⟩, fv, ?_, hkk _ (by decide) _ _ g1, ?_⟩
  · unfold moN
    rw [if_pos (by omega), show 2 * k / 2 = k by omega, if_pos hk]
  · rcases h2 with h2 | h2 | ⟨h3, T, h4, h5, h6, h7⟩
    · exact .inl h2
    · exact .inr (.inl h2)
    · exact .inr (.inr ⟨h3, _, _, T, h4, h5, hkk _ (by decide) _ _ (allocs_get _ w0 _ _ h6), hkk _ h4 _ _ (allocs_get _ w0 _ _ h7)⟩)

/-- The outermost frame, while it is filled: in block g, its rows behind S. -/
structure OutF (S g : Nat) (mo : Nat → Option Nat) (fr : Fr) (w : World) (nv vv : Value) (xs : List Value) : Prop where
  hS : w.heap[g]? = some (Obj.cells #[.string ⟨#[116, 104, 101, 32, 112, 114, 111, 103, 114, 97, 109]⟩, nv, vv, .pointer none] 176 (0, 0))
  nr : Rw w 3 (fun k => S ≤ k) (fun _ => False) nv (fr.ns.map (Value.int .i64))
  vr : Rw w 81 (fun k => S ≤ k) (fun k => S ≤ k) vv xs
  vs : ∀ W, VXs W mo fr.vs xs
  out : fr.out = none
  len : fr.ns.length = fr.vs.length
def owN (S g : Nat) : Nat → Option Nat := fun k => if k = g ∨ S ≤ k then some 1 else none
theorem OutF.fr {S g : Nat} {mo : Nat → Option Nat} {fr : Fr} {w : World} {nv vv : Value} {xs : List Value} (h : OutF S g mo fr w nv vv xs) (hl : fr.ns.length ≤ 1000000) : FrR w (fun _ => True) (owN S g) mo (fun _ => none) 0 fr g ⟨#[116, 104, 101, 32, 112, 114, 111, 103, 114, 97, 109]⟩ nv vv none xs :=
  ⟨by simp [owN], h.hS, h.nr.imp (fun b c hb hc => ⟨by simp [owN, hb], hc⟩) (fun _ _ h _ => h.elim), h.vr.imp (fun b c hb hc => ⟨by simp [owN, hb], hc⟩) (fun _ _ h _ => by simp [owN, h] at *; simp_all), h.vs w, by rw [h.out], h.len, hl⟩
/-- One more is defined. -/
theorem OutF.define {S g : Nat} {mo : Nat → Option Nat} {fr : Fr} {w w' : World} {nv vv : Value} {xs : List Value} (h : OutF S g mo fr w nv vv xs) (hSw : S ≤ w.heap.size) (n : Int) (v : V) (x : Value) (hx : ∀ W, VX W mo v x) (e : Ending)
    (hp : DefPost' w (fun _ => True) (owN S g) 0 g fr ⟨#[116, 104, 101, 32, 112, 114, 111, 103, 114, 97, 109]⟩ none xs n x e w') : Upd (fun k => k = g ∨ S ≤ k) w w' ∧ ∃ nv' vv' xs', OutF S g mo (fr.define n v) w' nv' vv' xs' := by
  obtain ⟨nv', vv', hS', hn, hv⟩ := hp.rows v
  have hu' : Upd (fun k => k = g ∨ S ≤ k) w w' := hp.2.1.mono fun k hk => by
    unfold owN at hk
    split at hk
    · assumption
    · cases hk
  have hown : ∀ (T : TypeId) (k : Nat) (c : Array Value), T ≠ 176 → w'.heap[k]? = some (Obj.cells c T (0, 0)) → (owN S g k = some (0 + 1) ∨ w.heap.size ≤ k) → S ≤ k := fun T k c hT hc ho => by
    rcases ho with ho | ho
    · unfold owN at ho
      split at ho
      · rename_i hk
        rcases hk with hk | hk
        · subst hk; rw [hS'] at hc; cases hc; exact absurd rfl hT
        · exact hk
      · cases ho
    · omega
  have hlen := idxI_none_len fr n v h.len
  refine ⟨hu', nv', vv', _, hS', hn.imp (fun k c hk hc => ⟨hown _ k c (by decide) hc hk, hc⟩) (fun k c hk hc => absurd trivial hk), hv.imp (fun k c hk hc => ⟨hown _ k c (by decide) hc hk, hc⟩) (fun k c hk hc => ⟨hown _ k c (by decide) hc hk, hc⟩), fun W => ?_, by rw [hlen.2.2, h.out], hlen.1⟩
  have a1 := h.vs W
  have a2 := hx W
  unfold Fr.define
  cases idxI fr.ns n with
  | some j => exact VXs.set j v _ a1 a2
  | none => exact VXs.append a1 ⟨a2, trivial⟩
/-- One of the first procedures goes into the frame, if the text names it. -/
def outer1 (C : Cd) (k : Nat) (f : Fr) : Fr := if C.ns.contains (firstN.getD k []) then f.define (C.ns.idxOf (firstN.getD k []) : Nat) (.proc (2 * k)) else f
def outerK (C : Cd) : Nat → Fr
  | 0 => ⟨[], [], none⟩
  | k + 1 => outer1 C k (outerK C k)
theorem outerK_all (C : Cd) : outerK C 14 = outerS C 0 firstN ⟨[], [], none⟩ := rfl
theorem outerK_len (C : Cd) : ∀ k, (outerK C k).ns.length = (outerK C k).vs.length ∧ (outerK C k).ns.length ≤ k
  | 0 => ⟨rfl, Nat.le_refl _⟩
  | k + 1 => by
    have h := outerK_len C k
    unfold outerK outer1
    split
    · have := idxI_none_len (outerK C k) (C.ns.idxOf (firstN.getD k []) : Nat) (.proc (2 * k)) h.1
      exact ⟨this.1, by omega⟩
    · exact ⟨h.1, by omega⟩
end Go.Proofs.YtlobegpjenabaaaGreatDoor

/- The outermost frame is made. -/
namespace Go.Proofs.YtlobegpjenabaaaGreatDoor
open Go.RowKit
set_option linter.unusedSimpArgs false
set_option linter.unusedVariables false

theorem fs_row (S M k : Nat) (hk : k < 14) : ∃ c, (fsL S M)[38]? = some (Obj.cells c 216 (0, 0)) ∧ c[k]? = some (ptrV (pbN S k)) := by
  refine ⟨_, rfl, ?_⟩
  rcases k with _ | _ | _ | _ | _ | _ | _ | _ | _ | _ | _ | _ | _ | _ | k
  iterate 14 rfl
  omega
theorem cell_eq_block {w w' : World} {g o : Nat} (h : w'.heap[g]? = w.heap[g]?) : w'.cell? ⟨g, o, none⟩ = w.cell? ⟨g, o, none⟩ := by
  unfold World.cell?
  rw [h]
theorem size_alloc (w : World) (o : Obj) : (w.alloc o).heap.size = w.heap.size + 1 := by simp
/-- The world with the frame's block and the first procedures. -/
def outW (w : World) (M : Nat) : World := allocs (w.alloc (.cells #[.string ⟨#[116, 104, 101, 32, 112, 114, 111, 103, 114, 97, 109]⟩, .slice none 0 0, .slice none 0 0, .pointer none] 176)) (fsL (w.heap.size + 1) M)
theorem outW_size (w : World) (M : Nat) : (outW w M).heap.size = w.heap.size + 40 := by
  unfold outW
  rw [allocs_size]; simp [fsL]
theorem outW_below (w : World) (M : Nat) : Below w.heap.size w (outW w M) := by
  unfold outW
  refine ((Below.refl _ w).alloc (Nat.le_refl _) _).trans ((allocs_below _ _).mono ?_)
  simp
theorem outW_get (w : World) (M i : Nat) (o : Obj) (h : (fsL (w.heap.size + 1) M)[i]? = some o) : (outW w M).heap[w.heap.size + 1 + i]? = some o := by
  unfold outW
  rw [show w.heap.size + 1 = (w.alloc (.cells #[.string ⟨#[116, 104, 101, 32, 112, 114, 111, 103, 114, 97, 109]⟩, .slice none 0 0, .slice none 0 0, .pointer none] 176)).heap.size by simp] at *
  exact allocs_get _ _ _ _ h
def OutPost (w : World) (K M : Nat) (C : Cd) (e : Ending) (w' : World) : Prop := e = .returned (.pointer (some ⟨w.heap.size, 0, none⟩)) ∧ Upd (fun k => k = w.heap.size ∨ w.heap.size + 40 ≤ k) (outW w M) w' ∧ ∃ nv vv xs, OutF (w.heap.size + 40) w.heap.size (moN K (w.heap.size + 1)) (outerK C 14) w' nv vv xs
theorem moN_first (K S k : Nat) (hk : k < 14) (W : World) : VX W (moN K S) (.proc (2 * k)) (.iface 216 (ptrV (pbN S k))) := by
  refine ⟨by omega, pbN S k, ?_, rfl⟩
  unfold moN
  rw [if_pos (by omega), show 2 * k / 2 = k by omega, if_pos hk]

set_option maxRecDepth 100000 in
set_option maxHeartbeats 4000000 in
theorem outermost_go (w : World) (K M b : Nat) (C : Cd) (u2 : Value) (hMl : M < w.heap.size) (hbl : b < w.heap.size) (m0 : w.cell? ⟨M, 0, none⟩ = some (.pointer (some ⟨b, 0, none⟩))) (b2 : w.cell? ⟨b, 2, none⟩ = some u2) (hr : w.ownsRow 0 9 1 u2 C.ns.length (C.ns.map strV)) (hl : C.ns.length ≤ 1000000) :
    Calls Tryz.prog 61 #[.pointer (some ⟨M, 0, none⟩)] w (OutPost w K M C) := by
  have HR := hide hr
  obtain ⟨a2, cap2, rfl, _, _, _⟩ := ownsRow_slice hr
  obtain ⟨W1, hW1⟩ : ∃ W1, W1 = outW w M := ⟨_, rfl⟩
  have hsz : W1.heap.size = w.heap.size + 40 := by rw [hW1]; exact outW_size w M
  have HB := hide (show Below w.heap.size w W1 from by rw [hW1]; exact outW_below w M)
  have HGET := hide (show ∀ i o, (fsL (w.heap.size + 1) M)[i]? = some o → W1.heap[w.heap.size + 1 + i]? = some o from by rw [hW1]; exact outW_get w M)
  have HST : Hid (OutF (w.heap.size + 40) w.heap.size (moN K (w.heap.size + 1)) (outerK C 0) W1 (.slice none 0 0) (.slice none 0 0) []) := by
    refine ⟨?_, .inl ⟨rfl, rfl⟩, .inl ⟨rfl, rfl⟩, fun _ => trivial, rfl, rfl⟩
    rw [hW1]; unfold outW
    rw [(allocs_below _ _).block w.heap.size (by simp)]
    exact Array.getElem?_push_size
  have HF := hide (firsts_go (w.alloc (.cells #[.string ⟨#[116, 104, 101, 32, 112, 114, 111, 103, 114, 97, 109]⟩, .slice none 0 0, .slice none 0 0, .pointer none] 176)) M)
  have HW1 := hide hW1
  clear hr hW1
  go_enter Tryz.func61, Tryz.ntmps61
  go_wp2_with fail
  refine HF.out.mono ?_
  rintro e w1 ⟨rfl, hw0⟩
  have hw1 : w1 = W1 := hw0.trans ((congrArg (fun n => allocs _ (fsL n M)) (size_alloc w _)).trans HW1.out.symm)
  clear hw0
  subst hw1
  clear HF
  rw [size_alloc]
  go_wp2
  go_loopw [12] (fun i wr => ∃ k : Nat, k ≤ 14 ∧ i = .int .i64 k ∧ Upd (fun j => j = w.heap.size ∨ w.heap.size + 40 ≤ j) w1 wr ∧ ∃ nv vv xs, OutF (w.heap.size + 40) w.heap.size (moN K (w.heap.size + 1)) (outerK C k) wr nv vv xs) (fun i _ => 14 - (intOf i).toNat)
  case atStart => exact ⟨0, by omega, rfl, Upd.refl _ _, _, _, _, HST.out⟩
  case round =>
    obtain ⟨k, hk, rfl, hu, nv, vv, xs, ho⟩ := hrel
    have HU := hide hu
    have HO := hide ho
    have hsz2 := hu.size
    by_cases hlt : k < 14
    · obtain ⟨c, hc1, hc2⟩ := fs_row (w.heap.size + 1) M k hlt
      obtain ⟨fv, hp1, _⟩ := fs_get M (w.heap.size + 1) k hlt
      have hp1 := HGET.out _ _ hp1
      rw [← pbN_eq] at hp1
      have hpl : pbN (w.heap.size + 1) k < w.heap.size + 40 := by have := lt_of_some hp1; omega
      have hpg : w.heap.size < pbN (w.heap.size + 1) k := by unfold pbN; split <;> omega
      have hblk : ∀ j, j < w.heap.size + 40 → j ≠ w.heap.size → wr.heap[j]? = w1.heap[j]? := fun j hj hn => hu.block j (by omega) (by omega)
      have d1 : wr.cell? ⟨w.heap.size + 1 + 38, k, none⟩ = some (ptrV (pbN (w.heap.size + 1) k)) := by rw [cell_of_block ((hblk _ (by omega) (by omega)).trans (HGET.out _ _ hc1))]; exact hc2
      have d2 : wr.cell? ⟨pbN (w.heap.size + 1) k, 0, none⟩ = some (.string ⟨(firstN.getD k []).toArray⟩) := by rw [cell_of_block ((hblk _ hpl (by omega)).trans hp1)]; rfl
      have d3 : wr.cell? ⟨M, 0, none⟩ = some (.pointer (some ⟨b, 0, none⟩)) := by rw [cell_eq_block (hu.block M (by omega) (by omega)), HB.out.cell (p := ⟨M, 0, none⟩) hMl]; exact m0
      have d4 : wr.cell? ⟨b, 2, none⟩ = some (.slice a2 C.ns.length cap2) := by rw [cell_eq_block (hu.block b (by omega) (by omega)), HB.out.cell (p := ⟨b, 2, none⟩) hbl]; exact b2
      have hrw : wr.ownsRow 0 9 1 (.slice a2 C.ns.length cap2) C.ns.length (C.ns.map strV) := by
        have h1 := ownsRow_of_upd HR.out (Upd.of_below (fun _ => False) HB.out) (fun _ _ h => h)
        refine ownsRow_of_upd h1 hu (fun j hj hx => ?_)
        have := (ownsRow_ge HR.out hj).2
        omega
      have HIX := hide (index_str (w := wr.drew) hrw (firstN.getD k []) hl)
      obtain ⟨P, hP⟩ : ∃ P, P = pbN (w.heap.size + 1) k := ⟨_, rfl⟩
      obtain ⟨x, hx⟩ : ∃ x, x = firstN.getD k [] := ⟨_, rfl⟩
      rw [← hP] at d1 d2 hpl hpg
      rw [← hx] at d2
      rw [← hx] at HIX
      unfold ptrV at d1
      have HX := hide hx
      have HP := hide hP
      have hwl : w.heap.size < wr.heap.size := by omega
      clear hc1 hc2 hp1 hblk hrw hx hP hu ho b2 m0
      have hns := (outerK_len C k).2
      cases hco : C.ns.contains x with
      | true =>
        have HI2 : Hid (Calls Tryz.prog 101 #[.slice a2 C.ns.length cap2, .string ⟨x.toArray⟩] wr.drew fun e w' => e = .returned (.int .i64 ((C.ns.idxOf x : Nat) : Int)) ∧ w' = wr.drew) := by
          have := HIX.out
          unfold sixN at this
          rw [hco, if_pos rfl] at this
          exact this
        have HOD : Hid (OutF (w.heap.size + 40) w.heap.size (moN K (w.heap.size + 1)) (outerK C k) wr.drew nv vv xs) := ⟨HO.out.hS, HO.out.nr, HO.out.vr, HO.out.vs, HO.out.out, HO.out.len⟩
        have HDF := hide (define_go (HOD.out.fr (by omega)) (fun _ _ _ => trivial) ((C.ns.idxOf x : Nat) : Int) 216 (.pointer (some ⟨P, 0, none⟩)) (by omega))
        have HNX : Hid (outerK C (k + 1) = (outerK C k).define (C.ns.idxOf x : Nat) (.proc (2 * k))) := by
          show outer1 C k (outerK C k) = _
          unfold outer1
          rw [← HX.out, hco, if_pos rfl]
        have hil : (C.ns.idxOf x) ≤ 1000000 := by have := List.idxOf_le_length (a := x) (l := C.ns); omega
        clear hco HIX hns
        go_wp2_with fail
        go_region_held3 (fun wx => wx.cell? ⟨M, 0, none⟩ = some (.pointer (some ⟨b, 0, none⟩)) ∧ wx.cell? ⟨b, 2, none⟩ = some (.slice a2 C.ns.length cap2) ∧ wx.cell? ⟨P, 0, none⟩ = some (.string ⟨x.toArray⟩)) (go_keep) (first | (go_at_call 101; refine HI2.out.mono ?_; rintro e w' ⟨rfl, rfl⟩))
        go_wp2_with fail
        refine HDF.out.mono ?_
        intro e w2 hp
        have he := hp.1
        subst he
        have HP2 := hide (HOD.out.define (by show _ ≤ wr.heap.size; omega) _ (.proc (2 * k)) _ (fun W => by have := moN_first K (w.heap.size + 1) k hlt W; rw [← HP.out] at this; exact this) _ hp)
        clear hp HDF
        go_wp2
        go_roundw
        case rel => exact ⟨k + 1, by omega, rfl, HU.out.drew.trans HP2.out.1 (fun j _ h => h), by rw [HNX.out]; exact HP2.out.2⟩
        case measure => simp [intOf]; omega
      | false =>
        have HI2 : Hid (Calls Tryz.prog 101 #[.slice a2 C.ns.length cap2, .string ⟨x.toArray⟩] wr.drew fun e w' => e = .returned (.int .i64 (-1)) ∧ w' = wr.drew) := by
          have := HIX.out
          unfold sixN at this
          rw [hco, if_neg (by decide)] at this
          exact this
        have HOD : Hid (OutF (w.heap.size + 40) w.heap.size (moN K (w.heap.size + 1)) (outerK C k) wr.drew nv vv xs) := ⟨HO.out.hS, HO.out.nr, HO.out.vr, HO.out.vs, HO.out.out, HO.out.len⟩
        have HNX : Hid (outerK C (k + 1) = outerK C k) := by
          show outer1 C k (outerK C k) = _
          unfold outer1
          rw [← HX.out, hco, if_neg (by decide)]
        clear hco HIX hns
        go_wp2_with fail
        go_region_held3 (fun wx => wx.cell? ⟨M, 0, none⟩ = some (.pointer (some ⟨b, 0, none⟩)) ∧ wx.cell? ⟨b, 2, none⟩ = some (.slice a2 C.ns.length cap2) ∧ wx.cell? ⟨P, 0, none⟩ = some (.string ⟨x.toArray⟩)) (go_keep) (first | (go_at_call 101; refine HI2.out.mono ?_; rintro e w' ⟨rfl, rfl⟩))
        go_wp2
        go_roundw
        case rel => exact ⟨k + 1, by omega, rfl, HU.out.drew, nv, vv, xs, by rw [HNX.out]; exact HOD.out⟩
        case measure => simp [intOf]; omega
    · have hke : k = 14 := by omega
      subst hke
      clear hu ho
      go_wp2
      go_ret
      exact ⟨rfl, by rw [← HW1.out]; exact HU.out, nv, vv, xs, HO.out⟩
end Go.Proofs.YtlobegpjenabaaaGreatDoor
