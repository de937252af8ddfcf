/- One step of the machine in memory, VIII: lambdas and what is to be done, applied. -/
import Derived.Test.YtlobegpjenabaaaGreatDoorL26
import Derived.Test.YtlobegpjenabaaaGreatDoorL27
import Derived.Test.YtlobegpjenabaaaGreatDoorL18
namespace Go.Proofs.YtlobegpjenabaaaGreatDoor
open Go.RowKit
set_option linter.unusedSimpArgs false
set_option linter.unusedVariables false

/-- The block of the values is another's from now on. -/
theorem RS.remark {B K : Nat} {w : World} {X : Nat → Prop} {ow mo mf : Nat → Option Nat} {M b : Nat} {C : Cd} {s : MS} {val app args out : Value} {top : Option Addr} {gf : Nat} (h : RS B K w X ow mo mf M b C s val app args out top gf) (happ : s.app = none) (ga : Option Nat) (i : Nat) (hga : ∀ k, ga = some k → ow k = some 0 ∧ ∃ c, w.heap[k]? = some (Obj.cells c 81 (0, 0))) (hMt : ∃ c, w.heap[M]? = some (Obj.cells c 119 (0, 0))) :
    RS B K w X (fun k => if ga = some k then some (i + 1) else ow k) mo mf M b C s val app args out top gf := by
  obtain ⟨cM, hMc⟩ := hMt
  have hne : ∀ k c T, T ≠ 81 → w.heap[k]? = some (Obj.cells c T (0, 0)) → ¬ ga = some k := fun k c T hT hk e => by
    obtain ⟨c', hc'⟩ := (hga k e).2
    exact ne_types hk hc' hT rfl
  refine ⟨h.code, h.val, h.fr, by rw [happ]; trivial, h.st, h.out.keep (fun b c hb hc => ⟨?_, hc⟩), fun j fr hj => ?_, h.obs, h.mlt, h.mdm, h.mcl, h.inj, h.mcd, h.fdm, fun k t ht => ?_, h.xty, ?_, h.tab, h.hB⟩
  · show (if ga = some b then _ else ow b) = _
    rw [if_neg (hne b c _ (by decide) hc)]; exact hb
  · obtain ⟨g, pn, nv, vv, op, xs, h1, h2⟩ := h.frs j fr hj
    refine ⟨g, pn, nv, vv, op, xs, h1, h2.keep (Keep.refl _) (Le.refl _) (Le.refl _) (fun b hb hw => ⟨?_, rfl⟩) (fun b hb hn => ⟨hn, rfl⟩)⟩
    show (if ga = some b then _ else ow b) = _
    rw [if_neg (fun e => by have := (hga b e).1; rw [hw] at this; cases this)]; exact hw
  · have ht : (if ga = some k then some (i + 1) else ow k) = some t := ht
    by_cases e : ga = some k
    · exact h.owx _ _ (hga k e).1
    · rw [if_neg e] at ht; exact h.owx _ _ ht
  · show (if ga = some M then _ else ow M) = _
    rw [if_neg (hne M cM _ (by decide) hMc)]; exact h.owM
/-- Where a row's own block is. -/
theorem Rw.blk {w : World} {T : TypeId} {own : Nat → Prop} {u : Value} {xs : List Value} (h : Rw w T own own u xs) : ∃ ga : Option Nat, (∀ k, ga = some k → own k ∧ ∃ c, w.heap[k]? = some (Obj.cells c T (0, 0))) ∧ Rw w T (fun k => ga = some k) (fun k => ga = some k) u xs := h.split2
theorem intsV_eq (ns : List Nat) : intsV ns = (ns.map Int.ofNat).map (Value.int .i64) := by
  unfold intsV; rw [List.map_map]; rfl
set_option maxHeartbeats 400000 in
theorem app_clo {B K : Nat} {w : World} {X : Nat → Prop} {ow mo mf : Nat → Option Nat} {M b : Nat} {C : Cd} {s : MS} {val app args out : Value} {top : Option Addr} {gf : Nat} (h : RS B K w X ow mo mf M b C s val app args out top gf) (hM : w.heap[M]? = some (Obj.cells (mcC b s.pc val (ptrV gf) app args (.pointer top) out 0 0 0 ⟨#[]⟩) 119 (0, 0))) (n : Int) (pid l f g : Nat) (z0 : ByteArray) (fv : Value) (a : List V) (cnt : Nat) (hap : s.app = some (.proc pid, a)) (happ : app = .iface 216 (.pointer (some ⟨g, 0, none⟩))) (hg : w.heap[g]? = some (Obj.cells #[.string z0, .int .i64 (cnt : Nat), fv] 220 (0, 0))) (hf : FnX w X mo mf M C (.clo l f) fv) (ha : a.length = cnt) (nm : List UInt8) (ns : List Nat) (e0 : Nat) (hls : C.ls[l]? = some (nm, ns, e0)) (hcn : cnt = ns.length) :
    Calls Tryz.prog 128 #[.pointer (some ⟨M, 0, none⟩), .int .i64 n] w (StepPost B K X ow w M b C (.ok { s with app := none, frs := s.frs ++ [⟨ns.map Int.ofNat, a, some f⟩], fr := s.frs.length, pc := e0 })) := by
  obtain ⟨k0, k1, k2, k3, k4, k5, k6, k7, k8, k9, k10, k11⟩ := mc_cell hM
  have hA := h.app
  rw [hap] at hA
  obtain ⟨hp, xs, hxs, hrw⟩ := hA
  rw [happ] at k4
  obtain ⟨nb, lb, ob, mb, gf0, z, nm', u, ns', e', rfl, hnb, hnX, hlb, hob, hmb, hmf, hl', hor, hnl⟩ := hf
  rw [hls] at hl'
  cases hl'
  obtain ⟨ua, ucap, rfl, hule, hum, _⟩ := ownsRow_slice hor.1
  obtain ⟨av, ac, rfl, _, _, _, _⟩ := hrw.at
  have hxl : xs.length = cnt := by rw [← hxs.length]; exact ha
  have g0 : w.cell? ⟨g, 0, none⟩ = some (.string z0) := by rw [cell_of_block hg]; rfl
  have g1 : w.cell? ⟨g, 1, none⟩ = some (.int .i64 (xs.length : Nat)) := by rw [cell_of_block hg, hxl]; rfl
  have g2 : w.cell? ⟨g, 2, none⟩ = some (.func (.func 192) #[] #[ptrV nb, ptrV lb, ptrV ob, ptrV mb]) := by rw [cell_of_block hg]; rfl
  have n0 : w.cell? ⟨nb, 0, none⟩ = some (.string z) := by rw [cell_of_block hnb]; rfl
  have l1 : w.cell? ⟨lb, 1, none⟩ = some (.slice ua ns.length ucap) := by rw [cell_of_block hlb]; rfl
  have l2 : w.cell? ⟨lb, 2, none⟩ = some (.int .i64 e0) := by rw [cell_of_block hlb]; rfl
  have o0 : w.cell? ⟨ob, 0, none⟩ = some (ptrV gf0) := by rw [cell_of_block hob]; rfl
  have m0 : w.cell? ⟨mb, 0, none⟩ = some (ptrV M) := by rw [cell_of_block hmb]; rfl
  refine (apply_ok_lambda w M g xs.length ac nb lb ob mb n z0 av (fun w' => w' = enterW w.drew.drew M gf0 z (.slice ua ns.length ns.length) (.slice av xs.length ac) e0) k4 k5 g0 g1 g2 (hide ((enter_raw w.drew.drew M nb lb ob mb gf0 z ⟨nm.toArray⟩ ua ns.length ucap e0 s.pc .nilIface _ (lt_of_some hM) k1 k3 (fun o => frozen_of_block hM o) n0 l1 l2 o0 m0 (ne_types hnb hM (by decide)) (ne_types hlb hM (by decide)) (ne_types hob hM (by decide)) (ne_types hmb hM (by decide)) (lt_of_some hmb) (lt_of_some hlb) (lt_of_some hnb) (lt_of_some hob) hule hum av xs.length ac).mono fun e w' hh => hh))).mono ?_
  rintro e w' ⟨rfl, rfl⟩
  -- the values are the frame's now
  have h2 := (h.drew.drew).regs { s with app := none } val app (.slice av xs.length ac) top gf rfl rfl rfl h.drew.drew.val h.fr trivial h.drew.drew.st
  obtain ⟨ga, hga, hrw2⟩ := hrw.blk
  have h3 := h2.remark rfl ga s.frs.length hga ⟨_, hM⟩
  have hgs : w.heap.size ≤ w.heap.size := Nat.le_refl _
  have hu : Upd (fun k => k = M) w.drew.drew (enterW w.drew.drew M gf0 z (.slice ua ns.length ns.length) (.slice av xs.length ac) e0) := ((((setM _ M 3 _).setCell ⟨M, 1, none⟩ _ (fun _ => rfl)).alloc _).drew)
  have hM' : (enterW w.drew.drew M gf0 z (.slice ua ns.length ns.length) (.slice av xs.length ac) e0).heap[M]? = some (Obj.cells (mcC b e0 val (ptrV w.heap.size) app (.slice av xs.length ac) (.pointer top) out 0 0 0 ⟨#[]⟩) 119 (0, 0)) := (heap_alloc_lt (heap_setCell_same (heap_setCell_same (show w.drew.drew.heap[M]? = _ from hM)))).trans rfl
  have hnew : (enterW w.drew.drew M gf0 z (.slice ua ns.length ns.length) (.slice av xs.length ac) e0).heap[w.heap.size]? = some (Obj.cells #[.string z, .slice ua ns.length ns.length, .slice av xs.length ac, .pointer (some ⟨gf0, 0, none⟩)] 176 (0, 0)) := by
    unfold enterW
    rw [heap_drew_at, heap_alloc_at, if_pos (by simp)]
  have hogs : ∀ k, w.heap.size ≤ k → (if ga = some k then some (s.frs.length + 1) else ow k) = none := fun k hk => by
    rw [if_neg (fun e => by obtain ⟨c, hc⟩ := (hga k e).2; have := lt_of_some hc; omega)]
    cases e : ow k with
    | none => rfl
    | some t => have := h.xlt k (h.owx _ _ e); omega
  have h4 := h3.ext' (show w.drew.drew.heap[M]? = _ from hM) hu hM' (X' := fun k => X k ∨ k = w.heap.size) (ow' := fun k => if k = w.heap.size then some (s.frs.length + 1) else if ga = some k then some (s.frs.length + 1) else ow k) (fun k hk => .inl hk) (fun k hk hx => hx.elim id (fun e => by have : k < w.heap.size := hk; omega)) (fun k hk => if_neg (by have : k < w.heap.size := hk; omega)) (fun k t ht => by
      have ht : (if k = w.heap.size then some (s.frs.length + 1) else if ga = some k then some (s.frs.length + 1) else ow k) = some t := ht
      by_cases e : k = w.heap.size
      · exact .inr e
      · rw [if_neg e] at ht; exact .inl (h3.owx _ _ ht)) (fun k hx hk => by
      rcases hx with hx | hx
      · have := h.xlt k hx; have hk : w.heap.size ≤ k := hk; omega
      · subst hx; exact ⟨_, _, hnew, by decide⟩)
  have hfl : f < s.frs.length := h.fdm _ _ hmf
  have hmn : mf s.frs.length = none := by
    cases e : mf s.frs.length with
    | none => rfl
    | some g' => exact absurd (h.fdm _ _ e) (by omega)
  have hmfl := upd1_le mf s.frs.length w.heap.size hmn
  have kv : ∀ T, T ≠ 119 → Keep T w (enterW w.drew.drew M gf0 z (.slice ua ns.length ns.length) (.slice av xs.length ac) e0) := fun T hT => (show Keep T w w.drew.drew from fun _ _ hx => hx).trans (Go.Proofs.YtlobegpjenabaaaGreatDoor.keepM (show w.drew.drew.heap[M]? = _ from hM) hu hT)
  have h5 := h4.frame w.heap.size ⟨ns.map Int.ofNat, a, some f⟩ z (.slice ua ns.length ns.length) (.slice av xs.length ac) (some ⟨gf0, 0, none⟩) xs ⟨if_pos rfl, hnew, ?_, ?_, VXs.keep (kv _ (by decide)) (Le.refl _) _ _ hxs, ⟨hfl, gf0, hmfl _ _ hmf, rfl⟩, by simp [ha, hcn], by simpa using hnl⟩
  · refine ⟨rfl, _, _, ⟨_, _, _, _, _, _, _, _, hM', h5.regs { s with app := none, frs := s.frs ++ [⟨ns.map Int.ofNat, a, some f⟩], fr := s.frs.length, pc := e0 } val app (.slice av xs.length ac) top w.heap.size rfl rfl rfl h5.val (upd1_at _ _ _) trivial h5.st⟩, ?_⟩
    refine (Gw.drew.trans Gw.drew).trans ⟨hu.mono (fun k e => by subst e; rw [h.owM]; simp), fun k hk hx _ => .inl hx, fun k hk hx => hx.elim id (fun e => by have : k < w.heap.size := hk; omega), fun k hk ho => ?_⟩
    show (if k = w.heap.size then some (s.frs.length + 1) else if ga = some k then some (s.frs.length + 1) else ow k) = none
    rw [if_neg (by have : k < w.heap.size := hk; omega), if_neg (fun e => by have := (hga k e).1; rw [ho] at this; cases this)]; exact ho
  · -- the names
    have hor1 := hor.1
    obtain ⟨hlen, hown⟩ := hor1
    rcases hown with ⟨he, h0⟩ | ⟨gu, cap', cu, he, _, hgu, h1', h2', h3', h4'⟩
    · have hns : ns = [] := List.eq_nil_of_length_eq_zero h0
      subst hns
      injection he with he1 _ _
      subst he1
      exact .inl ⟨rfl, rfl⟩
    · cases he
      rw [Nat.mul_one] at h4'
      refine .inr ⟨gu, 0, ns.length, cu, by simp, by simp, by have := h2'; omega, kv _ (by decide) _ _ hgu, ?_, .inr ⟨?_, by simp⟩⟩
      · rw [List.drop_zero, ← intsV_eq, show (intsV ns).length = ns.length by simp [intsV]]; exact h4'
      · rintro (hx | hx)
        · exact hor.2 gu rfl hx
        · subst hx; exact absurd (lt_of_some hgu) (by omega)
  · exact hrw2.imp (fun k c hk hc => ⟨by show (if k = w.heap.size then _ else if ga = some k then _ else ow k) = _; rw [if_pos hk]; split <;> rfl, kv _ (by decide) _ _ hc⟩) (fun k c hk hc => ⟨by show (if k = w.heap.size then _ else if ga = some k then _ else ow k) = _; rw [if_pos hk]; split <;> rfl, kv _ (by decide) _ _ hc⟩)
theorem app_kont {B K : Nat} {w : World} {X : Nat → Prop} {ow mo mf : Nat → Option Nat} {M b : Nat} {C : Cd} {s : MS} {val app args out : Value} {top : Option Addr} {gf : Nat} (h : RS B K w X ow mo mf M b C s val app args out top gf) (hM : w.heap[M]? = some (Obj.cells (mcC b s.pc val (ptrV gf) app args (.pointer top) out 0 0 0 ⟨#[]⟩) 119 (0, 0))) (n : Int) (pid g : Nat) (st : List En) (z0 : ByteArray) (fv : Value) (a : List V) (hap : s.app = some (.proc pid, a)) (happ : app = .iface 216 (.pointer (some ⟨g, 0, none⟩))) (hg : w.heap[g]? = some (Obj.cells #[.string z0, .int .i64 (1 : Nat), fv] 220 (0, 0))) (hf : FnX w X mo mf M C (.kont st) fv) (v : V) (ha : a = [v]) (hn : giveS { s with app := none, st := st } v ≠ .bad) :
    Calls Tryz.prog 128 #[.pointer (some ⟨M, 0, none⟩), .int .i64 n] w (StepPost B K X ow w M b C (giveS { s with app := none, st := st } v)) := by
  obtain ⟨k0, k1, k2, k3, k4, k5, k6, k7, k8, k9, k10, k11⟩ := mc_cell hM
  have hA := h.app
  rw [hap, ha] at hA
  obtain ⟨hp, xs, hxs, hrw⟩ := hA
  rw [happ] at k4
  obtain ⟨tb, mb, top2, rfl, htb, hmb, hst⟩ := hf
  match xs, hxs with
  | [x1], hxs =>
    obtain ⟨gv, off, cap, c, rfl, hgv, c0⟩ := rw_one hrw
    have ngv : gv ≠ M := ne_types hgv hM (by decide)
    obtain ⟨t, y, rfl⟩ := hxs.1.form
    have g0 : w.cell? ⟨g, 0, none⟩ = some (.string z0) := by rw [cell_of_block hg]; rfl
    have g1 : w.cell? ⟨g, 1, none⟩ = some (.int .i64 (1 : Nat)) := by rw [cell_of_block hg]; rfl
    have g2 : w.cell? ⟨g, 2, none⟩ = some (.func (.func 231) #[] #[ptrV tb, ptrV mb]) := by rw [cell_of_block hg]; rfl
    have t0 : w.cell? ⟨tb, 0, none⟩ = some (.pointer top2) := by rw [cell_of_block htb]; rfl
    have m0 : w.cell? ⟨mb, 0, none⟩ = some (ptrV M) := by rw [cell_of_block hmb]; rfl
    cases st with
    | nil => exact absurd rfl hn
    | cons en r =>
      have hst0 := hst
      obtain ⟨E, q, gf0, got, rfl, hE, hf0, _, _, _, _⟩ := hst
      refine (apply_ok_toBeDone w M g 1 cap tb mb 0 0 n z0 _ (fun w' => w' = ((((w.drew.drew.setCell ⟨M, 6, none⟩ (.pointer (some ⟨E, 0, none⟩))).setCell ⟨M, 2, none⟩ (.iface t y)).setCell ⟨M, 1, none⟩ (.int .i64 en.nx)).setCell ⟨M, 3, none⟩ (.pointer (some ⟨gf0, 0, none⟩))).drew.drew) k4 k5 g0 g1 g2 (hide ((takeUp_raw w.drew.drew M E gf0 tb mb gv off 1 cap en.nx s.pc t y _ _ _ (ne_types hE hM (by decide)) k6 k1 k2 k3 (fun o => frozen_of_block hM o) (by show w.cell? _ = _; rw [cell_of_block hE]; rfl) (by show w.cell? _ = _; rw [cell_of_block hE]; rfl) t0 m0 (ne_types hmb hM (by decide)) ngv (by omega) (by omega) c0).mono fun e w' hh => hh))).mono ?_
      rintro e w' ⟨rfl, rfl⟩
      have hM2 : w.drew.drew.heap[M]? = some (Obj.cells (mcC b s.pc val (ptrV gf) app (.slice (some ⟨gv, off, none⟩) 1 cap) (.pointer top) out 0 0 0 ⟨#[]⟩) 119 (0, 0)) := hM
      have hu1 := setM w.drew.drew M 6 (.pointer (some ⟨E, 0, none⟩))
      have hM3 : (w.drew.drew.setCell ⟨M, 6, none⟩ (.pointer (some ⟨E, 0, none⟩))).heap[M]? = some (Obj.cells (mcC b s.pc val (ptrV gf) app (.slice (some ⟨gv, off, none⟩) 1 cap) (.pointer (some ⟨E, 0, none⟩)) out 0 0 0 ⟨#[]⟩) 119 (0, 0)) := (heap_setCell_same hM2).trans rfl
      have h2 := h.drew.drew.ext hM2 hu1 hM3
      have h3 := (h2.regs { s with app := none, st := en :: r } val app (.slice (some ⟨gv, off, none⟩) 1 cap) (some ⟨E, 0, none⟩) gf rfl rfl rfl h2.val h2.fr trivial ((StX.keep (show Keep _ w w.drew.drew from fun _ _ hx => hx) (fun _ _ hx => hx) (fun _ _ hx => hx) (Le.refl _) (Le.refl _) hst0).keepM hM2 hu1)).drew
      obtain ⟨X', ow', hMR, hGw⟩ := h3.given hM3 en r rfl gf0 hf0 v t y (VX.keep ((show Keep _ w w.drew.drew from fun _ _ hx => hx).trans (Go.Proofs.YtlobegpjenabaaaGreatDoor.keepM hM2 hu1.drew (by decide))) (Le.refl _) _ _ hxs.1)
      exact ⟨rfl, X', ow', hMR, (((Gw.drew.trans Gw.drew).trans (h.drew.drew.gw hu1)).trans Gw.drew).trans hGw⟩
end Go.Proofs.YtlobegpjenabaaaGreatDoor

/- One step of the machine in memory, IX: call/cc, and applying whatever there is. -/
namespace Go.Proofs.YtlobegpjenabaaaGreatDoor
open Go.RowKit
set_option linter.unusedSimpArgs false
set_option linter.unusedVariables false

theorem app_callcc {B K : Nat} {w : World} {X : Nat → Prop} {ow mo mf : Nat → Option Nat} {M b : Nat} {C : Cd} {s : MS} {val app args out : Value} {top : Option Addr} {gf : Nat} (h : RS B K w X ow mo mf M b C s val app args out top gf) (hM : w.heap[M]? = some (Obj.cells (mcC b s.pc val (ptrV gf) app args (.pointer top) out 0 0 0 ⟨#[]⟩) 119 (0, 0))) (n : Int) (pid g : Nat) (z0 : ByteArray) (a : List V) (hap : s.app = some (.proc pid, a)) (happ : app = .iface 216 (.pointer (some ⟨g, 0, none⟩))) (hg : w.heap[g]? = some (Obj.cells #[.string z0, .int .i64 (1 : Nat), .func (.func 176) #[ptrV M] #[]] 220 (0, 0))) (ha : a.length = 1) (hpc : 0 < s.pc ∧ s.pc < 10000000) :
    Calls Tryz.prog 128 #[.pointer (some ⟨M, 0, none⟩), .int .i64 n] w (StepPost B K X ow w M b C (firstS C { s with app := none } 13 a)) := by
  obtain ⟨k0, k1, k2, k3, k4, k5, k6, k7, k8, k9, k10, k11⟩ := mc_cell hM
  have hA := h.app
  rw [hap] at hA
  obtain ⟨hp, xs, hxs, hrw⟩ := hA
  rw [happ] at k4
  obtain ⟨a1, x1, rfl, rfl, hx1⟩ := vxs_one hxs ha
  obtain ⟨gv, off, cap, c, rfl, hgv, c0⟩ := rw_one hrw
  have ngv : gv ≠ M := ne_types hgv hM (by decide)
  obtain ⟨t, y, rfl⟩ := hx1.form
  have g0 : w.cell? ⟨g, 0, none⟩ = some (.string z0) := by rw [cell_of_block hg]; rfl
  have g1 : w.cell? ⟨g, 1, none⟩ = some (.int .i64 (1 : Nat)) := by rw [cell_of_block hg]; rfl
  have g2 : w.cell? ⟨g, 2, none⟩ = some (.func (.func 176) #[ptrV M] #[]) := by rw [cell_of_block hg]; rfl
  refine (apply_ok_callCC w M g 1 cap 0 0 0 0 n z0 _ (fun w' => w' = ccW (tbdW w.drew.drew.drew M top) M t y (w.heap.size + 2) (s.pc - 1)) k4 k5 g0 g1 g2 (hide ((callCC_raw w.drew.drew M gv off cap t y _ _ s.pc top (lt_of_some hM) hpc k1 k4 k5 k6 (fun o => frozen_of_block hM o) ngv (lt_of_some hgv) c0).mono fun e w' hh => hh))).mono ?_
  rintro e w' ⟨rfl, rfl⟩
  have hb1 : Below w.heap.size w (tbdW w.drew.drew.drew M top) := ((((Below.refl _ w).drew).drew).drew).trans (tbdW_below w.drew.drew.drew M top)
  obtain ⟨w1, hw1⟩ : ∃ w1, w1 = tbdW w.drew.drew.drew M top := ⟨_, rfl⟩
  have e0 : w1.heap[w.heap.size]? = some (Obj.cells #[.pointer (some ⟨M, 0, none⟩)] 73 (0, 0)) := by
    rw [hw1]; unfold tbdW; simp only [heap_alloc_at]
    rw [if_neg (by simp; omega), if_neg (by simp), if_pos (show w.heap.size = w.drew.drew.drew.heap.size from rfl)]
  have e1 : w1.heap[w.heap.size + 1]? = some (Obj.cells #[.pointer top] 111 (0, 0)) := by
    rw [hw1]; unfold tbdW; simp only [heap_alloc_at]
    rw [if_neg (by simp), if_pos (by simp)]
  have e2 : w1.heap[w.heap.size + 2]? = some (Obj.cells #[.string ⟨#[119, 104, 97, 116, 32, 99, 97, 108, 108, 47, 99, 99, 32, 103, 97, 118, 101]⟩, .int .i64 1, .func (.func 231) #[] #[.pointer (some ⟨w.heap.size + 1, 0, none⟩), .pointer (some ⟨w.heap.size, 0, none⟩)]] 220 (0, 0)) := by
    rw [hw1]; unfold tbdW; simp only [heap_alloc_at]
    rw [if_pos (by simp)]; rfl
  rw [← hw1] at hb1
  rw [← hw1]
  have hs1 : w1.heap.size = w.heap.size + 3 := by rw [hw1]; unfold tbdW; simp
  clear hw1
  -- the new procedure
  have h1 := h.below hM hb1
  have hMw1 : w1.heap[M]? = some (Obj.cells (mcC b s.pc val (ptrV gf) app (.slice (some ⟨gv, off, none⟩) 1 cap) (.pointer top) out 0 0 0 ⟨#[]⟩) 119 (0, 0)) := by rw [hb1.block M (lt_of_some hM)]; exact hM
  have h2 := h1.obj (w.heap.size + 2) (lt_of_some e2) (fun i hi => by have := h.mlt i _ hi; omega) ⟨_, _, e2, by decide⟩ (some (.kont s.st)) (fun p hp => by
    cases hp
    exact ⟨w.heap.size + 2, _, _, upd1_at _ _ _, e2, w.heap.size + 1, w.heap.size, top, rfl, e1, e0, (StX.keep (Keep.refl _) (Keep.refl _) (Keep.refl _) (upd1_le _ _ _ (by
      cases e : mo (2 * s.obs.length) with
      | none => rfl
      | some g' => exact absurd (h.mdm _ _ e) (by omega))) (Le.refl _) h1.st)⟩)
  have hMl := lt_of_some hMw1
  have hu : Upd (fun k => k = M) w1 (ccW w1 M t y (w.heap.size + 2) (s.pc - 1)) := (((setM w1 M 4 _).setCell ⟨M, 5, none⟩ _ (fun _ => rfl)).setCell ⟨M, 1, none⟩ _ (fun _ => rfl)).alloc _
  have hM' : (ccW w1 M t y (w.heap.size + 2) (s.pc - 1)).heap[M]? = some (Obj.cells (mcC b (s.pc - 1) val (ptrV gf) (.iface t y) (.slice (some ⟨w1.heap.size, 0, none⟩) 1 1) (.pointer top) out 0 0 0 ⟨#[]⟩) 119 (0, 0)) := (heap_alloc_lt (heap_setCell_same (heap_setCell_same (heap_setCell_same hMw1)))).trans rfl
  have hnew : (ccW w1 M t y (w.heap.size + 2) (s.pc - 1)).heap[w1.heap.size]? = some (Obj.cells #[.iface 216 (.pointer (some ⟨w.heap.size + 2, 0, none⟩))] 81 (0, 0)) := by
    unfold ccW
    rw [heap_alloc_at, if_pos (by simp)]
  have h3 := h2.ext' hMw1 hu hM' (X' := fun k => X k ∨ k = w1.heap.size) (ow' := fun k => if k = w1.heap.size then some 0 else ow k) (fun k hk => .inl hk) (fun k hk hx => hx.elim id (fun e => by omega)) (fun k hk => if_neg (by omega)) (fun k t ht => by
      have ht : (if k = w1.heap.size then some 0 else ow k) = some t := ht
      by_cases e : k = w1.heap.size
      · exact .inr e
      · rw [if_neg e] at ht; exact .inl (h.owx _ _ ht)) (fun k hx hk => by
      rcases hx with hx | hx
      · have := h1.xlt k hx; omega
      · subst hx; exact ⟨_, _, hnew, by decide⟩)
  have kk : Keep 205 w (ccW w1 M t y (w.heap.size + 2) (s.pc - 1)) := (Keep.of_below hb1).trans (Go.Proofs.YtlobegpjenabaaaGreatDoor.keepM hMw1 hu (by decide))
  have hle := upd1_le mo (2 * s.obs.length) (w.heap.size + 2) (by
      cases e : mo (2 * s.obs.length) with
      | none => rfl
      | some g' => exact absurd (h.mdm _ _ e) (by omega))
  refine ⟨rfl, _, _, ⟨_, _, _, _, _, _, _, _, hM', h3.regs { s with app := some (a1, [.proc (2 * s.obs.length)]), obs := s.obs ++ [some (.kont s.st)], pc := s.pc - 1 } val (.iface t y) (.slice (some ⟨w1.heap.size, 0, none⟩) 1 1) top gf rfl rfl rfl h3.val h3.fr ⟨VX.keep kk hle _ _ hx1, [_], ⟨⟨by omega, w.heap.size + 2, upd1_at _ _ _, rfl⟩, trivial⟩, .inr ⟨w1.heap.size, 0, 1, _, rfl, Nat.le_refl _, by unfold maxLen; omega, hnew, rfl, .inl ⟨if_pos rfl, rfl, rfl⟩⟩⟩ h3.st⟩, ?_⟩
  refine Gw.trans (w1 := w1) (X1 := X) (ow1 := ow) ⟨Upd.of_below _ hb1, fun _ _ h _ => h, fun _ _ h => h, fun _ _ h => h⟩ ⟨hu.mono (fun k e => by subst e; rw [h.owM]; simp), fun k hk hx _ => .inl hx, fun k hk hx => hx.elim id (fun e => by omega), fun k hk ho => ?_⟩
  show (if k = w1.heap.size then some 0 else ow k) = none
  rw [if_neg (by omega)]; exact ho
end Go.Proofs.YtlobegpjenabaaaGreatDoor

/- One step of the machine in memory, X: whatever is applied; halt. -/
namespace Go.Proofs.YtlobegpjenabaaaGreatDoor
open Go.RowKit
set_option linter.unusedSimpArgs false
set_option linter.unusedVariables false

/-- What display comes to, when it is applied. -/
def DispC : Prop := ∀ (B K : Nat) (w : World) (X : Nat → Prop) (ow mo mf : Nat → Option Nat) (M b : Nat) (C : Cd) (s : MS) (val app args out : Value) (top : Option Addr) (gf : Nat) (n : Int) (pid g : Nat) (z0 : ByteArray) (a : List V), RS B K w X ow mo mf M b C s val app args out top gf →
  w.heap[M]? = some (Obj.cells (mcC b s.pc val (ptrV gf) app args (.pointer top) out 0 0 0 ⟨#[]⟩) 119 (0, 0)) → s.app = some (.proc pid, a) → app = .iface 216 (.pointer (some ⟨g, 0, none⟩)) → w.heap[g]? = some (Obj.cells #[.string z0, .int .i64 (1 : Nat), .func (.func 175) #[ptrV M] #[]] 220 (0, 0)) → a.length = 1 → firstS C { s with app := none } 12 a ≠ .bad →
  Calls Tryz.prog 128 #[.pointer (some ⟨M, 0, none⟩), .int .i64 n] w (StepPost B K X ow w M b C (firstS C { s with app := none } 12 a))
theorem wantS_do (C : Cd) (s : MS) (a : List V) (k : PK) (hk : doS C s a k ≠ .bad) (hl : a.length ≠ wantS C k) : doS C s a k = errS s 7 := by
  cases k with
  | first k =>
    have hl : a.length ≠ needS k := hl
    simp only [doS, if_neg hl]
  | clo l f =>
    simp only [doS] at hk ⊢
    cases hc : C.ls[l]? with
    | none => rw [hc] at hk; exact absurd rfl hk
    | some t =>
      obtain ⟨nm, ns, e⟩ := t
      have hl : a.length ≠ ns.length := by simpa [wantS, hc] using hl
      simp only [if_neg hl]
  | kont st =>
    have hl : a.length ≠ 1 := hl
    match a, hl with
    | [], _ => rfl
    | [x], h => exact absurd rfl h
    | x :: y :: r, _ => rfl
theorem apply_step (hD : DispC) {B K : Nat} {w : World} {X : Nat → Prop} {ow mo mf : Nat → Option Nat} {M b : Nat} {C : Cd} {s : MS} {val app args out : Value} {top : Option Addr} {gf : Nat} (h : RS B K w X ow mo mf M b C s val app args out top gf) (hM : w.heap[M]? = some (Obj.cells (mcC b s.pc val (ptrV gf) app args (.pointer top) out 0 0 0 ⟨#[]⟩) 119 (0, 0))) (n : Int) (hpc : 0 < s.pc ∧ s.pc < 10000000) (hn : opS C s 12 n ≠ .bad) : Calls Tryz.prog 128 #[.pointer (some ⟨M, 0, none⟩), .int .i64 n] w (StepPost B K X ow w M b C (opS C s 12 n)) := by
  obtain ⟨k0, k1, k2, k3, k4, k5, k6, k7, k8, k9, k10, k11⟩ := mc_cell hM
  have hA := h.app
  simp only [opS, applyS] at hn ⊢
  cases hap : s.app with
  | none => rw [hap] at hn; exact absurd rfl hn
  | some pa =>
    obtain ⟨p, a⟩ := pa
    rw [hap] at hn hA
    obtain ⟨hp, xs, hxs, hrw⟩ := hA
    by_cases hpr : ∃ i, p = .proc i
    · obtain ⟨pid, rfl⟩ := hpr
      simp only [] at hn ⊢
      obtain ⟨h2, g, hmo, happ⟩ := hp
      cases hk : procS? s pid with
      | none => rw [hk] at hn; exact absurd rfl hn
      | some k =>
        rw [hk] at hn
        simp only [] at hn ⊢
        have hob : s.obs[pid / 2]? = some (some k) := by
          unfold procS? at hk
          rw [if_pos h2] at hk
          revert hk
          cases s.obs[pid / 2]? with
          | none => intro hk; cases hk
          | some o =>
            cases o with
            | none => intro hk; cases hk
            | some k' => intro hk; cases hk; rfl
        obtain ⟨g', z, fv, hg', hgb, hfn⟩ := h.obs _ _ hob
        rw [show 2 * (pid / 2) = pid by omega, hmo] at hg'
        cases hg'
        have g0 : w.cell? ⟨g, 0, none⟩ = some (.string z) := by rw [cell_of_block hgb]; rfl
        have g1 : w.cell? ⟨g, 1, none⟩ = some (.int .i64 (wantS C k : Nat)) := by rw [cell_of_block hgb]; rfl
        by_cases hl : a.length = wantS C k
        · cases k with
          | first k =>
            have hl' : a.length = needS k := hl
            simp only [doS, if_pos hl'] at hn ⊢
            rcases hfn with ⟨rfl, rfl⟩ | ⟨rfl, rfl⟩ | ⟨hk12, mb, fb, T, hT, rfl, hmb, hfb⟩
            · exact hD B K w X ow mo mf M b C s val app args out top gf n pid g z a h hM hap happ hgb hl' hn
            · exact app_callcc h hM n pid g z a hap happ hgb hl' hpc
            · match k, hk12, hl', hn, hgb, hfb with
              | 0, _, hl', hn, hgb, hfb => exact app_plus h hM n pid g mb fb z T hT a hap happ hgb hmb hfb hl' hn
              | 1, _, hl', hn, hgb, hfb => exact app_minus h hM n pid g mb fb z T hT a hap happ hgb hmb hfb hl' hn
              | 2, _, hl', hn, hgb, hfb => exact app_times h hM n pid g mb fb z T hT a hap happ hgb hmb hfb hl' hn
              | 3, _, hl', hn, hgb, hfb => exact app_less h hM n pid g mb fb z T hT a hap happ hgb hmb hfb hl' hn
              | 4, _, hl', hn, hgb, hfb => exact app_equal h hM n pid g mb fb z T hT a hap happ hgb hmb hfb hl' hn
              | 5, _, hl', hn, hgb, hfb => exact app_cons h hM n pid g mb fb z T hT a hap happ hgb hmb hfb hl' hn
              | 6, _, hl', hn, hgb, hfb => exact app_car h hM n pid g mb fb z T hT a hap happ hgb hmb hfb hl' hn
              | 7, _, hl', hn, hgb, hfb => exact app_cdr h hM n pid g mb fb z T hT a hap happ hgb hmb hfb hl' hn
              | 8, _, hl', hn, hgb, hfb => exact app_isEmpty h hM n pid g mb fb z T hT a hap happ hgb hmb hfb hl' hn
              | 9, _, hl', hn, hgb, hfb => exact app_isPair h hM n pid g mb fb z T hT a hap happ hgb hmb hfb hl' hn
              | 10, _, hl', hn, hgb, hfb => exact app_not h hM n pid g mb fb z T hT a hap happ hgb hmb hfb hl' hn
              | 11, _, hl', hn, hgb, hfb => exact app_same h hM n pid g mb fb z T hT a hap happ hgb hmb hfb hl' hn
              | k + 12, hk, _, _, _, _ => exact absurd hk (by omega)
          | clo l f =>
            simp only [doS] at hn ⊢
            cases hc : C.ls[l]? with
            | none => rw [hc] at hn; exact absurd rfl hn
            | some t =>
              obtain ⟨nm, ns, e⟩ := t
              have hw : wantS C (.clo l f) = ns.length := by simp [wantS, hc]
              simp only [if_pos (hl.trans hw)]
              exact app_clo h hM n pid l f g z fv a _ hap happ hgb hfn hl nm ns e hc hw
          | kont st =>
            have hl' : a.length = 1 := hl
            obtain ⟨v, rfl⟩ : ∃ v, a = [v] := by
              match a, hl' with
              | [v], _ => exact ⟨v, rfl⟩
            exact app_kont h hM n pid g st z fv [v] hap happ hgb hfn v rfl hn
        · have he := wantS_do C _ a k hn hl
          rw [he] at hn ⊢
          obtain ⟨av, ac, rfl, _, _, _, _⟩ := hrw.at
          rw [happ] at k4
          refine (apply_count w M g (wantS C k) xs.length ac n z av k4 k5 g0 g1 (by rw [← hxs.length]; exact hl)).mono ?_
          rintro e w' ⟨rfl, rfl⟩
          exact inside_step h hM 7 z _ ⟨1, rfl⟩ hn
    · have hnp : ∀ i, p ≠ .proc i := fun i e => hpr ⟨i, e⟩
      obtain ⟨t, x, rfl⟩ := hp.form
      have key : errS s 6 ≠ .bad → Calls Tryz.prog 128 #[.pointer (some ⟨M, 0, none⟩), .int .i64 n] w (StepPost B K X ow w M b C (errS s 6)) := fun hn => by
        refine (apply_none w M n t x k4 (noProc hp hnp)).mono ?_
        rintro e w' ⟨rfl, hw⟩
        exact err_step h hM 6 _ 0 (by omega) rfl w' hw hn
      cases p with
      | proc i => exact absurd rfl (hnp i)
      | int k => exact key hn
      | bool k => exact key hn
      | sym k => exact key hn
      | empty => exact key hn
      | nothing => exact key hn
      | pair i u v => exact key hn
end Go.Proofs.YtlobegpjenabaaaGreatDoor

/- Told, of nothing at all (a program without forms). -/
namespace Go.Proofs.YtlobegpjenabaaaGreatDoor
open Go.RowKit
set_option linter.unusedSimpArgs false
set_option linter.unusedVariables false

theorem nil_Int (w : World) : (Instr.typeAssert .nilIface 81 130 true).run Tryz.prog w = .ok (.tuple #[.int .i64 0, .bool false]) w := by kernel_rfl
theorem nil_Bool (w : World) : (Instr.typeAssert .nilIface 81 131 true).run Tryz.prog w = .ok (.tuple #[.bool false, .bool false]) w := by kernel_rfl
theorem nil_Sym (w : World) : (Instr.typeAssert .nilIface 81 134 true).run Tryz.prog w = .ok (.tuple #[.string ⟨#[]⟩, .bool false]) w := by kernel_rfl
theorem nil_Empty (w : World) : (Instr.typeAssert .nilIface 81 207 true).run Tryz.prog w = .ok (.tuple #[.agg #[], .bool false]) w := by kernel_rfl
theorem nil_Nothing (w : World) : (Instr.typeAssert .nilIface 81 259 true).run Tryz.prog w = .ok (.tuple #[.agg #[], .bool false]) w := by kernel_rfl
theorem nil_Pair (w : World) : (Instr.typeAssert .nilIface 81 136 true).run Tryz.prog w = .ok (.tuple #[.pointer none, .bool false]) w := by kernel_rfl
theorem nil_Proc (w : World) : (Instr.typeAssert .nilIface 81 216 true).run Tryz.prog w = .ok (.tuple #[.pointer none, .bool false]) w := by kernel_rfl
def TellNil (w : World) (B T : Nat) (e : Ending) (w' : World) : Prop := e = .returned (.tuple #[]) ∧ Tl w' B T [] ∧ Below w.heap.size w w'
set_option maxHeartbeats 1000000 in
theorem tell_nil (w : World) (B T : Nat) (h : Tl w B T []) :
    Calls Tryz.prog 220 #[.pointer (some ⟨T, 0, none⟩), .nilIface] w (TellNil w B T) := by
  have HF := hide (full_go h (by simp))
  have HH := hide (fun (W : World) (hb : Below w.heap.size w W) => h.below hb)
  have h0 := nil_Int
  have h1 := nil_Bool
  have h2 := nil_Sym
  have h3 := nil_Empty
  have h4 := nil_Nothing
  have h5 := nil_Pair
  have h6 := nil_Proc
  rw [decide_eq_false (by simp)] at HF
  clear h
  go_enter Tryz.func220, Tryz.ntmps220
  go_wp2_with fail
  refine HF.out.mono ?_
  rintro e w' ⟨rfl, hw⟩
  obtain rfl : w = w' := hw.symm
  go_wp2
  refine bodyPost_ret (results_none rfl _ _ _) rfl ?_
  first | exact ⟨rfl, HH.out _ (Below.refl _ _), Below.refl _ _⟩ | exact ⟨rfl, HH.out _ ((Below.refl _ _).alloc (Nat.le_refl _) _), (Below.refl _ _).alloc (Nat.le_refl _) _⟩
def ToldNil (w : World) (e : Ending) (w' : World) : Prop := e = .returned (.string ⟨#[]⟩) ∧ Below w.heap.size w w'
set_option maxRecDepth 100000 in
set_option maxHeartbeats 2000000 in
theorem told_nil (w : World) : Calls Tryz.prog 198 #[.nilIface] w (ToldNil w) := by
  obtain ⟨W0, hW0⟩ : ∃ W0, W0 = w.alloc (.cells #[.slice none 0 0] 335) := ⟨_, rfl⟩
  have hb0 : Below w.heap.size w W0 := by rw [hW0]; exact (Below.refl _ _).alloc (Nat.le_refl _) _
  have hT0 : Tl W0 w.heap.size w.heap.size [] := ⟨Nat.le_refl _, .slice none 0 0, by rw [hW0]; exact Array.getElem?_push_size, World.ownsRow_nil _ _ _ _⟩
  have HT := hide (tell_nil W0 w.heap.size w.heap.size hT0)
  have HB0 := hide hb0
  clear hT0 hb0
  go_enter Tryz.func198, Tryz.ntmps198
  go_wp2_with fail
  rw [← hW0]
  clear hW0
  refine HT.out.mono ?_
  rintro e w2 ⟨rfl, ht2, hb2⟩
  have HB2 := hide (HB0.out.trans (hb2.mono HB0.out.size))
  obtain ⟨hB, u, hS, hr⟩ := ht2
  have HR := hide hr
  obtain ⟨a, cap, rfl, hc1, hc2, hat⟩ := ownsRow_slice hr
  unfold maxLen at hc2
  have c0 := cell_of_block hS 0
  simp only [List.getElem?_toArray, List.getElem?_cons_zero, List.length_nil] at c0
  have hcv : (convert 72 9 (.slice a (min (0 : Int) 100).toNat cap)).run Tryz.prog w2 = .ok (.string ⟨#[]⟩) w2 := conv_row HR.out
  simp only [List.length_nil] at hc1
  clear hb2 HT hS hr hat
  go_wp2
  go_ret
  exact ⟨rfl, HB2.out⟩
end Go.Proofs.YtlobegpjenabaaaGreatDoor

/- One step of the machine in memory, XI: halt. -/
namespace Go.Proofs.YtlobegpjenabaaaGreatDoor
open Go.RowKit
set_option linter.unusedSimpArgs false
set_option linter.unusedVariables false

theorem Tab.mono {B B' : Nat} {w : World} (h : Tab B w) (hb : B ≤ B') : Tab B' w := fun w'' h'' => h w'' (h''.mono hb)
/-- A machine that stops. -/
theorem RS.stops {B K : Nat} {w : World} {X : Nat → Prop} {ow mo mf : Nat → Option Nat} {M b : Nat} {C : Cd} {s : MS} {val app args out : Value} {top : Option Addr} {gf : Nat} (h : RS B K w X ow mo mf M b C s val app args out top gf) (hM : w.heap[M]? = some (Obj.cells (mcC b s.pc val (ptrV gf) app args (.pointer top) out 0 0 0 ⟨#[]⟩) 119 (0, 0))) {w1 : World} (hb : Below w.heap.size w w1) (st er de : Int) (t : List UInt8) : ME B (stopW w1 M st er de ⟨t.toArray⟩) X ow M b st er de t s.out ∧ Gw X ow w X ow (stopW w1 M st er de ⟨t.toArray⟩) := by
  have hM1 : w1.heap[M]? = some (Obj.cells (mcC b s.pc val (ptrV gf) app args (.pointer top) out 0 0 0 ⟨#[]⟩) 119 (0, 0)) := by rw [hb.block M (lt_of_some hM)]; exact hM
  have hu1 : Upd (fun k => k = M) w1 (stopW w1 M st er de ⟨t.toArray⟩) := (((((((((((setM w1 M 8 _).setCell ⟨M, 9, none⟩ _ (fun _ => rfl)).setCell ⟨M, 10, none⟩ _ (fun _ => rfl)).setCell ⟨M, 11, none⟩ _ (fun _ => rfl)).setCell ⟨M, 1, none⟩ _ (fun _ => rfl)).setCell ⟨M, 2, none⟩ _ (fun _ => rfl)).setCell ⟨M, 3, none⟩ _ (fun _ => rfl)).setCell ⟨M, 4, none⟩ _ (fun _ => rfl)).setCell ⟨M, 5, none⟩ _ (fun _ => rfl)).setCell ⟨M, 6, none⟩ _ (fun _ => rfl)).alloc _)
  have hM2 : (stopW w1 M st er de ⟨t.toArray⟩).heap[M]? = some (Obj.cells (mcC b 0 .nilIface (.pointer none) .nilIface (.slice none 0 0) (.pointer none) out st er de ⟨t.toArray⟩) 119 (0, 0)) :=
    (heap_alloc_lt (heap_setCell_same (heap_setCell_same (heap_setCell_same (heap_setCell_same (heap_setCell_same (heap_setCell_same (heap_setCell_same (heap_setCell_same (heap_setCell_same (heap_setCell_same hM1))))))))))).trans (by kernel_rfl)
  have h2 := (h.below hM hb).ext hM1 hu1 hM2
  exact ⟨⟨out, hM2, h2.out, h2.owx, h2.xty, h2.owM, h2.tab⟩, Gw.trans (w1 := w1) (X1 := X) (ow1 := ow) ⟨Upd.of_below _ hb, fun _ _ h _ => h, fun _ _ h => h, fun _ _ h => h⟩ ((h.below hM hb).gw hu1)⟩
theorem halt_step {B K : Nat} {w : World} {X : Nat → Prop} {ow mo mf : Nat → Option Nat} {M b : Nat} {C : Cd} {s : MS} {val app args out : Value} {top : Option Addr} {gf : Nat} (h : RS B K w X ow mo mf M b C s val app args out top gf) (hM : w.heap[M]? = some (Obj.cells (mcC b s.pc val (ptrV gf) app args (.pointer top) out 0 0 0 ⟨#[]⟩) 119 (0, 0))) (n : Int) : Calls Tryz.prog 130 #[.pointer (some ⟨M, 0, none⟩), .int .i64 n] w (StepPost B K X ow w M b C (opS C s 14 n)) := by
  obtain ⟨k0, k1, k2, k3, k4, k5, k6, k7, k8, k9, k10, k11⟩ := mc_cell hM
  have hv := h.val
  have key : ∀ tl, (Calls Tryz.prog 198 #[val] w fun e w' => e = .returned (.string ⟨tl.toArray⟩) ∧ Below w.heap.size w w') → Calls Tryz.prog 130 #[.pointer (some ⟨M, 0, none⟩), .int .i64 n] w (StepPost B K X ow w M b C (.done tl s.out)) := fun tl hT => by
    refine (halt_go w M n val tl k2 (lt_of_some hM) _ _ _ _ _ _ _ _ _ k1 k3 k4 k5 k6 k8 k9 k10 k11 (fun o => frozen_of_block hM o) (hide hT)).mono ?_
    rintro e w' ⟨w1, rfl, hb, rfl⟩
    obtain ⟨h1, h2⟩ := h.stops hM hb 1 0 0 tl
    exact ⟨rfl, X, ow, h1, h2⟩
  simp only [opS]
  cases hs : s.val with
  | none =>
    rw [hs] at hv
    have hv : val = .nilIface := hv
    subst hv
    exact key [] ((told_nil w).mono fun e w' hh => hh)
  | some v =>
    rw [hs] at hv
    exact key _ ((told_any v w val _ (VX.vr h.mlt v val hv) (h.tab.mono h.hBw)).mono fun e w' hh => hh)
end Go.Proofs.YtlobegpjenabaaaGreatDoor
