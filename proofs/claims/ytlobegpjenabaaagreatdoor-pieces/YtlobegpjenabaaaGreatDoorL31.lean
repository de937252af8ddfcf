/- lathekeep: started, says, is. -/
import Derived.Test.YtlobegpjenabaaaGreatDoorL30
import Derived.Test.YtlobegpjenabaaaGreatDoorL01
import Derived.Lib.ItoaLen
import Derived.Test.YtlobegpjenabaaaGreatDoorCards
import Derived.Test.YtlobegpjenabaaaGreatDoorTie
import Derived.ProofKit
import Derived.OpenShut
import Derived.Deep.DeepHandedRow
import Derived.Shelf.Vars
import Derived.Lib.LaidTab
import Derived.LaidHandle
import Derived.LaidSub
import Derived.Carry
import Derived.Stop.Asserts
namespace Go.Proofs.YtlobegpjenabaaaGreatDoor
open Go.RowKit
set_option linter.unusedSimpArgs false
set_option linter.unusedVariables false

theorem RS.kst {B K : Nat} {w w' : World} {X X' : Nat → Prop} {ow ow' : Nat → Option Nat} (hx : XTy w B X) (ho : ∀ k t, ow k = some t → X k) (hg : Gw X ow w X' ow' w') : KI w w' :=
  KI.of_upd (B := B) (fun k hk => by
    cases e : ow k with
    | none => exact absurd e hk
    | some t => exact hx k (ho k t e)) hg.upd
theorem MR.own {B K : Nat} {w : World} {X : Nat → Prop} {ow : Nat → Option Nat} {M b : Nat} {C : Cd} {s : MS} (h : MR B K w X ow M b C s) : (∀ k t, ow k = some t → X k) ∧ XTy w B X := by
  obtain ⟨mo, mf, val, app, args, out, top, gf, hM, hRS⟩ := h
  exact ⟨hRS.owx, hRS.xty⟩
theorem MR.ki {B K : Nat} {w w' : World} {X X' : Nat → Prop} {ow ow' : Nat → Option Nat} {M b : Nat} {C : Cd} {s : MS} (h : MR B K w X ow M b C s) (hg : Gw X ow w X' ow' w') : KI w w' := RS.kst (K := K) h.own.2 h.own.1 hg
theorem MR.bel {B K : Nat} {w w' : World} {X X' : Nat → Prop} {ow ow' : Nat → Option Nat} {M b : Nat} {C : Cd} {s : MS} (h : MR B K w X ow M b C s) (hg : Gw X ow w X' ow' w') : Below B w w' := by
  obtain ⟨h1, h2⟩ := h.own
  obtain ⟨mo, mf, val, app, args, out, top, gf, hM, hRS⟩ := h
  refine hg.upd.below hRS.hBw fun k hk => ?_
  cases e : ow k with
  | none => exact absurd e hk
  | some t => exact (h2 k (h1 k t e)).1
theorem goS_made {C : Cd} : ∀ (fuel : Nat) (s : MS) (n made m : Nat) (r : RR), goS C fuel s n made = some (m, r) → made ≤ n → m ≤ n
  | 0, s, n, made, m, r, h, _ => by cases h
  | k + 1, s, n, made, m, r, h, hl => by
    unfold goS at h
    split at h
    · cases h
    · rename_i op x hf
      split at h
      · cases h; exact hl
      · rename_i hne
        have hl' : (if op = 12 then made + 1 else made) ≤ n := by
          split
          · have : made ≠ n := fun e => hne ⟨by assumption, e⟩
            omega
          · exact hl
        simp only at h
        split at h
        · exact goS_made k _ n _ m r h hl'
        · cases h; exact hl'
        · cases h; exact hl'
        · cases h

/-- A program that is compiled. -/
def Comp (l : List UInt8) (N : Nat) (st : BS) : Prop := compS l = (0, 0) ∧ (∃ ks, compE l = some ks ∧ codeS ks = st) ∧ cdOk N st = true
def StartedP (w : World) (N : Nat) (st : BS) (e : Ending) (w' : World) : Prop := ∃ L M K b cs X ow, e = .returned (.pointer (some ⟨L, 0, none⟩)) ∧ DVs N st.cs cs ∧ LM w' L M ∧ MR w.heap.size K w' X ow M b (cdOf st cs) (startS (cdOf st cs)) ∧ Below w.heap.size w w'
set_option maxRecDepth 100000 in
set_option maxHeartbeats 1000000 in
theorem started_go (s : ByteArray) (N : Nat) (st : BS) (hc : Comp s.data.toList N st) (hmax : s.size ≤ maxLen) (w : World) (hm : MaxOk w) (ht : Tab w.heap.size w) : Calls Tryz.prog 26 #[.string s] w (StartedP w N st) := by
  have HC := hide (compile_any s hmax w hm)
  have HCO := hide hc
  have HT := hide ht
  have c0 := hc.1
  clear hc hm ht
  go_enter Tryz.func26, Tryz.ntmps26
  go_wp2_with fail
  refine HC.out.mono ?_
  rintro e w1 ⟨v, he, h1, hb, hh⟩
  rw [c0] at he h1
  cases v with
  | none => cases h1
  | some a =>
    obtain ⟨B, Cb, ks, rfl, hk, hB, b, hC, hBC, hBd⟩ := hh a rfl
    subst he
    obtain ⟨ks', hk', hst⟩ := HCO.out.2.1
    rw [hk] at hk'; cases hk'
    rw [hst] at hBd
    obtain ⟨cs, hd, hcode⟩ := code_of (X := fun _ => False) hBd HCO.out.2.2 (fun _ _ _ h => h)
    have HS := hide (start_go w1 w.heap.size b Cb (fun _ => False) (cdOf st cs) hC hcode (fun _ h => h.elim) (HT.out.below hb) hb.size)
    have HD := hide hd
    have HB := hide hb
    clear h1 hb hh hk hst hC hBC hBd hd hcode c0 HC hB
    go_wp2_with fail
    refine HS.out.mono ?_
    rintro e w2 ⟨L, X, ow, rfl, hL, hLM, hMR, hG⟩
    have HF := hide (show StartedP w N st (.returned (.pointer (some ⟨L, 0, none⟩))) w2 from ⟨L, _, _, b, cs, X, ow, rfl, HD.out, hLM, hMR, HB.out.trans ((hG.upd.below (Nat.le_refl _) (fun k hk => absurd rfl hk)).mono HB.out.size)⟩)
    clear hL hLM hMR hG HS
    go_wp2
    go_ret
    exact HF.out

/-- A program that is done within so many applications: its value and output. -/
def Says (l : List UInt8) (most : Nat) (t : List UInt8) (o : List (List UInt8)) : Prop := ∃ N st, Comp l N st ∧ ∀ cs, DVs N st.cs cs → ∃ fuel m, goS (cdOf st cs) fuel (startS (cdOf st cs)) most 0 = some (m, .done t o)
def SaysP (w : World) (t : List UInt8) (o : List (List UInt8)) (e : Ending) (w' : World) : Prop := ∃ v, e = .returned (.tuple #[.string ⟨t.toArray⟩, v, .bool true]) ∧ w'.ownsRow w.heap.size 9 1 v o.length (o.map strV) ∧ Below w.heap.size w w'
set_option maxRecDepth 100000 in
set_option maxHeartbeats 4000000 in
theorem says_go (s : ByteArray) (most : Nat) (t : List UInt8) (o : List (List UInt8)) (hs : Says s.data.toList most t o) (hn : most ≤ 100000) (hmax : s.size ≤ maxLen) (w : World) (hm : MaxOk w) (ht : Tab w.heap.size w) :
    Calls Tryz.prog 32 #[.string s, .int .i64 most] w (SaysP w t o) := by
  obtain ⟨N, st, hc, hrun⟩ := hs
  have HST := hide (started_go s N st hc hmax w hm ht)
  have HR := hide hrun
  clear hc hrun hm ht
  go_enter Tryz.func32, Tryz.ntmps32
  go_wp2_with fail
  refine HST.out.mono ?_
  rintro e w1 ⟨L, M, K, b, cs, X, ow, rfl, hd, hLM, hMR, hb1⟩
  obtain ⟨fuel, m, hgo⟩ := HR.out cs hd
  have hml := goS_made _ _ _ _ _ _ hgo (Nat.zero_le _)
  have HRUN : Hid (Calls Tryz.prog 27 #[.pointer (some ⟨L, 0, none⟩), .int .i64 most] w1 (TupP fun a b' w2 => a = .int .i64 (m : Nat) ∧ b' = .int .i64 0 ∧ LM w2 L M ∧ Below w.heap.size w w2 ∧ ∃ X' ow', ME w.heap.size w2 X' ow' M b 1 0 0 t o)) := by
    refine lrun_go w1 L M most _ hLM (hide ((run_go hMR most fuel hn m (.done t o) hgo (fun _ _ _ h => by cases h)).mono ?_))
    rintro e w2 ⟨rfl, X', ow', hME, hG⟩
    exact ⟨_, _, rfl, rfl, rfl, hMR.ki hG _ (by decide) _ _ hLM, hb1.trans (hMR.bel hG), X', ow', hME⟩
  clear hgo hd hLM hMR hb1 HST HR
  go_wp2_with fail
  refine HRUN.out.mono ?_
  rintro e w2 ⟨_, _, rfl, rfl, rfl, hLM2, hb2, X', ow', hME⟩
  have hME0 := hME
  obtain ⟨out, hM, ⟨hout, _, hol⟩, _⟩ := hME
  have HLK : Hid (Calls Tryz.prog 28 #[.pointer (some ⟨L, 0, none⟩)] w2 (LookP w2 1 0 0 ⟨t.toArray⟩)) := by
    refine llook_go w2 L M 1 0 0 ⟨t.toArray⟩ hLM2 (hide fun ob => ?_)
    obtain ⟨k0, k1, k2, k3, k4, k5, k6, k7, k8, k9, k10, k11⟩ := mc_cell hM
    have hMl := lt_of_some hM
    exact look_end _ M 1 0 0 ⟨t.toArray⟩ rfl (by simp; omega) ((World.cell?_alloc_past _ _ _ hMl).trans k8) ((World.cell?_alloc_past _ _ _ hMl).trans k9) ((World.cell?_alloc_past _ _ _ hMl).trans k10) ((World.cell?_alloc_past _ _ _ hMl).trans k11)
  have HK := hide (And.intro hLM2 (And.intro hM (And.intro hout (And.intro hol hb2))))
  clear hLM2 hM hout hol hb2 hME0 HRUN
  go_wp2_with fail
  refine HLK.out.mono ?_
  rintro e w3 ⟨he, hb3⟩
  unfold lookV at he
  subst he
  have HB3 := hide hb3
  have hz3 := hb3.size
  have hz2 := HK.out.2.2.2.2.size
  have HOUT : Hid (∀ (ob : Obj) , Calls Tryz.prog 43 #[.pointer (some ⟨L, 0, none⟩)] (w3.alloc ob).drew (OutP (w3.alloc ob).drew (o.map strV))) := by
    intro ob
    obtain ⟨h1, h2, h3, h4, h5⟩ := HK.out
    have hbb : Below w2.heap.size w2 (w3.alloc ob).drew := (hb3.alloc hb3.size ob).drew
    have hM' : (w3.alloc ob).drew.heap[M]? = some _ := (hbb.block M (lt_of_some h2)).trans h2
    refine lout_go _ L M _ ((hbb.block L (lt_of_some h1)).trans h1) (hide ?_)
    have hr := ownsRow_of_upd h3 (Upd.of_below (fun _ => False) hbb) (fun _ _ h => h)
    obtain ⟨a, cap, rfl, _, _, _⟩ := ownsRow_slice h3
    exact output_go (mc_cell hM').2.2.2.2.2.2.2.1 hr h4
  have HKK : Hid (∀ (w' : World), Below (w3.alloc (.cells #[.int .i64 1, .int .i64 0, .int .i64 0, .string ⟨t.toArray⟩] 52)).drew.heap.size (w3.alloc (.cells #[.int .i64 1, .int .i64 0, .int .i64 0, .string ⟨t.toArray⟩] 52)).drew w' →
      (w'.cell? ⟨w3.heap.size, 0, none⟩ = some (.int .i64 1) ∧ w'.cell? ⟨w3.heap.size, 1, none⟩ = some (.int .i64 0) ∧ w'.cell? ⟨w3.heap.size, 2, none⟩ = some (.int .i64 0) ∧ w'.cell? ⟨w3.heap.size, 3, none⟩ = some (.string ⟨t.toArray⟩))) := by
    intro w' hb
    have hl : w3.heap.size < (w3.alloc (.cells #[.int .i64 1, .int .i64 0, .int .i64 0, .string ⟨t.toArray⟩] 52)).drew.heap.size := by show _ < (w3.alloc _).heap.size; simp
    have hh := (hb.block w3.heap.size hl).trans Array.getElem?_push_size
    refine ⟨?_, ?_, ?_, ?_⟩ <;> rw [cell_of_block hh] <;> rfl
  have HFIN : Hid (∀ (w' : World) (v : Value), w'.ownsRow (w3.alloc (.cells #[.int .i64 1, .int .i64 0, .int .i64 0, .string ⟨t.toArray⟩] 52)).drew.heap.size 9 1 v (o.map strV).length (o.map strV) → Below (w3.alloc (.cells #[.int .i64 1, .int .i64 0, .int .i64 0, .string ⟨t.toArray⟩] 52)).drew.heap.size (w3.alloc (.cells #[.int .i64 1, .int .i64 0, .int .i64 0, .string ⟨t.toArray⟩] 52)).drew w' → SaysP w t o (.returned (.tuple #[.string ⟨t.toArray⟩, v, .bool true])) w') := by
    intro w' v hv hb
    have hl : w3.heap.size < (w3.alloc (.cells #[.int .i64 1, .int .i64 0, .int .i64 0, .string ⟨t.toArray⟩] 52)).drew.heap.size := by show _ < (w3.alloc _).heap.size; simp
    rw [List.length_map] at hv
    refine ⟨v, rfl, ownsRow_base hv (by omega), ?_⟩
    have h1 : Below w.heap.size w w3 := HK.out.2.2.2.2.trans (HB3.out.mono hz2)
    exact ((h1.alloc (by omega) _).drew).trans (hb.mono (by omega))
  have hmi : (m : Int) ≤ (most : Int) := by omega
  clear hb3 HLK
  go_wp2_with fail
  go_region_held3 (fun wx => wx.cell? ⟨w3.heap.size, 0, none⟩ = some (.int .i64 1) ∧ wx.cell? ⟨w3.heap.size, 1, none⟩ = some (.int .i64 0) ∧ wx.cell? ⟨w3.heap.size, 2, none⟩ = some (.int .i64 0) ∧ wx.cell? ⟨w3.heap.size, 3, none⟩ = some (.string ⟨t.toArray⟩)) (first | go_keep | (apply HKK.out; assumption)) (first | (go_at_call 43; refine (HOUT.out _).mono ?_; rintro e w' ⟨v, rfl, hv, hb⟩))
  all_goals (go_wp2; go_ret3; exact HFIN.out _ _ (by assumption) (by assumption))
end Go.Proofs.YtlobegpjenabaaaGreatDoor

/- Texts that are spelt with single spaces, and the data that are read out of them. -/
namespace Go.Proofs.YtlobegpjenabaaaGreatDoor
open Go
set_option linter.unusedSimpArgs false
set_option linter.unusedVariables false

/-- A text's tree. -/
inductive Sx where
  | tok (t : List UInt8)
  | lst (l : List Sx)
  | quo (x : Sx)

/-- No token goes on here. -/
def Stop (l : List UInt8) : Prop := ∀ c r, l = c :: r → sortU c = 0
end Go.Proofs.YtlobegpjenabaaaGreatDoor

/- Ints as tokens: what itoa spells is read as that int. -/
namespace Go.Proofs.YtlobegpjenabaaaGreatDoor
open Go
set_option linter.unusedSimpArgs false
set_option linter.unusedVariables false

/-- An int that can be written. -/
def Small (a : Int) : Prop := -1000000000000000000 < a ∧ a < 1000000000000000000
end Go.Proofs.YtlobegpjenabaaaGreatDoor

/- lathekeep: is, digits, small, truth. -/
namespace Go.Proofs.YtlobegpjenabaaaGreatDoor
open Go.RowKit
set_option linter.unusedSimpArgs false
set_option linter.unusedVariables false

def IsP (w : World) (r : Bool) (e : Ending) (w' : World) : Prop := e = .returned (.bool r) ∧ Below w.heap.size w w'
set_option maxRecDepth 100000 in
set_option maxHeartbeats 1000000 in
theorem is_go (s t : ByteArray) (hs : Says s.data.toList 5000 t.data.toList []) (hmax : s.size ≤ maxLen) (w : World) (hm : MaxOk w) (ht : Tab w.heap.size w) :
    Calls Tryz.prog 19 #[.string s, .string t] w (IsP w true) := by
  have HS := hide (says_go s 5000 t.data.toList [] hs (by decide) hmax w hm ht)
  clear hs hm ht
  go_enter Tryz.func19, Tryz.ntmps19
  go_wp2_with fail
  refine HS.out.mono ?_
  rintro e w1 ⟨v, he, hv, hb⟩
  rw [show (⟨t.data.toList.toArray⟩ : ByteArray) = t from by cases t; rfl] at he
  subst he
  obtain ⟨a, cap, rfl, _, _, _⟩ := ownsRow_slice hv
  have HB := hide hb
  clear hv hb HS
  go_wp2
  go_ret
  exact ⟨rfl, HB.out⟩
end Go.Proofs.YtlobegpjenabaaaGreatDoor

/- A program that is written out says what its code's run on the plain machine says. -/
namespace Go.Proofs.YtlobegpjenabaaaGreatDoor
open Go.RowKit
set_option linter.unusedSimpArgs false
set_option linter.unusedVariables false

/-- A constant that is no list, as a value. -/
def litV : Option D → Option V
  | none => some .nothing
  | some (.lit (.int .i64 k)) => some (.int k)
  | some (.lit (.bool b)) => some (.bool b)
  | some (.lit (.string t)) => some (.sym t)
  | some (.agg []) => some .empty
  | _ => none
def litVs : List (Option D) → Option (List V)
  | [] => some []
  | c :: r => match litV c, litVs r with
    | some v, some vs => some (v :: vs)
    | _, _ => none
theorem dv_lit {N : Nat} {d : D} {v v' : V} (h : DV N d v) (hv : litV (some d) = some v') : v = v' := by
  cases N with
  | zero => exact h.elim
  | succ N =>
    unfold litV at hv
    split at hv
    · rename_i h0; cases h0
    · rename_i h0; cases h0; cases hv; exact h
    · rename_i h0; cases h0; cases hv; exact h
    · rename_i h0; cases h0; cases hv; exact h
    · rename_i h0; cases h0; cases hv; exact h
    · cases hv
theorem dvs_lit {N : Nat} : ∀ (cs : List (Option D)) (vs vs' : List V), DVs N cs vs → litVs cs = some vs' → vs = vs'
  | [], [], vs', _, h => by simp only [litVs, Option.some.injEq] at h; exact h
  | [], _ :: _, _, h, _ => h.elim
  | none :: _, [], _, h, _ => h.elim
  | some _ :: _, [], _, h, _ => h.elim
  | none :: r, v :: vs, vs', h, hv => by
    unfold litVs at hv
    split at hv
    · rename_i v1 vs1 h1 h2
      cases hv
      rw [dvs_lit r vs vs1 h.2 h2, h.1]
      have : V.nothing = v1 := by simpa [litV] using h1
      rw [this]
    · cases hv
  | some d :: r, v :: vs, vs', h, hv => by
    unfold litVs at hv
    split at hv
    · rename_i v1 vs1 h1 h2
      cases hv
      rw [dvs_lit r vs vs1 h.2 h2, dv_lit h.1 h1]
    · cases hv
theorem says_of {l : List UInt8} {most : Nat} {t : List UInt8} {o : List (List UInt8)} {N : Nat} {st : BS} (h : Comp l N st) (vs : List V) (hv : litVs st.cs = some vs) (fuel m : Nat) (hr : goS (cdOf st vs) fuel (startS (cdOf st vs)) most 0 = some (m, .done t o)) : Says l most t o :=
  ⟨N, st, h, fun cs hcs => by rw [dvs_lit _ _ _ hcs hv]; exact ⟨fuel, m, hr⟩⟩
theorem says_of' {l : List UInt8} {most : Nat} {t : List UInt8} {o : List (List UInt8)} {N : Nat} {st : BS} (h : Comp l N st) (vs : List V) (hv : litVs st.cs = some vs) (fuel : Nat) (hr : (goS (cdOf st vs) fuel (startS (cdOf st vs)) most 0).map (fun r => r.2) = some (.done t o)) : Says l most t o := by
  cases hg : goS (cdOf st vs) fuel (startS (cdOf st vs)) most 0 with
  | none => rw [hg] at hr; cases hr
  | some r =>
    obtain ⟨m, r⟩ := r
    rw [hg] at hr
    have hr : some r = some (.done t o) := hr
    cases hr
    exact says_of h vs hv fuel m hg
theorem Small.in {a : Int} (h : Small a) : -9223372036854775808 ≤ a ∧ a ≤ 9223372036854775807 := by
  have := h.1; have := h.2; omega
/-- What a walk wants of the variables of the library. -/
structure Env (w : World) : Prop where
  mx : MaxOk w
  tb : Tab w.heap.size w
theorem Env.below {w w' : World} (h : Env w) (hb : Below w.heap.size w w') : Env w' := by
  refine ⟨?_, (h.tb.below hb).mono hb.size⟩
  obtain ⟨m, hm⟩ := h.mx
  exact ⟨m, (hb.cell (p := ⟨3, 0, none⟩) h.mx.lt).trans hm⟩
def RckP (w : World) (e : Ending) (w' : World) : Prop := e = .returned (.bool true) ∧ Below w.heap.size w w'
theorem Says.len {l : List UInt8} {most : Nat} {t : List UInt8} {o : List (List UInt8)} (h : Says l most t o) : l.length ≤ 1000 := by
  obtain ⟨N, st, ⟨h1, _⟩, _⟩ := h
  unfold compS at h1
  split at h1
  · cases h1
  · omega
/-- is, of a text that says this. -/
theorem is_says {S T : ByteArray} {l t : List UInt8} (hs : Says l 5000 t []) (hS : S.data.toList = l) (hT : T.data.toList = t) (W : World) (hW : Env W) : Calls Tryz.prog 19 #[.string S, .string T] W (IsP W true) := by
  have hl := hs.len
  rw [← hS] at hl
  exact is_go S T (by rw [hS, hT]; exact hs) (by unfold maxLen; have : S.data.toList.length = S.size := by simp
                                                 omega) W hW.mx hW.tb
end Go.Proofs.YtlobegpjenabaaaGreatDoor

/- What all rows share: the variables of the library, and a world that holds them. -/
namespace Go.Proofs.YtlobegpjenabaaaGreatDoor.rws
open Go.ChangeShapes Go.WideShapes Go.ChangeAt Go.RowKit

theorem own : ownKnob Tryz.prog.godebug = none := by kernel_rfl

/-- The variable of the library holds some int, at the first world. -/
theorem max_of {W : World} (h : W.ShapedOpen Tryz.prog) : MaxOk W :=
  cell_of_shapedOpen_int (g := 3) (zero := #[.int .i64 0]) (t := 3) h (of_decide_eq_true (by kernel_rfl)) (by kernel_rfl) rfl (by kernel_rfl) (by kernel_rfl) Tryz.underlying3
/-- The table of the library, as the row lays it. -/
theorem tab_of {W : World} (h : laidMetH Tryz.prog Rows.reckonsRow.laid W) : Tab W.heap.size W := by
  have h1 := (laidMetH_iff.1 h).1
  have h2 := laidMet.filter (fun x => x.1 == "internal/strconv.uint64pow10") h1
  have h3 : laidMet Tryz.prog [("internal/strconv.uint64pow10", Lib.tabData .u64 Lib.pow10Tab)] W := by
    rw [show [("internal/strconv.uint64pow10", (Lib.tabData .u64 Lib.pow10Tab : DataW Unit))] = ((Rows.reckonsRow.laid.filter fun x => x.2.handleName?.isNone).filter fun x => x.1 == "internal/strconv.uint64pow10") by kernel_rfl]
    exact h2
  exact Lib.tabBelow_of_tabIs (Lib.tabIs_of_head (g := 4) (by kernel_rfl) (by kernel_rfl) Tryz.underlying371 Tryz.underlying338 (by kernel_rfl) (by kernel_rfl) h3)
theorem env_of {W : World} (h : W.ShapedOpen Tryz.prog) (hL : laidMetH Tryz.prog Rows.reckonsRow.laid W) : Env W := ⟨max_of h, tab_of hL⟩

theorem laidOut : laidOutB Tryz.prog = true := by kernel_rfl
/-- A row laid anew. -/
def layR (h : Array Obj) (k : Nat) (c : Array Value) : Array Obj := h.modify k fun
  | .cells _ t fr => .cells c t fr
  | o => o
/-- A world for the witness: the settled one, the listed variables holding what their initialisers lay. -/
def wit0 : Input := ⟨#[.cells #[.string ⟨#[118, 97, 108, 117, 101, 32, 111, 117, 116, 32, 111, 102, 32, 114, 97, 110, 103, 101]⟩] 359, .cells #[.string ⟨#[105, 110, 118, 97, 108, 105, 100, 32, 115, 121, 110, 116, 97, 120]⟩] 359], #[], []⟩
def laidW (w0 : World) : World :=
  { w0 with heap := (layR (layR (layR (layR (layR (layR w0.heap
      0 #[.iface 235 (.agg #[.pointer (some ⟨7, 103, none⟩)])])
      5 #[.int .u8 0, .int .u8 1, .int .u8 28, .int .u8 2, .int .u8 29, .int .u8 14, .int .u8 24, .int .u8 3, .int .u8 30, .int .u8 22, .int .u8 20, .int .u8 15, .int .u8 25, .int .u8 17, .int .u8 4, .int .u8 8, .int .u8 31, .int .u8 27, .int .u8 13, .int .u8 23, .int .u8 21, .int .u8 19, .int .u8 16, .int .u8 7, .int .u8 26, .int .u8 12, .int .u8 18, .int .u8 6, .int .u8 11, .int .u8 5, .int .u8 10, .int .u8 9])
      6 #[.int .u8 0, .int .u8 1, .int .u8 56, .int .u8 2, .int .u8 57, .int .u8 49, .int .u8 28, .int .u8 3, .int .u8 61, .int .u8 58, .int .u8 42, .int .u8 50, .int .u8 38, .int .u8 29, .int .u8 17, .int .u8 4, .int .u8 62, .int .u8 47, .int .u8 59, .int .u8 36, .int .u8 45, .int .u8 43, .int .u8 51, .int .u8 22, .int .u8 53, .int .u8 39, .int .u8 33, .int .u8 30, .int .u8 24, .int .u8 18, .int .u8 12, .int .u8 5, .int .u8 63, .int .u8 55, .int .u8 48, .int .u8 27, .int .u8 60, .int .u8 41, .int .u8 37, .int .u8 16, .int .u8 46, .int .u8 35, .int .u8 44, .int .u8 21, .int .u8 52, .int .u8 32, .int .u8 23, .int .u8 11, .int .u8 54, .int .u8 26, .int .u8 40, .int .u8 15, .int .u8 34, .int .u8 20, .int .u8 31, .int .u8 10, .int .u8 25, .int .u8 14, .int .u8 19, .int .u8 9, .int .u8 13, .int .u8 8, .int .u8 7, .int .u8 6])
      4 #[.int .u64 1, .int .u64 10, .int .u64 100, .int .u64 1000, .int .u64 10000, .int .u64 100000, .int .u64 1000000, .int .u64 10000000, .int .u64 100000000, .int .u64 1000000000, .int .u64 10000000000, .int .u64 100000000000, .int .u64 1000000000000, .int .u64 10000000000000, .int .u64 100000000000000, .int .u64 1000000000000000, .int .u64 10000000000000000, .int .u64 100000000000000000, .int .u64 1000000000000000000, .int .u64 10000000000000000000])
      2 #[.iface 357 (.pointer (some ⟨12, 0, none⟩))])
      1 #[.iface 357 (.pointer (some ⟨13, 0, none⟩))]) }
end Go.Proofs.YtlobegpjenabaaaGreatDoor.rws

/- Lists of ints: spelt, read, told. -/
namespace Go.Proofs.YtlobegpjenabaaaGreatDoor
open Go.RowKit
set_option linter.unusedSimpArgs false
set_option linter.unusedVariables false

end Go.Proofs.YtlobegpjenabaaaGreatDoor

/- lathekeep: some, cut. -/
namespace Go.Proofs.YtlobegpjenabaaaGreatDoor
open Go.RowKit
set_option linter.unusedSimpArgs false
set_option linter.unusedVariables false

/-- Ints of a slice that came in. -/
def IntsAt (w : World) (a : Option Addr) (l : List Int) : Prop := (∀ i (hi : i < l.length), ∃ g off, a = some ⟨g, off, none⟩ ∧ g < w.heap.size ∧ w.cell? ⟨g, off + i, none⟩ = some (.int .i64 l[i])) ∧ ∀ k ∈ l, -9223372036854775808 ≤ k ∧ k ≤ 9223372036854775807
theorem IntsAt.below {w w' : World} {a : Option Addr} {l : List Int} (h : IntsAt w a l) (hb : Below w.heap.size w w') : IntsAt w' a l := by
  refine ⟨fun i hi => ?_, h.2⟩
  obtain ⟨g, off, h1, h2, h3⟩ := h.1 i hi
  exact ⟨g, off, h1, by have := hb.size; omega, by rw [hb.cell (p := ⟨g, off + i, none⟩) h2]; exact h3⟩
end Go.Proofs.YtlobegpjenabaaaGreatDoor

/- A slice of ints that came in. -/
namespace Go.Proofs.YtlobegpjenabaaaGreatDoor.rws
open Go.ChangeShapes Go.WideShapes Go.ChangeAt Go.RowKit

theorem lt_of_cell {w : World} {g o : Nat} {v : Value} (h : w.cell? ⟨g, o, none⟩ = some v) : g < w.heap.size := by
  rcases Nat.lt_or_ge g w.heap.size with hlt | hge
  · exact hlt
  · exfalso; simp only [World.cell?] at h; rw [Array.getElem?_eq_none hge] at h; cases h
set_option maxRecDepth 100000 in
theorem open_at {H : Type} {enc : TypeId × Value → H} {W : World} {base : Nat} {v : Value} {d : DataW H} {ps : List MemPlace} (hv : Value.okWide Tryz.prog W .any base 30 v) (h : DataW.Trod enc Tryz.prog W 0 (fun _ => true) true 30 v d ps) :
    ∃ a cap, ∃ l : List Int, v = .slice a l.length cap ∧ IntsAt W a l ∧ l.length ≤ maxLen := by
  obtain ⟨a0, len, cap, rfl⟩ := okWide_slice Tryz.underlying30 hv
  obtain ⟨fuel, hf⟩ := h
  rcases open_ints Tryz.underlying30 Tryz.underlying3 (by kernel_rfl) hf with ⟨hcs, hx⟩ | ⟨a, len', cap', zs, hcs, _, hl, hm, hz, hx, hcell, hwz⟩
  · simp [Value.cells] at hcs
    obtain ⟨rfl, rfl, rfl⟩ := hcs
    exact ⟨none, 0, [], rfl, ⟨fun i hi => absurd hi (by simp), fun k hk => by cases hk⟩, by simp [maxLen]⟩
  · simp [Value.cells] at hcs
    obtain ⟨rfl, rfl, rfl⟩ := hcs
    simp only [if_true] at hz
    have hlen : (zs.take len).length = len := by rw [List.length_take]; omega
    refine ⟨some a, cap, zs.take len, by rw [hlen], ⟨fun i hi => ?_, fun k hk => ?_⟩, by rw [hlen]; omega⟩
    · rw [hlen] at hi
      obtain ⟨b, off, rfl, hc⟩ := ints_at hcell (by omega)
      have hc := hc i (by omega)
      refine ⟨b, off, rfl, lt_of_cell hc, ?_⟩
      rw [hc]
      simp [List.getD, List.getElem?_eq_getElem (show i < zs.length by omega)]
    · have := hwz k (List.mem_of_mem_take hk)
      simpa [Lit.wf, IntKind.min, IntKind.max, IntKind.signed, IntKind.bits] using this
end Go.Proofs.YtlobegpjenabaaaGreatDoor.rws

/- errors.As at a wrong: closed facts on the model's entries for internal/reflectlite. -/
namespace Go.Proofs.YtlobegpjenabaaaGreatDoor
open Go.RowKit Go.Extern.Stop Go.Stop Go.Extern
set_option linter.unusedSimpArgs false
set_option linter.unusedVariables false

theorem valueOfP (t : Addr) (w : World) : (ReflectliteValue.unpack (.iface 109 (.pointer (some t)))).run Tryz.prog w
    = .ok (.agg #[.pointer (some ⟨7, 109, none⟩), .pointer (some ⟨w.heap.size, 0, none⟩), .int .u64 150]) (w.alloc (.cells #[.pointer (some t)] 109)) := by kernel_rfl
theorem typeP (a : Addr) (w : World) : (ReflectliteValue.methodAny (ReflectliteValue.valueError "reflectlite.Value.Type" 0) (fun t _ _ _ => ReflectliteType.toType t) #[.agg #[.pointer (some ⟨7, 109, none⟩), .pointer (some a), .int .u64 150]]).run Tryz.prog w
    = .ok (.iface 235 (.agg #[.pointer (some ⟨7, 109, none⟩)])) w := by kernel_rfl
theorem methodKind (h : Value) (w : World) : (Go.method 503 235 (.agg #[h]) "Kind").run Tryz.prog w = .ok (279, h) w := by kernel_rfl
theorem methodElem (h : Value) (w : World) : (Go.method 503 235 (.agg #[h]) "Elem").run Tryz.prog w = .ok (299, .agg #[h]) w := by kernel_rfl
theorem methodImplements (h : Value) (w : World) : (Go.method 503 235 (.agg #[h]) "Implements").run Tryz.prog w = .ok (300, .agg #[h]) w := by kernel_rfl
theorem methodAssignableTo (h : Value) (w : World) : (Go.method 503 235 (.agg #[h]) "AssignableTo").run Tryz.prog w = .ok (297, .agg #[h]) w := by kernel_rfl
theorem kindPw (w : World) : ((ReflectliteType.abiMethod fun t => (fun a : Nat => Value.int IntKind.u8 (a : Int)) <$> Rtype.kind t) #[.pointer (some ⟨7, 109, none⟩)]).run Tryz.prog w = .ok (.int .u8 22) w := by kernel_rfl
theorem kindW (w : World) : ((ReflectliteType.abiMethod fun t => (fun a : Nat => Value.int IntKind.u8 (a : Int)) <$> Rtype.kind t) #[.pointer (some ⟨7, 107, none⟩)]).run Tryz.prog w = .ok (.int .u8 25) w := by kernel_rfl
theorem elemP (w : World) : (ReflectliteType.method ReflectliteType.elem #[.agg #[.pointer (some ⟨7, 109, none⟩)]]).run Tryz.prog w = .ok (.iface 235 (.agg #[.pointer (some ⟨7, 107, none⟩)])) w := by kernel_rfl
theorem implementsW (w : World) : (ReflectliteType.relation "Implements" ReflectliteType.implements_ #[.agg #[.pointer (some ⟨7, 107, none⟩)], .iface 235 (.agg #[.pointer (some ⟨7, 103, none⟩)])]).run Tryz.prog w = .ok (.bool true) w := by kernel_rfl
theorem typeOfW (v : Value) (w : World) : (ReflectliteType.typeOf #[.iface 107 v]).run Tryz.prog w = .ok (.iface 235 (.agg #[.pointer (some ⟨7, 107, none⟩)])) w := by kernel_rfl
theorem typeOfI (v : Value) (w : World) : (ReflectliteType.typeOf #[.iface 178 v]).run Tryz.prog w = .ok (.iface 235 (.agg #[.pointer (some ⟨7, 178, none⟩)])) w := by kernel_rfl
theorem assignableW (w : World) : (ReflectliteType.relation "AssignableTo" ReflectliteType.assignableTo #[.agg #[.pointer (some ⟨7, 107, none⟩)], .iface 235 (.agg #[.pointer (some ⟨7, 107, none⟩)])]).run Tryz.prog w = .ok (.bool true) w := by kernel_rfl
theorem assignableI (w : World) : (ReflectliteType.relation "AssignableTo" ReflectliteType.assignableTo #[.agg #[.pointer (some ⟨7, 178, none⟩)], .iface 235 (.agg #[.pointer (some ⟨7, 107, none⟩)])]).run Tryz.prog w = .ok (.bool false) w := by kernel_rfl
theorem valueOfW (k : Int) (w : World) : (ReflectliteValue.unpack (.iface 107 (.agg #[.int .i64 k]))).run Tryz.prog w
    = .ok (.agg #[.pointer (some ⟨7, 107, none⟩), .pointer (some ⟨w.heap.size, 0, none⟩), .int .u64 153]) (w.alloc (.cells #[.int .i64 k] 107)) := by kernel_rfl
theorem noAs (v : Value) (w : World) : (Instr.typeAssert (.iface 178 v) 103 240 true).run Tryz.prog w = .ok (.tuple #[.nilIface, .bool false]) w := run_typeAssert_lacksB Tryz.underlying240 (by kernel_rfl) (by kernel_rfl) v 103 w
theorem isUnwrap (v : Value) (w : World) : (Instr.typeAssert (.iface 178 v) 103 243 true).run Tryz.prog w = .ok (.tuple #[.iface 178 v, .bool true]) w := by kernel_rfl
theorem methodUnwrap (v : Value) (w : World) : (Go.method 503 178 v "Unwrap").run Tryz.prog w = .ok (289, v) w := by kernel_rfl
theorem partsP (a : Addr) (w : World) : (ReflectliteValue.parts (.agg #[.pointer (some ⟨7, 109, none⟩), .pointer (some a), .int .u64 150])).run Tryz.prog w = .ok (some (109, a, 150)) w := by kernel_rfl
theorem elemOfP (w : World) : (Rtype.elem? 109).run Tryz.prog w = .ok (some 107) w := by kernel_rfl
theorem mkW (p : Addr) (w : World) : (ReflectliteValue.mk 107 p ReflectliteValue.flagAddr).run Tryz.prog w = .ok (.agg #[.pointer (some ⟨7, 107, none⟩), .pointer (some p), .int .u64 409]) w := by kernel_rfl
theorem partsWa (a : Addr) (w : World) : (ReflectliteValue.parts (.agg #[.pointer (some ⟨7, 107, none⟩), .pointer (some a), .int .u64 409])).run Tryz.prog w = .ok (some (107, a, 409)) w := by kernel_rfl
theorem partsW (a : Addr) (w : World) : (ReflectliteValue.parts (.agg #[.pointer (some ⟨7, 107, none⟩), .pointer (some a), .int .u64 153])).run Tryz.prog w = .ok (some (107, a, 153)) w := by kernel_rfl
theorem directW (w : World) : (Rtype.directlyAssignable 107 107).run Tryz.prog w = .ok true w := by kernel_rfl
theorem sizeW (w : World) : (sizeOf 107).run Tryz.prog w = .ok 1 w := by kernel_rfl
end Go.Proofs.YtlobegpjenabaaaGreatDoor

/- errors.As at a wrong: the model's entries that read or write memory. -/
namespace Go.Proofs.YtlobegpjenabaaaGreatDoor
open Go.RowKit Go.Extern.Stop Go.Stop Go.Extern
set_option linter.unusedSimpArgs false
set_option linter.unusedVariables false

theorem isNilP (a p : Addr) (W : World) (ha : W.cell? a = some (.pointer (some p))) :
    (ReflectliteValue.method (ReflectliteValue.valueError "reflectlite.Value.IsNil" 0) ReflectliteValue.isNil #[.agg #[.pointer (some ⟨7, 109, none⟩), .pointer (some a), .int .u64 150]]).run Tryz.prog W = .ok (.bool false) W := by
  change Sem.run Tryz.prog (bind (ReflectliteValue.parts (.agg #[.pointer (some ⟨7, 109, none⟩), .pointer (some a), .int .u64 150])) _) W = _
  simp only [Sem.run_bind, partsP, Result.andThen]
  simp [ReflectliteValue.isNil, loadVar, isAgg, underlying, Tryz.underlying109, ha, Result.andThen]
theorem elemVP (a p : Addr) (W : World) (ha : W.cell? a = some (.pointer (some p))) :
    (ReflectliteValue.method (ReflectliteValue.valueError "reflectlite.Value.Elem" 0) ReflectliteValue.elem #[.agg #[.pointer (some ⟨7, 109, none⟩), .pointer (some a), .int .u64 150]]).run Tryz.prog W
      = .ok (.agg #[.pointer (some ⟨7, 107, none⟩), .pointer (some p), .int .u64 409]) W := by
  change Sem.run Tryz.prog (bind (ReflectliteValue.parts (.agg #[.pointer (some ⟨7, 109, none⟩), .pointer (some a), .int .u64 150])) _) W = _
  simp only [Sem.run_bind, partsP, Result.andThen]
  simp [ReflectliteValue.elem, loadVar, isAgg, underlying, Tryz.underlying109, ha, Result.andThen, elemOfP, mkW]
theorem setW (ta b : Addr) (k : Int) (old : Value) (W : World) (hb : W.cell? b = some (.int .i64 k)) (ht : W.cell? ta = some old) (hf : W.frozen? ta = false) :
    (ReflectliteValue.set #[.agg #[.pointer (some ⟨7, 107, none⟩), .pointer (some ta), .int .u64 409], .agg #[.pointer (some ⟨7, 107, none⟩), .pointer (some b), .int .u64 153]]).run Tryz.prog W
      = .ok (.tuple #[]) (W.setCell ta (.int .i64 k)) := by
  change Sem.run Tryz.prog (bind (ReflectliteValue.parts (.agg #[.pointer (some ⟨7, 107, none⟩), .pointer (some ta), .int .u64 409])) (fun _ => bind (ReflectliteValue.parts (.agg #[.pointer (some ⟨7, 107, none⟩), .pointer (some b), .int .u64 153])) _)) W = _
  simp only [Sem.run_bind, partsWa, partsW, Result.andThen]
  simp [ReflectliteValue.flagAddr, loadVar, isAgg, underlying, Tryz.underlying107, hb, Result.andThen, directW, sizeW, storeVar, Value.cells, storeCells, Addr.add]
  have hl : Sem.run Tryz.prog (loadCells b 1) W = .ok #[.int .i64 k] W := by
    have := run_loadCells_list (P := Tryz.prog) W b [.int .i64 k] (by intro j v hv; cases j <;> simp at hv; subst hv; simpa [Addr.add] using hb)
    simpa using this
  rw [hl]
  simp [storeCells, Addr.add]
  rw [run_store Tryz.prog W ta _ _ (by rfl)]
  simp [ht, hf]
end Go.Proofs.YtlobegpjenabaaaGreatDoor
