/- lathekeep: started, says, is. -/
import Derived.Test.YtlobegpjenabaaaGreatDoorK34
import Derived.Test.YtlobegpjenabaaaGreatDoorK01
import Derived.Lib.ItoaLen
namespace Go.Proofs.YtlobegpjenabaaaGreatDoor
open Go.RowKit
set_option linter.unusedSimpArgs false
set_option linter.unusedVariables false

theorem RS.kst {B K : Nat} {w w' : World} {X X' : Nat → Prop} {ow ow' : Nat → Option Nat} (hx : XTy w B X) (ho : ∀ k t, ow k = some t → X k) (hg : Gw X ow w X' ow' w') : KI w w' :=
  KI.of_upd (B := B) (fun k hk => by
    cases e : ow k with
    | none => exact absurd e hk
    | some t => exact hx k (ho k t e)) hg.upd
theorem MR.own {B K : Nat} {w : World} {X : Nat → Prop} {ow : Nat → Option Nat} {M b : Nat} {C : Cd} {s : MS} (h : MR B K w X ow M b C s) : (∀ k t, ow k = some t → X k) ∧ XTy w B X := by
  obtain ⟨mo, mf, val, app, args, out, top, gf, hM, hRS⟩ := h
  exact ⟨hRS.owx, hRS.xty⟩
theorem MR.ki {B K : Nat} {w w' : World} {X X' : Nat → Prop} {ow ow' : Nat → Option Nat} {M b : Nat} {C : Cd} {s : MS} (h : MR B K w X ow M b C s) (hg : Gw X ow w X' ow' w') : KI w w' := RS.kst (K := K) h.own.2 h.own.1 hg
theorem MR.bel {B K : Nat} {w w' : World} {X X' : Nat → Prop} {ow ow' : Nat → Option Nat} {M b : Nat} {C : Cd} {s : MS} (h : MR B K w X ow M b C s) (hg : Gw X ow w X' ow' w') : Below B w w' := by
  obtain ⟨h1, h2⟩ := h.own
  obtain ⟨mo, mf, val, app, args, out, top, gf, hM, hRS⟩ := h
  refine hg.upd.below hRS.hBw fun k hk => ?_
  cases e : ow k with
  | none => exact absurd e hk
  | some t => exact (h2 k (h1 k t e)).1
theorem goS_made {C : Cd} : ∀ (fuel : Nat) (s : MS) (n made m : Nat) (r : RR), goS C fuel s n made = some (m, r) → made ≤ n → m ≤ n
  | 0, s, n, made, m, r, h, _ => by cases h
  | k + 1, s, n, made, m, r, h, hl => by
    unfold goS at h
    split at h
    · cases h
    · rename_i op x hf
      split at h
      · cases h; exact hl
      · rename_i hne
        have hl' : (if op = 12 then made + 1 else made) ≤ n := by
          split
          · have : made ≠ n := fun e => hne ⟨by assumption, e⟩
            omega
          · exact hl
        simp only at h
        split at h
        · exact goS_made k _ n _ m r h hl'
        · cases h; exact hl'
        · cases h; exact hl'
        · cases h

/-- A program that is compiled. -/
def Comp (l : List UInt8) (N : Nat) (st : BS) : Prop := compS l = (0, 0) ∧ (∃ ks, compE l = some ks ∧ codeS ks = st) ∧ cdOk N st = true
def StartedP (w : World) (N : Nat) (st : BS) (e : Ending) (w' : World) : Prop := ∃ L M K b cs X ow, e = .returned (.pointer (some ⟨L, 0, none⟩)) ∧ DVs N st.cs cs ∧ LM w' L M ∧ MR w.heap.size K w' X ow M b (cdOf st cs) (startS (cdOf st cs)) ∧ Below w.heap.size w w'
set_option maxRecDepth 100000 in
set_option maxHeartbeats 1000000 in
theorem started_go (s : ByteArray) (N : Nat) (st : BS) (hc : Comp s.data.toList N st) (hmax : s.size ≤ maxLen) (w : World) (hm : MaxOk w) (ht : Tab w.heap.size w) : Calls Tryz.prog 26 #[.string s] w (StartedP w N st) := by
  have HC := hide (compile_any s hmax w hm)
  have HCO := hide hc
  have HT := hide ht
  have c0 := hc.1
  clear hc hm ht
  go_enter Tryz.func26, Tryz.ntmps26
  go_wp2_with fail
  refine HC.out.mono ?_
  rintro e w1 ⟨v, he, h1, hb, hh⟩
  rw [c0] at he h1
  cases v with
  | none => cases h1
  | some a =>
    obtain ⟨B, Cb, ks, rfl, hk, hB, b, hC, hBC, hBd⟩ := hh a rfl
    subst he
    obtain ⟨ks', hk', hst⟩ := HCO.out.2.1
    rw [hk] at hk'; cases hk'
    rw [hst] at hBd
    obtain ⟨cs, hd, hcode⟩ := code_of (X := fun _ => False) hBd HCO.out.2.2 (fun _ _ _ h => h)
    have HS := hide (start_go w1 w.heap.size b Cb (fun _ => False) (cdOf st cs) hC hcode (fun _ h => h.elim) (HT.out.below hb) hb.size)
    have HD := hide hd
    have HB := hide hb
    clear h1 hb hh hk hst hC hBC hBd hd hcode c0 HC hB
    go_wp2_with fail
    refine HS.out.mono ?_
    rintro e w2 ⟨L, X, ow, rfl, hL, hLM, hMR, hG⟩
    have HF := hide (show StartedP w N st (.returned (.pointer (some ⟨L, 0, none⟩))) w2 from ⟨L, _, _, b, cs, X, ow, rfl, HD.out, hLM, hMR, HB.out.trans ((hG.upd.below (Nat.le_refl _) (fun k hk => absurd rfl hk)).mono HB.out.size)⟩)
    clear hL hLM hMR hG HS
    go_wp2
    go_ret
    exact HF.out

/-- A program that is done within so many applications: its value and output. -/
def Says (l : List UInt8) (most : Nat) (t : List UInt8) (o : List (List UInt8)) : Prop := ∃ N st, Comp l N st ∧ ∀ cs, DVs N st.cs cs → ∃ fuel m, goS (cdOf st cs) fuel (startS (cdOf st cs)) most 0 = some (m, .done t o)
def SaysP (w : World) (t : List UInt8) (o : List (List UInt8)) (e : Ending) (w' : World) : Prop := ∃ v, e = .returned (.tuple #[.string ⟨t.toArray⟩, v, .bool true]) ∧ w'.ownsRow w.heap.size 9 1 v o.length (o.map strV) ∧ Below w.heap.size w w'
set_option maxRecDepth 100000 in
set_option maxHeartbeats 4000000 in
theorem says_go (s : ByteArray) (most : Nat) (t : List UInt8) (o : List (List UInt8)) (hs : Says s.data.toList most t o) (hn : most ≤ 100000) (hmax : s.size ≤ maxLen) (w : World) (hm : MaxOk w) (ht : Tab w.heap.size w) :
    Calls Tryz.prog 32 #[.string s, .int .i64 most] w (SaysP w t o) := by
  obtain ⟨N, st, hc, hrun⟩ := hs
  have HST := hide (started_go s N st hc hmax w hm ht)
  have HR := hide hrun
  clear hc hrun hm ht
  go_enter Tryz.func32, Tryz.ntmps32
  go_wp2_with fail
  refine HST.out.mono ?_
  rintro e w1 ⟨L, M, K, b, cs, X, ow, rfl, hd, hLM, hMR, hb1⟩
  obtain ⟨fuel, m, hgo⟩ := HR.out cs hd
  have hml := goS_made _ _ _ _ _ _ hgo (Nat.zero_le _)
  have HRUN : Hid (Calls Tryz.prog 27 #[.pointer (some ⟨L, 0, none⟩), .int .i64 most] w1 (TupP fun a b' w2 => a = .int .i64 (m : Nat) ∧ b' = .int .i64 0 ∧ LM w2 L M ∧ Below w.heap.size w w2 ∧ ∃ X' ow', ME w.heap.size w2 X' ow' M b 1 0 0 t o)) := by
    refine lrun_go w1 L M most _ hLM (hide ((run_go hMR most fuel hn m (.done t o) hgo (fun _ _ _ h => by cases h)).mono ?_))
    rintro e w2 ⟨rfl, X', ow', hME, hG⟩
    exact ⟨_, _, rfl, rfl, rfl, hMR.ki hG _ (by decide) _ _ hLM, hb1.trans (hMR.bel hG), X', ow', hME⟩
  clear hgo hd hLM hMR hb1 HST HR
  go_wp2_with fail
  refine HRUN.out.mono ?_
  rintro e w2 ⟨_, _, rfl, rfl, rfl, hLM2, hb2, X', ow', hME⟩
  have hME0 := hME
  obtain ⟨out, hM, ⟨hout, _, hol⟩, _⟩ := hME
  have HLK : Hid (Calls Tryz.prog 28 #[.pointer (some ⟨L, 0, none⟩)] w2 (LookP w2 1 0 0 ⟨t.toArray⟩)) := by
    refine llook_go w2 L M 1 0 0 ⟨t.toArray⟩ hLM2 (hide fun ob => ?_)
    obtain ⟨k0, k1, k2, k3, k4, k5, k6, k7, k8, k9, k10, k11⟩ := mc_cell hM
    have hMl := lt_of_some hM
    exact look_end _ M 1 0 0 ⟨t.toArray⟩ rfl (by simp; omega) ((World.cell?_alloc_past _ _ _ hMl).trans k8) ((World.cell?_alloc_past _ _ _ hMl).trans k9) ((World.cell?_alloc_past _ _ _ hMl).trans k10) ((World.cell?_alloc_past _ _ _ hMl).trans k11)
  have HK := hide (And.intro hLM2 (And.intro hM (And.intro hout (And.intro hol hb2))))
  clear hLM2 hM hout hol hb2 hME0 HRUN
  go_wp2_with fail
  refine HLK.out.mono ?_
  rintro e w3 ⟨he, hb3⟩
  unfold lookV at he
  subst he
  have HB3 := hide hb3
  have hz3 := hb3.size
  have hz2 := HK.out.2.2.2.2.size
  have HOUT : Hid (∀ (ob : Obj) , Calls Tryz.prog 43 #[.pointer (some ⟨L, 0, none⟩)] (w3.alloc ob).drew (OutP (w3.alloc ob).drew (o.map strV))) := by
    intro ob
    obtain ⟨h1, h2, h3, h4, h5⟩ := HK.out
    have hbb : Below w2.heap.size w2 (w3.alloc ob).drew := (hb3.alloc hb3.size ob).drew
    have hM' : (w3.alloc ob).drew.heap[M]? = some _ := (hbb.block M (lt_of_some h2)).trans h2
    refine lout_go _ L M _ ((hbb.block L (lt_of_some h1)).trans h1) (hide ?_)
    have hr := ownsRow_of_upd h3 (Upd.of_below (fun _ => False) hbb) (fun _ _ h => h)
    obtain ⟨a, cap, rfl, _, _, _⟩ := ownsRow_slice h3
    exact output_go (mc_cell hM').2.2.2.2.2.2.2.1 hr h4
  have HKK : Hid (∀ (w' : World), Below (w3.alloc (.cells #[.int .i64 1, .int .i64 0, .int .i64 0, .string ⟨t.toArray⟩] 52)).drew.heap.size (w3.alloc (.cells #[.int .i64 1, .int .i64 0, .int .i64 0, .string ⟨t.toArray⟩] 52)).drew w' →
      (w'.cell? ⟨w3.heap.size, 0, none⟩ = some (.int .i64 1) ∧ w'.cell? ⟨w3.heap.size, 1, none⟩ = some (.int .i64 0) ∧ w'.cell? ⟨w3.heap.size, 2, none⟩ = some (.int .i64 0) ∧ w'.cell? ⟨w3.heap.size, 3, none⟩ = some (.string ⟨t.toArray⟩))) := by
    intro w' hb
    have hl : w3.heap.size < (w3.alloc (.cells #[.int .i64 1, .int .i64 0, .int .i64 0, .string ⟨t.toArray⟩] 52)).drew.heap.size := by show _ < (w3.alloc _).heap.size; simp
    have hh := (hb.block w3.heap.size hl).trans Array.getElem?_push_size
    refine ⟨?_, ?_, ?_, ?_⟩ <;> rw [cell_of_block hh] <;> rfl
  have HFIN : Hid (∀ (w' : World) (v : Value), w'.ownsRow (w3.alloc (.cells #[.int .i64 1, .int .i64 0, .int .i64 0, .string ⟨t.toArray⟩] 52)).drew.heap.size 9 1 v (o.map strV).length (o.map strV) → Below (w3.alloc (.cells #[.int .i64 1, .int .i64 0, .int .i64 0, .string ⟨t.toArray⟩] 52)).drew.heap.size (w3.alloc (.cells #[.int .i64 1, .int .i64 0, .int .i64 0, .string ⟨t.toArray⟩] 52)).drew w' → SaysP w t o (.returned (.tuple #[.string ⟨t.toArray⟩, v, .bool true])) w') := by
    intro w' v hv hb
    have hl : w3.heap.size < (w3.alloc (.cells #[.int .i64 1, .int .i64 0, .int .i64 0, .string ⟨t.toArray⟩] 52)).drew.heap.size := by show _ < (w3.alloc _).heap.size; simp
    rw [List.length_map] at hv
    refine ⟨v, rfl, ownsRow_base hv (by omega), ?_⟩
    have h1 : Below w.heap.size w w3 := HK.out.2.2.2.2.trans (HB3.out.mono hz2)
    exact ((h1.alloc (by omega) _).drew).trans (hb.mono (by omega))
  have hmi : (m : Int) ≤ (most : Int) := by omega
  clear hb3 HLK
  go_wp2_with fail
  go_region_held3 (fun wx => wx.cell? ⟨w3.heap.size, 0, none⟩ = some (.int .i64 1) ∧ wx.cell? ⟨w3.heap.size, 1, none⟩ = some (.int .i64 0) ∧ wx.cell? ⟨w3.heap.size, 2, none⟩ = some (.int .i64 0) ∧ wx.cell? ⟨w3.heap.size, 3, none⟩ = some (.string ⟨t.toArray⟩)) (first | go_keep | (apply HKK.out; assumption)) (first | (go_at_call 43; refine (HOUT.out _).mono ?_; rintro e w' ⟨v, rfl, hv, hb⟩))
  all_goals (go_wp2; go_ret3; exact HFIN.out _ _ (by assumption) (by assumption))
end Go.Proofs.YtlobegpjenabaaaGreatDoor

/- Texts that are spelt with single spaces, and the data that are read out of them. -/
namespace Go.Proofs.YtlobegpjenabaaaGreatDoor
open Go
set_option linter.unusedSimpArgs false
set_option linter.unusedVariables false

/-- A text's tree. -/
inductive Sx where
  | tok (t : List UInt8)
  | lst (l : List Sx)
  | quo (x : Sx)
mutual
def prS : Sx → List UInt8
  | .tok t => t
  | .lst l => 40 :: prL l
  | .quo x => 39 :: prS x
/-- Items and the closing sign. -/
def prL : List Sx → List UInt8
  | [] => [41]
  | x :: r => prS x ++ prT r
/-- The same, each behind a space. -/
def prT : List Sx → List UInt8
  | [] => [41]
  | x :: r => 32 :: (prS x ++ prT r)
end
def prR : List Sx → List UInt8
  | [] => []
  | x :: r => 32 :: (prS x ++ prR r)
/-- A program's text. -/
def prF : List Sx → List UInt8
  | [] => []
  | x :: r => prS x ++ prR r
mutual
def datS : Sx → D
  | .tok t => (tokD t).getD (sym [])
  | .lst l => Go.Proofs.YtlobegpjenabaaaGreatDoor.lst (datL l)
  | .quo x => Go.Proofs.YtlobegpjenabaaaGreatDoor.lst [sym qsym, datS x]
def datL : List Sx → List D
  | [] => []
  | x :: r => datS x :: datL r
end
def okT (t : List UInt8) : Bool := !t.isEmpty && t.all (fun c => sortU c != 0) && (tokD t).isSome
mutual
/-- May it stand within so many? -/
def okS : Nat → Sx → Bool
  | _, .tok t => okT t
  | n, .lst l => decide (n < 20) && okL (n + 1) l
  | n, .quo x => decide (n < 20) && okS (n + 1) x
def okL : Nat → List Sx → Bool
  | _, [] => true
  | n, x :: r => okS n x && okL n r
end

/-- No token goes on here. -/
def Stop (l : List UInt8) : Prop := ∀ c r, l = c :: r → sortU c = 0
theorem tokN_all : ∀ (t rest : List UInt8), t.all (fun c => sortU c != 0) = true → Stop rest → tokN (t ++ rest) = t.length
  | [], [], _, _ => rfl
  | [], c :: r, _, h => by simp only [List.nil_append, tokN]; rw [if_pos (h c r rfl)]; rfl
  | c :: t, rest, h, hs => by
    simp only [List.all_cons, Bool.and_eq_true, bne_iff_ne, ne_eq] at h
    simp only [List.cons_append, tokN]
    rw [if_neg h.1, tokN_all t rest h.2 hs]; rfl
theorem sort_not (c : UInt8) (h : ¬ sortU c = 0) : ¬ c.toNat = 40 ∧ ¬ c.toNat = 41 ∧ ¬ c.toNat = 39 ∧ ¬ c.toNat = 32 ∧ ¬ c.toNat = 10 ∧ ¬ c.toNat = 59 := by
  refine ⟨?_, ?_, ?_, ?_, ?_, ?_⟩ <;> intro e <;> apply h <;> unfold sortU <;> rw [e] <;> rfl
/-- How a tree begins: no gap, no closing sign. -/
theorem head_ok : ∀ (x : Sx) (n : Nat), okS n x = true → ∃ c r, prS x = c :: r ∧ ¬ c.toNat = 41 ∧ ¬ c.toNat = 32 ∧ ¬ c.toNat = 10 ∧ ¬ c.toNat = 59
  | .tok t, n, h => by
    simp only [okS, okT, Bool.and_eq_true] at h
    cases t with
    | nil => simp at h
    | cons c r =>
      have h2 := h.1.2
      simp only [List.all_cons, Bool.and_eq_true, bne_iff_ne, ne_eq] at h2
      have := sort_not c h2.1
      exact ⟨c, r, rfl, this.2.1, this.2.2.2.1, this.2.2.2.2.1, this.2.2.2.2.2⟩
  | .lst l, n, h => ⟨40, prL l, rfl, by decide, by decide, by decide, by decide⟩
  | .quo x, n, h => ⟨39, prS x, rfl, by decide, by decide, by decide, by decide⟩
theorem getD_drop (l : List UInt8) (i : Nat) (c : UInt8) (r : List UInt8) (h : l.drop i = c :: r) : l.getD i 0 = c := by
  have : (l.drop i)[0]? = some c := by rw [h]; rfl
  rw [List.getElem?_drop, Nat.add_zero] at this
  rw [List.getD_eq_getElem?_getD, this]; rfl
theorem drop_next (l : List UInt8) (i : Nat) (a b : List UInt8) (h : l.drop i = a ++ b) : l.drop (i + a.length) = b := by
  rw [← List.drop_drop, h, List.drop_left]
theorem lt_drop (l : List UInt8) (i : Nat) (c : UInt8) (r : List UInt8) (h : l.drop i = c :: r) : i < l.length := by
  rcases Nat.lt_or_ge i l.length with h1 | h1
  · exact h1
  · rw [List.drop_eq_nil_of_le h1] at h; cases h
theorem skip_at (l : List UInt8) (i : Nat) (c : UInt8) (r : List UInt8) (h : l.drop i = c :: r) (h1 : ¬ c.toNat = 32) (h2 : ¬ c.toNat = 10) (h3 : ¬ c.toNat = 59) : skipTo l i = i := by
  unfold skipTo; rw [h]; simp [skipB, h1, h2, h3]
theorem skip_space (l : List UInt8) (i : Nat) (r : List UInt8) (h : l.drop i = 32 :: r) : skipTo l i = skipTo l (i + 1) := by
  have h1 : l.drop (i + 1) = r := drop_next l i [32] r h
  unfold skipTo; rw [h, h1]
  simp [skipB]; omega
theorem prT_stop (r : List Sx) (rest : List UInt8) : Stop (prT r ++ rest) := by
  intro c q h
  cases r with
  | nil => cases h; decide
  | cons x r => cases h; decide
theorem prR_stop (r : List Sx) : Stop (prR r) := by
  intro c q h
  cases r with
  | nil => cases h
  | cons x r => cases h; decide

mutual
theorem rd_one : ∀ (x : Sx) (n op i : Nat) (l rest : List UInt8), okS op x = true → l.drop i = prS x ++ rest → Stop rest → 2 * (prS x).length ≤ n → rd n l op i none = .inr (datS x, i + (prS x).length)
  | .tok t, n, op, i, l, rest, ho, hl, hs, hn => by
    simp only [okS, okT, Bool.and_eq_true] at ho
    cases t with
    | nil => simp at ho
    | cons c r =>
      cases n with
      | zero => simp [prS] at hn
      | succ n =>
        have h2 := ho.1.2
        have h2' := h2
        simp only [List.all_cons, Bool.and_eq_true, bne_iff_ne, ne_eq] at h2
        obtain ⟨a1, a2, a3, _⟩ := sort_not c h2.1
        have hl' : l.drop i = (c :: r) ++ rest := hl
        have hg := getD_drop l i c (r ++ rest) hl'
        have he : tokEnd l i = i + (c :: r).length := by unfold tokEnd; rw [hl', tokN_all _ _ h2' hs]
        have ht : (l.drop i).take (tokEnd l i - i) = c :: r := by rw [he, hl', Nat.add_sub_cancel_left, List.take_left]
        rw [rd, hg, if_neg a2, if_neg a1, if_neg a3, if_neg (by rw [he]; simp), ht]
        cases hd : tokD (c :: r) with
        | none => rw [hd] at ho; simp at ho
        | some d => simp only [he, datS, hd, prS, Option.getD_some]
  | .lst q, n, op, i, l, rest, ho, hl, hs, hn => by
    simp only [okS, Bool.and_eq_true, decide_eq_true_eq] at ho
    cases n with
    | zero => simp [prS] at hn
    | succ n =>
      have hl' : l.drop i = 40 :: (prL q ++ rest) := hl
      have hg := getD_drop l i 40 _ hl'
      have h1 : l.drop (i + 1) = prL q ++ rest := drop_next l i [40] _ hl'
      rw [rd, hg, if_neg (by decide), if_pos (by decide), if_neg (by omega)]
      rw [rd_list q n (op + 1) (i + 1) l rest ho.2 h1 (by simp only [prS, List.length_cons] at hn; omega)]
      simp only [prS, datS, List.length_cons]
      congr 2; omega
  | .quo x, n, op, i, l, rest, ho, hl, hs, hn => by
    simp only [okS, Bool.and_eq_true, decide_eq_true_eq] at ho
    cases n with
    | zero => simp [prS] at hn
    | succ n =>
      have hl' : l.drop i = 39 :: (prS x ++ rest) := hl
      have hg := getD_drop l i 39 _ hl'
      have h1 : l.drop (i + 1) = prS x ++ rest := drop_next l i [39] _ hl'
      obtain ⟨c, r, hp, b1, b2, b3, b4⟩ := head_ok x _ ho.2
      have h2 : l.drop (i + 1) = c :: (r ++ rest) := by rw [h1, hp]; rfl
      have hsk := skip_at l (i + 1) c _ h2 b2 b3 b4
      have hlt := lt_drop l (i + 1) c _ h2
      rw [rd, hg, if_neg (by decide), if_neg (by decide), if_pos (by decide), if_neg (by omega), hsk, if_neg (by omega)]
      rw [rd_one x n (op + 1) (i + 1) l rest ho.2 h1 hs (by simp only [prS, List.length_cons] at hn; omega)]
      simp only [prS, datS, List.length_cons]
      congr 2; omega
theorem rd_list : ∀ (q : List Sx) (n op i : Nat) (l rest : List UInt8), okL op q = true → l.drop i = prL q ++ rest → 2 * (prL q).length ≤ n + 1 → rd n l op i (some []) = .inr (Go.Proofs.YtlobegpjenabaaaGreatDoor.lst (datL q), i + (prL q).length)
  | [], n, op, i, l, rest, ho, hl, hn => by
    cases n with
    | zero => simp [prL] at hn
    | succ n =>
      have hl' : l.drop i = 41 :: rest := hl
      have hg := getD_drop l i 41 _ hl'
      have hsk := skip_at l i 41 _ hl' (by decide) (by decide) (by decide)
      have hlt := lt_drop l i 41 _ hl'
      rw [rd, hsk, if_neg (by omega), hg, if_pos (by decide)]
      rfl
  | x :: r, n, op, i, l, rest, ho, hl, hn => by
    simp only [okL, Bool.and_eq_true] at ho
    cases n with
    | zero => obtain ⟨c, r', hp, _⟩ := head_ok x _ ho.1; simp [prL, hp] at hn; omega
    | succ n =>
      have hl' : l.drop i = prS x ++ (prT r ++ rest) := by rw [hl, prL, List.append_assoc]
      obtain ⟨c, q, hp, b1, b2, b3, b4⟩ := head_ok x _ ho.1
      have h2 : l.drop i = c :: (q ++ (prT r ++ rest)) := by rw [hl', hp]; rfl
      have hsk := skip_at l i c _ h2 b2 b3 b4
      have hlt := lt_drop l i c _ h2
      have hg := getD_drop l i c _ h2
      have hpl : 1 ≤ (prT r).length := by cases r <;> simp [prT]
      have hx : 1 ≤ (prS x).length := by rw [hp]; simp
      simp only [prL, List.length_append] at hn
      rw [rd, hsk, if_neg (by omega), hg, if_neg b1]
      rw [rd_one x n op i l _ ho.1 hl' (prT_stop r rest) (by omega)]
      simp only [List.nil_append]
      rw [rd_rest r n op _ [datS x] l rest ho.2 (drop_next l i _ _ hl') (by omega)]
      simp only [datL, prL, List.length_append, List.singleton_append]
      congr 2; omega
theorem rd_rest : ∀ (q : List Sx) (n op i : Nat) (acc : List D) (l rest : List UInt8), okL op q = true → l.drop i = prT q ++ rest → 2 * (prT q).length ≤ n + 1 → rd n l op i (some acc) = .inr (Go.Proofs.YtlobegpjenabaaaGreatDoor.lst (acc ++ datL q), i + (prT q).length)
  | [], n, op, i, acc, l, rest, ho, hl, hn => by
    cases n with
    | zero => simp [prT] at hn
    | succ n =>
      have hl' : l.drop i = 41 :: rest := hl
      have hg := getD_drop l i 41 _ hl'
      have hsk := skip_at l i 41 _ hl' (by decide) (by decide) (by decide)
      have hlt := lt_drop l i 41 _ hl'
      rw [rd, hsk, if_neg (by omega), hg, if_pos (by decide)]
      simp [datL, prT]
  | x :: r, n, op, i, acc, l, rest, ho, hl, hn => by
    simp only [okL, Bool.and_eq_true] at ho
    cases n with
    | zero => simp [prT] at hn; omega
    | succ n =>
      have hl0 : l.drop i = 32 :: (prS x ++ (prT r ++ rest)) := by rw [hl, prT]; simp
      have hl' : l.drop (i + 1) = prS x ++ (prT r ++ rest) := drop_next l i [32] _ hl0
      obtain ⟨c, q, hp, b1, b2, b3, b4⟩ := head_ok x _ ho.1
      have h2 : l.drop (i + 1) = c :: (q ++ (prT r ++ rest)) := by rw [hl', hp]; rfl
      have hsk := skip_at l (i + 1) c _ h2 b2 b3 b4
      have hlt := lt_drop l (i + 1) c _ h2
      have hg := getD_drop l (i + 1) c _ h2
      have hpl : 1 ≤ (prT r).length := by cases r <;> simp [prT]
      simp only [prT, List.length_cons, List.length_append] at hn
      rw [rd, skip_space l i _ hl0, hsk, if_neg (by omega), hg, if_neg b1]
      rw [rd_one x n op (i + 1) l _ ho.1 hl' (prT_stop r rest) (by omega)]
      simp only []
      rw [rd_rest r n op _ (acc ++ [datS x]) l rest ho.2 (drop_next l (i + 1) _ _ hl') (by omega)]
      simp only [datL, prT, List.length_cons, List.length_append, List.append_assoc, List.singleton_append]
      congr 2; omega
end
theorem readS_rest : ∀ (q : List Sx) (n i : Nat) (acc : List D) (l : List UInt8), okL 0 q = true → l.drop i = prR q → i ≤ l.length → q.length < n → readS n l i acc = .inr (acc ++ datL q)
  | [], n, i, acc, l, ho, hl, hi, hn => by
    cases n with
    | zero => simp at hn
    | succ n =>
      have : i = l.length := by have := congrArg List.length hl; simp [prR] at this; omega
      subst this
      rw [readS, if_pos (by unfold skipTo; simp [skipB])]
      simp [datL]
  | x :: r, n, i, acc, l, ho, hl, hi, hn => by
    simp only [okL, Bool.and_eq_true] at ho
    cases n with
    | zero => simp at hn
    | succ n =>
      have hl0 : l.drop i = 32 :: (prS x ++ prR r) := hl
      have hl' : l.drop (i + 1) = prS x ++ prR r := drop_next l i [32] _ hl0
      obtain ⟨c, q, hp, b1, b2, b3, b4⟩ := head_ok x _ ho.1
      have h2 : l.drop (i + 1) = c :: (q ++ prR r) := by rw [hl', hp]; rfl
      have hsk := skip_at l (i + 1) c _ h2 b2 b3 b4
      have hlt := lt_drop l (i + 1) c _ h2
      have hlen := congrArg List.length hl'
      simp only [List.length_drop, List.length_append] at hlen
      rw [readS, skip_space l i _ hl0, hsk, if_neg (by omega), rd_one x _ 0 (i + 1) l (prR r) ho.1 hl' (prR_stop r) (by omega)]
      simp only []
      rw [readS_rest r n _ _ l ho.2 (drop_next l (i + 1) _ _ hl') (by omega) (by simp at hn; omega)]
      simp [datL]
/-- The data of a program's text. -/
theorem readS_prF (q : List Sx) (ho : okL 0 q = true) (n : Nat) (hn : q.length < n) : readS n (prF q) 0 [] = .inr (datL q) := by
  cases q with
  | nil =>
    cases n with
    | zero => simp at hn
    | succ n => rw [readS, if_pos (by rfl)]; rfl
  | cons x r =>
    simp only [okL, Bool.and_eq_true] at ho
    cases n with
    | zero => simp at hn
    | succ n =>
      have hl' : (prF (x :: r)).drop 0 = prS x ++ prR r := rfl
      obtain ⟨c, q, hp, b1, b2, b3, b4⟩ := head_ok x _ ho.1
      have h2 : (prF (x :: r)).drop 0 = c :: (q ++ prR r) := by rw [hl', hp]; rfl
      have hsk := skip_at _ 0 c _ h2 b2 b3 b4
      have hlt := lt_drop _ 0 c _ h2
      have hlen := congrArg List.length hl'
      simp only [List.length_drop, List.length_append] at hlen
      rw [readS, hsk, if_neg (by omega), rd_one x _ 0 0 _ (prR r) ho.1 hl' (prR_stop r) (by omega)]
      simp only []
      rw [readS_rest r n _ _ _ ho.2 (drop_next _ 0 _ _ hl') (by omega) (by simp at hn; omega)]
      simp [datL]
theorem prS_len (x : Sx) (n : Nat) (h : okS n x = true) : 1 ≤ (prS x).length := by
  obtain ⟨c, r, hp, _⟩ := head_ok x n h; rw [hp]; simp
theorem prR_len : ∀ (q : List Sx), q.length ≤ (prR q).length
  | [] => Nat.le_refl _
  | x :: r => by have := prR_len r; simp [prR]; omega
theorem prF_len (q : List Sx) (ho : okL 0 q = true) : q.length ≤ (prF q).length := by
  cases q with
  | nil => exact Nat.le_refl _
  | cons x r =>
    simp only [okL, Bool.and_eq_true] at ho
    have h1 := prR_len r
    have h2 := prS_len x 0 ho.1
    simp [prF]; omega
end Go.Proofs.YtlobegpjenabaaaGreatDoor

/- Ints as tokens: what itoa spells is read as that int. -/
namespace Go.Proofs.YtlobegpjenabaaaGreatDoor
open Go
set_option linter.unusedSimpArgs false
set_option linter.unusedVariables false

theorem dig_toNat (d : Nat) (h : d < 10) : (UInt8.ofNat (48 + d)).toNat = 48 + d := by
  rw [UInt8.toNat_ofNat']; omega
theorem dig_sort (d : Nat) (h : d < 10) : sortU (UInt8.ofNat (48 + d)) = 1 := by
  unfold sortU sortI digB
  rw [dig_toNat d h]
  have h1 : decide ((48 : Int) ≤ ((48 + d : Nat) : Int)) = true := by simp; omega
  have h2 : decide (((48 + d : Nat) : Int) ≤ 57) = true := by simp; omega
  rw [h1, h2]; rfl
theorem valF_app2 : ∀ (l m : List UInt8) (a : Int), valF a (l ++ m) = valF (valF a l) m
  | [], m, a => rfl
  | c :: r, m, a => valF_app2 r m _
theorem dec_all (u : Nat) : (Lib.decDigits u).all (fun c => sortU c == 1) = true := by
  induction u using Nat.strongRecOn with
  | _ u ih =>
    by_cases h : u < 10
    · rw [Lib.decDigits, dif_pos h, List.all_cons, dig_sort u h]; rfl
    · rw [Lib.decDigits, dif_neg h, List.all_append, ih (u / 10) (by omega), List.all_cons, dig_sort (u % 10) (by omega)]; rfl
theorem dec_val (u : Nat) : valF 0 (Lib.decDigits u) = u := by
  induction u using Nat.strongRecOn with
  | _ u ih =>
    by_cases h : u < 10
    · rw [Lib.decDigits, dif_pos h]; show 10 * 0 + (((UInt8.ofNat (48 + u)).toNat : Int) - 48) = _; rw [dig_toNat u h]; omega
    · rw [Lib.decDigits, dif_neg h, valF_app2, ih (u / 10) (by omega)]; show 10 * ((u / 10 : Nat) : Int) + (((UInt8.ofNat (48 + u % 10)).toNat : Int) - 48) = _; rw [dig_toNat (u % 10) (by omega)]; omega
theorem dec_ne (u : Nat) : Lib.decDigits u ≠ [] := by
  intro h
  have := Lib.decDigits_length u
  have := Lib.nDigits_pos u
  rw [h] at *; simp at *; omega
theorem dec_len (u k : Nat) (h : u < 10 ^ k) (hk : 1 ≤ k) : (Lib.decDigits u).length ≤ k := by
  rw [Lib.decDigits_length]
  induction k generalizing u with
  | zero => omega
  | succ k ih =>
    by_cases h0 : u < 10
    · rw [Lib.nDigits_small h0]; omega
    · rw [Lib.nDigits_big h0]
      have hk1 : 1 ≤ k := by
        rcases Nat.eq_zero_or_pos k with e | e
        · subst e; simp at h; omega
        · exact e
      have := ih (u / 10) (by rw [Nat.pow_succ] at h; omega) hk1
      omega
theorem dec_head (u : Nat) : ∃ c r, Lib.decDigits u = c :: r ∧ sortU c = 1 ∧ c.toNat ≠ 45 ∧ c.toNat ≠ 35 := by
  cases h : Lib.decDigits u with
  | nil => exact absurd h (dec_ne u)
  | cons c r =>
    have := dec_all u
    rw [h] at this
    simp only [List.all_cons, Bool.and_eq_true, beq_iff_eq] at this
    refine ⟨c, r, rfl, this.1, ?_, ?_⟩ <;> intro e <;> have h1 := this.1 <;> unfold sortU at h1 <;> rw [e] at h1 <;> exact absurd h1 (by decide)
theorem dec_digits (u : Nat) : digits (Lib.decDigits u) = true := by
  unfold digits
  rw [dec_all u]
  cases h : Lib.decDigits u with
  | nil => exact absurd h (dec_ne u)
  | cons c r => rfl
theorem tokD_dec (u : Nat) (h : u < 1000000000000000000) : tokD (Lib.decDigits u) = some (num u) := by
  obtain ⟨c, r, hc, h1, h2, h3⟩ := dec_head u
  have hm : minus (Lib.decDigits u) = false := by rw [hc]; simp [minus, h2]
  have hb : body (Lib.decDigits u) = Lib.decDigits u := by unfold body; rw [hm]; rfl
  have hl := dec_len u 18 (by omega) (by omega)
  have e1 : ¬ Lib.decDigits u = [35, 116] := fun e => by rw [hc] at e; injection e with e _; subst e; exact h3 rfl
  have e2 : ¬ Lib.decDigits u = [35, 102] := fun e => by rw [hc] at e; injection e with e _; subst e; exact h3 rfl
  unfold tokD
  rw [if_neg e1, if_neg e2, hb, if_pos (dec_digits u), if_neg (by omega), hm]
  simp only [Bool.false_eq_true, if_false]
  unfold val; rw [dec_val]
theorem tokD_neg (u : Nat) (h : u < 1000000000000000000) : tokD (45 :: Lib.decDigits u) = some (num (-(u : Int))) := by
  have hm : minus (45 :: Lib.decDigits u) = true := rfl
  have hb : body (45 :: Lib.decDigits u) = Lib.decDigits u := rfl
  have hl := dec_len u 18 (by omega) (by omega)
  have e1 : ¬ (45 :: Lib.decDigits u) = [35, 116] := fun e => by injection e with e _; exact absurd e (by decide)
  have e2 : ¬ (45 :: Lib.decDigits u) = [35, 102] := fun e => by injection e with e _; exact absurd e (by decide)
  unfold tokD
  rw [if_neg e1, if_neg e2, hb, if_pos (dec_digits u), if_neg (by omega), hm]
  simp only [if_true]
  unfold val; rw [dec_val]
/-- An int that can be written. -/
def Small (a : Int) : Prop := -1000000000000000000 < a ∧ a < 1000000000000000000
theorem tokD_itoa (a : Int) (h : Small a) : tokD (Lib.itoa a) = some (num a) := by
  unfold Lib.itoa
  split
  · rename_i hn
    rw [tokD_neg _ (by have := h.1; omega)]
    congr 2; omega
  · rename_i hn
    rw [tokD_dec _ (by have := h.2; omega)]
    congr 2; omega
theorem itoa_okT (a : Int) (h : Small a) : okT (Lib.itoa a) = true := by
  unfold okT
  rw [tokD_itoa a h]
  have hd : ∀ u, (Lib.decDigits u).all (fun c => sortU c != 0) = true := fun u => by
    have := dec_all u
    rw [List.all_eq_true] at *
    intro c hc
    have := this c hc
    simp only [beq_iff_eq] at this
    simp [this]
  have hne : ∀ u, (Lib.decDigits u).isEmpty = false := fun u => by
    cases h : Lib.decDigits u with
    | nil => exact absurd h (dec_ne u)
    | cons c r => rfl
  unfold Lib.itoa
  split
  · simp only [List.isEmpty_cons, List.all_cons, hd]; rfl
  · simp only [hne, hd]; rfl
theorem itoa_len18 (a : Int) (h : Small a) : (Lib.itoa a).length ≤ 19 := by
  have h1 := h.1
  have h2 := h.2
  unfold Lib.itoa
  split
  · have := dec_len a.natAbs 18 (by omega) (by omega)
    simp; omega
  · have := dec_len a.toNat 18 (by omega) (by omega)
    omega
end Go.Proofs.YtlobegpjenabaaaGreatDoor

/- lathekeep: is, digits, small, truth. -/
namespace Go.Proofs.YtlobegpjenabaaaGreatDoor
open Go.RowKit
set_option linter.unusedSimpArgs false
set_option linter.unusedVariables false

def IsP (w : World) (r : Bool) (e : Ending) (w' : World) : Prop := e = .returned (.bool r) ∧ Below w.heap.size w w'
set_option maxRecDepth 100000 in
set_option maxHeartbeats 1000000 in
theorem is_go (s t : ByteArray) (hs : Says s.data.toList 5000 t.data.toList []) (hmax : s.size ≤ maxLen) (w : World) (hm : MaxOk w) (ht : Tab w.heap.size w) :
    Calls Tryz.prog 19 #[.string s, .string t] w (IsP w true) := by
  have HS := hide (says_go s 5000 t.data.toList [] hs (by decide) hmax w hm ht)
  clear hs hm ht
  go_enter Tryz.func19, Tryz.ntmps19
  go_wp2_with fail
  refine HS.out.mono ?_
  rintro e w1 ⟨v, he, hv, hb⟩
  rw [show (⟨t.data.toList.toArray⟩ : ByteArray) = t from by cases t; rfl] at he
  subst he
  obtain ⟨a, cap, rfl, _, _, _⟩ := ownsRow_slice hv
  have HB := hide hb
  clear hv hb HS
  go_wp2
  go_ret
  exact ⟨rfl, HB.out⟩
def StrP (w : World) (s : List UInt8) (e : Ending) (w' : World) : Prop := e = .returned (.string ⟨s.toArray⟩) ∧ Below w.heap.size w w'
set_option maxRecDepth 100000 in
set_option maxHeartbeats 1000000 in
theorem small_go (w : World) (n : Int) (h0 : -9223372036854775808 ≤ n) (h1 : n ≤ 9223372036854775807) : Calls Tryz.prog 17 #[.int .i64 n] w (RetW (.int .i64 (n.tmod 1000000000000000000)) w) := by
  go_enter Tryz.func17, Tryz.ntmps17
  go_wp2
  go_ret
  exact ⟨rfl, rfl⟩
set_option maxRecDepth 100000 in
set_option maxHeartbeats 1000000 in
theorem truth_go (w : World) (b : Bool) : Calls Tryz.prog 20 #[.bool b] w (RetW (.string (if b then ⟨#[35, 116]⟩ else ⟨#[35, 102]⟩)) w) := by
  cases b <;>
  · go_enter Tryz.func20, Tryz.ntmps20
    go_wp2
    go_ret
    exact ⟨rfl, rfl⟩
/-- One digit as a text. -/
theorem dig_conv (w : World) (u : Nat) : (convert 72 9 (.slice (some ⟨w.heap.size, 0, none⟩) 1 1)).run Tryz.prog (w.alloc (.cells #[.int .u8 (48 + (u : Int) % 10)] 5)) = .ok (.string ⟨#[UInt8.ofNat (48 + u % 10)]⟩) (w.alloc (.cells #[.int .u8 (48 + (u : Int) % 10)] 5)) := by
  have hc : Lib.Bytes (w.alloc (.cells #[.int .u8 (48 + (u : Int) % 10)] 5)) w.heap.size 0 ⟨#[UInt8.ofNat (48 + u % 10)]⟩ := fun i hi => by
    have hi : i = 0 := by
      have : i < 1 := hi
      omega
    subst hi
    refine (World.cell?_alloc_at _ _ _ _ (by simp)).trans ?_
    have := dig_toNat (u % 10) (by omega)
    show some (Value.int .u8 (48 + (u : Int) % 10)) = some (Value.int .u8 ((UInt8.ofNat (48 + u % 10)).toNat : Int))
    rw [this]
    congr 2
  exact Lib.run_convert_whole (P := Tryz.prog) _ 72 5 9 Tryz.underlying72 Tryz.underlying5 Tryz.underlying9 w.heap.size 0 ⟨#[UInt8.ofNat (48 + u % 10)]⟩ hc 1
theorem ba_add (a b : List UInt8) : (⟨a.toArray⟩ : ByteArray) ++ ⟨b.toArray⟩ = ⟨(a ++ b).toArray⟩ := by
  apply ByteArray.ext
  apply Array.toList_inj.1
  simp
set_option maxRecDepth 100000 in
set_option maxHeartbeats 1000000 in
theorem digits_pos (u : Nat) (hu : u ≤ 9223372036854775807) (w : World) : Calls Tryz.prog 18 #[.int .i64 (u : Nat)] w (StrP w (Lib.decDigits u)) := by
  induction u using Nat.strongRecOn generalizing w with
  | _ u ih =>
    have h0 : ¬ ((u : Int) < 0) := by omega
    have hne : ((u : Int) == -9223372036854775808) = false := by simp
    have hcv := dig_conv w u
    obtain ⟨c, hc⟩ : ∃ c, c = UInt8.ofNat (48 + u % 10) := ⟨_, rfl⟩
    rw [← hc] at hcv
    by_cases hlt : (u : Int) < 10
    · have HD : Hid (Lib.decDigits u = [c]) := by
        show _ = _
        rw [hc, Lib.decDigits_one (by omega), Nat.mod_eq_of_lt (by omega)]
      clear ih hc
      go_enter Tryz.func18, Tryz.ntmps18
      go_wp2
      go_ret
      exact ⟨by rw [HD.out]; rfl, (Below.refl _ _).alloc (Nat.le_refl _) _⟩
    · have HD : Hid (Lib.decDigits u = Lib.decDigits (u / 10) ++ [c]) := by
        show _ = _
        conv => lhs; rw [Lib.decDigits]
        rw [dif_neg (by omega), hc]
      have HI := hide (fun W => ih (u / 10) (by omega) (by omega) W)
      have hq : ((u / 10 : Nat) : Int) = (u : Int) / 10 := by omega
      rw [hq] at HI
      clear ih hc hq
      go_enter Tryz.func18, Tryz.ntmps18
      go_wp2_with fail
      refine (HI.out _).mono ?_
      rintro e w1 ⟨he, hb⟩
      obtain ⟨z, hz⟩ : ∃ z : ByteArray, z = ⟨(Lib.decDigits (u / 10)).toArray⟩ := ⟨_, rfl⟩
      have hzs : (z.size : Int) ≤ 20 := by
        have := dec_len (u / 10) 19 (by omega) (by omega)
        rw [hz]; simp [ByteArray.size]; omega
      rw [← hz] at he
      subst he
      have HZ := hide hz
      have HB := hide hb
      clear hb HI hz
      go_wp2
      go_ret
      refine ⟨?_, ((Below.refl w.heap.size w).alloc (Nat.le_refl _) _).trans (HB.out.mono (by simp))⟩
      rw [HD.out, ← ba_add, ← HZ.out]; rfl
set_option maxRecDepth 100000 in
set_option maxHeartbeats 1000000 in
theorem digits_go (n : Int) (h0 : -9223372036854775808 ≤ n) (h1 : n ≤ 9223372036854775807) (w : World) : Calls Tryz.prog 18 #[.int .i64 n] w (StrP w (Lib.itoa n)) := by
  by_cases hp : 0 ≤ n
  · have := digits_pos n.toNat (by omega) w
    rw [show ((n.toNat : Nat) : Int) = n by omega] at this
    unfold Lib.itoa
    rw [if_neg (by omega)]; exact this
  · by_cases hm : n = -9223372036854775808
    · subst hm
      go_enter Tryz.func18, Tryz.ntmps18
      go_wp2
      go_ret
      refine ⟨?_, Below.refl _ _⟩
      rw [show Lib.itoa (-9223372036854775808) = [45, 57, 50, 50, 51, 51, 55, 50, 48, 51, 54, 56, 53, 52, 55, 55, 53, 56, 48, 56] by rw [Lib.itoa, if_pos (by decide)]; simp [Lib.decDigits]]
      rfl
    · have hne : (n == -9223372036854775808) = false := by simp [hm]
      have hlt : n < 0 := by omega
      have HI := hide (fun W => digits_pos n.natAbs (by omega) W)
      have hq : ((n.natAbs : Nat) : Int) = -n := by omega
      rw [hq] at HI
      have HD : Hid (Lib.itoa n = [45] ++ Lib.decDigits n.natAbs) := by show _ = _; unfold Lib.itoa; rw [if_pos hlt]; rfl
      clear hq
      go_enter Tryz.func18, Tryz.ntmps18
      go_wp2_with fail
      refine (HI.out _).mono ?_
      rintro e w1 ⟨he, hb⟩
      obtain ⟨z, hz⟩ : ∃ z : ByteArray, z = ⟨(Lib.decDigits n.natAbs).toArray⟩ := ⟨_, rfl⟩
      have hzs : (z.size : Int) ≤ 20 := by
        have := dec_len n.natAbs 19 (by omega) (by omega)
        rw [hz]; simp [ByteArray.size]; omega
      rw [← hz] at he
      subst he
      have HZ := hide hz
      have HB := hide hb
      clear hb HI hz
      go_wp2
      go_ret
      refine ⟨?_, HB.out⟩
      rw [HD.out, ← ba_add, ← HZ.out]; rfl
end Go.Proofs.YtlobegpjenabaaaGreatDoor
