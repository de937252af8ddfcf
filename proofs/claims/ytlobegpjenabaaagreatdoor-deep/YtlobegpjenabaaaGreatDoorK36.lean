/- A program that is written out says what its code's run on the plain machine says. -/
import Derived.Test.YtlobegpjenabaaaGreatDoorK35
import Derived.Test.YtlobegpjenabaaaGreatDoorCards
import Derived.Test.YtlobegpjenabaaaGreatDoorTie
import Derived.ProofKit
import Derived.OpenShut
import Derived.Deep.DeepHandedRow
import Derived.Shelf.Vars
import Derived.Lib.LaidTab
import Derived.LaidHandle
import Derived.LaidSub
import Derived.Carry
namespace Go.Proofs.YtlobegpjenabaaaGreatDoor
open Go.RowKit
set_option linter.unusedSimpArgs false
set_option linter.unusedVariables false

/-- A constant that is no list, as a value. -/
def litV : Option D → Option V
  | none => some .nothing
  | some (.lit (.int .i64 k)) => some (.int k)
  | some (.lit (.bool b)) => some (.bool b)
  | some (.lit (.string t)) => some (.sym t)
  | some (.agg []) => some .empty
  | _ => none
def litVs : List (Option D) → Option (List V)
  | [] => some []
  | c :: r => match litV c, litVs r with
    | some v, some vs => some (v :: vs)
    | _, _ => none
theorem dv_lit {N : Nat} {d : D} {v v' : V} (h : DV N d v) (hv : litV (some d) = some v') : v = v' := by
  cases N with
  | zero => exact h.elim
  | succ N =>
    unfold litV at hv
    split at hv
    · rename_i h0; cases h0
    · rename_i h0; cases h0; cases hv; exact h
    · rename_i h0; cases h0; cases hv; exact h
    · rename_i h0; cases h0; cases hv; exact h
    · rename_i h0; cases h0; cases hv; exact h
    · cases hv
theorem dvs_lit {N : Nat} : ∀ (cs : List (Option D)) (vs vs' : List V), DVs N cs vs → litVs cs = some vs' → vs = vs'
  | [], [], vs', _, h => by simp only [litVs, Option.some.injEq] at h; exact h
  | [], _ :: _, _, h, _ => h.elim
  | none :: _, [], _, h, _ => h.elim
  | some _ :: _, [], _, h, _ => h.elim
  | none :: r, v :: vs, vs', h, hv => by
    unfold litVs at hv
    split at hv
    · rename_i v1 vs1 h1 h2
      cases hv
      rw [dvs_lit r vs vs1 h.2 h2, h.1]
      have : V.nothing = v1 := by simpa [litV] using h1
      rw [this]
    · cases hv
  | some d :: r, v :: vs, vs', h, hv => by
    unfold litVs at hv
    split at hv
    · rename_i v1 vs1 h1 h2
      cases hv
      rw [dvs_lit r vs vs1 h.2 h2, dv_lit h.1 h1]
    · cases hv
theorem comp_of {l : List UInt8} (q : List Sx) (ks : List E) (N : Nat) (hl : l = prF q) (hlen : (prF q).length ≤ 1000) (ho : okL 0 q = true) (ds : List D) (hds : datL q = ds) (hb : badAt 21 0 ds = none) (hk : eachS (exprS 21) ds = some ks) (hok : cdOk N (codeS ks) = true) : Comp l N (codeS ks) := by
  subst hl hds
  have hr := readS_prF q ho ((prF q).length + 1) (by have := prF_len q ho; omega)
  refine ⟨?_, ⟨ks, ?_, rfl⟩, hok⟩
  · unfold compS
    rw [if_neg (by omega), hr]
    simp only [hb]
  · unfold compE
    rw [if_neg (by omega), hr]
    exact hk
theorem says_of {l : List UInt8} {most : Nat} {t : List UInt8} {o : List (List UInt8)} {N : Nat} {st : BS} (h : Comp l N st) (vs : List V) (hv : litVs st.cs = some vs) (fuel m : Nat) (hr : goS (cdOf st vs) fuel (startS (cdOf st vs)) most 0 = some (m, .done t o)) : Says l most t o :=
  ⟨N, st, h, fun cs hcs => by rw [dvs_lit _ _ _ hcs hv]; exact ⟨fuel, m, hr⟩⟩
theorem says_of' {l : List UInt8} {most : Nat} {t : List UInt8} {o : List (List UInt8)} {N : Nat} {st : BS} (h : Comp l N st) (vs : List V) (hv : litVs st.cs = some vs) (fuel : Nat) (hr : (goS (cdOf st vs) fuel (startS (cdOf st vs)) most 0).map (fun r => r.2) = some (.done t o)) : Says l most t o := by
  cases hg : goS (cdOf st vs) fuel (startS (cdOf st vs)) most 0 with
  | none => rw [hg] at hr; cases hr
  | some r =>
    obtain ⟨m, r⟩ := r
    rw [hg] at hr
    have hr : some r = some (.done t o) := hr
    cases hr
    exact says_of h vs hv fuel m hg
theorem itoa_len (a : Int) (h0 : -9223372036854775808 ≤ a) (h1 : a ≤ 9223372036854775807) : (Lib.itoa a).length ≤ 20 := by
  unfold Lib.itoa
  split
  · have := dec_len a.natAbs 19 (by omega) (by omega)
    simp; omega
  · have := dec_len a.toNat 19 (by omega) (by omega)
    omega
theorem told_int (a : Int) : (toldS (.int (w64 a))).take 100 = Lib.itoa (w64 a) := by
  show (Lib.itoa (w64 a)).take 100 = _
  rw [List.take_of_length_le]
  have := itoa_len (w64 a) (w64_in a).1 (w64_in a).2
  omega
theorem told_bool (b : Bool) : (toldS (.bool b)).take 100 = if b then [35, 116] else [35, 102] := by cases b <;> rfl
theorem okL_nil (n : Nat) : okL n [] = true := rfl
theorem okL_cons {n : Nat} {x : Sx} {r : List Sx} (h : okS n x = true) (k : okL n r = true) : okL n (x :: r) = true := by simp only [okL, h, k, Bool.and_self]
theorem okS_lst {n : Nat} {l : List Sx} (h : n < 20) (k : okL (n + 1) l = true) : okS n (.lst l) = true := by simp only [okS, h, decide_true, k, Bool.and_self]
theorem okS_quo {n : Nat} {x : Sx} (h : n < 20) (k : okS (n + 1) x = true) : okS n (.quo x) = true := by simp only [okS, h, decide_true, k, Bool.and_self]
theorem okS_tok {n : Nat} {t : List UInt8} (h : okT t = true) : okS n (.tok t) = true := by simp only [okS, h]
theorem csOk_nil (N : Nat) : csOk N [] = true := rfl
theorem csOk_none {N : Nat} {r : List (Option D)} (k : csOk N r = true) : csOk N (none :: r) = true := k
theorem csOk_some {N : Nat} {d : D} {r : List (Option D)} (h : dOk N d = true) (k : csOk N r = true) : csOk N (some d :: r) = true := by simp only [csOk, h, k, Bool.and_self]
theorem dOk_num {N : Nat} {k : Int} (h : -9223372036854775808 ≤ k ∧ k ≤ 9223372036854775807) : dOk (N + 1) (num k) = true := by
  show (decide (-9223372036854775808 ≤ k) && decide (k ≤ 9223372036854775807)) = true
  simp [h]
theorem Small.in {a : Int} (h : Small a) : -9223372036854775808 ≤ a ∧ a ≤ 9223372036854775807 := by
  have := h.1; have := h.2; omega
/-- What a walk wants of the variables of the library. -/
structure Env (w : World) : Prop where
  mx : MaxOk w
  tb : Tab w.heap.size w
theorem Env.below {w w' : World} (h : Env w) (hb : Below w.heap.size w w') : Env w' := by
  refine ⟨?_, (h.tb.below hb).mono hb.size⟩
  obtain ⟨m, hm⟩ := h.mx
  exact ⟨m, (hb.cell (p := ⟨3, 0, none⟩) h.mx.lt).trans hm⟩
theorem w64_of (x : Int) (h : -9223372036854775808 ≤ x ∧ x ≤ 9223372036854775807) : w64 x = x := by unfold w64; omega
def truthS (b : Bool) : List UInt8 := if b then [35, 116] else [35, 102]
theorem told_truth (b : Bool) : (toldS (.bool b)).take 100 = truthS b := by cases b <;> rfl
theorem truth_go' (w : World) (b : Bool) : Calls Tryz.prog 20 #[.bool b] w (RetW (.string ⟨(truthS b).toArray⟩) w) := by
  refine (truth_go w b).mono ?_
  rintro e w' ⟨rfl, rfl⟩
  cases b <;> exact ⟨rfl, rfl⟩
def RckP (w : World) (e : Ending) (w' : World) : Prop := e = .returned (.bool true) ∧ Below w.heap.size w w'
theorem itoa_lenS (a : Int) (h : Small a) : (Lib.itoa a).length ≤ 20 := itoa_len a (Small.in h).1 (Small.in h).2
theorem Says.len {l : List UInt8} {most : Nat} {t : List UInt8} {o : List (List UInt8)} (h : Says l most t o) : l.length ≤ 1000 := by
  obtain ⟨N, st, ⟨h1, _⟩, _⟩ := h
  unfold compS at h1
  split at h1
  · cases h1
  · omega
/-- is, of a text that says this. -/
theorem is_says {S T : ByteArray} {l t : List UInt8} (hs : Says l 5000 t []) (hS : S.data.toList = l) (hT : T.data.toList = t) (W : World) (hW : Env W) : Calls Tryz.prog 19 #[.string S, .string T] W (IsP W true) := by
  have hl := hs.len
  rw [← hS] at hl
  exact is_go S T (by rw [hS, hT]; exact hs) (by unfold maxLen; have : S.data.toList.length = S.size := by simp
                                                 omega) W hW.mx hW.tb
theorem told_int' (a : Int) (h : -9223372036854775808 ≤ a ∧ a ≤ 9223372036854775807) : (toldS (.int a)).take 100 = Lib.itoa a := by
  show (Lib.itoa a).take 100 = _
  rw [List.take_of_length_le]
  have := itoa_len a h.1 h.2
  omega
theorem told_two (i : Nat) (a b : Int) (ha : -9223372036854775808 ≤ a ∧ a ≤ 9223372036854775807) (hb : -9223372036854775808 ≤ b ∧ b ≤ 9223372036854775807) : (toldS (.pair i (.int a) (.int b))).take 100 = [40] ++ Lib.itoa a ++ [32, 46, 32] ++ Lib.itoa b ++ [41] := by
  have : toldS (.pair i (.int a) (.int b)) = 40 :: (Lib.itoa a ++ ([32, 46, 32] ++ Lib.itoa b ++ [41])) := rfl
  rw [this, List.take_of_length_le]
  · simp
  · have := itoa_len a ha.1 ha.2
    have := itoa_len b hb.1 hb.2
    simp; omega
theorem itoa_ba (a : Int) (z : ByteArray) (h : z = ⟨(Lib.itoa a).toArray⟩) : z.data.toList = Lib.itoa a := by subst h; rfl
end Go.Proofs.YtlobegpjenabaaaGreatDoor

/- What all rows share: the variables of the library, and a world that holds them. -/
namespace Go.Proofs.YtlobegpjenabaaaGreatDoor.rws
open Go.ChangeShapes Go.WideShapes Go.ChangeAt Go.RowKit

theorem own : ownKnob Tryz.prog.godebug = none := by kernel_rfl

/-- The variable of the library holds some int, at the first world. -/
theorem max_of {W : World} (h : W.ShapedOpen Tryz.prog) : MaxOk W :=
  cell_of_shapedOpen_int (g := 3) (zero := #[.int .i64 0]) (t := 3) h (of_decide_eq_true (by kernel_rfl)) (by kernel_rfl) rfl (by kernel_rfl) (by kernel_rfl) Tryz.underlying3
/-- The table of the library, as the row lays it. -/
theorem tab_of {W : World} (h : laidMetH Tryz.prog Rows.reckonsRow.laid W) : Tab W.heap.size W := by
  have h1 := (laidMetH_iff.1 h).1
  have h2 := laidMet.filter (fun x => x.1 == "internal/strconv.uint64pow10") h1
  have h3 : laidMet Tryz.prog [("internal/strconv.uint64pow10", Lib.tabData .u64 Lib.pow10Tab)] W := by
    rw [show [("internal/strconv.uint64pow10", (Lib.tabData .u64 Lib.pow10Tab : DataW Unit))] = ((Rows.reckonsRow.laid.filter fun x => x.2.handleName?.isNone).filter fun x => x.1 == "internal/strconv.uint64pow10") by kernel_rfl]
    exact h2
  exact Lib.tabBelow_of_tabIs (Lib.tabIs_of_head (g := 4) (by kernel_rfl) (by kernel_rfl) Tryz.underlying371 Tryz.underlying338 (by kernel_rfl) (by kernel_rfl) h3)
theorem env_of {W : World} (h : W.ShapedOpen Tryz.prog) (hL : laidMetH Tryz.prog Rows.reckonsRow.laid W) : Env W := ⟨max_of h, tab_of hL⟩

theorem laidOut : laidOutB Tryz.prog = true := by kernel_rfl
/-- A row laid anew. -/
def layR (h : Array Obj) (k : Nat) (c : Array Value) : Array Obj := h.modify k fun
  | .cells _ t fr => .cells c t fr
  | o => o
/-- A world for the witness: the settled one, the listed variables holding what their initialisers lay. -/
def wit0 : Input := ⟨#[.cells #[.string ⟨#[118, 97, 108, 117, 101, 32, 111, 117, 116, 32, 111, 102, 32, 114, 97, 110, 103, 101]⟩] 359, .cells #[.string ⟨#[105, 110, 118, 97, 108, 105, 100, 32, 115, 121, 110, 116, 97, 120]⟩] 359], #[], []⟩
def laidW (w0 : World) : World :=
  { w0 with heap := (layR (layR (layR (layR (layR (layR w0.heap
      0 #[.iface 235 (.agg #[.pointer (some ⟨7, 103, none⟩)])])
      5 #[.int .u8 0, .int .u8 1, .int .u8 28, .int .u8 2, .int .u8 29, .int .u8 14, .int .u8 24, .int .u8 3, .int .u8 30, .int .u8 22, .int .u8 20, .int .u8 15, .int .u8 25, .int .u8 17, .int .u8 4, .int .u8 8, .int .u8 31, .int .u8 27, .int .u8 13, .int .u8 23, .int .u8 21, .int .u8 19, .int .u8 16, .int .u8 7, .int .u8 26, .int .u8 12, .int .u8 18, .int .u8 6, .int .u8 11, .int .u8 5, .int .u8 10, .int .u8 9])
      6 #[.int .u8 0, .int .u8 1, .int .u8 56, .int .u8 2, .int .u8 57, .int .u8 49, .int .u8 28, .int .u8 3, .int .u8 61, .int .u8 58, .int .u8 42, .int .u8 50, .int .u8 38, .int .u8 29, .int .u8 17, .int .u8 4, .int .u8 62, .int .u8 47, .int .u8 59, .int .u8 36, .int .u8 45, .int .u8 43, .int .u8 51, .int .u8 22, .int .u8 53, .int .u8 39, .int .u8 33, .int .u8 30, .int .u8 24, .int .u8 18, .int .u8 12, .int .u8 5, .int .u8 63, .int .u8 55, .int .u8 48, .int .u8 27, .int .u8 60, .int .u8 41, .int .u8 37, .int .u8 16, .int .u8 46, .int .u8 35, .int .u8 44, .int .u8 21, .int .u8 52, .int .u8 32, .int .u8 23, .int .u8 11, .int .u8 54, .int .u8 26, .int .u8 40, .int .u8 15, .int .u8 34, .int .u8 20, .int .u8 31, .int .u8 10, .int .u8 25, .int .u8 14, .int .u8 19, .int .u8 9, .int .u8 13, .int .u8 8, .int .u8 7, .int .u8 6])
      4 #[.int .u64 1, .int .u64 10, .int .u64 100, .int .u64 1000, .int .u64 10000, .int .u64 100000, .int .u64 1000000, .int .u64 10000000, .int .u64 100000000, .int .u64 1000000000, .int .u64 10000000000, .int .u64 100000000000, .int .u64 1000000000000, .int .u64 10000000000000, .int .u64 100000000000000, .int .u64 1000000000000000, .int .u64 10000000000000000, .int .u64 100000000000000000, .int .u64 1000000000000000000, .int .u64 10000000000000000000])
      2 #[.iface 357 (.pointer (some ⟨12, 0, none⟩))])
      1 #[.iface 357 (.pointer (some ⟨13, 0, none⟩))]) }
end Go.Proofs.YtlobegpjenabaaaGreatDoor.rws
