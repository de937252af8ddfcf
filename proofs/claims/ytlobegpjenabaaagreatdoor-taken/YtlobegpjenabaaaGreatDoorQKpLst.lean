/- Lists of ints: spelt, read, told. -/
import Derived.Test.YtlobegpjenabaaaGreatDoorK36
namespace Go.Proofs.YtlobegpjenabaaaGreatDoor
open Go.RowKit
set_option linter.unusedSimpArgs false
set_option linter.unusedVariables false

/-- Numbers, each behind a space, and the closing sign. -/
def spellT : List Int → List UInt8
  | [] => [41]
  | k :: r => 32 :: (Lib.itoa k ++ spellT r)
/-- Numbers as a list. -/
def spellS : List Int → List UInt8
  | [] => [40, 41]
  | k :: r => 40 :: (Lib.itoa k ++ spellT r)
def tokI (k : Int) : Sx := .tok (Lib.itoa k)
theorem prT_ints : ∀ (l : List Int), prT (l.map tokI) = spellT l
  | [] => rfl
  | k :: r => by rw [List.map_cons, prT, prT_ints r]; rfl
theorem prS_ints (l : List Int) : prS (.lst (l.map tokI)) = spellS l := by
  cases l with
  | nil => rfl
  | cons k r => rw [List.map_cons, prS, prL, prT_ints r]; rfl
theorem spellT_len (l : List Int) (h : ∀ k ∈ l, (Lib.itoa k).length ≤ 20) : (spellT l).length ≤ 21 * l.length + 1 := by
  induction l with
  | nil => simp [spellT]
  | cons k r ih =>
    have h1 := ih fun x hx => h x (List.mem_cons_of_mem _ hx)
    have h2 := h k List.mem_cons_self
    simp only [spellT, List.length_cons, List.length_append]
    omega
theorem spellS_len (l : List Int) (h : ∀ k ∈ l, (Lib.itoa k).length ≤ 20) : (spellS l).length ≤ 21 * l.length + 2 := by
  cases l with
  | nil => simp [spellS]
  | cons k r =>
    have h1 := spellT_len r fun x hx => h x (List.mem_cons_of_mem _ hx)
    have h2 := h k List.mem_cons_self
    simp only [spellS, List.length_cons, List.length_append]
    omega
theorem okL_ints (n : Nat) : ∀ (l : List Int), (∀ k ∈ l, Small k) → okL n (l.map tokI) = true
  | [], _ => rfl
  | k :: r, h => okL_cons (okS_tok (itoa_okT k (h k List.mem_cons_self))) (okL_ints n r fun x hx => h x (List.mem_cons_of_mem _ hx))
theorem datL_ints : ∀ (l : List Int), (∀ k ∈ l, Small k) → datL (l.map tokI) = l.map num
  | [], _ => rfl
  | k :: r, h => by
    rw [List.map_cons, datL, datL_ints r fun x hx => h x (List.mem_cons_of_mem _ hx), tokI, datS, tokD_itoa k (h k List.mem_cons_self)]
    rfl
theorem dOk_ints (N : Nat) (l : List Int) (h : ∀ k ∈ l, Small k) : dOk (N + 2) (lst (l.map num)) = true := by
  show (l.map num).all (dOk (N + 1)) = true
  rw [List.all_map, List.all_eq_true]
  intro k hk
  exact dOk_num (Small.in (h k hk))
/-- A list of ints as a value; the pairs' numbers. -/
def lstV : List Nat → List Int → V
  | i :: is, k :: ks => .pair i (.int k) (lstV is ks)
  | _, _ => .empty
theorem chv_ints {N : Nat} : ∀ (l : List Int) (v : V), ChV (DV (N + 1)) (l.map num) v → ∃ is : List Nat, is.length = l.length ∧ v = lstV is l
  | [], v, h => ⟨[], rfl, h⟩
  | k :: r, v, ⟨id, a, b, h1, _, h2, h3⟩ => by
    obtain ⟨is, h4, h5⟩ := chv_ints r b h3
    have h2 : a = .int k := h2
    exact ⟨id :: is, by simp [h4], by rw [h1, h2, h5]; rfl⟩
theorem dv_ints {N : Nat} (l : List Int) (v : V) (h : DV (N + 2) (lst (l.map num)) v) : ∃ is : List Nat, is.length = l.length ∧ v = lstV is l := chv_ints l v h
theorem toldB_ints : ∀ (is : List Nat) (l : List Int), is.length = l.length → toldB true (lstV is l) = spellT l
  | [], [], _ => rfl
  | [], _ :: _, h => by simp at h
  | _ :: _, [], h => by simp at h
  | i :: is, k :: ks, h => by
    have := toldB_ints is ks (by simpa using h)
    show 32 :: (toldB false (.int k) ++ toldB true (lstV is ks)) = _
    rw [this]; rfl
theorem told_ints (is : List Nat) (l : List Int) (h : is.length = l.length) : toldS (lstV is l) = spellS l := by
  cases is with
  | nil =>
    cases l with
    | nil => rfl
    | cons k r => simp at h
  | cons i is =>
    cases l with
    | nil => simp at h
    | cons k r =>
      have := toldB_ints is r (by simpa using h)
      show 40 :: (toldB false (.int k) ++ toldB true (lstV is r)) = _
      rw [this]; rfl

/-- Numbers as a list, not yet closed. -/
def preS : List Int → List UInt8
  | [] => [40]
  | k :: r => 40 :: (Lib.itoa k ++ r.flatMap fun x => 32 :: Lib.itoa x)
theorem spellT_eq : ∀ (l : List Int), spellT l = (l.flatMap fun x => 32 :: Lib.itoa x) ++ [41]
  | [] => rfl
  | k :: r => by rw [spellT, spellT_eq r]; simp
theorem spellS_eq (l : List Int) : spellS l = preS l ++ [41] := by
  cases l with
  | nil => rfl
  | cons k r => rw [spellS, spellT_eq, preS]; simp
theorem preS_snoc (l : List Int) (k : Int) : preS (l ++ [k]) = preS l ++ (if l = [] then [] else [32]) ++ Lib.itoa k := by
  cases l with
  | nil => simp [preS]
  | cons a r => simp [preS]
theorem preS_len (l : List Int) (h : ∀ k ∈ l, (Lib.itoa k).length ≤ 20) : (preS l).length ≤ 21 * l.length + 1 := by
  have h1 := spellS_len l h
  rw [spellS_eq] at h1
  simp at h1
  omega
set_option maxRecDepth 100000 in
set_option maxHeartbeats 1000000 in
theorem spelled_go (l : List Int) (w : World) (a : Option Addr) (cap : Nat) (hl : l.length ≤ 100) (hr : ∀ k ∈ l, -9223372036854775808 ≤ k ∧ k ≤ 9223372036854775807)
    (hc : ∀ i (hi : i < l.length), ∃ g off, a = some ⟨g, off, none⟩ ∧ g < w.heap.size ∧ w.cell? ⟨g, off + i, none⟩ = some (.int .i64 l[i])) :
    Calls Tryz.prog 23 #[.slice a l.length cap] w (StrP w (spellS l)) := by
  have HC := hide hc
  have HR := hide hr
  have HIL : Hid (∀ k ∈ l, (Lib.itoa k).length ≤ 20) := fun k hk => itoa_len k (hr k hk).1 (hr k hk).2
  clear hc hr
  go_enter Tryz.func23, Tryz.ntmps23
  go_wp2
  go_loopw [3, 4] (fun u i wr => ∃ (k : Nat) (z : ByteArray), k ≤ l.length ∧ i = .int .i64 k ∧ u = .string z ∧ z.data.toList = preS (l.take k) ∧ Below w.heap.size w wr) (fun _ i _ => l.length - (intOf i).toNat)
  case atStart => exact ⟨0, ⟨#[40]⟩, by omega, rfl, rfl, rfl, Below.refl _ _⟩
  case round =>
    obtain ⟨k, z, hk, rfl, rfl, hz, hb⟩ := hrel
    have hzs : (z.size : Int) ≤ 2200 := by
      have h1 := preS_len (l.take k) fun x hx => HIL.out x (List.mem_of_mem_take hx)
      rw [← hz] at h1
      have h2 : z.data.toList.length = z.size := by simp
      have h3 : (l.take k).length ≤ 100 := by rw [List.length_take]; omega
      omega
    have HZ := hide hz
    have HB := hide hb
    clear hz
    by_cases hlt : k < l.length
    · obtain ⟨g, off, rfl, hg, hc⟩ := HC.out k hlt
      have d0 : wr.cell? ⟨g, off + k, none⟩ = some (.int .i64 l[k]) := by rw [hb.cell (p := ⟨g, off + k, none⟩) hg]; exact hc
      have hrk := HR.out l[k] (List.getElem_mem hlt)
      have HTK := hide (show l.take (k + 1) = l.take k ++ [l[k]] from List.take_succ_eq_append_getElem hlt)
      have HKE := hide (show k ≤ l.length from hk)
      obtain ⟨v, hv⟩ : ∃ v, v = l[k] := ⟨_, rfl⟩
      rw [← hv] at d0 hrk HTK
      clear hc hb hv
      by_cases hk0 : k = 0
      · subst hk0
        rw [Nat.add_zero] at d0
        go_wp2_with fail
        refine (digits_go v hrk.1 hrk.2 _).mono ?_
        rintro e w1 ⟨he, hb1⟩
        obtain ⟨y, hy⟩ : ∃ y : ByteArray, y = ⟨(Lib.itoa v).toArray⟩ := ⟨_, rfl⟩
        have hys : (y.size : Int) ≤ 20 := by have := itoa_len v hrk.1 hrk.2; rw [hy]; simp [ByteArray.size]; omega
        rw [← hy] at he
        subst he
        have HY := hide hy
        have HB1 := hide (HB.out.trans (hb1.mono HB.out.size))
        clear hb1 hy
        go_wp2
        go_roundw
        case rel =>
          refine ⟨1, _, by omega, rfl, rfl, ?_, HB1.out⟩
          have := HTK.out
          rw [Nat.zero_add] at this
          rw [this, preS_snoc]
          have hz := HZ.out
          simp at hz
          simp [HY.out, hz, preS]
        case measure => simp [intOf]; omega
      · have hkp : ((0 : Int) < (k : Int)) := by omega
        go_wp2_with fail
        refine (digits_go v hrk.1 hrk.2 _).mono ?_
        rintro e w1 ⟨he, hb1⟩
        obtain ⟨y, hy⟩ : ∃ y : ByteArray, y = ⟨(Lib.itoa v).toArray⟩ := ⟨_, rfl⟩
        have hys : (y.size : Int) ≤ 20 := by have := itoa_len v hrk.1 hrk.2; rw [hy]; simp [ByteArray.size]; omega
        rw [← hy] at he
        subst he
        have HY := hide hy
        have HB1 := hide (HB.out.trans (hb1.mono HB.out.size))
        clear hb1 hy
        go_wp2
        go_roundw
        case rel =>
          refine ⟨k + 1, _, by omega, rfl, rfl, ?_, HB1.out⟩
          rw [HTK.out, preS_snoc, if_neg (by intro e; have := congrArg List.length e; rw [List.length_take, List.length_nil] at this; omega), ← HZ.out]
          simp [HY.out]
        case measure => simp [intOf]; omega
    · have hke : k = l.length := by omega
      subst hke
      clear hb
      go_wp2
      go_ret
      refine ⟨?_, HB.out⟩
      have hz := HZ.out
      rw [List.take_length] at hz
      rw [spellS_eq, ← hz]
      congr 2
end Go.Proofs.YtlobegpjenabaaaGreatDoor
