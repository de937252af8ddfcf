/- value.Items: what is in a list of the program. -/
import Derived.Test.YtlobegpjenabaaaGreatDoorPureRead
namespace Go.Proofs.YtlobegpjenabaaaGreatDoor
open Go.RowKit
set_option linter.unusedSimpArgs false
set_option linter.unusedVariables false

theorem as_pair (p : Option Addr) (w : World) : (Instr.typeAssert (.iface 136 (.pointer p)) 81 136 true).run Tryz.prog w = .ok (.tuple #[.pointer p, .bool true]) w := by kernel_rfl
theorem as_pair_Int (v : Value) (w : World) : (Instr.typeAssert (.iface 130 v) 81 136 true).run Tryz.prog w = .ok (.tuple #[.pointer none, .bool false]) w := by kernel_rfl
theorem as_pair_Bool (v : Value) (w : World) : (Instr.typeAssert (.iface 131 v) 81 136 true).run Tryz.prog w = .ok (.tuple #[.pointer none, .bool false]) w := by kernel_rfl
theorem as_pair_Symbol (v : Value) (w : World) : (Instr.typeAssert (.iface 134 v) 81 136 true).run Tryz.prog w = .ok (.tuple #[.pointer none, .bool false]) w := by kernel_rfl
theorem as_pair_Empty (v : Value) (w : World) : (Instr.typeAssert (.iface 207 v) 81 136 true).run Tryz.prog w = .ok (.tuple #[.pointer none, .bool false]) w := by kernel_rfl
theorem ne_empty_Int (v : Value) (w : World) : (Go.binOp .neq 81 (.iface 130 v) (.iface 207 (.agg #[]))).run Tryz.prog w = .ok (.bool true) w := by kernel_rfl
theorem ne_empty_Bool (v : Value) (w : World) : (Go.binOp .neq 81 (.iface 131 v) (.iface 207 (.agg #[]))).run Tryz.prog w = .ok (.bool true) w := by kernel_rfl
theorem ne_empty_Symbol (v : Value) (w : World) : (Go.binOp .neq 81 (.iface 134 v) (.iface 207 (.agg #[]))).run Tryz.prog w = .ok (.bool true) w := by kernel_rfl
theorem ne_empty_Empty (w : World) : (Go.binOp .neq 81 (.iface 207 (.agg #[])) (.iface 207 (.agg #[]))).run Tryz.prog w = .ok (.bool false) w := by kernel_rfl

theorem lenOf_row {w : World} {base e size n : Nat} {v : Value} {xs : List Value} (h : w.ownsRow base e size v n xs) : lenOf v = n := ownsRow_len h

/-- At a round's head of Items. -/
def IItemsRel (w : World) (n : Nat) (l : List D) (x v : Value) (wr : World) (k : Nat) : Prop :=
  (∃ vs, RowI w.heap.size wr v vs ∧ IVs wr n vs (l.take k)) ∧ ChainI wr (IV wr n) x (l.drop k) ∧ Below w.heap.size w wr

theorem iitems_round {w wr w1 : World} {n : Nat} {l : List D} {v v' x2 : Value} {t : TypeId} {x : Value} {k : Nat} {vs : List Value} (hk : k < l.length)
    (hr : RowI w.heap.size wr v vs) (hrv : IVs wr n vs (l.take k)) (hd : IV wr n (.iface t x) l[k]) (ht : ChainI wr (IV wr n) x2 (l.drop (k + 1))) (hb : Below w.heap.size w wr)
    (hu : Upd (fun k => v.ownBlock = some k) wr w1) (ho : w1.ownsRow w.heap.size 81 1 v' (vs.length + 1) (vs ++ [.iface t x])) : IItemsRel w n l x2 v' w1 (k + 1) := by
  have hkk : Keep 205 wr w1 := Keep.of_upd hu (fun k c hk => by
    rcases hr.2 with ⟨hv, _⟩ | ⟨g', cap, cu, hv, hb, hh, r⟩
    · rw [hv] at hk; cases hk
    · rw [hv] at hk; cases hk; rw [hh]; simp)
  refine ⟨⟨vs ++ [.iface t x], ?_, ?_⟩, ChainI.keep hkk (IV.keep hkk n) _ _ ht, hb.trans (hu.below hb.size ?_)⟩
  · unfold RowI; rw [List.length_append]; exact ho
  · rw [List.take_succ_eq_append_getElem hk]
    exact IVs.append (IVs.keep hkk n _ _ hrv) ⟨IV.keep hkk _ _ _ hd, trivial⟩
  · intro k hk; have := (ownsRow_ge hr hk).1; omega

set_option maxRecDepth 100000 in
set_option maxHeartbeats 1000000 in
theorem iitems_list (n : Nat) (l : List D) (x : Value) (w : World) (hv : IV w (n + 1) x (.agg l)) :
    Calls Tryz.prog 56 #[x] w fun e w' => ∃ v vs, e = .returned (.tuple #[v, .bool true]) ∧ RowI w.heap.size w' v vs ∧ IVs w' n vs l ∧ Below w.heap.size w w' := by
  obtain ⟨hl, hch⟩ : l.length ≤ 1000 ∧ ChainI w (IV w n) x l := hv
  obtain ⟨t0, x0, rfl⟩ := hch.form
  have HV := hide hch
  clear hch
  obtain ⟨i0, hi, hz0, hz1, hz2⟩ := info_parts infoVal
  have HI := hide (And.intro hi (And.intro hz0 (And.intro hz1 hz2)))
  clear hi hz0 hz1 hz2
  go_enter Tryz.func56, Tryz.ntmps56
  go_wp2
  go_loopw [0, 4] (fun x v wr => ∃ k, k ≤ l.length ∧ IItemsRel w n l x v wr k) (fun _ v _ => l.length - lenOf v)
  case atStart => exact ⟨0, Nat.zero_le _, ⟨[], RowI.nil _ _, trivial⟩, HV.out, Below.refl _ _⟩
  case round =>
    obtain ⟨k, hk, ⟨vs, hrow, hvs⟩, hch, hb⟩ := hrel
    rcases Nat.lt_or_eq_of_le hk with hlt | rfl
    · rw [drop_cons l k hlt] at hch
      obtain ⟨b, v1, v2, rfl, hP, hd, hr⟩ := hch
      obtain ⟨t1, x1, rfl⟩ := IV.form _ _ _ hd
      obtain ⟨t2, x2, rfl⟩ := hr.form
      have p0 := cell_of_block hP 0
      have p1 := cell_of_block hP 1
      simp at p0 p1
      have hcl := hvs.length
      have hlen : vs.length ≤ 1000 := by rw [hcl]; simp; omega
      have hbs := hb.size
      have HR := hide hrow
      have HRV := hide hvs
      have HP := hide hP
      have HD := hide hd
      have HT := hide hr
      have HBW := hide hb
      have HCL := hide hcl
      clear hrow hvs hP hd hr hb hcl
      have hta := as_pair
      go_wp2_with (at_builtin; refine wpList_append_lies _ rfl (.tmp 14) (.tmp 19) 76 rfl w.heap.size 81 i0 .nilIface 1 16 Tryz.underlying76 HI.out.1 HI.out.2.1 HI.out.2.2.1 HI.out.2.2.2 rfl (by decide) _ vs.length vs rfl (HR.out.alloc _) ⟨wr.heap.size, 0, none⟩ 1 1 [.iface t1 x1] rfl rfl (cell_one_new _ _ _) (by intro u hu; simp at hu; subst hu; rfl) (by decide) (by unfold maxLen; omega) (by omega) (by simp; omega) (wr.heap.size + 1) (by simp) ?_)
      intro g cap w1 hown1 hgrow hat hlt1
      have hu1 := items_upd hgrow
      have hP1 := hu1.at HP.out (fun h => by
        rcases HR.out.2 with ⟨hv, _⟩ | ⟨g', cap, cu, hv, hb, hh, r⟩
        · rw [hv] at h; cases h
        · rw [hv] at h; cases h; have := HP.out; rw [hh] at this; simp at this)
      have p2 := cell_of_block hP1 0
      have p3 := cell_of_block hP1 1
      simp at p2 p3
      have HU1 := hide hu1
      have HO1 := hide hown1
      clear hu1 hown1 hgrow hP1
      go_wp2
      go_roundw
      case rel => exact ⟨k + 1, by omega, iitems_round hlt HR.out HRV.out HD.out HT.out HBW.out HU1.out HO1.out⟩
      case measure => rw [lenOf_row HR.out, HCL.out]; simp [lenOf, HCL.out]; omega
    · rw [List.drop_length] at hch
      have hch : u0 = _ := hch
      subst hch
      have hta := as_pair_Empty
      have hne := ne_empty_Empty
      have HR := hide hrow
      have HRV := hide hvs
      have HB := hide hb
      clear hrow hvs hb
      go_wp2
      go_ret2
      exact ⟨_, vs, rfl, HR.out, by have := HRV.out; rwa [List.take_length] at this, HB.out⟩

set_option maxHeartbeats 1000000 in
theorem iitems_Int (x : Value) (w : World) :
    Calls Tryz.prog 56 #[.iface 130 x] w fun e w' => e = .returned (.tuple #[.slice none 0 0, .bool false]) ∧ w' = w := by
  have hta := as_pair_Int
  have hne := ne_empty_Int
  go_enter Tryz.func56, Tryz.ntmps56
  go_wp2
  go_loopw [0, 4] (fun u v wr => u = .iface 130 x ∧ v = .slice none 0 0 ∧ wr = w) (fun _ _ _ => 0)
  case atStart => exact ⟨rfl, rfl, rfl⟩
  case round =>
    obtain ⟨rfl, rfl, rfl⟩ := hrel
    go_wp2
    go_ret2
    exact ⟨rfl, rfl⟩
set_option maxHeartbeats 1000000 in
theorem iitems_Bool (x : Value) (w : World) :
    Calls Tryz.prog 56 #[.iface 131 x] w fun e w' => e = .returned (.tuple #[.slice none 0 0, .bool false]) ∧ w' = w := by
  have hta := as_pair_Bool
  have hne := ne_empty_Bool
  go_enter Tryz.func56, Tryz.ntmps56
  go_wp2
  go_loopw [0, 4] (fun u v wr => u = .iface 131 x ∧ v = .slice none 0 0 ∧ wr = w) (fun _ _ _ => 0)
  case atStart => exact ⟨rfl, rfl, rfl⟩
  case round =>
    obtain ⟨rfl, rfl, rfl⟩ := hrel
    go_wp2
    go_ret2
    exact ⟨rfl, rfl⟩
set_option maxHeartbeats 1000000 in
theorem iitems_Symbol (x : Value) (w : World) :
    Calls Tryz.prog 56 #[.iface 134 x] w fun e w' => e = .returned (.tuple #[.slice none 0 0, .bool false]) ∧ w' = w := by
  have hta := as_pair_Symbol
  have hne := ne_empty_Symbol
  go_enter Tryz.func56, Tryz.ntmps56
  go_wp2
  go_loopw [0, 4] (fun u v wr => u = .iface 134 x ∧ v = .slice none 0 0 ∧ wr = w) (fun _ _ _ => 0)
  case atStart => exact ⟨rfl, rfl, rfl⟩
  case round =>
    obtain ⟨rfl, rfl, rfl⟩ := hrel
    go_wp2
    go_ret2
    exact ⟨rfl, rfl⟩

/-- Items, of whatever is read. -/
theorem iitems_any (n : Nat) (d : D) (x : Value) (w : World) (hv : IV w (n + 1) x d) :
    Calls Tryz.prog 56 #[x] w fun e w' => ∃ v vs, e = .returned (.tuple #[v, .bool (isList d)]) ∧ RowI w.heap.size w' v vs ∧ IVs w' n vs (itemsD d) ∧ Below w.heap.size w w' := by
  match d, hv with
  | .agg l, hv => exact iitems_list n l x w hv
  | .lit (.int k m), hv =>
    cases k <;> first | (cases hv; done) | (have h : some _ = some x := hv; cases h; exact (iitems_Int _ w).mono fun e w' ⟨he, hb⟩ => ⟨_, [], he, RowI.nil _ _, trivial, by rw [hb]; exact Below.refl _ _⟩)
  | .lit (.bool b), hv => have h : some _ = some x := hv; cases h; exact (iitems_Bool _ w).mono fun e w' ⟨he, hb⟩ => ⟨_, [], he, RowI.nil _ _, trivial, by rw [hb]; exact Below.refl _ _⟩
  | .lit (.string b), hv => have h : some _ = some x := hv; cases h; exact (iitems_Symbol _ w).mono fun e w' ⟨he, hb⟩ => ⟨_, [], he, RowI.nil _ _, trivial, by rw [hb]; exact Below.refl _ _⟩
  | .lit (.float _ _), hv => cases hv
  | .lit .nil, hv => cases hv
  | .nil, hv => cases hv
  | .ptr _, hv => cases hv
  | .slice _ _, hv => cases hv
  | .iface _ _, hv => cases hv
  | .map _, hv => cases hv
  | .held _, hv => cases hv
end Go.Proofs.YtlobegpjenabaaaGreatDoor
