/- expr: defineAs, defineProcedure, define. -/
import Derived.Test.YtlobegpjenabaaaGreatDoorImpLam
namespace Go.Proofs.YtlobegpjenabaaaGreatDoor
open Go.RowKit
set_option linter.unusedSimpArgs false
set_option linter.unusedVariables false

theorem as_lam (a b c : Value) (w : World) : (Instr.typeAssert (.iface 277 (.agg #[a, b, c])) 83 277 true).run Tryz.prog w = .ok (.tuple #[.agg #[a, b, c], .bool true]) w := by kernel_rfl
/-- What defineAs comes to. -/
def DefPost (w : World) (P : Nat → Prop) (m : Nat) (e : Ending) (w' : World) : Prop :=
  (∃ v, e = .returned v ∧ EV w' P m v) ∧ Below w.heap.size w w'

theorem as_lam_Const (v : Value) (w : World) : (Instr.typeAssert (.iface 133 v) 83 277 true).run Tryz.prog w = .ok (.tuple #[.agg #[.string ⟨#[]⟩, .slice none 0 0, .nilIface], .bool false]) w := by kernel_rfl
set_option maxHeartbeats 1000000 in
theorem defineAs_Const (s : ByteArray) (x : Value) (w : World) :
    Calls Tryz.prog 147 #[.string s, .iface 133 x] w fun e w' => e = .returned (.iface 279 (.agg #[.string s, .iface 133 x])) ∧ Below w.heap.size w w' := by
  have hta := as_lam_Const
  have HB := hide (fun o => (Below.refl w.heap.size w).alloc (Nat.le_refl _) o)
  go_enter Tryz.func147, Tryz.ntmps147
  go_wp2
  go_ret
  exact ⟨rfl, by first | exact HB.out _ | exact ((HB.out _).setCell _ _ (Nat.le_refl _))⟩
theorem as_lam_Var (v : Value) (w : World) : (Instr.typeAssert (.iface 202 v) 83 277 true).run Tryz.prog w = .ok (.tuple #[.agg #[.string ⟨#[]⟩, .slice none 0 0, .nilIface], .bool false]) w := by kernel_rfl
set_option maxHeartbeats 1000000 in
theorem defineAs_Var (s : ByteArray) (x : Value) (w : World) :
    Calls Tryz.prog 147 #[.string s, .iface 202 x] w fun e w' => e = .returned (.iface 279 (.agg #[.string s, .iface 202 x])) ∧ Below w.heap.size w w' := by
  have hta := as_lam_Var
  have HB := hide (fun o => (Below.refl w.heap.size w).alloc (Nat.le_refl _) o)
  go_enter Tryz.func147, Tryz.ntmps147
  go_wp2
  go_ret
  exact ⟨rfl, by first | exact HB.out _ | exact ((HB.out _).setCell _ _ (Nat.le_refl _))⟩
theorem as_lam_If (v : Value) (w : World) : (Instr.typeAssert (.iface 261 v) 83 277 true).run Tryz.prog w = .ok (.tuple #[.agg #[.string ⟨#[]⟩, .slice none 0 0, .nilIface], .bool false]) w := by kernel_rfl
set_option maxHeartbeats 1000000 in
theorem defineAs_If (s : ByteArray) (x : Value) (w : World) :
    Calls Tryz.prog 147 #[.string s, .iface 261 x] w fun e w' => e = .returned (.iface 279 (.agg #[.string s, .iface 261 x])) ∧ Below w.heap.size w w' := by
  have hta := as_lam_If
  have HB := hide (fun o => (Below.refl w.heap.size w).alloc (Nat.le_refl _) o)
  go_enter Tryz.func147, Tryz.ntmps147
  go_wp2
  go_ret
  exact ⟨rfl, by first | exact HB.out _ | exact ((HB.out _).setCell _ _ (Nat.le_refl _))⟩
theorem as_lam_Define (v : Value) (w : World) : (Instr.typeAssert (.iface 279 v) 83 277 true).run Tryz.prog w = .ok (.tuple #[.agg #[.string ⟨#[]⟩, .slice none 0 0, .nilIface], .bool false]) w := by kernel_rfl
set_option maxHeartbeats 1000000 in
theorem defineAs_Define (s : ByteArray) (x : Value) (w : World) :
    Calls Tryz.prog 147 #[.string s, .iface 279 x] w fun e w' => e = .returned (.iface 279 (.agg #[.string s, .iface 279 x])) ∧ Below w.heap.size w w' := by
  have hta := as_lam_Define
  have HB := hide (fun o => (Below.refl w.heap.size w).alloc (Nat.le_refl _) o)
  go_enter Tryz.func147, Tryz.ntmps147
  go_wp2
  go_ret
  exact ⟨rfl, by first | exact HB.out _ | exact ((HB.out _).setCell _ _ (Nat.le_refl _))⟩
theorem as_lam_Set (v : Value) (w : World) : (Instr.typeAssert (.iface 267 v) 83 277 true).run Tryz.prog w = .ok (.tuple #[.agg #[.string ⟨#[]⟩, .slice none 0 0, .nilIface], .bool false]) w := by kernel_rfl
set_option maxHeartbeats 1000000 in
theorem defineAs_Set (s : ByteArray) (x : Value) (w : World) :
    Calls Tryz.prog 147 #[.string s, .iface 267 x] w fun e w' => e = .returned (.iface 279 (.agg #[.string s, .iface 267 x])) ∧ Below w.heap.size w w' := by
  have hta := as_lam_Set
  have HB := hide (fun o => (Below.refl w.heap.size w).alloc (Nat.le_refl _) o)
  go_enter Tryz.func147, Tryz.ntmps147
  go_wp2
  go_ret
  exact ⟨rfl, by first | exact HB.out _ | exact ((HB.out _).setCell _ _ (Nat.le_refl _))⟩
theorem as_lam_Seq (v : Value) (w : World) : (Instr.typeAssert (.iface 269 v) 83 277 true).run Tryz.prog w = .ok (.tuple #[.agg #[.string ⟨#[]⟩, .slice none 0 0, .nilIface], .bool false]) w := by kernel_rfl
set_option maxHeartbeats 1000000 in
theorem defineAs_Seq (s : ByteArray) (x : Value) (w : World) :
    Calls Tryz.prog 147 #[.string s, .iface 269 x] w fun e w' => e = .returned (.iface 279 (.agg #[.string s, .iface 269 x])) ∧ Below w.heap.size w w' := by
  have hta := as_lam_Seq
  have HB := hide (fun o => (Below.refl w.heap.size w).alloc (Nat.le_refl _) o)
  go_enter Tryz.func147, Tryz.ntmps147
  go_wp2
  go_ret
  exact ⟨rfl, by first | exact HB.out _ | exact ((HB.out _).setCell _ _ (Nat.le_refl _))⟩
theorem as_lam_Apply (v : Value) (w : World) : (Instr.typeAssert (.iface 273 v) 83 277 true).run Tryz.prog w = .ok (.tuple #[.agg #[.string ⟨#[]⟩, .slice none 0 0, .nilIface], .bool false]) w := by kernel_rfl
set_option maxHeartbeats 1000000 in
theorem defineAs_Apply (s : ByteArray) (x : Value) (w : World) :
    Calls Tryz.prog 147 #[.string s, .iface 273 x] w fun e w' => e = .returned (.iface 279 (.agg #[.string s, .iface 273 x])) ∧ Below w.heap.size w w' := by
  have hta := as_lam_Apply
  have HB := hide (fun o => (Below.refl w.heap.size w).alloc (Nat.le_refl _) o)
  go_enter Tryz.func147, Tryz.ntmps147
  go_wp2
  go_ret
  exact ⟨rfl, by first | exact HB.out _ | exact ((HB.out _).setCell _ _ (Nat.le_refl _))⟩
set_option maxHeartbeats 1000000 in
theorem defineAs_lam (s nm : ByteArray) (a : Option Addr) (n cap : Nat) (t : TypeId) (x : Value) (w : World) :
    Calls Tryz.prog 147 #[.string s, .iface 277 (.agg #[.string nm, .slice a n cap, .iface t x])] w fun e w' => e = .returned (.iface 279 (.agg #[.string s, .iface 277 (.agg #[.string s, .slice a n cap, .iface t x])])) ∧ Below w.heap.size w w' := by
  have hta := as_lam
  have HB := hide (fun o => (Below.refl w.heap.size w).alloc (Nat.le_refl _) o)
  go_enter Tryz.func147, Tryz.ntmps147
  go_wp2
  go_ret
  exact ⟨rfl, by first | exact HB.out _ | exact ((HB.out _).setCell _ _ (Nat.le_refl _)) | exact (((HB.out _).setCell _ _ (Nat.le_refl _)).setCell _ _ (Nat.le_refl _))⟩

theorem defineAs_any {w : World} {P : Nat → Prop} {k : Nat} {v : Value} (s : ByteArray) (h : EV w P k v) : Calls Tryz.prog 147 #[.string s, v] w (DefPost w P (k + s.size + 1)) := by
  have kp : ∀ w', Below w.heap.size w w' → EV w' P k v := fun w' hb => h.kept hb fun g hg _ => hg
  cases h with
  | const t x => exact (defineAs_Const s _ w).mono fun e w' ⟨he, hb⟩ => ⟨⟨_, he, .define s (kp w' hb)⟩, hb⟩
  | var z => exact (defineAs_Var s _ w).mono fun e w' ⟨he, hb⟩ => ⟨⟨_, he, .define s (kp w' hb)⟩, hb⟩
  | ite a b c => exact (defineAs_If s _ w).mono fun e w' ⟨he, hb⟩ => ⟨⟨_, he, .define s (kp w' hb)⟩, hb⟩
  | define z a => exact (defineAs_Define s _ w).mono fun e w' ⟨he, hb⟩ => ⟨⟨_, he, .define s (kp w' hb)⟩, hb⟩
  | set z a => exact (defineAs_Set s _ w).mono fun e w' ⟨he, hb⟩ => ⟨⟨_, he, .define s (kp w' hb)⟩, hb⟩
  | seq r h2 a => exact (defineAs_Seq s _ w).mono fun e w' ⟨he, hb⟩ => ⟨⟨_, he, .define s (kp w' hb)⟩, hb⟩
  | apply r h2 a => exact (defineAs_Apply s _ w).mono fun e w' ⟨he, hb⟩ => ⟨⟨_, he, .define s (kp w' hb)⟩, hb⟩
  | lambda nm hr a =>
    obtain ⟨t, x, rfl⟩ := a.form
    obtain ⟨ad, cap, rfl, _⟩ := ownsRow_slice hr.1
    refine (defineAs_lam s nm _ _ _ _ _ w).mono fun e w' ⟨he, hb⟩ => ⟨⟨_, he, .define s ?_⟩, hb⟩
    exact .lambda s (hr.imp fun g o hg ho => ⟨by rw [hb.block g (lt_of_some ho)]; exact ho, hg⟩) (a.kept hb fun g hg _ => hg)

set_option maxRecDepth 100000 in
set_option maxHeartbeats 2000000 in
theorem defProc_go (n m : Nat) (hof : OfC n) (x : Value) (hs vs : List Value) (d : D) (hd ds : List D) (u v : Value) (w : World) (hrn : RowQ w u (x :: hs)) (hhd : IVs w m (x :: hs) (d :: hd)) (hln : (d :: hd).length ≤ 1000) (hrow : RowQ w v vs) (hds : IVs w n vs ds) (hlen : ds.length ≤ 1000) (r : Bool)
    (HR : Hid (r = (varD d && (varsL [] hd && (decide (0 < ds.length) && ds.all (exprF n)))))) :
    Calls Tryz.prog 145 #[u, v] w (OfPost w (wtL ds + wtL (d :: hd) + 2) r) := by
  have hlv := hhd.2.length
  have HRW := hide hrn
  have HP := hide (fun (tl : Value) (r2 : Bool) (htl : RowQ w tl hs) (hr2 : Hid (r2 = _)) => procedure_go n m hof hs vs hd ds tl v w htl hhd.2 (by simp at hln; omega) hrow hds hlen r2 hr2)
  obtain ⟨a, cap, rfl, hc1, hc2, hat⟩ := rowQ_at hrn hhd
  obtain ⟨g, off, rfl, hg, t1, x1, hiv1, c0⟩ := hat 0 (by simp)
  rw [Nat.add_zero] at c0
  have HV1 := hide (show IV w m (.iface t1 x1) d from hiv1)
  clear hat hrow hds hiv1 hrn hhd hof
  unfold maxLen at hc2
  simp only [List.length_cons] at *
  have HLV := hide hlv
  clear hlv
  have b0 : (((hd.length : Int) + 1) == 0) = false := by rw [beq_eq_false_iff_ne]; omega
  obtain ⟨rp, hrp⟩ : ∃ rp, rp = (varsL [] hd && (decide (0 < ds.length) && ds.all (exprF n))) := ⟨_, rfl⟩
  have HRP := hide hrp
  have HR2 := hide (show r = (varD d && rp) from by rw [HR.out, hrp])
  clear hrp HR
  go_enter Tryz.func145, Tryz.ntmps145
  go_wp2_with fail
  refine (ivariable_any m d (.iface t1 x1) _ HV1.out).mono ?_
  rintro e w2 ⟨⟨tt, rfl, htt⟩, rfl⟩
  have HTT := hide (show varD d = true → tt.size + 1 ≤ wtD d from fun h => by
    have h1 := htt h
    have h2 := nameD_wt d
    have h3 : tt.size = (nameD d).length := by rw [← h1]; exact (Array.length_toList).symm
    omega)
  clear htt HV1 c0
  obtain ⟨vd, hvd⟩ : ∃ vd, vd = varD d := ⟨_, rfl⟩
  rw [← hvd]
  have HVD := hide hvd
  clear hvd
  by_cases hcap : cap = 1
  · have hz : hs = [] := List.length_eq_zero_iff.1 (by have := HLV.out; omega)
    have HZ := hide hz
    have hz2 : hd.length = 0 := by omega
    rw [hz2]
    clear hz hln hc1 hz2
    subst hcap
    go_wp2_with fail
    refine (HP.out _ rp (by rw [HZ.out]; exact RowQ.none _ _) HRP).mono ?_
    rintro e w3 ⟨⟨u3, rfl, hu3⟩, hb3⟩
    have HB := hide hb3
    have HU := hide hu3
    clear hb3 hu3 HP HRP
    cases vd with
    | false =>
      have hr : r = false := by rw [HR2.out, ← HVD.out]; rfl
      subst hr
      clear HR2
      go_wp2
      go_ret2
      exact ⟨⟨_, rfl, fun h => by cases h⟩, HB.out⟩
    | true =>
      have hr : r = rp := by rw [HR2.out, ← HVD.out]; rfl
      subst hr
      clear HR2
      cases r with
      | false =>
        go_wp2
        go_ret2
        exact ⟨⟨_, rfl, fun h => by cases h⟩, HB.out⟩
      | true =>
        obtain ⟨k, hk, hev⟩ := HU.out rfl
        have HD := hide (defineAs_any tt hev)
        have HK := hide hk
        obtain ⟨t3, x3, rfl⟩ := hev.form
        clear HU hev hk
        go_wp2_with fail
        refine HD.out.mono ?_
        rintro e w4 ⟨⟨v4, rfl, hv4⟩, hb4⟩
        have HV4 := hide hv4
        have HB4 := hide (HB.out.trans (hb4.mono HB.out.size))
        clear hv4 hb4 HD
        obtain ⟨t4, x4, rfl⟩ := HV4.out.form
        go_wp2
        go_ret2
        exact ⟨⟨_, rfl, fun _ => ⟨_, by have := HTT.out HVD.out.symm; have := HK.out; simp only [wtL]; omega, HV4.out⟩⟩, HB4.out⟩
  · go_wp2_with fail
    refine (HP.out _ rp (RowQ.tail HRW.out HLV.out) HRP).mono ?_
    rintro e w3 ⟨⟨u3, rfl, hu3⟩, hb3⟩
    have HB := hide hb3
    have HU := hide hu3
    clear hb3 hu3 HP HRP
    cases vd with
    | false =>
      have hr : r = false := by rw [HR2.out, ← HVD.out]; rfl
      subst hr
      clear HR2
      go_wp2
      go_ret2
      exact ⟨⟨_, rfl, fun h => by cases h⟩, HB.out⟩
    | true =>
      have hr : r = rp := by rw [HR2.out, ← HVD.out]; rfl
      subst hr
      clear HR2
      cases r with
      | false =>
        go_wp2
        go_ret2
        exact ⟨⟨_, rfl, fun h => by cases h⟩, HB.out⟩
      | true =>
        obtain ⟨k, hk, hev⟩ := HU.out rfl
        have HD := hide (defineAs_any tt hev)
        have HK := hide hk
        obtain ⟨t3, x3, rfl⟩ := hev.form
        clear HU hev hk
        go_wp2_with fail
        refine HD.out.mono ?_
        rintro e w4 ⟨⟨v4, rfl, hv4⟩, hb4⟩
        have HV4 := hide hv4
        have HB4 := hide (HB.out.trans (hb4.mono HB.out.size))
        clear hv4 hb4 HD
        obtain ⟨t4, x4, rfl⟩ := HV4.out.form
        go_wp2
        go_ret2
        exact ⟨⟨_, rfl, fun _ => ⟨_, by have := HTT.out HVD.out.symm; have := HK.out; simp only [wtL]; omega, HV4.out⟩⟩, HB4.out⟩

set_option maxHeartbeats 1000000 in
theorem defProc_nil (a : Option Addr) (cap : Nat) (v : Value) (w : World) : Calls Tryz.prog 145 #[.slice a 0 cap, v] w (OfPost w 0 false) := by
  go_enter Tryz.func145, Tryz.ntmps145
  go_wp2
  go_ret2
  exact ⟨⟨_, rfl, fun h => by cases h⟩, Below.refl _ _⟩
end Go.Proofs.YtlobegpjenabaaaGreatDoor
