/- read: the pieces of a text, told by an iterator. -/
import Derived.Test.YtlobegpjenabaaaGreatDoorImpTake
import Derived.RangeFuncNested
import Derived.RangeFuncBound
import Derived.RangeFuncCalls
import Derived.RangeFuncLeaves
import Derived.Shelf.Abstract
import Derived.Shelf.RegionOpen
import Derived.OwnWalkIn
import Derived.TacticsInMore
import Derived.LoopNIn
import Derived.LoopIn
namespace Go.Proofs.YtlobegpjenabaaaGreatDoor
open Go.RowKit Go.Shelf
set_option linter.unusedSimpArgs false
set_option linter.unusedVariables false
attribute [local go_sem] Oper.semAt_some

/-- A piece: its bytes, its place. -/
abbrev Pc := { x : ByteArray × Nat // x.1.size ≤ 1000 ∧ ¬ kindP x.1.data.toList = 7 }
def encP (x : Pc) : Array Value := #[.agg #[.int .i64 (kindP x.1.1.data.toList), .int .i64 x.1.2, .string x.1.1]]
theorem encP_of (x : Pc) (kd : Int) (h : kindP x.1.1.data.toList = kd) : encP x = #[.agg #[.int .i64 kd, .int .i64 x.1.2, .string x.1.1]] := by unfold encP; rw [h]
/-- The bytes of the piece, or gap, that stands at place i. -/
def pieceAt (s : ByteArray) (i : Nat) : ByteArray := s.extract i (i + lenP (s.data.toList.drop i))
theorem pieceAt_size (s : ByteArray) (hs : s.size ≤ 1000) (i : Nat) : (pieceAt s i).size ≤ 1000 := by
  unfold pieceAt; simp; omega
/-- The pieces from place i on. -/
def pcsB (s : ByteArray) (hs : s.size ≤ 1000) : Nat → Nat → List Pc
  | 0, _ => []
  | n + 1, i => if i < s.size then (if h : kindP (pieceAt s i).data.toList = 7 then pcsB s hs n (i + lenP (s.data.toList.drop i)) else ⟨(pieceAt s i, i), pieceAt_size s hs i, h⟩ :: pcsB s hs n (i + lenP (s.data.toList.drop i))) else []

theorem cmN_le : ∀ l : List UInt8, cmN l ≤ l.length
  | [] => by simp [cmN]
  | c :: r => by have := cmN_le r; simp only [cmN, List.length_cons]; split <;> omega
theorem lenP_bd (c : UInt8) (r : List UInt8) : 0 < lenP (c :: r) ∧ lenP (c :: r) ≤ (c :: r).length := by
  unfold lenP
  simp only [List.headD_cons]
  by_cases h1 : (sortU c != 0) = true
  · have h2 := tokN_le (c :: r)
    simp only [h1, if_true]
    refine ⟨?_, h2⟩
    simp only [tokN]; rw [if_neg (by simpa using h1)]; omega
  · simp only [h1]
    by_cases h2 : c.toNat = 59
    · have h3 := cmN_le (c :: r)
      simp only [h2, if_true]
      refine ⟨?_, h3⟩
      unfold cmN; rw [if_neg (show ¬ c.toNat = 10 from by omega)]; exact Nat.succ_pos _
    · simp [h2]
theorem lenP_pos (s : ByteArray) (k : Nat) (h : k < s.size) : 0 < lenP (s.data.toList.drop k) ∧ k + lenP (s.data.toList.drop k) ≤ s.size := by
  have := lenP_bd s[k] (s.data.toList.drop (k + 1))
  rw [← drop_at s k h] at this
  simp at this
  omega
theorem ext_end (s : ByteArray) (k : Nat) : (s.extract k s.size).data.toList = s.data.toList.drop k := by
  rw [Lib.extract_data, List.take_of_length_le (by simp)]

/-- What a round keeps: the text's own variable, and what the library keeps. -/
def KpT (T : Nat) (W W' : World) : Prop := W'.heap[T]? = W.heap[T]? ∧ W'.heap[3]? = W.heap[3]? ∧ W.heap.size ≤ W'.heap.size
theorem KpT.refl (T : Nat) (W : World) : KpT T W W := ⟨rfl, rfl, Nat.le_refl _⟩
theorem KpT.trans {T : Nat} {A B C : World} (h : KpT T A B) (k : KpT T B C) : KpT T A C := ⟨k.1.trans h.1, k.2.1.trans h.2.1, Nat.le_trans h.2.2 k.2.2⟩
theorem KpT.alloc {T : Nat} {A B : World} (h : KpT T A B) (hT : T < B.heap.size) (h2 : 3 < B.heap.size) (o : Obj) : KpT T A (B.alloc o).drew :=
  ⟨(Below.heap_alloc B o T hT).trans h.1, (Below.heap_alloc B o 3 h2).trans h.2.1, Nat.le_trans h.2.2 (by simp [World.drew])⟩
theorem KpT.cell {T : Nat} {A B : World} (h : KpT T A B) : B.cell? ⟨T, 0, none⟩ = A.cell? ⟨T, 0, none⟩ := World.cell?_of_block (w := A) h.1
theorem KpT.max {T : Nat} {A B : World} (h : KpT T A B) (hm : MaxOk A) : MaxOk B := by
  obtain ⟨m, hm⟩ := hm
  exact ⟨m, by rw [World.cell?_of_block (w := A) (a := ⟨3, 0, none⟩) h.2.1]; exact hm⟩

set_option maxRecDepth 100000 in
set_option maxHeartbeats 2000000 in
theorem pieces1_in (n : Nat) (hn : 1 ≤ n) (l T : Nat) (s : ByteArray) (hs : s.size ≤ 1000) (J Jx : List Pc → World → Prop) (W : World) (hJa : AbidesFrom W.heap.size J)
    (hY : ∀ pre x W1, J pre W1 → pre.length < s.size + 1 → YieldAt Fence.wide (n - 1) Tryz.prog l (encP x) W1 fun e W' =>
      (e = .returned (.bool true) ∧ J (pre ++ [x]) W' ∧ KpT T W1 W') ∨ (e = .returned (.bool false) ∧ Jx (pre ++ [x]) W'))
    (hTl : T < W.heap.size) (hc : W.cell? ⟨T, 0, none⟩ = some (.string s)) (hm : MaxOk W) (h0 : J [] W) :
    CallsIn Fence.wide n Tryz.prog 81 #[.func (.yield l) #[] #[], .pointer (some ⟨T, 0, none⟩)] W fun e W' => (∃ v, e = .returned v) ∧
      ((∃ xs, xs = pcsB s hs (s.size + 1) 0 ∧ J xs W') ∨ (∃ pre, (∃ rest, pre ++ rest = pcsB s hs (s.size + 1) 0) ∧ Jx pre W')) := by
  refine callsIn_of_wp Tryz.func81 rfl trivial ?_ rfl
  simp only [Tryz.ntmps81, List.size_toArray, List.length_cons, List.length_nil, Nat.reduceAdd, Nat.reduceSub, Array.replicate_succ, Array.replicate_zero, List.push_toArray, List.append_toArray, List.nil_append, List.cons_append]
  gi_wp2
  gi_loopw [3] (fun i wr => ∃ k : Nat, k ≤ s.size ∧ i = .int .i64 k ∧ ∃ pre m, pre ++ pcsB s hs m k = pcsB s hs (s.size + 1) 0 ∧ s.size - k < m ∧ pre.length ≤ k ∧ J pre wr ∧ KpT T W wr)
    (fun i _ => s.size - (intOf i).toNat)
  case atStart => exact ⟨0, Nat.zero_le _, rfl, [], s.size + 1, rfl, by omega, Nat.le_refl _, h0, KpT.refl _ _⟩
  case round =>
    obtain ⟨k, hk, rfl, pre, m, hpre, hmk, hpl, hJs, hnx⟩ := hrel
    have hcx : wr.cell? ⟨T, 0, none⟩ = some (.string s) := hnx.cell.trans hc
    by_cases hlt : k < s.size
    · have hk1 : (k : Int) ≤ (s.size : Int) := by omega
      have HY := hide hY
      have HN := hide hnx
      have HJ := hide hJs
      clear hY hnx hJs
      have hsz : (s.extract k s.size).size = s.size - k := by simp
      have hlp := lenP_pos s k hlt
      obtain ⟨m2, hm2⟩ : ∃ m2, lenP (s.data.toList.drop k) = m2 := ⟨_, rfl⟩
      have HLEN : Hid (∀ w', Calls Tryz.prog 82 #[.string (s.extract k s.size)] w' fun e w'' => e = .returned (.int .i64 m2) ∧ w'' = w') := by
        intro w'
        have := length_any (s.extract k s.size) (by omega) (by unfold maxLen; omega) w'
        rw [ext_end, hm2] at this
        exact this
      rw [hm2] at hlp
      clear hsz
      have HM2 := hide hm2
      obtain ⟨hm2a, hm2b⟩ := hlp
      obtain ⟨pb, hpb⟩ : ∃ pb, s.extract k (k + m2) = pb := ⟨_, rfl⟩
      have HPA : Hid (pieceAt s k = pb) := by show _ = _; unfold pieceAt; rw [hm2]; exact hpb
      have he : s.extract k ((k : Int) + (m2 : Int)).toNat = pb := by rw [← hpb, show ((k : Int) + (m2 : Int)).toNat = k + m2 from by omega]
      have hpz : pb.size = m2 := by rw [← hpb]; simp; omega
      have hmw : MaxOk wr := HN.out.max hm
      obtain ⟨kd, hkd⟩ : ∃ kd, kindP pb.data.toList = kd := ⟨_, rfl⟩
      have HKIND : Hid (∀ w'', MaxOk w'' → Calls Tryz.prog 83 #[.string pb] w'' fun e w3 => e = .returned (.int .i64 kd) ∧ w3 = w'') := by
        intro w'' hq
        have := kindOf_any pb (by omega) (by omega) w'' hq
        rw [hkd] at this; exact this
      have HKD := hide hkd
      have HMW := hide hmw
      have hpbs : pb.size ≤ 1000 := by omega
      clear hpz hmw hkd hpb hm2
      have i1 : (0 : Int) ≤ (k : Int) := by omega
      have i2 : (k : Int) ≤ (k : Int) + (m2 : Int) := by omega
      have i3 : (k : Int) + (m2 : Int) ≤ (s.size : Int) := by omega
      gi_wp2_with (refine ⟨trivial, ?_⟩; gi_at_call 82; refine (callsIn_wide.2 (HLEN.out _)).mono ?_; rintro e w' ⟨rfl, rfl⟩)
      have nne := World.new_ne w' ⟨T, 0, none⟩ hcx
      refine wpIn_wide.2 ?_
      go_region_held3 (fun wx => wx.cell? ⟨T, 0, none⟩ = some (.string s)) (go_keep) (first | (go_at_call 83; refine (HKIND.out _ (by first | exact HMW.out | exact MaxOk.upd HMW.out (Upd.drew ((Upd.refl (fun _ => False) _).alloc _)) (fun h => h) | exact MaxOk.upd HMW.out (Upd.drew (Upd.refl (fun _ => False) _)) (fun h => h))).mono ?_; rintro e wy ⟨rfl, rfl⟩))
      all_goals clear he
      all_goals
        have hJw : J pre ((w'.alloc (.cells #[.int .i64 kd, .int .i64 k, .string pb] 128)).drew) := hJa pre w' _ none HJ.out ⟨rfl, rfl, rfl, by simp [World.drew], fun j hj _ => Below.heap_alloc w' _ j hj⟩ (fun r e => by cases e)
        have hBw : KpT T W ((w'.alloc (.cells #[.int .i64 kd, .int .i64 k, .string pb] 128)).drew) := HN.out.alloc (Nat.lt_of_lt_of_le hTl HN.out.2.2) HMW.out.lt _
        have q0 : ((w'.alloc (.cells #[.int .i64 kd, .int .i64 k, .string pb] 128)).drew).heap[w'.heap.size]? = some (Obj.cells #[.int .i64 kd, .int .i64 k, .string pb] 128 (0, 0)) := heap_alloc_new w' _
        obtain ⟨m', rfl⟩ : ∃ m', m = m' + 1 := ⟨m - 1, by omega⟩
        by_cases h7 : kd = 7
        · have b7 : (kd != 7) = false := by rw [h7]; rfl
          have HST : Hid (pcsB s hs (m' + 1) k = pcsB s hs m' (k + m2)) := by
            show _ = _
            rw [pcsB, if_pos hlt, dif_pos (by rw [HPA.out, HKD.out]; exact h7), HM2.out]
          have HJW := hide hJw
          have HBW := hide hBw
          clear h7 hJw hBw q0
          gi_wp2
          refine ⟨fun _ h => (by cases h), ?_⟩
          gi_wp2
          go_roundw
          case rel => exact ⟨k + m2, by omega, by go_num, pre, m', by rw [← HST.out]; exact hpre, by omega, by omega, HJW.out, HBW.out⟩
          case measure => simp [intOf]; omega
        · have b7 : (kd != 7) = true := by rw [bne_iff_ne]; exact h7
          have h7' : ¬ kindP pb.data.toList = 7 := by rw [HKD.out]; exact h7
          have HST : Hid (pcsB s hs (m' + 1) k = ⟨(pb, k), hpbs, h7'⟩ :: pcsB s hs m' (k + m2)) := by
            show _ = _
            rw [pcsB, if_pos hlt, dif_neg (by rw [HPA.out, HKD.out]; exact h7), HM2.out]
            congr 1
            exact Subtype.ext (by show (pieceAt s k, k) = (pb, k); rw [HPA.out])
          obtain ⟨fn, tmps, assign, body, hy, hR⟩ := HY.out pre ⟨(pb, k), hpbs, h7'⟩ _ hJw (by omega)
          rw [encP_of _ kd HKD.out] at hy
          dsimp only at hy
          have HRR := hide hR
          have HBW := hide hBw
          clear hJw hBw h7 hR q0
          gi_wp2
          refine HRR.out.mono ?_
          rintro e W3 (⟨rfl, hJ3, hk3⟩ | ⟨rfl, hJx3⟩)
          · have HJ3 := hide hJ3
            have HK3 := hide (HBW.out.trans hk3)
            clear hJ3 hk3 hy
            gi_wp2
            go_roundw
            case rel => exact ⟨k + m2, by omega, by go_num, pre ++ [⟨(pb, k), hpbs, h7'⟩], m', by rw [List.append_assoc, List.singleton_append, ← HST.out]; exact hpre, by omega, by simp; omega, HJ3.out, HK3.out⟩
            case measure => simp [intOf]; omega
          · have HJX := hide hJx3
            clear hJx3 hy
            gi_wp2
            refine bodyPost_ret (results_none rfl _ _ _) rfl ?_
            exact ⟨⟨_, rfl⟩, .inr ⟨_, ⟨pcsB s hs m' (k + m2), by rw [List.append_assoc, List.singleton_append, ← HST.out]; exact hpre⟩, HJX.out⟩⟩
    · have hk0 : k = s.size := by omega
      subst hk0
      obtain ⟨m', rfl⟩ : ∃ m', m = m' + 1 := ⟨m - 1, by omega⟩
      have HST : Hid (pcsB s hs (m' + 1) s.size = []) := by show _ = _; rw [pcsB, if_neg hlt]
      have HJ := hide hJs
      clear hY hnx hJs
      gi_wp2
      go_end0
      exact ⟨⟨_, rfl⟩, .inl ⟨pre, by have := hpre; rw [HST.out, List.append_nil] at this; exact this, HJ.out⟩⟩
end Go.Proofs.YtlobegpjenabaaaGreatDoor
