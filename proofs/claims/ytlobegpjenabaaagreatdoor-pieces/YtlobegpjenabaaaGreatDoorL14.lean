/- code: lambda. -/
import Derived.Test.YtlobegpjenabaaaGreatDoorL13
import Derived.Deep.RegionLaw
namespace Go.Proofs.YtlobegpjenabaaaGreatDoor
open Go.RowKit Go.Maps
set_option linter.unusedSimpArgs false
set_option linter.unusedVariables false

theorem infoInt : (Tryz.prog.info? 3).map (fun i => (i.zero, i.size, i.bytes)) = some (some (.int .i64 0), 1, 8) := by kernel_rfl
theorem infoL : (Tryz.prog.info? 213).map (fun i => (i.zero, i.size, i.bytes)) = some (some (.agg #[.string ⟨#[]⟩, .slice none 0 0, .int .i64 0]), 3, 48) := by kernel_rfl

theorem namesS_snoc : ∀ (xs : List (List UInt8)) (s : List UInt8) (st : BS), namesS st (xs ++ [s]) = nameS (namesS st xs) s
  | [], s, st => rfl
  | x :: r, s, st => by rw [List.cons_append, namesS, namesS, namesS_snoc r s]
theorem numsS_snoc : ∀ (xs : List (List UInt8)) (s : List UInt8) (st : BS), numsS st (xs ++ [s]) = numsS st xs ++ [numS (namesS st xs) s]
  | [], s, st => rfl
  | x :: r, s, st => by rw [List.cons_append, numsS, numsS, numsS_snoc r s]; rfl
theorem numsS_length : ∀ (xs : List (List UInt8)) (st : BS), (numsS st xs).length = xs.length
  | [], st => rfl
  | x :: r, st => by rw [numsS, List.length_cons, List.length_cons, numsS_length r]
theorem namesS_size (xs : List (List UInt8)) (st : BS) : (namesS st xs).size ≤ st.size + xs.length := by
  obtain ⟨h1, h2, h3, h4, h5⟩ := namesS_same xs st
  unfold BS.size; rw [h1, h2, h3]; omega
theorem lamBS_eq (st : BS) (nm : List UInt8) (xs : List (List UInt8)) (a : E) : lamBS st nm xs a = { { namesS st xs with ls := (namesS st xs).ls ++ [(nm, numsS st xs, 0)] } with bs := (namesS st xs).bs ++ [a] } := by
  obtain ⟨h1, h2, h3, h4, h5⟩ := namesS_same xs st
  unfold lamBS; rw [h3, h4]
/-- A row of ints of one's own. -/
theorem BdAt.ints {w w1 : World} {B B' b m n : Nat} {st : BS} {u0 u1 u2 u3 u5 : Value} {x1 x3 us : List Value} {xs : List Value} {u : Value} (h : BdAt w B b st u0 u1 u2 u3 m u5 x1 x3 us) (hr : w.ownsRow B' 3 1 u n xs) (hu : Upd (fun k => u.ownBlock = some k) w w1) (hB : B ≤ B')
    (hl : LVs w1 B st.ls x3) : BdAt w1 B b st u0 u1 u2 u3 m u5 x1 x3 us := by
  obtain ⟨Dm, mp, hn⟩ := h.mp
  have hbl : Below B w w1 := hu.below h.le (by intro k hk; exact Nat.le_trans hB (ownsRow_ge hr hk).1)
  exact ⟨h.hb, keep_row hr hu (by decide) _ _ h.hS, ownsRow_keep (keep_row hr hu (by decide)) h.r0, ownsRow_keep (keep_row hr hu (by decide)) h.r1, h.c1.keep (keep_row hr hu (by decide)), ownsRow_keep (keep_row hr hu (by decide)) h.r2, ownsRow_keep (keep_row hr hu (by decide)) h.r3, hl, ownsRow_keep (keep_row hr hu (by decide)) h.r5, h.e5.imp (keep_row hr hu (by decide)) (fun g o hg ho => ⟨by rw [hbl.block g hg]; exact ho, hg⟩), h.hm, Dm, ownsMap_block mp (map_upd hr hu mp), hn⟩
theorem Chg.own {B T s n : Nat} {w w1 w2 : World} {u : Value} {xs : List Value} (h : Chg B w w1) (hB : B ≤ w.heap.size) (hr : w1.ownsRow w.heap.size T s u n xs) (hu : Upd (fun k => u.ownBlock = some k) w1 w2) : Chg B w w2 := by
  refine ⟨h.below.trans (hu.below (Nat.le_trans hB h.below.size) (by intro k hk; exact Nat.le_trans hB (ownsRow_ge hr hk).1)), fun T' h' x c hx => ?_⟩
  exact hu.at (h.kp T' h' x c hx) (fun hk => by have := (ownsRow_ge hr hk).1; have := lt_of_some hx; omega)

/-- At a round's head of lambda. -/
def LamRel (w : World) (B b : Nat) (st : BS) (u0 u1 u3 : Value) (m : Nat) (u5 : Value) (x1 x3 us : List Value) (zs : List ByteArray) (u : Value) (wr : World) (k : Nat) : Prop :=
  wr.ownsRow w.heap.size 3 1 u k ((numsS st (bytesOf (zs.take k))).map fun (j : Nat) => Value.int .i64 j) ∧ (∃ u2, BdAt wr B b (namesS st (bytesOf (zs.take k))) u0 u1 u2 u3 m u5 x1 x3 us) ∧ Chg B w wr
theorem bytesOf_take (zs : List ByteArray) (k : Nat) (hk : k < zs.length) : bytesOf (zs.take (k + 1)) = bytesOf (zs.take k) ++ [zs[k].data.toList] := by
  unfold bytesOf; rw [List.take_succ_eq_append_getElem hk, List.map_append]; rfl
theorem bytesOf_len (zs : List ByteArray) (k : Nat) (hk : k ≤ zs.length) : (bytesOf (zs.take k)).length = k := by simp [bytesOf]; omega

set_option maxRecDepth 100000 in
set_option maxHeartbeats 4000000 in
theorem lambda_loop {w : World} {B b : Nat} {st : BS} (nm : ByteArray) (u : Value) (zs : List ByteArray) (k : E) (t : TypeId) (x : Value) (hr : RowN w (fun g => g < B) u zs) (hev : EV w (fun g => g < B) k (.iface t x)) (h : Bd w B b st) (hK : st.size + zs.length + 1 ≤ 1099511627776) (hz : ∀ z ∈ zs, z.size ≤ maxLen) :
    Calls Tryz.prog 154 #[.pointer (some ⟨b, 0, none⟩), .agg #[.string nm, u, .iface t x]] w (OnePost w B b (lamBS st nm.data.toList (bytesOf zs) k) st.bs.length) := by
  obtain ⟨a, cap, rfl, hc1, hc2, hat⟩ := ownsRow_slice hr.1
  unfold maxLen at hc2
  have HAT := hide (show ∀ k (hk : k < zs.length), ∃ g, a = some ⟨g, 0, none⟩ ∧ g < B ∧ w.cell? ⟨g, k, none⟩ = some (.string zs[k]) from fun k hk => by
    obtain ⟨g, rfl, _, hg, hc⟩ := hat (by omega)
    exact ⟨g, rfl, hr.2 g rfl, hc k _ (by simp [hk])⟩)
  have HZ := hide hz
  have hBw : B ≤ w.heap.size := h.le
  have hzl : zs.length ≤ 1099511627776 := by omega
  have HSZ := hide hK
  have HEVK := hide hev
  obtain ⟨hlb, u0, u1, u2, u3, m, u5, x1, x3, us, h⟩ := h
  have HLB := hide hlb
  have HB0 := hide h
  obtain ⟨i0, hi, hz0, hz1, hz2⟩ := info_parts infoInt
  have HI := hide (And.intro hi (And.intro hz0 (And.intro hz1 hz2)))
  clear hi hz0 hz1 hz2 hz hat hr h hK hev hlb
  obtain ⟨W0, hW0⟩ : ∃ W0, W0 = w.alloc (.cells #[.string nm, .slice a zs.length cap, .iface t x] 277) := ⟨_, rfl⟩
  have hL : W0.heap[w.heap.size]? = some (Obj.cells #[.string nm, .slice a zs.length cap, .iface t x] 277 (0, 0)) := by rw [hW0]; exact Array.getElem?_push_size
  have hb0 : Below w.heap.size w W0 := by rw [hW0]; exact (Below.refl _ _).alloc (Nat.le_refl _) _
  have HL := hide hL
  have HBB := hide hb0
  have hW0s : B ≤ W0.heap.size := Nat.le_trans hBw hb0.size
  go_enter Tryz.func154, Tryz.ntmps154
  go_wp2
  rw [← hW0]
  clear hW0 hL hb0
  go_loopw [5, 11] (fun u i wr => ∃ k : Nat, k ≤ zs.length ∧ i = .int .i64 k ∧ LamRel W0 B b st u0 u1 u3 m u5 x1 x3 us zs u wr k) (fun _ i _ => zs.length - (intOf i).toNat)
  case atStart => exact ⟨0, Nat.zero_le _, rfl, World.ownsRow_nil _ _ _ _, ⟨u2, HB0.out.below HBB.out⟩, Chg.refl _ _⟩
  case round =>
    obtain ⟨k, hk, rfl, hrx, ⟨u2k, hbd⟩, hch⟩ := hrel
    have hszk := namesS_size (bytesOf (zs.take k)) st
    rw [bytesOf_len zs k hk] at hszk
    have HRX := hide hrx
    have HBD := hide hbd
    have HCH := hide hch
    by_cases hlt : k < zs.length
    · obtain ⟨g, rfl, hgB, c0⟩ := HAT.out k hlt
      have d0 : wr.cell? ⟨g, k, none⟩ = some (.string zs[k]) := by
        rw [hch.below.cell (p := ⟨g, k, none⟩) hgB, HBB.out.cell (p := ⟨g, k, none⟩) (by show g < _; omega)]; exact c0
      have HN := hide (name_at zs[k] (HZ.out _ (List.getElem_mem hlt)) hbd (by have := HSZ.out; omega))
      have hxl := hrx.1
      have HKT := hide (bytesOf_take zs k hlt)
      obtain ⟨r, hr⟩ : ∃ r, r = numS (namesS st (bytesOf (zs.take k))) zs[k].data.toList := ⟨_, rfl⟩
      have HRN := hide hr
      obtain ⟨xs, hxs⟩ : ∃ xs, xs = (numsS st (bytesOf (zs.take k))).map fun (j : Nat) => Value.int .i64 j := ⟨_, rfl⟩
      have HXS := hide hxs
      rw [← hxs] at HRX
      unfold NamPost at HN
      rw [← hr] at HN
      clear c0 hrx hbd hch hr hxs hszk hxl
      go_wp2_with fail
      refine HN.out.mono ?_
      rintro e w2 ⟨rfl, ⟨u2n, hbd2⟩, hch2⟩
      have HBD2 := hide hbd2
      have HCH2 := hide (HCH.out.trans hch2)
      have HRX2 := hide (ownsRow_keep (hch2.kp 3 rfl) HRX.out)
      have hsz2 := HCH2.out.below.size
      have hW2 : W0.heap.size ≤ w2.heap.size := hsz2
      obtain ⟨a3, cap3, rfl, _, _, _⟩ := ownsRow_slice HRX.out
      clear hbd2 hch2 HN hsz2
      go_wp2_with (at_builtin; refine wpList_append_lies _ rfl (.tmp 15) (.tmp 19) 30 rfl W0.heap.size 3 i0 (.int .i64 0) 1 8 Tryz.underlying30 HI.out.1 HI.out.2.1 HI.out.2.2.1 HI.out.2.2.2 rfl (by decide) _ k xs rfl (HRX2.out.alloc _) ⟨w2.heap.size, 0, none⟩ 1 1 [.int .i64 (r : Int)] rfl rfl (cell_one_new _ _ _) (by intro u hu; simp at hu; subst hu; rfl) (by decide) (by unfold maxLen; omega) (by omega) (by simp; omega) (w2.heap.size + 1) (by simp) ?_)
      intro g2 cap2 w3 hown3 hgrow3 hat3 hlt3
      have HU3 := hide (items_upd hgrow3)
      have HO3 := hide hown3
      clear hown3 hgrow3 hat3
      go_wp2
      go_roundw
      case rel =>
        have hc3 := HCH2.out.own hW0s HRX2.out HU3.out
        refine ⟨k + 1, by omega, rfl, ?_, ⟨u2n, ?_⟩, hc3⟩
        · rw [HKT.out, numsS_snoc, List.map_append, ← HXS.out, ← HRN.out]; exact HO3.out
        · rw [HKT.out, namesS_snoc]
          refine HBD2.out.ints HRX2.out HU3.out hW0s ?_
          have hls : (nameS (namesS st (bytesOf (zs.take k))) zs[k].data.toList).ls = st.ls := (namesS_same _ _).2.2.1
          rw [hls]
          exact ((HB0.out.below HBB.out).l3).keep (hc3.kp 3 rfl)
      case measure => simp [intOf]; omega
    · have hke : k = zs.length := by omega
      subst hke
      rw [List.take_length] at hbd hrx hszk
      have hat2 := hbd
      have hlsn := (namesS_same (bytesOf zs) st).2.2.1
      have hbsn := (namesS_same (bytesOf zs) st).2.2.2.1
      have HLEN := hide (show (namesS st (bytesOf zs)).ls.length = us.length from by rw [hlsn, HLB.out, ← hbsn]; exact hat2.e5.length)
      have HBN := hide (show us.length = st.bs.length from by rw [← hat2.e5.length, hbsn])
      have hnU : us.length ≤ 1099511627776 := by have h1 := HSZ.out; have h2 := HLEN.out; unfold BS.size at h1; rw [hlsn] at h2; omega
      have HH := hide hat2
      have HRX := hide hrx
      have HR3 := hide (show wr.ownsRow B 213 3 u3 us.length x3 from by rw [← HLEN.out]; exact hat2.r3)
      have HR5 := hide hat2.r5
      obtain ⟨a3, cap3, rfl, _, _, _⟩ := ownsRow_slice HR3.out
      obtain ⟨a5, cap5, rfl, _, _, _⟩ := ownsRow_slice hat2.r5
      obtain ⟨a6, cap6, rfl, _, _, _⟩ := ownsRow_slice hrx
      have hLw := hch.kp 277 rfl _ _ HL.out
      have HLW := hide hLw
      have l0 := cell_of_block hLw 0
      have l2 := cell_of_block hLw 2
      have c3 := cell_of_block hat2.hS 3
      have c5 := cell_of_block hat2.hS 5
      simp only [List.getElem?_toArray, List.getElem?_cons_zero, List.getElem?_cons_succ] at l0 l2 c3 c5
      have f3 := frozen_of_block hat2.hS 3
      have hLl := lt_of_some hLw
      have hbl := lt_of_some hat2.hS
      obtain ⟨j0, hj, hy0, hy1, hy2⟩ := info_parts infoL
      have HJ := hide (And.intro hj (And.intro hy0 (And.intro hy1 hy2)))
      have hBwr : B ≤ wr.heap.size := by omega
      have mixed : Tryz.prog.follows Departure.mixedOrders = true := by kernel_rfl
      clear hrx hch hat2 hbd hLw hj hy0 hy1 hy2 hszk hlsn hbsn
      go_wp2
      go_region_law (refine step_append_lies _ rfl (.tmp 27) (.tmp 32) 143 rfl B 213 j0 (.agg #[.string ⟨#[]⟩, .slice none 0 0, .int .i64 0]) 3 48 Tryz.underlying143 HJ.out.1 HJ.out.2.1 HJ.out.2.2.1 HJ.out.2.2.2 rfl (by decide) (.slice a3 us.length cap3) us.length x3 (by simp [Act.eval, Act.put]) (HR3.out.alloc _) ⟨wr.heap.size, 0, none⟩ 1 1 [.string nm, .slice a6 zs.length cap6, .int .i64 0] (by simp [Act.eval, Act.put]) rfl (World.news_of_block (heap_alloc_new _ _)) (by intro u hu; simp at hu; rcases hu with rfl | rfl | rfl <;> rfl) (by decide) (by unfold maxLen; omega) (by omega) (by simp; omega) (wr.heap.size + 1) (by simp) ?_; intro g7 cap7 w7 hown7 hgrow7 hat7 hlt7; have HU7 := hide (Upd.grown (((Upd.refl (fun k => (Value.slice a3 us.length cap3).ownBlock = some k) wr).alloc _).drew) hgrow7 (fun k hk _ => hk)); have HO7 := hide hown7; have hS7 := keep_row HR3.out HU7.out (T' := 147) (by decide) _ _ HH.out.hS; have d3 := cell_of_block hS7 3; simp only [List.getElem?_toArray, List.getElem?_cons_zero, List.getElem?_cons_succ] at d3; have f7 := frozen_of_block hS7 3; have HS7 := hide hS7; clear hown7 hgrow7 hat7 hS7)
      all_goals
        have HL8 := hide (HH.out.app3 (l := (nm.data.toList, numsS st (bytesOf zs), 0)) HU7.out (by rw [HLEN.out]; exact HO7.out) ⟨(strV_of nm).symm, by rw [numsS_length]; rw [show (bytesOf zs).length = zs.length from by simp [bytesOf]]; exact ownsRow_base HRX.out hW0s, rfl⟩)
        have hlw8 : (w7.setCell ⟨b, 3, none⟩ (.slice (some ⟨g7, 0, none⟩) (us.length + 1) cap7)).heap[w.heap.size]? = some (Obj.cells #[.string nm, .slice a zs.length cap, .iface t x] 277 (0, 0)) := keep_set HS7.out (by decide) _ _ (keep_row HR3.out HU7.out (by decide) _ _ HLW.out)
        have HC8 := hide (show Chg B wr (w7.setCell ⟨b, 3, none⟩ (.slice (some ⟨g7, 0, none⟩) (us.length + 1) cap7)) from (Chg.row HR3.out rfl HU7.out hBwr).set HS7.out rfl HH.out.hb)
        obtain ⟨W8, hW8⟩ : ∃ W8, W8 = w7.setCell ⟨b, 3, none⟩ (.slice (some ⟨g7, 0, none⟩) (us.length + 1) cap7) := ⟨_, rfl⟩
        rw [← hW8] at HL8 hlw8 HC8
        rw [← hW8]
        have hB8 : B ≤ W8.heap.size := Nat.le_trans hBwr HC8.out.below.size
        have m0 := cell_of_block hlw8 2
        have m5 := cell_of_block HL8.out.hS 5
        simp only [List.getElem?_toArray, List.getElem?_cons_zero, List.getElem?_cons_succ] at m0 m5
        have hl8 := lt_of_some hlw8
        have hb8 := lt_of_some HL8.out.hS
        have HR58 := hide HL8.out.r5
        obtain ⟨k0, hk0, hy0, hy1, hy2⟩ := info_parts infoE
        have HKE := hide (And.intro hk0 (And.intro hy0 (And.intro hy1 hy2)))
        clear hW8 hlw8 HU7 HO7 HS7 d3 f7 l0 l2 c3 c5 f3 hk0 hy0 hy1 hy2 hlt7 HLW HJ
        go_wp2
        go_region_law (refine step_append_lies _ rfl (.tmp 41) (.tmp 44) 79 rfl B 83 k0 .nilIface 1 16 Tryz.underlying79 HKE.out.1 HKE.out.2.1 HKE.out.2.2.1 HKE.out.2.2.2 rfl (by decide) (.slice a5 us.length cap5) us.length us (by simp [Act.eval, Act.put]) (HR58.out.alloc _) ⟨W8.heap.size, 0, none⟩ 1 1 [.iface t x] (by simp [Act.eval, Act.put]) rfl (World.news_of_block (heap_alloc_new _ _)) (by intro u hu; simp at hu; subst hu; rfl) (by decide) (by unfold maxLen; omega) (by omega) (by simp; omega) (W8.heap.size + 1) (by simp) ?_; intro g9 cap9 w9 hown9 hgrow9 hat9 hlt9; have HU9 := hide (Upd.grown (((Upd.refl (fun k => (Value.slice a5 us.length cap5).ownBlock = some k) W8).alloc _).drew) hgrow9 (fun k hk _ => hk)); have HO9 := hide hown9; have hS9 := keep_row HR58.out HU9.out (T' := 147) (by decide) _ _ HL8.out.hS; have d5 := cell_of_block hS9 5; simp only [List.getElem?_toArray, List.getElem?_cons_zero, List.getElem?_cons_succ] at d5; have f9 := frozen_of_block hS9 5; have HS9 := hide hS9; clear hown9 hgrow9 hat9 hS9)
        all_goals
          have HF := hide (HL8.out.app5 (k := k) HU9.out HO9.out (HEVK.out.imp ((((Keep.of_below HBB.out).trans (HCH.out.kp _ rfl)).trans (HC8.out.kp _ rfl))) (fun g o hg ho => ⟨by rw [HC8.out.below.block g hg, HCH.out.below.block g hg, HBB.out.block g (Nat.lt_of_lt_of_le hg hBw)]; exact ho, hg⟩)))
          have HC := hide (show Chg B w (w9.setCell ⟨b, 5, none⟩ (.slice (some ⟨g9, 0, none⟩) (us.length + 1) cap9)) from (((Chg.new hBw HBB.out).trans HCH.out).trans HC8.out).trans ((Chg.row HR58.out rfl HU9.out hB8).set HS9.out rfl HL8.out.hb))
          clear HL8 HC8 HR58 HKE HS9 HU9 HO9 m0 m5
          go_wp2
          go_ret
          exact ⟨by rw [← HBN.out]; simp, by rw [lamBS_eq]; exact ⟨by have h1 := HLEN.out; have h2 := HBN.out; have h3 := (namesS_same (bytesOf zs) st).2.2.2.1; simp [h1, h2, h3], _, _, _, _, _, _, _, _, _, HF.out⟩, HC.out⟩
end Go.Proofs.YtlobegpjenabaaaGreatDoor

/- code: within, choice, given put; with all that the builder holds. -/
namespace Go.Proofs.YtlobegpjenabaaaGreatDoor
open Go.RowKit Go.Maps
set_option linter.unusedSimpArgs false
set_option linter.unusedVariables false

theorem is_end (st : BS) (last : Bool) : st.is.length ≤ (endS st last).is.length := by
  unfold endS; split <;> simp [emitS]
theorem is_lam (st : BS) (nm : List UInt8) (xs : List (List UInt8)) (a : E) : (lamBS st nm xs a).is = st.is := (namesS_same xs st).1
mutual
theorem is_put : ∀ (e : E) (last : Bool) (st : BS), st.is.length ≤ (putS e last st).is.length
  | .const d, last, st => by
    have := is_end (emitS (constS st (some d)) 1 st.cs.length) last
    simp [putS, emitS, constS] at *; omega
  | .nothing, last, st => by
    have := is_end (emitS (constS st none) 1 st.cs.length) last
    simp [putS, emitS, constS] at *; omega
  | .var s, last, st => by
    have := is_end (emitS (nameS st s) 2 (numS st s)) last
    simp [putS, emitS, nameS] at *; omega
  | .lambda nm xs a, last, st => by
    have := is_end (emitS (lamBS st nm xs a) 3 st.bs.length) last
    simp [putS, emitS, is_lam] at *; omega
  | .define s a, last, st => by
    have h0 := is_put a false (emitS st 4 0)
    have h1 := is_end (emitS (nameS (pointS (putS a false (emitS st 4 0)) st.is.length) s) 9 (numS (pointS (putS a false (emitS st 4 0)) st.is.length) s)) last
    simp [putS, emitS, nameS, pointS] at *; omega
  | .set s a, last, st => by
    have h0 := is_put a false (emitS st 4 0)
    have h1 := is_end (emitS (nameS (pointS (putS a false (emitS st 4 0)) st.is.length) s) 10 (numS (pointS (putS a false (emitS st 4 0)) st.is.length) s)) last
    simp [putS, emitS, nameS, pointS] at *; omega
  | .ite a b c, last, st => by
    have h0 := is_put a false (emitS st 4 0)
    have h1 := is_put b true (emitS (pointS (putS a false (emitS st 4 0)) st.is.length) 8 0)
    have h2 := is_put c true (pointS (putS b true (emitS (pointS (putS a false (emitS st 4 0)) st.is.length) 8 0)) (pointS (putS a false (emitS st 4 0)) st.is.length).is.length)
    simp [putS, emitS, pointS] at *; omega
  | .seq es, last, st => by
    have := is_seq es 4 last st
    simpa [putS] using this
  | .apply es, last, st => by
    have := is_app es 4 st
    simp [putS, emitS] at *; omega
theorem is_seq : ∀ (es : List E) (op : Int) (last : Bool) (st : BS), st.is.length ≤ (seqP es op last st).is.length
  | [], op, last, st => by simp [seqP]
  | [e], op, last, st => by
    have := is_put e last (emitS st 7 0)
    simp [seqP, emitS] at *; omega
  | e :: e2 :: r, op, last, st => by
    have h1 := is_put e false (emitS st op 0)
    have h2 := is_seq (e2 :: r) 6 last (pointS (putS e false (emitS st op 0)) st.is.length)
    simp [seqP, emitS, pointS] at *; omega
theorem is_app : ∀ (es : List E) (op : Int) (st : BS), st.is.length ≤ (appP es op st).is.length
  | [], op, st => by simp [appP]
  | e :: r, op, st => by
    have h1 := is_put e false (emitS st op 0)
    have h2 := is_app r 5 (pointS (putS e false (emitS st op 0)) st.is.length)
    simp [appP, emitS, pointS] at *; omega
end
theorem size_pot (st : BS) : st.size ≤ st.pot := by unfold BS.pot; omega

theorem EV.chg {B : Nat} {n : E} {w w' : World} {v : Value} (h : EV w (fun g => g < B) n v) (hc : Chg B w w') : EV w' (fun g => g < B) n v := h.imp (hc.kp _ rfl) fun g o hg ho => ⟨by rw [hc.below.block g hg]; exact ho, hg⟩
theorem EVs.chg {B : Nat} {n : List E} {w w' : World} {v : List Value} (h : EVs w (fun g => g < B) n v) (hc : Chg B w w') : EVs w' (fun g => g < B) n v := h.imp (hc.kp _ rfl) fun g o hg ho => ⟨by rw [hc.below.block g hg]; exact ho, hg⟩

/-- The contract of put, up to a weight. -/
def PutC (N : Nat) : Prop := ∀ (n : E) (w : World) (v : Value) (B b : Nat) (st : BS) (last : Bool), wtE n ≤ N → EV w (fun g => g < B) n v → Bd w B b st → st.pot + 8 * wtE n ≤ 1099511627776 → Calls Tryz.prog 97 #[.pointer (some ⟨b, 0, none⟩), v, .bool last] w (NonePost w B b (putS n last st))

set_option maxHeartbeats 2000000 in
theorem within_go (N : Nat) (hp : PutC N) (n : E) (op : Int) (w : World) (v : Value) (B b : Nat) (st : BS) (hn : wtE n ≤ N) (hv : EV w (fun g => g < B) n v) (h : Bd w B b st) (hK : st.pot + 8 * wtE n + 1 ≤ 1099511627776) :
    Calls Tryz.prog 155 #[.pointer (some ⟨b, 0, none⟩), .int .i64 op, v] w (NonePost w B b (withS op n st)) := by
  have hsp := size_pot st
  have HE := hide (emit_go op 0 h (by omega))
  have HP := hide (fun (w1 : World) (hc : Chg B w w1) (h1 : Bd w1 B b (emitS st op 0)) => hp n w1 v B b (emitS st op 0) false hn (hv.chg hc) h1 (by rw [pot_emit]; omega))
  have HIS := hide (show st.is.length < (putS n false (emitS st op 0)).is.length from by have := is_put n false (emitS st op 0); simp [emitS] at this ⊢; omega)
  have HSZ := hide (show (putS n false (emitS st op 0)).size ≤ 1099511627776 from by have h1 := pot_put n false (emitS st op 0); have h2 := size_pot (putS n false (emitS st op 0)); rw [pot_emit] at h1; omega)
  obtain ⟨t, x, rfl⟩ := hv.form
  have HWS := hide (show withS op n st = pointS (putS n false (emitS st op 0)) st.is.length from rfl)
  rw [HWS.out]
  obtain ⟨st1, hst1⟩ : ∃ st1, st1 = putS n false (emitS st op 0) := ⟨_, rfl⟩
  rw [← hst1] at HP HIS HSZ
  rw [← hst1]
  clear hp hv h hst1 HWS hK hsp
  go_enter Tryz.func155, Tryz.ntmps155
  go_wp2_with fail
  refine HE.out.mono ?_
  rintro e w1 ⟨rfl, hb1, hc1⟩
  have HB1 := hide hb1
  have HC1 := hide hc1
  clear hb1 hc1 HE
  go_wp2_with fail
  refine (HP.out _ HC1.out HB1.out).mono ?_
  rintro e w2 ⟨rfl, hb2, hc2⟩
  have HC2 := hide (HC1.out.trans hc2)
  have HPH := hide (pointHere_go st.is.length HIS.out hb2 HSZ.out)
  clear hc2 HP hb2
  go_wp2_with fail
  refine HPH.out.mono ?_
  rintro e w3 ⟨rfl, hb3, hc3⟩
  have HF := hide (show NonePost w B b (pointS st1 st.is.length) (.returned (.tuple #[])) w3 from ⟨rfl, hb3, HC2.out.trans hc3⟩)
  clear hb3 hc3 HPH
  go_wp2
  refine bodyPost_ret (results_none rfl _ _ _) rfl ?_
  exact HF.out

set_option maxRecDepth 100000 in
set_option maxHeartbeats 2000000 in
theorem choice_code (N : Nat) (hp : PutC N) (n1 n2 n3 : E) (last : Bool) (w : World) (v1 v2 v3 : Value) (B b : Nat) (st : BS) (hn : wtE n1 + wtE n2 + wtE n3 ≤ N) (h1 : EV w (fun g => g < B) n1 v1) (h2 : EV w (fun g => g < B) n2 v2) (h3 : EV w (fun g => g < B) n3 v3) (h : Bd w B b st) (hK : st.pot + 8 * (wtE n1 + wtE n2 + wtE n3 + 1) ≤ 1099511627776) :
    Calls Tryz.prog 156 #[.pointer (some ⟨b, 0, none⟩), .agg #[v1, v2, v3]] w (NonePost w B b (putS (.ite n1 n2 n3) last st)) := by
  have HW := hide (within_go N hp)
  have HPT := hide hp
  have HV := hide (And.intro h1 (And.intro h2 h3))
  obtain ⟨t1, x1, rfl⟩ := h1.form
  obtain ⟨t2, x2, rfl⟩ := h2.form
  obtain ⟨t3, x3, rfl⟩ := h3.form
  have hBw := h.le
  have HST := hide (show putS (.ite n1 n2 n3) last st = putS n3 true (pointS (putS n2 true (emitS (withS 4 n1 st) 8 0)) (withS 4 n1 st).is.length) from by simp only [putS]; rfl)
  rw [HST.out]
  have hpt1 : (withS 4 n1 st).pot ≤ st.pot + 8 * wtE n1 := by have := pot_put n1 false (emitS st 4 0); rw [pot_emit] at this; unfold withS; rw [pot_point]; omega
  obtain ⟨s1, hs1⟩ : ∃ s1, s1 = withS 4 n1 st := ⟨_, rfl⟩
  have HS1 := hide hs1
  rw [← hs1] at hpt1
  rw [← hs1]
  have hpt2 : (putS n2 true (emitS s1 8 0)).pot ≤ s1.pot + 8 * wtE n2 := by have := pot_put n2 true (emitS s1 8 0); rw [pot_emit] at this; omega
  have HI2 := hide (show s1.is.length < (putS n2 true (emitS s1 8 0)).is.length from by have := is_put n2 true (emitS s1 8 0); simp [emitS] at this ⊢; omega)
  obtain ⟨s2, hs2⟩ : ∃ s2, s2 = putS n2 true (emitS s1 8 0) := ⟨_, rfl⟩
  have HS2 := hide hs2
  rw [← hs2] at hpt2 HI2
  rw [← hs2]
  have hz1 := size_pot s1
  have hz2 := size_pot s2
  have HN := hide (show st.pot + 8 * wtE n1 + 1 ≤ 1099511627776 ∧ s1.size ≤ 1099511627776 ∧ s1.pot + 1 + 8 * wtE n2 ≤ 1099511627776 ∧ s2.size ≤ 1099511627776 ∧ s2.pot + 8 * wtE n3 ≤ 1099511627776 ∧ wtE n1 ≤ N ∧ wtE n2 ≤ N ∧ wtE n3 ≤ N from by have := wtE_pos n3; omega)
  obtain ⟨W0, hW0⟩ : ∃ W0, W0 = w.alloc (.cells #[.iface t1 x1, .iface t2 x2, .iface t3 x3] 261) := ⟨_, rfl⟩
  have hL : W0.heap[w.heap.size]? = some (Obj.cells #[.iface t1 x1, .iface t2 x2, .iface t3 x3] 261 (0, 0)) := by rw [hW0]; exact Array.getElem?_push_size
  have hb0 : Below w.heap.size w W0 := by rw [hW0]; exact (Below.refl _ _).alloc (Nat.le_refl _) _
  have HL := hide hL
  have HC0 := hide (Chg.new hBw hb0)
  have HBD0 := hide (h.below hb0)
  clear h1 h2 h3 hp h hb0 hpt1 hpt2 hz1 hz2 hK hn hs1 hs2 HST
  go_enter Tryz.func156, Tryz.ntmps156
  go_wp2_with fail
  rw [← hW0]
  clear hW0 hL
  refine (HW.out n1 4 W0 _ B b st HN.out.2.2.2.2.2.1 (HV.out.1.chg HC0.out) HBD0.out HN.out.1).mono ?_
  rintro e w1 ⟨rfl, hb1, hc1⟩
  rw [← HS1.out] at hb1
  have HC1 := hide (HC0.out.trans hc1)
  have HL1 := hide (hc1.kp 261 rfl _ _ HL.out)
  have HE := hide (emit_go 8 0 hb1 HN.out.2.1)
  clear hc1 hb1 HL
  go_wp2_with fail
  refine HE.out.mono ?_
  rintro e w2 ⟨rfl, hb2, hc2⟩
  have HC2 := hide (HC1.out.trans hc2)
  have HL2 := hide (hc2.kp 261 rfl _ _ HL1.out)
  have HB2 := hide hb2
  clear hc2 hb2 HL1 HE
  have d1 := cell_of_block HL2.out 1
  simp only [List.getElem?_toArray, List.getElem?_cons_zero, List.getElem?_cons_succ] at d1
  go_wp2_with fail
  refine (HPT.out n2 w2 _ B b (emitS s1 8 0) true HN.out.2.2.2.2.2.2.1 (HV.out.2.1.chg HC2.out) HB2.out (by rw [pot_emit]; exact HN.out.2.2.1)).mono ?_
  rintro e w3 ⟨rfl, hb3, hc3⟩
  rw [← HS2.out] at hb3
  have HC3 := hide (HC2.out.trans hc3)
  have HL3 := hide (hc3.kp 261 rfl _ _ HL2.out)
  have HPH := hide (pointHere_go s1.is.length HI2.out hb3 HN.out.2.2.2.1)
  clear hc3 hb3 HL2 d1 HB2
  go_wp2_with fail
  refine HPH.out.mono ?_
  rintro e w4 ⟨rfl, hb4, hc4⟩
  have HC4 := hide (HC3.out.trans hc4)
  have HL4 := hide (hc4.kp 261 rfl _ _ HL3.out)
  have HB4 := hide hb4
  clear hc4 hb4 HL3 HPH
  have d2 := cell_of_block HL4.out 2
  simp only [List.getElem?_toArray, List.getElem?_cons_zero, List.getElem?_cons_succ] at d2
  go_wp2_with fail
  refine (HPT.out n3 w4 _ B b (pointS s2 s1.is.length) true HN.out.2.2.2.2.2.2.2 (HV.out.2.2.chg HC4.out) HB4.out (by rw [pot_point]; exact HN.out.2.2.2.2.1)).mono ?_
  rintro e w5 ⟨rfl, hb5, hc5⟩
  have HF := hide (show NonePost w B b (putS n3 true (pointS s2 s1.is.length)) (.returned (.tuple #[])) w5 from ⟨rfl, hb5, HC4.out.trans hc5⟩)
  clear hb5 hc5 HL4 d2 HB4
  go_wp2
  refine bodyPost_ret (results_none rfl _ _ _) rfl ?_
  exact HF.out
end Go.Proofs.YtlobegpjenabaaaGreatDoor

/- code: application, sequence, given put; with all that the builder holds. -/
namespace Go.Proofs.YtlobegpjenabaaaGreatDoor
open Go.RowKit Go.Maps
set_option linter.unusedSimpArgs false
set_option linter.unusedVariables false

/-- Parts within, the first behind the instruction op, the others behind op2. -/
def withP (op2 : Int) : List E → Int → BS → BS
  | [], _, st => st
  | e :: r, op, st => withP op2 r op2 (withS op e st)
def opK (op op2 : Int) (k : Nat) : Int := if k = 0 then op else op2
theorem appP_with : ∀ (es : List E) (op : Int) (st : BS), appP es op st = withP 5 es op st
  | [], op, st => rfl
  | e :: r, op, st => by rw [appP, withP, appP_with r]; rfl
theorem withP_snoc (op2 : Int) : ∀ (l : List E) (e : E) (op : Int) (st : BS), withP op2 (l ++ [e]) op st = withS (opK op op2 l.length) e (withP op2 l op st)
  | [], e, op, st => rfl
  | a :: r, e, op, st => by
    rw [List.cons_append, withP, withP_snoc op2 r e op2, withP]
    cases r <;> rfl
theorem seqP_with : ∀ (l : List E) (e : E) (op : Int) (last : Bool) (st : BS), seqP (l ++ [e]) op last st = putS e last (emitS (withP 6 l op st) 7 0)
  | [], e, op, last, st => rfl
  | a :: r, e, op, last, st => by
    have h : seqP (a :: (r ++ [e])) op last st = seqP (r ++ [e]) 6 last (withS op a st) := by
      cases r <;> rfl
    rw [List.cons_append, h, seqP_with r e 6, withP]
theorem pot_with (op : Int) (e : E) (st : BS) : (withS op e st).pot ≤ st.pot + 8 * wtE e := by
  have := pot_put e false (emitS st op 0); rw [pot_emit] at this; unfold withS; rw [pot_point]; omega
theorem pot_withP (op2 : Int) : ∀ (es : List E) (op : Int) (st : BS), (withP op2 es op st).pot ≤ st.pot + 8 * wtEs es
  | [], op, st => by simp only [withP]; omega
  | e :: r, op, st => by
    have h1 := pot_with op e st
    have h2 := pot_withP op2 r op2 (withS op e st)
    simp only [withP, wtEs]; omega
theorem wtEs_take : ∀ (ks : List E) (k : Nat) (hk : k < ks.length), wtEs (ks.take k) + wtE ks[k] ≤ wtEs ks
  | [], k, hk => absurd hk (by simp)
  | e :: r, 0, hk => by simp [wtEs]
  | e :: r, k + 1, hk => by
    have := wtEs_take r k (by simpa using hk)
    simp only [List.take_succ_cons, wtEs, List.getElem_cons_succ]; omega
theorem wtEs_len : ∀ (ks : List E), ks.length ≤ wtEs ks
  | [] => Nat.le_refl _
  | e :: r => by have := wtEs_len r; have := wtE_pos e; simp only [List.length_cons, wtEs]; omega
theorem EVs.at {w : World} {P : Nat → Prop} {ks : List E} {es : List Value} (h : EVs w P ks es) : ∀ k (hk : k < es.length) (hk' : k < ks.length), EV w P ks[k] es[k] := by
  induction es generalizing ks with
  | nil => intro k hk; exact absurd hk (by simp)
  | cons e r ih =>
    cases h with
    | cons a b =>
      intro k hk hk'
      cases k with
      | zero => exact a
      | succ k => exact ih b k (by simpa using hk) (by simpa using hk')
/-- The parts of a row, at any place. -/
theorem rowE_at {w : World} {B : Nat} {ks : List E} {u : Value} {es : List Value} (hr : RowE w (fun g => g < B) u es) (he : EVs w (fun g => g < B) ks es) : ∃ a cap, u = .slice a ks.length cap ∧ ks.length ≤ cap ∧ cap ≤ maxLen ∧
    ∀ k (hk : k < ks.length), ∃ g t x, a = some ⟨g, 0, none⟩ ∧ g < B ∧ w.cell? ⟨g, k, none⟩ = some (.iface t x) ∧ EV w (fun g => g < B) ks[k] (.iface t x) := by
  have hl := he.length
  obtain ⟨a, cap, rfl, hc1, hc2, hat⟩ := ownsRow_slice hr.1
  refine ⟨a, cap, by rw [hl], by omega, hc2, fun k hk => ?_⟩
  obtain ⟨g, rfl, _, hg, hc⟩ := hat (by omega)
  have h4 := he.at k (by omega) hk
  obtain ⟨t, x, hx⟩ := h4.form
  rw [hx] at h4
  exact ⟨g, t, x, rfl, hr.2 g rfl, hc k _ (by rw [List.getElem?_eq_getElem (by omega), hx]), h4⟩

set_option maxRecDepth 100000 in
set_option maxHeartbeats 2000000 in
theorem application_code (N : Nat) (hp : PutC N) (ks : List E) (last : Bool) (w : World) (u : Value) (es : List Value) (B b : Nat) (st : BS) (hn : wtEs ks ≤ N) (hr : RowE w (fun g => g < B) u es) (he : EVs w (fun g => g < B) ks es) (h : Bd w B b st) (hK : st.pot + 8 * (wtEs ks + 1) ≤ 1099511627776) :
    Calls Tryz.prog 158 #[.pointer (some ⟨b, 0, none⟩), .agg #[u]] w (NonePost w B b (putS (.apply ks) last st)) := by
  obtain ⟨a, cap, rfl, hc1, hc2, hat⟩ := rowE_at hr he
  unfold maxLen at hc2
  have HAT := hide hat
  have HW := hide (within_go N hp)
  have hBw := h.le
  have HST := hide (show putS (.apply ks) last st = emitS (emitS (withP 5 ks 4 st) 11 0) 12 0 from by rw [putS, appP_with])
  rw [HST.out]
  have hlen := wtEs_len ks
  have hel : ks.length ≤ 1099511627776 := by omega
  obtain ⟨W0, hW0⟩ : ∃ W0, W0 = w.alloc (.cells #[.slice a ks.length cap] 273) := ⟨_, rfl⟩
  have hb0 : Below w.heap.size w W0 := by rw [hW0]; exact (Below.refl _ _).alloc (Nat.le_refl _) _
  have HC0 := hide (Chg.new hBw hb0)
  have HBD0 := hide (h.below hb0)
  have HKB := hide (And.intro hK hn)
  clear hat hr he hp h hb0 hK hn hlen HST
  go_enter Tryz.func158, Tryz.ntmps158
  go_wp2
  rw [← hW0]
  clear hW0
  go_loopw [4, 10] (fun o i wr => ∃ k : Nat, k ≤ ks.length ∧ i = .int .i64 k ∧ o = .int .i64 (opK 4 5 k) ∧ Bd wr B b (withP 5 (ks.take k) 4 st) ∧ Chg B W0 wr) (fun _ i _ => ks.length - (intOf i).toNat)
  case atStart => exact ⟨0, Nat.zero_le _, rfl, rfl, HBD0.out, Chg.refl _ _⟩
  case round =>
    obtain ⟨k, hk, rfl, rfl, hf, hch⟩ := hrel
    have HF := hide hf
    have HCH := hide hch
    have HCW := hide (HC0.out.trans hch)
    have hpt := pot_withP 5 (ks.take k) 4 st
    by_cases hlt : k < ks.length
    · obtain ⟨g, t, x, rfl, hgB, c0, hev⟩ := HAT.out k hlt
      have d0 : wr.cell? ⟨g, k, none⟩ = some (.iface t x) := by rw [HCW.out.below.cell (p := ⟨g, k, none⟩) hgB]; exact c0
      have hs1 := wtEs_take ks k hlt
      have HWI := hide (HW.out ks[k] (opK 4 5 k) wr (.iface t x) B b _ (by have := HKB.out; omega) (hev.chg HCW.out) hf (by have := HKB.out; omega))
      have HNX := hide (show withS (opK 4 5 k) ks[k] (withP 5 (ks.take k) 4 st) = withP 5 (ks.take (k + 1)) 4 st from by
        rw [List.take_succ_eq_append_getElem hlt, withP_snoc, List.length_take, Nat.min_eq_left (Nat.le_of_lt hlt)])
      rw [HNX.out] at HWI
      obtain ⟨q, hq⟩ : ∃ q, q = opK 4 5 k := ⟨_, rfl⟩
      rw [← hq] at HWI
      rw [← hq]
      clear hch c0 hev hf hs1 HF hpt hq HNX
      go_wp2_with fail
      refine HWI.out.mono ?_
      rintro e w2 ⟨rfl, hb2, hc2'⟩
      have HB2 := hide hb2
      have HC2 := hide (HCH.out.trans hc2')
      clear hb2 hc2' HWI
      go_wp2
      go_roundw
      case rel => exact ⟨k + 1, by omega, rfl, rfl, HB2.out, HC2.out⟩
      case measure => simp [intOf]; omega
    · have hke : k = ks.length := by omega
      subst hke
      rw [List.take_length] at hf hpt
      have hsz := size_pot (withP 5 ks 4 st)
      have HE := hide (emit_go 11 0 hf (by have := HKB.out; omega))
      have HZ2 := hide (show (emitS (withP 5 ks 4 st) 11 0).size ≤ 1099511627776 from by have h1 := HKB.out; have h2 := size_pot (emitS (withP 5 ks 4 st) 11 0); rw [pot_emit] at h2; omega)
      obtain ⟨q, hq⟩ : ∃ q, q = opK 4 5 ks.length := ⟨_, rfl⟩
      rw [← hq]
      clear hch hf HF hpt hsz hq
      go_wp2_with fail
      refine HE.out.mono ?_
      rintro e w2 ⟨rfl, hb2, hc2'⟩
      have HE2 := hide (emit_go 12 0 hb2 HZ2.out)
      have HC2 := hide (HCW.out.trans hc2')
      clear hb2 hc2' HE
      go_wp2_with fail
      refine HE2.out.mono ?_
      rintro e w3 ⟨rfl, hb3, hc3⟩
      have HFF := hide (show NonePost w B b (emitS (emitS (withP 5 ks 4 st) 11 0) 12 0) (.returned (.tuple #[])) w3 from ⟨rfl, hb3, HC2.out.trans hc3⟩)
      clear hb3 hc3 HE2
      go_wp2
      refine bodyPost_ret (results_none rfl _ _ _) rfl ?_
      exact HFF.out

set_option maxRecDepth 100000 in
set_option maxHeartbeats 2000000 in
theorem sequence_code (N : Nat) (hp : PutC N) (ks : List E) (w : World) (u : Value) (es : List Value) (B b : Nat) (st : BS) (last : Bool) (hn : wtEs ks ≤ N) (hr : RowE w (fun g => g < B) u es) (he : EVs w (fun g => g < B) ks es) (h : Bd w B b st) (hK : st.pot + 8 * (wtEs ks + 1) ≤ 1099511627776) (hpos : 1 ≤ ks.length) :
    Calls Tryz.prog 157 #[.pointer (some ⟨b, 0, none⟩), .agg #[u], .bool last] w (NonePost w B b (putS (.seq ks) last st)) := by
  obtain ⟨a, cap, rfl, hc1, hc2, hat⟩ := rowE_at hr he
  unfold maxLen at hc2
  have HAT := hide hat
  have HW := hide (within_go N hp)
  have HPT := hide hp
  have hBw := h.le
  have hlen := wtEs_len ks
  obtain ⟨f, hf⟩ : ∃ f, ks.length = f + 1 := ⟨ks.length - 1, by omega⟩
  have hfl : f < ks.length := by omega
  have HST := hide (show putS (.seq ks) last st = putS ks[f] last (emitS (withP 6 (ks.take f) 4 st) 7 0) from by
    rw [putS, ← seqP_with, ← List.take_succ_eq_append_getElem hfl, ← hf, List.take_length])
  rw [HST.out]
  have hs1 := wtEs_take ks f hfl
  obtain ⟨fin, hfin⟩ : ∃ fin, fin = ks[f] := ⟨_, rfl⟩
  have HATF := hide (show ∃ g t x, a = some ⟨g, 0, none⟩ ∧ g < B ∧ w.cell? ⟨g, f, none⟩ = some (.iface t x) ∧ EV w (fun g => g < B) fin (.iface t x) from by rw [hfin]; exact hat f hfl)
  rw [← hfin]
  rw [← hfin] at hs1
  have HKF := hide (And.intro hK (And.intro hn hs1))
  have HFL := hide hf
  rw [hf] at hc1 hlen
  rw [hf]
  have hel : f + 1 ≤ 1099511627776 := by omega
  obtain ⟨W0, hW0⟩ : ∃ W0, W0 = w.alloc (.cells #[.slice a (f + 1) cap] 269) := ⟨_, rfl⟩
  have hL : W0.heap[w.heap.size]? = some (Obj.cells #[.slice a (f + 1) cap] 269 (0, 0)) := by rw [hW0]; exact Array.getElem?_push_size
  have hb0 : Below w.heap.size w W0 := by rw [hW0]; exact (Below.refl _ _).alloc (Nat.le_refl _) _
  have HL := hide hL
  have HC0 := hide (Chg.new hBw hb0)
  have HBD0 := hide (h.below hb0)
  clear hat hr he hp h hb0 hf hL hpos hK hn hs1 hlen HST hfin hfl
  have b1 : (0 : Int) ≤ (f : Int) := by omega
  have b2 : (f : Int) ≤ (cap : Int) := by omega
  go_enter Tryz.func157, Tryz.ntmps157
  go_wp2
  rw [← hW0]
  clear hW0
  go_loopw [7, 19] (fun o i wr => ∃ k : Nat, k ≤ f ∧ i = .int .i64 k ∧ o = .int .i64 (opK 4 6 k) ∧ Bd wr B b (withP 6 (ks.take k) 4 st) ∧ Chg B W0 wr) (fun _ i _ => f - (intOf i).toNat)
  case atStart => exact ⟨0, Nat.zero_le _, rfl, rfl, HBD0.out, Chg.refl _ _⟩
  case round =>
    obtain ⟨k, hk, rfl, rfl, hf, hch⟩ := hrel
    have HF := hide hf
    have HCH := hide hch
    have HCW := hide (HC0.out.trans hch)
    have hpt := pot_withP 6 (ks.take k) 4 st
    by_cases hlt : k < f
    · have hltk : k < ks.length := by rw [HFL.out]; omega
      obtain ⟨g, t, x, rfl, hgB, c0, hev⟩ := HAT.out k hltk
      have d0 : wr.cell? ⟨g, k, none⟩ = some (.iface t x) := by rw [HCW.out.below.cell (p := ⟨g, k, none⟩) hgB]; exact c0
      have hs1 := wtEs_take ks k hltk
      have HWI := hide (HW.out ks[k] (opK 4 6 k) wr (.iface t x) B b _ (by have := HKF.out; omega) (hev.chg HCW.out) hf (by have := HKF.out; omega))
      have HNX := hide (show withS (opK 4 6 k) ks[k] (withP 6 (ks.take k) 4 st) = withP 6 (ks.take (k + 1)) 4 st from by
        rw [List.take_succ_eq_append_getElem hltk, withP_snoc, List.length_take, Nat.min_eq_left (Nat.le_of_lt hltk)])
      rw [HNX.out] at HWI
      obtain ⟨q, hq⟩ : ∃ q, q = opK 4 6 k := ⟨_, rfl⟩
      rw [← hq] at HWI
      rw [← hq]
      clear hch c0 hev hf hs1 HF hpt hq HNX hltk
      go_wp2_with fail
      refine HWI.out.mono ?_
      rintro e w2 ⟨rfl, hb2, hc2'⟩
      have HB2 := hide hb2
      have HC2 := hide (HCH.out.trans hc2')
      clear hb2 hc2' HWI
      go_wp2
      go_roundw
      case rel => exact ⟨k + 1, by omega, rfl, rfl, HB2.out, HC2.out⟩
      case measure => simp [intOf]; omega
    · have hke : k = f := by omega
      subst hke
      obtain ⟨g, t, x, rfl, hgB, c0, hev⟩ := HATF.out
      have hsz := size_pot (withP 6 (ks.take k) 4 st)
      have HE := hide (emit_go 7 0 hf (by have := HKF.out; omega))
      have HZ2 := hide (show (emitS (withP 6 (ks.take k) 4 st) 7 0).pot + 8 * wtE fin ≤ 1099511627776 ∧ wtE fin ≤ N from by have h1 := HKF.out; rw [pot_emit]; omega)
      have HEV := hide hev
      have HLW := hide (hch.kp 269 rfl _ _ HL.out)
      obtain ⟨q, hq⟩ : ∃ q, q = opK 4 6 k := ⟨_, rfl⟩
      rw [← hq]
      clear hch hf HF hpt hsz hev hq
      go_wp2_with fail
      refine HE.out.mono ?_
      rintro e w2 ⟨rfl, hb2, hc2'⟩
      have HC2 := hide (HCW.out.trans hc2')
      have l0 := cell_of_block (hc2'.kp 269 rfl _ _ HLW.out) 0
      simp only [List.getElem?_toArray, List.getElem?_cons_zero] at l0
      have d0 : w2.cell? ⟨g, k, none⟩ = some (.iface t x) := by rw [HC2.out.below.cell (p := ⟨g, k, none⟩) hgB]; exact c0
      have HP := hide (HPT.out fin w2 (.iface t x) B b _ last HZ2.out.2 (HEV.out.chg HC2.out) hb2 HZ2.out.1)
      clear hb2 hc2' HE c0 HPT
      go_wp2_with fail
      refine HP.out.mono ?_
      rintro e w3 ⟨rfl, hb3, hc3⟩
      have HFF := hide (show NonePost w B b (putS fin last (emitS (withP 6 (ks.take k) 4 st) 7 0)) (.returned (.tuple #[])) w3 from ⟨rfl, hb3, HC2.out.trans hc3⟩)
      clear hb3 hc3 HP
      go_wp2
      refine bodyPost_ret (results_none rfl _ _ _) rfl ?_
      exact HFF.out
end Go.Proofs.YtlobegpjenabaaaGreatDoor
