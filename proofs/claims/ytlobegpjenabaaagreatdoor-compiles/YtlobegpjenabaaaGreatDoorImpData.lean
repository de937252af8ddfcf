/- Values of the program in memory. -/
import Derived.Test.YtlobegpjenabaaaGreatDoorImpKind
namespace Go.Proofs.YtlobegpjenabaaaGreatDoor
open Go.RowKit
set_option linter.unusedSimpArgs false
set_option linter.unusedVariables false

/-- An atom as the program has it. -/
def atomI : D → Option Value
  | .lit (.int .i64 k) => some (.iface 130 (.int .i64 k))
  | .lit (.bool b) => some (.iface 131 (.bool b))
  | .lit (.string t) => some (.iface 134 (.string ⟨t.toArray⟩))
  | _ => none
def ChainI (w : World) (R : Value → D → Prop) : Value → List D → Prop
  | v, [] => v = .iface 207 (.agg #[])
  | v, d :: r => ∃ b v1 v2, v = .iface 136 (.pointer (some ⟨b, 0, none⟩)) ∧ w.heap[b]? = some (Obj.cells #[v1, v2] 205 (0, 0)) ∧ R v1 d ∧ ChainI w R v2 r
/-- A datum that is less than so deep, as the program has it. -/
def IV (w : World) : Nat → Value → D → Prop
  | 0, _, _ => False
  | n + 1, v, .agg l => l.length ≤ 1000 ∧ ChainI w (IV w n) v l
  | _ + 1, v, d => atomI d = some v
def IVs (w : World) (n : Nat) : List Value → List D → Prop
  | [], [] => True
  | v :: vs, d :: ds => IV w n v d ∧ IVs w n vs ds
  | _, _ => False

theorem ChainI.keep {w w' : World} {R R' : Value → D → Prop} (k : Keep 205 w w') (hR : ∀ c d, R c d → R' c d) : ∀ (l : List D) (v : Value), ChainI w R v l → ChainI w' R' v l
  | [], v, h => h
  | d :: r, v, ⟨b, v1, v2, e, hb, hd, hr⟩ => ⟨b, v1, v2, e, k _ _ hb, hR _ _ hd, ChainI.keep k hR r v2 hr⟩
theorem IV.keep {w w' : World} (k : Keep 205 w w') : ∀ (n : Nat) (v : Value) (d : D), IV w n v d → IV w' n v d
  | 0, _, _, h => h.elim
  | n + 1, v, .agg l, h => ⟨h.1, ChainI.keep k (IV.keep k n) l v h.2⟩
  | n + 1, v, .lit _, h => h
  | n + 1, v, .nil, h => h
  | n + 1, v, .ptr _, h => h
  | n + 1, v, .slice _ _, h => h
  | n + 1, v, .iface _ _, h => h
  | n + 1, v, .map _, h => h
  | n + 1, v, .held _, h => h
theorem IVs.keep {w w' : World} (k : Keep 205 w w') (n : Nat) : ∀ (vs : List Value) (ds : List D), IVs w n vs ds → IVs w' n vs ds
  | [], [], h => h
  | c :: cs, d :: ds, h => ⟨IV.keep k n c d h.1, IVs.keep k n cs ds h.2⟩
  | [], _ :: _, h => h.elim
  | _ :: _, [], h => h.elim
theorem IV.up {w : World} : ∀ (n : Nat) (v : Value) (d : D), IV w n v d → IV w (n + 1) v d
  | 0, _, _, h => h.elim
  | n + 1, v, .agg l, h => ⟨h.1, ChainI.keep (Keep.refl w) (IV.up n) l v h.2⟩
  | n + 1, v, .lit _, h => h
  | n + 1, v, .nil, h => h
  | n + 1, v, .ptr _, h => h
  | n + 1, v, .slice _ _, h => h
  | n + 1, v, .iface _ _, h => h
  | n + 1, v, .map _, h => h
  | n + 1, v, .held _, h => h
theorem IV.ups {w : World} {v : Value} {d : D} {n : Nat} (h : IV w n v d) : ∀ k, IV w (n + k) v d
  | 0 => h
  | k + 1 => IV.up _ _ _ (IV.ups h k)
theorem IV.pos {w : World} {v : Value} {d : D} {n : Nat} (h : IV w n v d) : 0 < n := by
  cases n with
  | zero => exact h.elim
  | succ n => omega
theorem IV.len {w : World} {v : Value} {d : D} {n : Nat} (h : IV w n v d) : (itemsD d).length ≤ 1000 := by
  obtain ⟨m, rfl⟩ : ∃ m, n = m + 1 := ⟨n - 1, by have := h.pos; omega⟩
  cases d with
  | agg l => exact h.1
  | _ => simp [itemsD]
theorem IVs.length {w : World} {n : Nat} : ∀ {vs : List Value} {ds : List D}, IVs w n vs ds → vs.length = ds.length
  | [], [], _ => rfl
  | c :: cs, d :: ds, h => by simp [IVs.length h.2]
  | [], _ :: _, h => h.elim
  | _ :: _, [], h => h.elim
theorem IVs.append {w : World} {n : Nat} : ∀ {vs : List Value} {ds : List D} {vs' : List Value} {ds' : List D}, IVs w n vs ds → IVs w n vs' ds' → IVs w n (vs ++ vs') (ds ++ ds')
  | [], [], _, _, _, h' => h'
  | c :: cs, d :: ds, _, _, h, h' => ⟨h.1, IVs.append h.2 h'⟩
  | [], _ :: _, _, _, h, _ => h.elim
  | _ :: _, [], _, _, h, _ => h.elim
theorem IVs.at {w : World} {n : Nat} : ∀ {vs : List Value} {ds : List D} (h : IVs w n vs ds) (k : Nat) (hk : k < ds.length), ∃ v, vs[k]? = some v ∧ IV w n v ds[k]
  | [], [], _, k, hk => absurd hk (by simp)
  | c :: cs, d :: ds, h, 0, _ => ⟨c, rfl, h.1⟩
  | c :: cs, d :: ds, h, k + 1, hk => by
    obtain ⟨v, h1, h2⟩ := IVs.at h.2 k (by simpa using hk)
    exact ⟨v, by simpa using h1, h2⟩
  | [], _ :: _, h, _, _ => h.elim
  | _ :: _, [], h, _, _ => h.elim
theorem ChainI.form {w : World} {R : Value → D → Prop} : ∀ {l : List D} {v : Value}, ChainI w R v l → ∃ t x, v = .iface t x
  | [], v, h => ⟨_, _, h⟩
  | _ :: _, v, h => by obtain ⟨b, v1, v2, e, _⟩ := h; exact ⟨_, _, e⟩
theorem IV.form {w : World} : ∀ (n : Nat) (v : Value) (d : D), IV w n v d → ∃ t x, v = .iface t x
  | 0, _, _, h => h.elim
  | n + 1, v, .agg l, h => h.2.form
  | n + 1, v, .lit (.int k m), h => by
    cases k <;> first | (cases h; done) | (have h : some _ = some v := h; cases h; exact ⟨_, _, rfl⟩)
  | n + 1, v, .lit (.bool _), h => by have h : some _ = some v := h; cases h; exact ⟨_, _, rfl⟩
  | n + 1, v, .lit (.string _), h => by have h : some _ = some v := h; cases h; exact ⟨_, _, rfl⟩
  | n + 1, v, .lit (.float _ _), h => by cases h
  | n + 1, v, .lit .nil, h => by cases h
  | n + 1, v, .nil, h => by cases h
  | n + 1, v, .ptr _, h => by cases h
  | n + 1, v, .slice _ _, h => by cases h
  | n + 1, v, .iface _ _, h => by cases h
  | n + 1, v, .map _, h => by cases h
  | n + 1, v, .held _, h => by cases h

/-- A row of values of the program. -/
def RowI (B : Nat) (w : World) (v : Value) (vs : List Value) : Prop := w.ownsRow B 81 1 v vs.length vs
theorem RowI.nil (B : Nat) (w : World) : RowI B w (.slice none 0 0) [] := World.ownsRow_nil _ _ _ _
theorem infoVal : (Tryz.prog.info? 81).map (fun i => (i.zero, i.size, i.bytes)) = some (some .nilIface, 1, 16) := by kernel_rfl
theorem rowI_at {B n : Nat} {w : World} {v : Value} {vs : List Value} {ds : List D} (hrow : RowI B w v vs) (hds : IVs w n vs ds) : ∃ a cap, v = .slice a ds.length cap ∧ ds.length ≤ cap ∧ cap ≤ maxLen ∧
    ∀ k (hk : k < ds.length), ∃ g, a = some ⟨g, 0, none⟩ ∧ g < w.heap.size ∧ ∃ t x, IV w n (.iface t x) ds[k] ∧ w.cell? ⟨g, k, none⟩ = some (.iface t x) := by
  have hl := hds.length
  obtain ⟨a, cap, hv, h1, h2, h3⟩ := ownsRow_slice hrow
  rw [hl] at hv h1 h3
  refine ⟨a, cap, hv, h1, h2, fun k hk => ?_⟩
  obtain ⟨g, ha, _, hg, hc⟩ := h3 (by omega)
  obtain ⟨u, hu, hiv⟩ := hds.at k hk
  obtain ⟨t, x, rfl⟩ := IV.form _ _ _ hiv
  exact ⟨g, ha, hg, t, x, hiv, hc _ _ hu⟩

theorem ilist_round {n : Nat} {ds : List D} {w wr : World} {j : Nat} {v u : Value} (hj : j < ds.length) (hch : ChainI wr (IV wr n) v (ds.drop (j + 1))) (hb : Below w.heap.size w wr) (hE : IV w n u ds[j]) :
    ChainI (wr.alloc (.cells #[u, v] 205)) (IV (wr.alloc (.cells #[u, v] 205)) n) (.iface 136 (.pointer (some ⟨wr.heap.size, 0, none⟩))) (ds.drop j) ∧ Below w.heap.size w (wr.alloc (.cells #[u, v] 205)) := by
  have hb2 : Below wr.heap.size wr (wr.alloc (.cells #[u, v] 205)) := (Below.refl _ _).alloc (Nat.le_refl _) _
  have hk := Keep.of_below (T := 205) hb2
  rw [drop_cons ds j hj]
  exact ⟨⟨_, u, v, rfl, heap_alloc_new _ _, IV.keep ((Keep.of_below hb).trans hk) _ _ _ hE, ChainI.keep hk (IV.keep hk n) _ _ hch⟩, hb.alloc hb.size _⟩

set_option maxRecDepth 100000 in
set_option maxHeartbeats 1000000 in
theorem ilist_any (n : Nat) (vs : List Value) (ds : List D) (v : Value) (w : World) (B : Nat) (hrow : RowI B w v vs) (hds : IVs w n vs ds) (hlen : ds.length ≤ 1000) :
    Calls Tryz.prog 139 #[v] w fun e w' => ∃ u, e = .returned u ∧ IV w' (n + 1) u (.agg ds) ∧ Below w.heap.size w w' := by
  obtain ⟨a, cap, rfl, hc1, hc2, hat⟩ := rowI_at hrow hds
  have HAT := hide hat
  clear hat hrow hds
  unfold maxLen at hc2
  go_enter Tryz.func139, Tryz.ntmps139
  go_wp2
  go_loopw [3, 4] (fun u i wr => ∃ k : Nat, k ≤ ds.length ∧ i = .int .i64 ((k : Int) - 1) ∧ ChainI wr (IV wr n) u (ds.drop k) ∧ Below w.heap.size w wr) (fun _ i _ => (intOf i + 1).toNat)
  case atStart => exact ⟨ds.length, Nat.le_refl _, rfl, by rw [List.drop_length]; rfl, Below.refl _ _⟩
  case round =>
    obtain ⟨k, hk, rfl, hch, hb⟩ := hrel
    have HCH := hide hch
    have HB := hide hb
    rcases Nat.eq_zero_or_pos k with rfl | hkp
    · obtain ⟨t, x, rfl⟩ := hch.form
      clear hch hb
      go_wp2
      go_ret
      exact ⟨_, rfl, ⟨hlen, HCH.out⟩, HB.out⟩
    · obtain ⟨j, rfl⟩ : ∃ j, k = j + 1 := ⟨k - 1, by omega⟩
      obtain ⟨g, rfl, hg, t, x, hiv, c0⟩ := HAT.out j (by omega)
      obtain ⟨t2, x2, rfl⟩ := hch.form
      have d0 : wr.cell? ⟨g, j, none⟩ = some (.iface t x) := by rw [hb.cell (p := ⟨g, j, none⟩) hg]; exact c0
      have hjl : j < ds.length := by omega
      have HIV := hide hiv
      clear hch hb hiv c0
      go_wp2
      go_roundw
      case rel => exact ⟨j, by omega, rfl, ilist_round hjl HCH.out HB.out HIV.out⟩
      case measure => simp [intOf]
end Go.Proofs.YtlobegpjenabaaaGreatDoor
