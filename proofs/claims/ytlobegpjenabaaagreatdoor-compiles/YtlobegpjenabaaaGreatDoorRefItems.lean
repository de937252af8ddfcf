/- latheref.Items. -/
import Derived.Test.YtlobegpjenabaaaGreatDoorRefList
namespace Go.Proofs.YtlobegpjenabaaaGreatDoor
open Go.RowKit
set_option linter.unusedSimpArgs false
set_option linter.unusedVariables false

def zero5 : Value := .agg #[.int .i64 0, .int .i64 0, .string ⟨#[]⟩, .pointer none, .pointer none]
theorem infoV : (Tryz.prog.info? 96).map (fun i => (i.zero, i.size, i.bytes)) = some (some zero5, 5, 48) := by kernel_rfl

theorem Row5.nil (B : Nat) (w : World) : Row5 B w (.slice none 0 0) [] := World.ownsRow_nil _ _ _ _

theorem ownsRow_of_upd {w w' : World} {S : Nat → Prop} {base e size n : Nat} {v : Value} {xs : List Value} (h : w.ownsRow base e size v n xs) (hu : Upd S w w') (hs : ∀ g, v.ownBlock = some g → ¬ S g) : w'.ownsRow base e size v n xs := by
  obtain ⟨h1, h2⟩ := h
  refine ⟨h1, ?_⟩
  rcases h2 with h2 | ⟨g, cap, cu, hv, hg, hh, r⟩
  · exact Or.inl h2
  · exact Or.inr ⟨g, cap, cu, hv, hg, hu.at hh (hs g (by rw [hv]; rfl)), r⟩
theorem ownsRow_ge {w : World} {base e size n : Nat} {v : Value} {xs : List Value} (h : w.ownsRow base e size v n xs) {g : Nat} (hg : v.ownBlock = some g) : base ≤ g ∧ g < w.heap.size := by
  rcases h.2 with ⟨hv, _⟩ | ⟨g', cap, cu, hv, hb, hh, r⟩
  · rw [hv] at hg; cases hg
  · rw [hv] at hg; cases hg; exact ⟨hb, lt_of_some hh⟩
theorem ownsRow_base {w : World} {base b' e size n : Nat} {v : Value} {xs : List Value} (h : w.ownsRow base e size v n xs) (hb : b' ≤ base) : w.ownsRow b' e size v n xs := by
  obtain ⟨h1, h2⟩ := h
  refine ⟨h1, ?_⟩
  rcases h2 with h2 | ⟨g, cap, cu, hv, hg, r⟩
  · exact Or.inl h2
  · exact Or.inr ⟨g, cap, cu, hv, Nat.le_trans hb hg, r⟩
theorem ownsRow_notPair {w : World} {base size n : Nat} {v : Value} {xs : List Value} {T : TypeId} (h : w.ownsRow base 96 size v n xs) (hT : T ≠ 96) : ∀ (k : Nat) c, v.ownBlock = some k → ¬ w.heap[k]? = some (Obj.cells c T (0, 0)) := by
  intro k c hk
  rcases h.2 with ⟨hv, _⟩ | ⟨g', cap, cu, hv, hb, hh, r⟩
  · rw [hv] at hk; cases hk
  · rw [hv] at hk; cases hk; rw [hh]; simp; intro _ h; exact absurd h.symm hT

set_option maxHeartbeats 1000000 in
/-- Of what is no list. -/
theorem items_atom (k m : Int) (s : ByteArray) (p : Option Addr) (w : World) (h5 : (k == 5) = false) :
    Calls Tryz.prog 66 #[.agg (rcells k m s p)] w fun e w' => e = .returned (.tuple #[.slice none 0 0, .bool (k == 4)]) ∧ Below w.heap.size w w' := by
  unfold rcells
  go_enter Tryz.func66, Tryz.ntmps66
  go_wp2
  go_loopw [4] (fun v wr => v = .slice none 0 0 ∧ wr = w.alloc (.cells #[.int .i64 k, .int .i64 m, .string s, .pointer p, .pointer none] 96)) (fun _ _ => 0)
  case atStart => exact ⟨rfl, rfl⟩
  case round =>
    obtain ⟨rfl, rfl⟩ := hrel
    go_wp2
    go_quiet (fail)
    go_wp2
    go_ret2
    exact ⟨rfl, Upd.below (S := fun _ => False) (Upd.drewN (Upd.alloc (Upd.refl _ w) _) _) (Nat.le_refl _) (fun _ h => h.elim)⟩

theorem news5 {w : World} {b : Nat} {a0 a1 a2 a3 a4 : Value} {T : TypeId} {fz : Nat × Nat} (h : w.heap[b]? = some (Obj.cells #[a0, a1, a2, a3, a4] T fz)) : ∀ (j : Nat) u, [a0, a1, a2, a3, a4][j]? = some u → w.cell? (Addr.add ⟨b, 0, none⟩ j) = some u := World.news_of_block h
theorem one5 (k m : Int) (s : ByteArray) (p : Option Addr) : ∀ u ∈ [Value.int .i64 k, .int .i64 m, .string s, .pointer p, .pointer none], u.oneCell' = true := by
  intro u hu
  simp at hu
  rcases hu with rfl | rfl | rfl | rfl | rfl <;> rfl

theorem items_upd {w w1 : World} {o : Obj} {row : Option Nat} (h : (w.alloc o).grownBy w1 row) : Upd (fun k => row = some k) w w1 := Upd.grown ((Upd.refl _ w).alloc o) h (fun k hk _ => hk)

/-- What stands in the walk of Items at a round's head. -/
def ItemsRel (w : World) (n : Nat) (l : List D) (v : Value) (wr : World) (k : Nat) : Prop :=
  (∃ css, Row5 (w.heap.size + 1) wr v css ∧ RVs wr n css (l.take k)) ∧ (∃ c, wr.heap[w.heap.size]? = some (Obj.cells c 96 (0, 0)) ∧ Chain wr (RV wr n) c (l.drop k)) ∧ Below w.heap.size w wr ∧ w.heap.size + 1 ≤ wr.heap.size

def lenOf : Value → Nat | .slice _ n _ => n | _ => 0
theorem ownsRow_len {w : World} {base e size n : Nat} {v : Value} {xs : List Value} (h : w.ownsRow base e size v n xs) : lenOf v = n := by
  rcases h.2 with ⟨hv, h0⟩ | ⟨g', cap, cu, hv, r⟩
  · rw [hv, h0]; rfl
  · rw [hv]; rfl
theorem flat_snoc (css : List (Array Value)) (c : Array Value) : flat (css ++ [c]) = flat css ++ c.toList := by simp [flat]

theorem items_round {w wr w1 : World} {n : Nat} {l : List D} {v v' : Value} {k : Nat} {css : List (Array Value)} {b : Nat} {k1 m1 k2 m2 : Int} {s1 s2 : ByteArray} {p1 p2 : Option Addr} (hk : k < l.length)
    (hr : Row5 (w.heap.size + 1) wr v css) (hrv : RVs wr n css (l.take k)) (hB1 : w1.heap[w.heap.size]? = some (Obj.cells (rcells 5 0 emptyB (some ⟨b, 0, none⟩)) 96 (0, 0)))
    (hd : RV wr n (rcells k1 m1 s1 p1) l[k]) (ht : Chain wr (RV wr n) (rcells k2 m2 s2 p2) (l.drop (k + 1))) (hb : Below w.heap.size w wr) (hsz : w.heap.size + 1 ≤ wr.heap.size)
    (hu : Upd (fun k => v.ownBlock = some k) wr w1) (ho : w1.ownsRow (w.heap.size + 1) 96 5 v' (css.length + 1) (flat css ++ [.int .i64 k1, .int .i64 m1, .string s1, .pointer p1, .pointer none]))
    (W' : World) (hW : W' = set5 w1 w.heap.size (.int .i64 k2) (.int .i64 m2) (.string s2) (.pointer p2) (.pointer none)) : ItemsRel w n l v' W' (k + 1) := by
  have hu2 : Upd (fun k => k = w.heap.size) w1 W' := by rw [hW]; exact set5_upd _ _ _ _ _ _ _
  have hk1 : Keep 162 wr w1 := Keep.of_upd hu (ownsRow_notPair hr (by decide))
  have hk2 : Keep 162 w1 W' := Keep.of_upd hu2 (by intro k c hk; subst hk; rw [hB1]; simp)
  have hkk := hk1.trans hk2
  refine ⟨⟨css ++ [rcells k1 m1 s1 p1], ?_, ?_⟩, ⟨rcells k2 m2 s2 p2, ?_, ?_⟩, ?_, ?_⟩
  · have := ownsRow_of_upd ho hu2 (fun g hg => by have := (ownsRow_ge ho hg).1; omega)
    unfold Row5; rw [flat_snoc, List.length_append]; exact this
  · rw [List.take_succ_eq_append_getElem hk]
    exact RVs.append (RVs.keep hkk n _ _ hrv) ⟨rfl, RV.keep hkk _ _ _ hd, trivial⟩
  · rw [hW]; exact set5_same _ _ _ _ _ hB1
  · exact Chain.keep hkk (RV.keep hkk n) _ _ ht
  · refine (hb.trans (hu.below hb.size ?_)).trans (hu2.below (Nat.le_trans hb.size hu.size) (by intro k hk; omega))
    intro k hk; have := (ownsRow_ge hr hk).1; omega
  · have := hu.size; have := hu2.size; omega

theorem items_start {w : World} {n : Nat} {l : List D} {a0 a1 a2 a3 a4 : Value} (hv : Chain w (RV w n) #[a0, a1, a2, a3, a4] l) : ItemsRel w n l (.slice none 0 0) (w.alloc (.cells #[a0, a1, a2, a3, a4] 96)) 0 := by
  have hb : Below w.heap.size w (w.alloc (.cells #[a0, a1, a2, a3, a4] 96)) := (Below.refl _ _).alloc (Nat.le_refl _) _
  have hk := Keep.of_below (T := 162) hb
  exact ⟨⟨[], Row5.nil _ _, by simp [RVs]⟩, ⟨_, heap_alloc_new _ _, Chain.keep hk (RV.keep hk n) _ _ hv⟩, hb, by simp⟩

theorem items_end {w wr : World} {n : Nat} {l : List D} {css : List (Array Value)} {v : Value} (hr : Row5 (w.heap.size + 1) wr v css) (hrv : RVs wr n css (l.take l.length)) (hb : Below w.heap.size w wr) (W' : World) (hu : Upd (fun _ => False) wr W') :
    Row5 w.heap.size W' v css ∧ RVs W' n css l ∧ Below w.heap.size w W' := by
  have hk : Keep 162 wr W' := Keep.of_upd hu (fun _ _ h => h.elim)
  refine ⟨ownsRow_base (ownsRow_of_upd hr hu (fun _ _ h => h)) (by omega), ?_, hb.trans (hu.below hb.size (fun _ h => h.elim))⟩
  rw [List.take_length] at hrv
  exact RVs.keep hk n _ _ hrv

set_option maxRecDepth 100000 in
set_option maxHeartbeats 1000000 in
theorem items_list (n : Nat) (l : List D) (cs : Array Value) (w : World) (hv : RV w (n + 1) cs (.agg l)) :
    Calls Tryz.prog 66 #[.agg cs] w fun e w' => ∃ v css, e = .returned (.tuple #[v, .bool true]) ∧ Row5 w.heap.size w' v css ∧ RVs w' n css l ∧ Below w.heap.size w w' := by
  obtain ⟨hl, hch⟩ : l.length ≤ 1000 ∧ Chain w (RV w n) cs l := hv
  obtain ⟨k0, m0, s0, p0, rfl⟩ := hch.form
  have HV := hide hch
  clear hch
  unfold rcells at *
  obtain ⟨i0, hi, hz0, hz1, hz2⟩ := info_parts infoV
  have HI := hide (And.intro hi (And.intro hz0 (And.intro hz1 hz2)))
  clear hi hz0 hz1 hz2
  go_enter Tryz.func66, Tryz.ntmps66
  go_wp2
  go_loopw [4] (fun v wr => ∃ k, k ≤ l.length ∧ ItemsRel w n l v wr k) (fun v _ => l.length - lenOf v)
  case atStart => exact ⟨0, Nat.zero_le _, items_start HV.out⟩
  case round =>
    obtain ⟨k, hk, ⟨css, hrow, hrvs⟩, ⟨c, hB, hch⟩, hb, hsz⟩ := hrel
    rcases Nat.lt_or_eq_of_le hk with hlt | rfl
    · rw [drop_cons l k hlt] at hch
      obtain ⟨b, c1, c2, rfl, hP, h15, h25, hd, hr⟩ := hch
      obtain ⟨k1, m1, s1, p1, rfl⟩ := RV.form _ _ _ hd
      obtain ⟨k2, m2, s2, p2, rfl⟩ := hr.form
      have b0 := cell_of_block hB 0
      have b3 := cell_of_block hB 3
      have f0 := frozen_of_block hB 0
      have f1 := frozen_of_block hB 1
      have f2 := frozen_of_block hB 2
      have f3 := frozen_of_block hB 3
      have f4 := frozen_of_block hB 4
      have x0 := cell_of_block hP 0
      have x1 := cell_of_block hP 1
      have x2 := cell_of_block hP 2
      have x3 := cell_of_block hP 3
      have x4 := cell_of_block hP 4
      simp [rcells] at b0 b3 x0 x1 x2 x3 x4
      have HR := hide hrow
      have HRV := hide hrvs
      have HB := hide hB
      have HP := hide hP
      have HD := hide hd
      have HT := hide hr
      have HBW := hide hb
      have hcl := hrvs.length
      clear hrow hrvs hB hP hd hr hb h15 h25
      have hlen : css.length ≤ 1000 := by rw [hcl]; simp; omega
      have HCL := hide hcl
      clear hcl
      go_wp2_with (at_builtin; refine wpList_append_lies _ rfl (.tmp 8) (.tmp 14) 65 rfl (w.heap.size + 1) 96 i0 zero5 5 48 Tryz.underlying65 HI.out.1 HI.out.2.1 HI.out.2.2.1 HI.out.2.2.2 rfl (by decide) _ css.length (flat css) rfl (HR.out.alloc _) ⟨wr.heap.size, 0, none⟩ 1 1 [.int .i64 k1, .int .i64 m1, .string s1, .pointer p1, .pointer none] rfl rfl (news5 (heap_alloc_new _ _)) (one5 _ _ _ _) (by decide) (by unfold maxLen; omega) (by omega) (by simp; omega) (wr.heap.size + 1) (by simp) ?_)
      intro g cap w1 hown1 hgrow hat hlt1
      have hu1 := items_upd hgrow
      have hvs : ∀ (k : Nat) (c : Array Value), u4.ownBlock = some k → ¬ wr.heap[k]? = some (Obj.cells c 162 (0, 0)) := ownsRow_notPair HR.out (by decide)
      have hB1 := hu1.at HB.out (fun h => by have := (ownsRow_ge HR.out h).1; omega)
      have hP1 := hu1.at HP.out (fun h => hvs _ _ h HP.out)
      have y0 := cell_of_block hB1 0
      have y1 := cell_of_block hB1 1
      have y2 := cell_of_block hB1 2
      have y3 := cell_of_block hB1 3
      have y4 := cell_of_block hB1 4
      have f0 := frozen_of_block hB1 0
      have f1 := frozen_of_block hB1 1
      have f2 := frozen_of_block hB1 2
      have f3 := frozen_of_block hB1 3
      have f4 := frozen_of_block hB1 4
      have x5 := cell_of_block hP1 5
      have x6 := cell_of_block hP1 6
      have x7 := cell_of_block hP1 7
      have x8 := cell_of_block hP1 8
      have x9 := cell_of_block hP1 9
      simp [rcells] at y0 y1 y2 y3 y4 x5 x6 x7 x8 x9
      have HB1 := hide hB1
      have HP1 := hide hP1
      have HU1 := hide hu1
      have HO1 := hide hown1
      have HVS := hide hvs
      clear hB1 hP1 hu1 hown1 hgrow hvs
      go_wp2
      go_roundw
      case rel => exact ⟨k + 1, by omega, items_round hlt HR.out HRV.out HB1.out HD.out HT.out HBW.out hsz HU1.out HO1.out _ rfl⟩
      case measure => rw [ownsRow_len HR.out, HCL.out]; simp [lenOf, HCL.out]; omega
    · rw [List.drop_length] at hch
      have hch : c = rcells 4 0 emptyB none := hch
      subst hch
      have b0 := cell_of_block hB 0
      simp [rcells] at b0
      have HR := hide hrow
      have HRV := hide hrvs
      have HB := hide hb
      clear hrow hrvs hB hb
      go_wp2
      go_quiet (fail)
      go_wp2
      go_ret2
      exact ⟨_, css, rfl, items_end HR.out HRV.out HB.out _ ((Upd.refl _ _).drewN _)⟩

/-- Items, of whatever is read. -/
theorem items_any (n : Nat) (d : D) (cs : Array Value) (w : World) (hv : RV w (n + 1) cs d) :
    Calls Tryz.prog 66 #[.agg cs] w fun e w' => ∃ v css, e = .returned (.tuple #[v, .bool (isList d)]) ∧ Row5 w.heap.size w' v css ∧ RVs w' n css (itemsD d) ∧ Below w.heap.size w w' := by
  match d, hv with
  | .agg l, hv => exact items_list n l cs w hv
  | .lit (.int k m), hv =>
    cases k <;> first | (cases hv; done) | (have h : some _ = some cs := hv; cases h; exact (items_atom _ _ _ _ w rfl).mono fun e w' ⟨he, hb⟩ => ⟨_, [], he, Row5.nil _ _, trivial, hb⟩)
  | .lit (.bool b), hv => have h : some _ = some cs := hv; cases h; exact (items_atom _ _ _ _ w rfl).mono fun e w' ⟨he, hb⟩ => ⟨_, [], he, Row5.nil _ _, trivial, hb⟩
  | .lit (.string b), hv => have h : some _ = some cs := hv; cases h; exact (items_atom _ _ _ _ w rfl).mono fun e w' ⟨he, hb⟩ => ⟨_, [], he, Row5.nil _ _, trivial, hb⟩
  | .lit (.float _ _), hv => cases hv
  | .lit .nil, hv => cases hv
  | .nil, hv => have h : some _ = some cs := hv; cases h; exact (items_atom _ _ _ _ w rfl).mono fun e w' ⟨he, hb⟩ => ⟨_, [], he, Row5.nil _ _, trivial, hb⟩
  | .ptr _, hv => cases hv
  | .slice _ _, hv => cases hv
  | .iface _ _, hv => cases hv
  | .map _, hv => cases hv
  | .held _, hv => cases hv

end Go.Proofs.YtlobegpjenabaaaGreatDoor
