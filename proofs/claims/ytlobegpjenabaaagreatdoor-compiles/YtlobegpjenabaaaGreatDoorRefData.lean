/- Values of the document's answer in memory. -/
import Derived.Test.YtlobegpjenabaaaGreatDoorRefTok
import Derived.Deep.AppendLies
import Derived.RegionTactic
namespace Go.Proofs.YtlobegpjenabaaaGreatDoor
open Go.RowKit
set_option linter.unusedSimpArgs false
set_option linter.unusedVariables false

/-- All blocks that were there, but for those of S, are as they were. -/
structure Upd (S : Nat → Prop) (w w' : World) : Prop where
  os : w'.os = w.os
  tape : w'.tape = w.tape
  output : w'.output = w.output
  size : w.heap.size ≤ w'.heap.size
  block : ∀ k, k < w.heap.size → ¬ S k → w'.heap[k]? = w.heap[k]?
theorem Upd.refl (S : Nat → Prop) (w : World) : Upd S w w := ⟨rfl, rfl, rfl, Nat.le_refl _, fun _ _ _ => rfl⟩
theorem Upd.trans {S S' : Nat → Prop} {w w1 w2 : World} (h : Upd S w w1) (k : Upd S' w1 w2) (hs : ∀ j, j < w.heap.size → S' j → S j) : Upd S w w2 :=
  ⟨k.os.trans h.os, k.tape.trans h.tape, k.output.trans h.output, Nat.le_trans h.size k.size, fun j hj hn => (k.block j (Nat.lt_of_lt_of_le hj h.size) (fun x => hn (hs j hj x))).trans (h.block j hj hn)⟩
theorem Upd.of_below {w w' : World} (S : Nat → Prop) (h : Below w.heap.size w w') : Upd S w w' := ⟨h.os, h.tape, h.output, h.size, fun k hk _ => h.block k hk⟩
theorem Upd.below {S : Nat → Prop} {w w' : World} {B : Nat} (h : Upd S w w') (hB : B ≤ w.heap.size) (hS : ∀ k, S k → B ≤ k) : Below B w w' :=
  ⟨h.os, h.tape, h.output, h.size, fun k hk => h.block k (by omega) (fun x => by have := hS k x; omega)⟩
theorem Upd.mono {S S' : Nat → Prop} {w w' : World} (h : Upd S w w') (hs : ∀ j, S j → S' j) : Upd S' w w' := ⟨h.os, h.tape, h.output, h.size, fun k hk hn => h.block k hk (fun x => hn (hs k x))⟩
theorem Upd.grown {S : Nat → Prop} {w w1 w' : World} {row : Option Nat} (h : Upd S w w1) (g : w1.grownBy w' row) (hr : ∀ k, row = some k → k < w.heap.size → S k) : Upd S w w' :=
  h.trans (S' := fun k => row = some k) ⟨g.os, g.tape, g.output, g.size, fun k hk hn => g.block k hk (fun e => hn e.symm)⟩ (fun j hj hx => hr j hx hj)
theorem Upd.alloc {S : Nat → Prop} {w w1 : World} (h : Upd S w w1) (o : Obj) : Upd S w (w1.alloc o) :=
  h.trans (S' := fun _ => False) ⟨rfl, rfl, rfl, by simp, fun k hk _ => Below.heap_alloc _ _ _ hk⟩ (fun _ _ x => x.elim)
theorem Upd.setCell {S : Nat → Prop} {w w1 : World} (h : Upd S w w1) (p : Addr) (u : Value) (hp : p.block < w.heap.size → S p.block) : Upd S w (w1.setCell p u) :=
  h.trans (S' := fun k => k = p.block) ⟨rfl, rfl, rfl, by simp [World.setCell], fun k hk hn => Below.heap_setCell _ _ _ _ hn⟩ (fun j hj x => by subst x; exact hp hj)
theorem Upd.drew {S : Nat → Prop} {w w1 : World} (h : Upd S w w1) : Upd S w w1.drew := ⟨h.os, h.tape, h.output, h.size, h.block⟩
theorem Upd.drewN {S : Nat → Prop} {w w1 : World} (h : Upd S w w1) (n : Nat) : Upd S w (w1.drewN n) := ⟨h.os, h.tape, h.output, h.size, h.block⟩

/-- The pairs that were there are as they were. -/
def Keep (T : TypeId) (w w' : World) : Prop := ∀ (b : Nat) (c : Array Value), w.heap[b]? = some (Obj.cells c T (0, 0)) → w'.heap[b]? = some (Obj.cells c T (0, 0))
theorem lt_of_some {w : World} {b : Nat} {o : Obj} (h : w.heap[b]? = some o) : b < w.heap.size := by
  rcases Nat.lt_or_ge b w.heap.size with hlt | hge
  · exact hlt
  · rw [Array.getElem?_eq_none hge] at h; cases h
theorem Keep.of_upd {T : TypeId} {S : Nat → Prop} {w w' : World} (h : Upd S w w') (hs : ∀ k c, S k → ¬ w.heap[k]? = some (Obj.cells c T (0, 0))) : Keep T w w' := by
  intro b c hb
  rw [h.block b (lt_of_some hb) (fun x => hs b c x hb)]; exact hb
theorem Keep.of_below {T : TypeId} {w w' : World} (h : Below w.heap.size w w') : Keep T w w' := by
  intro b c hb
  rw [h.block b (lt_of_some hb)]; exact hb
theorem Keep.trans {T : TypeId} {a b c : World} (h : Keep T a b) (k : Keep T b c) : Keep T a c := fun x y z => k x y (h x y z)
theorem Keep.refl {T : TypeId} (a : World) : Keep T a a := fun x y z => z

/-- A list's cells; R says of an element's cells what it is. -/
def Chain (w : World) (R : Array Value → D → Prop) : Array Value → List D → Prop
  | cs, [] => cs = rcells 4 0 emptyB none
  | cs, d :: r => ∃ b c1 c2, cs = rcells 5 0 emptyB (some ⟨b, 0, none⟩) ∧ w.heap[b]? = some (Obj.cells (c1 ++ c2) 162 (0, 0)) ∧ c1.size = 5 ∧ c2.size = 5 ∧ R c1 d ∧ Chain w R c2 r
/-- The cells of a datum that is less than so deep. -/
def RV (w : World) : Nat → Array Value → D → Prop
  | 0, _, _ => False
  | n + 1, cs, .agg l => l.length ≤ 1000 ∧ Chain w (RV w n) cs l
  | _ + 1, cs, d => atomR d = some cs
def RVs (w : World) (n : Nat) : List (Array Value) → List D → Prop
  | [], [] => True
  | c :: cs, d :: ds => c.size = 5 ∧ RV w n c d ∧ RVs w n cs ds
  | _, _ => False

theorem Chain.keep {w w' : World} {R R' : Array Value → D → Prop} (k : Keep 162 w w') (hR : ∀ c d, R c d → R' c d) : ∀ (l : List D) (cs : Array Value), Chain w R cs l → Chain w' R' cs l
  | [], cs, h => h
  | d :: r, cs, ⟨b, c1, c2, e, hb, h1, h2, hd, hr⟩ => ⟨b, c1, c2, e, k _ _ hb, h1, h2, hR _ _ hd, Chain.keep k hR r c2 hr⟩
theorem RV.keep {w w' : World} (k : Keep 162 w w') : ∀ (n : Nat) (cs : Array Value) (d : D), RV w n cs d → RV w' n cs d
  | 0, _, _, h => h.elim
  | n + 1, cs, .agg l, h => ⟨h.1, Chain.keep k (RV.keep k n) l cs h.2⟩
  | n + 1, cs, .lit _, h => h
  | n + 1, cs, .nil, h => h
  | n + 1, cs, .ptr _, h => h
  | n + 1, cs, .slice _ _, h => h
  | n + 1, cs, .iface _ _, h => h
  | n + 1, cs, .map _, h => h
  | n + 1, cs, .held _, h => h
theorem RVs.keep {w w' : World} (k : Keep 162 w w') (n : Nat) : ∀ (cs : List (Array Value)) (ds : List D), RVs w n cs ds → RVs w' n cs ds
  | [], [], h => h
  | c :: cs, d :: ds, h => ⟨h.1, RV.keep k n c d h.2.1, RVs.keep k n cs ds h.2.2⟩
  | [], _ :: _, h => h.elim
  | _ :: _, [], h => h.elim
theorem Chain.mono {w : World} {R R' : Array Value → D → Prop} (hR : ∀ c d, R c d → R' c d) (l : List D) (cs : Array Value) (h : Chain w R cs l) : Chain w R' cs l := Chain.keep (Keep.refl w) hR l cs h
theorem RV.up {w : World} : ∀ (n : Nat) (cs : Array Value) (d : D), RV w n cs d → RV w (n + 1) cs d
  | 0, _, _, h => h.elim
  | n + 1, cs, .agg l, h => ⟨h.1, Chain.mono (RV.up n) l cs h.2⟩
  | n + 1, cs, .lit _, h => h
  | n + 1, cs, .nil, h => h
  | n + 1, cs, .ptr _, h => h
  | n + 1, cs, .slice _ _, h => h
  | n + 1, cs, .iface _ _, h => h
  | n + 1, cs, .map _, h => h
  | n + 1, cs, .held _, h => h
theorem RVs.length {w : World} {n : Nat} : ∀ {cs : List (Array Value)} {ds : List D}, RVs w n cs ds → cs.length = ds.length
  | [], [], _ => rfl
  | c :: cs, d :: ds, h => by simp [RVs.length h.2.2]
  | [], _ :: _, h => h.elim
  | _ :: _, [], h => h.elim
theorem RVs.append {w : World} {n : Nat} : ∀ {cs : List (Array Value)} {ds : List D} {cs' : List (Array Value)} {ds' : List D}, RVs w n cs ds → RVs w n cs' ds' → RVs w n (cs ++ cs') (ds ++ ds')
  | [], [], _, _, _, h' => h'
  | c :: cs, d :: ds, _, _, h, h' => ⟨h.1, h.2.1, RVs.append h.2.2 h'⟩
  | [], _ :: _, _, _, h, _ => h.elim
  | _ :: _, [], _, _, h, _ => h.elim
/-- The cells of a row of values, one behind the other. -/
def flat (css : List (Array Value)) : List Value := css.flatMap Array.toList
theorem flat_length {w : World} {n : Nat} : ∀ {cs : List (Array Value)} {ds : List D}, RVs w n cs ds → (flat cs).length = cs.length * 5
  | [], [], _ => rfl
  | c :: cs, d :: ds, h => by
    have := flat_length h.2.2
    simp only [flat, List.flatMap_cons, List.length_append, List.length_cons] at *
    have h5 : c.toList.length = 5 := by simp [h.1]
    omega
  | [], _ :: _, h => h.elim
  | _ :: _, [], h => h.elim
/-- The k-th value of a row. -/
theorem flat_at {w : World} {n : Nat} : ∀ {cs : List (Array Value)} {ds : List D} (h : RVs w n cs ds) (k : Nat) (hk : k < ds.length), ∃ c, cs[k]? = some c ∧ c.size = 5 ∧ RV w n c ds[k] ∧ ∀ j, j < 5 → (flat cs)[k * 5 + j]? = c[j]?
  | [], [], _, k, hk => absurd hk (by simp)
  | c :: cs, d :: ds, h, 0, _ => ⟨c, rfl, h.1, h.2.1, fun j hj => by
      simp only [flat, List.flatMap_cons]
      rw [List.getElem?_append_left (by simp [h.1]; omega)]; simp⟩
  | c :: cs, d :: ds, h, k + 1, hk => by
    obtain ⟨c', h1, h2, h3, h4⟩ := flat_at h.2.2 k (by simpa using hk)
    refine ⟨c', by simpa using h1, h2, h3, fun j hj => ?_⟩
    rw [← h4 j hj]
    simp only [flat, List.flatMap_cons]
    rw [List.getElem?_append_right (by simp [h.1]; omega)]
    congr 1; simp [h.1]; omega
  | [], _ :: _, h, _, _ => h.elim
  | _ :: _, [], h, _, _ => h.elim
theorem cells5 (c : Array Value) (h : c.size = 5) : ∃ a0 a1 a2 a3 a4, c = #[a0, a1, a2, a3, a4] := by
  rcases c with ⟨l⟩
  simp at h
  match l, h with
  | [a, b, c, d, e], _ => exact ⟨a, b, c, d, e, rfl⟩
/-- Every value's cells are five, each one cell. -/
theorem RV.form {w : World} : ∀ (n : Nat) (cs : Array Value) (d : D), RV w n cs d → ∃ k m s p, cs = rcells k m s p
  | 0, _, _, h => h.elim
  | n + 1, cs, .agg [], h => ⟨_, _, _, _, h.2⟩
  | n + 1, cs, .agg (_ :: _), h => by obtain ⟨b, c1, c2, e, _⟩ := h.2; exact ⟨_, _, _, _, e⟩
  | n + 1, cs, .lit (.int k m), h => by
    cases k <;> first | (cases h; done) | (have h : some _ = some cs := h; cases h; exact ⟨_, _, _, _, rfl⟩)
  | n + 1, cs, .lit (.bool _), h => by have h : some _ = some cs := h; cases h; exact ⟨_, _, _, _, rfl⟩
  | n + 1, cs, .lit (.string _), h => by have h : some _ = some cs := h; cases h; exact ⟨_, _, _, _, rfl⟩
  | n + 1, cs, .lit (.float _ _), h => by cases h
  | n + 1, cs, .lit .nil, h => by cases h
  | n + 1, cs, .nil, h => by have h : some _ = some cs := h; cases h; exact ⟨_, _, _, _, rfl⟩
  | n + 1, cs, .ptr _, h => by cases h
  | n + 1, cs, .slice _ _, h => by cases h
  | n + 1, cs, .iface _ _, h => by cases h
  | n + 1, cs, .map _, h => by cases h
  | n + 1, cs, .held _, h => by cases h

end Go.Proofs.YtlobegpjenabaaaGreatDoor
