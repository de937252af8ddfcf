/- Expressions of the program in memory; how much a datum weighs. -/
import Derived.Test.YtlobegpjenabaaaGreatDoorImpSplit
namespace Go.Proofs.YtlobegpjenabaaaGreatDoor
open Go.RowKit
set_option linter.unusedSimpArgs false
set_option linter.unusedVariables false

/-- A row of expressions, or of names, whose block is one of P's. -/
def RowE (w : World) (P : Nat → Prop) (u : Value) (es : List Value) : Prop := w.ownsRow 0 83 1 u es.length es ∧ ∀ g, u.ownBlock = some g → P g
def RowN (w : World) (P : Nat → Prop) (u : Value) (zs : List ByteArray) : Prop := w.ownsRow 0 9 1 u zs.length (zs.map .string) ∧ ∀ g, u.ownBlock = some g → P g

/-- What names weigh. -/
def szs : List ByteArray → Nat
  | [] => 0
  | z :: r => z.size + 1 + szs r
theorem szs_len : ∀ (zs : List ByteArray), zs.length ≤ szs zs
  | [] => Nat.le_refl _
  | z :: r => by have := szs_len r; simp only [szs, List.length_cons]; omega
theorem szs_mem : ∀ (zs : List ByteArray) (z : ByteArray), z ∈ zs → z.size + 1 ≤ szs zs
  | y :: r, z, h => by
    rcases List.mem_cons.1 h with h | h
    · subst h; simp only [szs]; omega
    · have := szs_mem r z h; simp only [szs]; omega

mutual
/-- An expression that weighs so much; its rows lie in blocks of P. -/
inductive EV (w : World) (P : Nat → Prop) : Nat → Value → Prop
  | const (t : TypeId) (x : Value) : EV w P 1 (.iface 133 (.agg #[.iface t x]))
  | var (s : ByteArray) : EV w P (s.size + 1) (.iface 202 (.agg #[.string s]))
  | ite {n1 n2 n3 : Nat} {a b c : Value} : EV w P n1 a → EV w P n2 b → EV w P n3 c → EV w P (n1 + n2 + n3 + 1) (.iface 261 (.agg #[a, b, c]))
  | define {n : Nat} {a : Value} (s : ByteArray) : EV w P n a → EV w P (n + s.size + 1) (.iface 279 (.agg #[.string s, a]))
  | set {n : Nat} {a : Value} (s : ByteArray) : EV w P n a → EV w P (n + s.size + 1) (.iface 267 (.agg #[.string s, a]))
  | lambda {n : Nat} {a u : Value} {zs : List ByteArray} (nm : ByteArray) : RowN w P u zs → EV w P n a → EV w P (n + szs zs + 1) (.iface 277 (.agg #[.string nm, u, a]))
  | seq {n : Nat} {u : Value} {es : List Value} : RowE w P u es → 2 ≤ es.length → EVs w P n es → EV w P (n + 1) (.iface 269 (.agg #[u]))
  | apply {n : Nat} {u : Value} {es : List Value} : RowE w P u es → 1 ≤ es.length → EVs w P n es → EV w P (n + 1) (.iface 273 (.agg #[u]))
inductive EVs (w : World) (P : Nat → Prop) : Nat → List Value → Prop
  | nil : EVs w P 0 []
  | cons {n m : Nat} {e : Value} {es : List Value} : EV w P n e → EVs w P m es → EVs w P (n + m) (e :: es)
end

theorem RowE.imp {w w' : World} {P P' : Nat → Prop} {u : Value} {es : List Value} (hk : ∀ (g : Nat) (o : Obj), P g → w.heap[g]? = some o → w'.heap[g]? = some o ∧ P' g) (h : RowE w P u es) : RowE w' P' u es := by
  obtain ⟨⟨h1, h2⟩, h3⟩ := h
  rcases h2 with ⟨hv, h0⟩ | ⟨g, cap, cu, hv, hg, hh, r⟩
  · refine ⟨⟨h1, Or.inl ⟨hv, h0⟩⟩, fun g hg => ?_⟩
    rw [hv] at hg; cases hg
  · have hp := hk g _ (h3 g (by rw [hv]; rfl)) hh
    refine ⟨⟨h1, Or.inr ⟨g, cap, cu, hv, hg, hp.1, r⟩⟩, fun g' hg' => ?_⟩
    rw [hv] at hg'; cases hg'; exact hp.2
theorem RowN.imp {w w' : World} {P P' : Nat → Prop} {u : Value} {zs : List ByteArray} (hk : ∀ (g : Nat) (o : Obj), P g → w.heap[g]? = some o → w'.heap[g]? = some o ∧ P' g) (h : RowN w P u zs) : RowN w' P' u zs := by
  obtain ⟨⟨h1, h2⟩, h3⟩ := h
  rcases h2 with ⟨hv, h0⟩ | ⟨g, cap, cu, hv, hg, hh, r⟩
  · refine ⟨⟨h1, Or.inl ⟨hv, h0⟩⟩, fun g hg => ?_⟩
    rw [hv] at hg; cases hg
  · have hp := hk g _ (h3 g (by rw [hv]; rfl)) hh
    refine ⟨⟨h1, Or.inr ⟨g, cap, cu, hv, hg, hp.1, r⟩⟩, fun g' hg' => ?_⟩
    rw [hv] at hg'; cases hg'; exact hp.2

mutual
theorem EV.imp {w w' : World} {P P' : Nat → Prop} (hk : ∀ (g : Nat) (o : Obj), P g → w.heap[g]? = some o → w'.heap[g]? = some o ∧ P' g) : ∀ {n : Nat} {v : Value}, EV w P n v → EV w' P' n v
  | _, _, .const t x => .const t x
  | _, _, .var s => .var s
  | _, _, .ite a b c => .ite (EV.imp hk a) (EV.imp hk b) (EV.imp hk c)
  | _, _, .define s a => .define s (EV.imp hk a)
  | _, _, .set s a => .set s (EV.imp hk a)
  | _, _, .lambda nm r a => .lambda nm (r.imp hk) (EV.imp hk a)
  | _, _, .seq r h a => .seq (r.imp hk) h (EVs.imp hk a)
  | _, _, .apply r h a => .apply (r.imp hk) h (EVs.imp hk a)
theorem EVs.imp {w w' : World} {P P' : Nat → Prop} (hk : ∀ (g : Nat) (o : Obj), P g → w.heap[g]? = some o → w'.heap[g]? = some o ∧ P' g) : ∀ {n : Nat} {es : List Value}, EVs w P n es → EVs w' P' n es
  | _, _, .nil => .nil
  | _, _, .cons a b => .cons (EV.imp hk a) (EVs.imp hk b)
end

theorem EVs.append {w : World} {P : Nat → Prop} {n m : Nat} {es fs : List Value} (h : EVs w P n es) (k : EVs w P m fs) : EVs w P (n + m) (es ++ fs) := by
  induction es generalizing n with
  | nil => cases h; rw [Nat.zero_add]; exact k
  | cons e r ih =>
    cases h with
    | cons a b => rw [Nat.add_assoc]; exact .cons a (ih b)
theorem EV.form {w : World} {P : Nat → Prop} {n : Nat} {v : Value} (h : EV w P n v) : ∃ t x, v = .iface t x := by cases h <;> exact ⟨_, _, rfl⟩
theorem EV.kept {w w' : World} {P P' : Nat → Prop} {n : Nat} {v : Value} (h : EV w P n v) (hb : Below w.heap.size w w') (hp : ∀ g, P g → g < w.heap.size → P' g) : EV w' P' n v :=
  h.imp fun g o hg ho => ⟨by rw [hb.block g (lt_of_some ho)]; exact ho, hp g hg (lt_of_some ho)⟩
theorem EVs.kept {w w' : World} {P P' : Nat → Prop} {n : Nat} {v : List Value} (h : EVs w P n v) (hb : Below w.heap.size w w') (hp : ∀ g, P g → g < w.heap.size → P' g) : EVs w' P' n v :=
  h.imp fun g o hg ho => ⟨by rw [hb.block g (lt_of_some ho)]; exact ho, hp g hg (lt_of_some ho)⟩

mutual
/-- How much a datum weighs. -/
def wtD : D → Nat
  | .agg l => wtL l + 1
  | .lit (.string s) => s.length + 1
  | _ => 1
def wtL : List D → Nat
  | [] => 0
  | d :: r => wtD d + wtL r
end
theorem wtL_append : ∀ (a b : List D), wtL (a ++ b) = wtL a + wtL b
  | [], b => by simp [wtL]
  | d :: r, b => by simp only [List.cons_append, wtL, wtL_append r b]; omega
theorem wtD_pos (d : D) : 1 ≤ wtD d := by unfold wtD; split <;> omega
theorem nameD_wt (d : D) : (nameD d).length + 1 ≤ wtD d := by
  unfold nameD
  split
  · simp [wtD]
  · exact wtD_pos d
theorem szs_wt : ∀ (zs : List ByteArray) (ds : List D), NmOf zs ds → szs zs ≤ wtL ds
  | [], [], _ => Nat.le_refl _
  | [], _ :: _, h => by cases h
  | _ :: _, [], h => by cases h
  | z :: r, d :: ds, h => by
    simp only [NmOf, List.map_cons, List.cons.injEq] at h
    have h1 := szs_wt r ds h.2
    have h2 := nameD_wt d
    have h3 : z.size = (nameD d).length := by rw [← h.1]; exact (Array.length_toList).symm
    simp only [szs, wtL]; omega

/-- A datum weighs no more than eight times its bytes. -/
theorem rd_wt (l : List UInt8) : ∀ (n op i : Nat) (m : Option (List D)) (d : D) (k : Nat), i ≤ l.length → (m = none → i < l.length) → rd n l op i m = .inr (d, k) → wtD d ≤ 8 * (k - i) + (match m with | none => 0 | some acc => wtL acc)
  | 0, op, i, m, d, k, _, _, h => by simp [rd] at h
  | n + 1, op, i, none, d, k, hi, hm, h => by
    have hi := hm rfl
    have hadv := rd_adv l (n + 1) op i none d k (by omega) (fun _ => hi) h
    simp only [rd] at h
    split at h
    · cases h
    split at h
    · split at h
      · cases h
      · have := rd_wt l n (op + 1) (i + 1) (some []) d k (by omega) (by simp) h
        simp [wtL] at this ⊢; omega
    split at h
    · split at h
      · cases h
      · split at h
        · cases h
        · rename_i hs
          have h1 := skipTo_le' l (i + 1) (by omega)
          have h2 : i + 1 ≤ skipTo l (i + 1) := by unfold skipTo; omega
          split at h
          · cases h
          · rename_i d' k' hr
            cases h
            have := rd_wt l n (op + 1) (skipTo l (i + 1)) none d' k (by omega) (fun _ => by omega) hr
            have hx := rd_adv l n (op + 1) (skipTo l (i + 1)) none d' k (by omega) (fun _ => by omega) hr
            simp [lst, sym, qsym, wtD, wtL] at this ⊢; omega
    split at h
    · cases h
    · split at h
      · cases h
      · rename_i d' hd
        cases h
        have : wtD d ≤ (tokEnd l i - i) + 1 := by
          unfold tokD at hd
          split at hd
          · cases hd; exact Nat.le_add_left _ _
          split at hd
          · cases hd; exact Nat.le_add_left _ _
          split at hd
          · split at hd
            · cases hd
            · cases hd; exact Nat.le_add_left _ _
          split at hd
          · cases hd
          · cases hd
            simp only [sym, wtD, List.length_take]; omega
        simp; omega
  | n + 1, op, i, some acc, d, k, hi, hm, h => by
    have hadv := rd_adv l (n + 1) op i (some acc) d k (by omega) (by simp) h
    simp only [rd] at h
    have h1 := skipTo_le' l i hi
    have h2 : i ≤ skipTo l i := by unfold skipTo; omega
    split at h
    · cases h
    split at h
    · cases h; simp [lst, wtD]; omega
    split at h
    · cases h
    · rename_i d' k' hr
      have a1 := rd_adv l n op (skipTo l i) none d' k' (by omega) (fun _ => by omega) hr
      have a2 := rd_wt l n op (skipTo l i) none d' k' (by omega) (fun _ => by omega) hr
      have a3 := rd_adv l n op k' (some (acc ++ [d'])) d k (by omega) (by simp) h
      have a4 := rd_wt l n op k' (some (acc ++ [d'])) d k (by omega) (by simp) h
      simp [wtL_append, wtL] at a2 a4 ⊢; omega
theorem readS_wt (l : List UInt8) : ∀ (n i : Nat) (acc ds : List D), i ≤ l.length → readS n l i acc = .inr ds → wtL ds ≤ 8 * (l.length - i) + wtL acc
  | 0, i, acc, ds, hi, h => by simp only [readS] at h; cases h; omega
  | n + 1, i, acc, ds, hi, h => by
    simp only [readS] at h
    have h1 := skipTo_le' l i hi
    have h2 : i ≤ skipTo l i := by unfold skipTo; omega
    split at h
    · cases h; omega
    split at h
    · cases h
    · rename_i d k hr
      have a1 := rd_adv l _ 0 (skipTo l i) none d k (by omega) (fun _ => by omega) hr
      have a2 := rd_wt l _ 0 (skipTo l i) none d k (by omega) (fun _ => by omega) hr
      have a3 := readS_wt l n k (acc ++ [d]) ds (by omega) h
      simp [wtL_append, wtL] at a2 a3; omega
end Go.Proofs.YtlobegpjenabaaaGreatDoor
