/- Machines of one Code, side by side. -/
import Derived.Test.YtlobegpjenabaaaGreatDoorL32
import Derived.Test.YtlobegpjenabaaaGreatDoorL36
import Derived.Test.YtlobegpjenabaaaGreatDoorL31
namespace Go.Proofs.YtlobegpjenabaaaGreatDoor
open Go.RowKit
set_option linter.unusedSimpArgs false
set_option linter.unusedVariables false

theorem goS_ge {C : Cd} : ∀ (k : Nat) (s : MS) (n made m : Nat) (r : RR), goS C k s n made = some (m, r) → made ≤ m
  | 0, s, n, made, m, r, h => by cases h
  | k + 1, s, n, made, m, r, h => by
    unfold goS at h
    cases hx : fetchS C s with
    | none => rw [hx] at h; cases h
    | some q =>
      obtain ⟨op, x⟩ := q
      rw [hx] at h
      simp only at h
      have hle : made ≤ (if op = 12 then made + 1 else made) := by split <;> omega
      by_cases hc : op = 12 ∧ made = n
      · rw [if_pos hc] at h
        cases h; omega
      · rw [if_neg hc] at h
        cases ht : stepS C s with
        | bad => rw [ht] at h; cases h
        | ok s' =>
          rw [ht] at h
          have := goS_ge k s' n _ m r h
          omega
        | err e d o => rw [ht] at h; simp only at h; cases h; exact hle
        | done t o => rw [ht] at h; simp only at h; cases h; exact hle
/-- A run that comes to its end does so with no more than it makes. -/
theorem goS_exact {C : Cd} : ∀ (k : Nat) (s : MS) (n made m : Nat) (r : RR), goS C k s n made = some (m, r) → (∀ s', r ≠ .run s') → goS C k s m made = some (m, r)
  | 0, s, n, made, m, r, h, _ => by cases h
  | k + 1, s, n, made, m, r, h, hr => by
    have hge := goS_ge (k + 1) s n made m r h
    unfold goS at h ⊢
    cases hx : fetchS C s with
    | none => rw [hx] at h; cases h
    | some q =>
      obtain ⟨op, x⟩ := q
      rw [hx] at h
      simp only at h ⊢
      by_cases hc : op = 12 ∧ made = n
      · rw [if_pos hc] at h
        cases h
        exact absurd rfl (hr s)
      · rw [if_neg hc] at h
        have hne : ¬ (op = 12 ∧ made = m) := by
          rintro ⟨h12, hmm⟩
          rw [if_pos h12] at h
          cases ht : stepS C s with
          | bad => rw [ht] at h; cases h
          | ok s' =>
            rw [ht] at h
            have := goS_ge k s' n _ m r h
            omega
          | err e d o => rw [ht] at h; simp only at h; cases h; omega
          | done t o => rw [ht] at h; simp only at h; cases h; omega
        rw [if_neg hne]
        cases ht : stepS C s with
        | bad => rw [ht] at h; cases h
        | ok s' => rw [ht] at h; exact goS_exact k s' n _ m r h hr
        | err e d o => rw [ht] at h; exact h
        | done t o => rw [ht] at h; exact h
/-- A piece of so many, of what stands so. -/
def goR (C : Cd) : RR → Nat → Nat → RR → Prop
  | .run s, n, m, r' => ∃ F, goS C F s n 0 = some (m, r')
  | .done t o, n, m, r' => m = 0 ∧ r' = .done t o
  | .err e d o, n, m, r' => m = 0 ∧ r' = .err e d o
/-- What can come about. -/
def Stands (z : BS) (vs : List V) : RR → Prop
  | .run s => (∃ x, Rel z vs s x) ∧ 0 < s.st.length
  | _ => True
theorem stands_start {z : BS} {vs : List V} {fs : List X} (hz : InvB z) (hf : FormsX z vs fs 0) : Stands z vs (.run (startS (cdOf z vs))) := ⟨⟨_, start_rel hz hf⟩, by show 0 < 1; omega⟩
theorem stands_go {z : BS} {vs : List V} (hz : InvB z) (hn : z.is.length ≤ 1000000 ∧ z.ns.length < 1000000) (r : RR) (h : Stands z vs r) (n : Nat) : ∃ m r', goR (cdOf z vs) r n m r' ∧ Stands z vs r' ∧ m ≤ n ∧ (∀ s', r' = .run s' → m = n) := by
  cases r with
  | run s =>
    obtain ⟨⟨x, hx⟩, _⟩ := h
    obtain ⟨F, K, c, r', q, g1, g2, g3⟩ := run_both hz hn n n (muX x) s x 0 (by omega) (Nat.le_refl _) (Nat.zero_le _) hx
    refine ⟨c, r', ⟨F, g1⟩, ?_, goS_made _ _ _ _ _ _ g1 (Nat.zero_le _), ?_⟩
    · cases r' with
      | run s' =>
        cases q with
        | run x' =>
          refine ⟨⟨x', g3.1⟩, ?_⟩
          have hmd := g3.1.md
          cases hx' : x'.md with
          | next => have := g3.2; rw [hx'] at this; cases this
          | ev e => have := g3.2; rw [hx'] at this; cases this
          | back v => have := g3.2; rw [hx'] at this; cases this
          | app q a =>
            rw [hx'] at hmd
            obtain ⟨_, _, _, h4, _⟩ := hmd
            obtain ⟨t, r, h5, _⟩ := h4.top
            rw [h5]; simp
        | err e d o => exact g3.elim
        | done t o => exact g3.elim
      | err e d o => trivial
      | done t o => trivial
    · rintro s' rfl
      exact (goS_on F s n 0 c s' g1 (Nat.zero_le _)).1
  | err e d o => exact ⟨0, _, ⟨rfl, rfl⟩, trivial, Nat.zero_le _, fun s' h => by cases h⟩
  | done t o => exact ⟨0, _, ⟨rfl, rfl⟩, trivial, Nat.zero_le _, fun s' h => by cases h⟩
/-- From s, so many applications made. -/
def Reach (C : Cd) (s : MS) (n : Nat) (r : RR) : Prop := ∃ F, goS C F s n 0 = some (n, r)
theorem reach_first {C : Cd} {s : MS} {n m : Nat} {r : RR} (h : goR C (.run s) n m r) : Reach C s m r := by
  obtain ⟨F, h⟩ := h
  cases r with
  | run s' =>
    obtain ⟨rfl, _⟩ := goS_on F s n 0 m s' h (Nat.zero_le _)
    exact ⟨F, h⟩
  | err e d o => exact ⟨F, goS_exact F s n 0 m _ h (fun _ h => by cases h)⟩
  | done t o => exact ⟨F, goS_exact F s n 0 m _ h (fun _ h => by cases h)⟩
theorem reach_next {C : Cd} {s : MS} {a n m : Nat} {r r' : RR} (h : Reach C s a r) (hg : goR C r n m r') : Reach C s (a + m) r' := by
  cases r with
  | run s1 =>
    obtain ⟨F, h⟩ := h
    obtain ⟨G, hG⟩ := reach_first hg
    have h1 := goS_shift G s1 m 0 m a r' hG
    rw [Nat.zero_add] at h1
    rw [Nat.add_comm a m]
    exact ⟨F + G, (goS_on F s a 0 a s1 h (Nat.zero_le _)).2 (m + a) G _ (by omega) h1⟩
  | err e d o => obtain ⟨rfl, rfl⟩ := hg; exact h
  | done t o => obtain ⟨rfl, rfl⟩ := hg; exact h

/-- A machine in memory, running or ended. -/
def MW (B K : Nat) (w : World) (X : Nat → Prop) (ow : Nat → Option Nat) (M b : Nat) (C : Cd) : RR → Prop
  | .run s => MR B K w X ow M b C s
  | .done t o => ME B w X ow M b 1 0 0 t o
  | .err er d o => ME B w X ow M b 2 er d [] o
theorem MW.below {B K : Nat} {w w' : World} {X : Nat → Prop} {ow : Nat → Option Nat} {M b : Nat} {C : Cd} {r : RR} (h : MW B K w X ow M b C r) (hb : Below w.heap.size w w') : MW B K w' X ow M b C r := by
  cases r with
  | run s => exact MR.below h hb
  | done t o => exact ME.below h hb
  | err e d o => exact ME.below h hb
theorem MW.own {B K : Nat} {w : World} {X : Nat → Prop} {ow : Nat → Option Nat} {M b : Nat} {C : Cd} {r : RR} (h : MW B K w X ow M b C r) : (∀ k t, ow k = some t → X k) ∧ XTy w B X := by
  cases r with
  | run s => exact MR.own h
  | done t o => obtain ⟨_, _, _, h1, h2, _⟩ := h; exact ⟨h1, h2⟩
  | err e d o => obtain ⟨_, _, _, h1, h2, _⟩ := h; exact ⟨h1, h2⟩
theorem MW.ki {B K : Nat} {w w' : World} {X X' : Nat → Prop} {ow ow' : Nat → Option Nat} {M b : Nat} {C : Cd} {r : RR} (h : MW B K w X ow M b C r) (hg : Gw X ow w X' ow' w') : KI w w' := RS.kst (K := K) h.own.2 h.own.1 hg
theorem MW.lt {B K : Nat} {w : World} {X : Nat → Prop} {ow : Nat → Option Nat} {M b : Nat} {C : Cd} {r : RR} (h : MW B K w X ow M b C r) : B ≤ w.heap.size := by
  cases r with
  | run s =>
    obtain ⟨mo, mf, val, app, args, out, top, gf, hM, hR⟩ := h
    have := (hR.xty M (hR.owx M 0 hR.owM)).1
    have := lt_of_some hM
    omega
  | done t o =>
    obtain ⟨out, hM, _, h1, h2, h3, _⟩ := h
    have := (h2 M (h1 M 0 h3)).1
    have := lt_of_some hM
    omega
  | err e d o =>
    obtain ⟨out, hM, _, h1, h2, h3, _⟩ := h
    have := (h2 M (h1 M 0 h3)).1
    have := lt_of_some hM
    omega
theorem MW.bel {B K : Nat} {w w' : World} {X X' : Nat → Prop} {ow ow' : Nat → Option Nat} {M b : Nat} {C : Cd} {r : RR} (h : MW B K w X ow M b C r) (hg : Gw X ow w X' ow' w') : Below B w w' := by
  refine hg.upd.below h.lt (fun k hk => ?_)
  cases e : ow k with
  | none => exact absurd e hk
  | some t => exact (h.own.2 k (h.own.1 k t e)).1
theorem MW.other {B K : Nat} {w w' : World} {X X' : Nat → Prop} {o1 o1' o2 : Nat → Option Nat} {M b : Nat} {C : Cd} {r : RR} (h : MW B K w X o2 M b C r) (hg : Gw X o1 w X' o1' w') (ha : Apart o1 o2) (h1 : ∀ k t, o1 k = some t → X k) (hx' : XTy w' B X') : MW B K w' X' o2 M b C r := by
  cases r with
  | run s => exact MR.other h hg ha h1 hx'
  | done t o => exact ME.other h hg ha h1 hx'
  | err e d o => exact ME.other h hg ha h1 hx'
/-- Run, of a machine in package lathe. -/
def RanP (B K : Nat) (X : Nat → Prop) (ow : Nat → Option Nat) (w : World) (L M b : Nat) (C : Cd) (m : Nat) (r' : RR) (x y : Value) (w2 : World) : Prop := x = .int .i64 (m : Nat) ∧ y = .int .i64 0 ∧ ∃ X' ow', MW B K w2 X' ow' M b C r' ∧ Gw X ow w X' ow' w2
theorem Gw.of_below {X : Nat → Prop} {ow : Nat → Option Nat} {w w' : World} (hb : Below w.heap.size w w') : Gw X ow w X ow w' := (Gw.refl X ow w).below hb
theorem ran_go {B K : Nat} {w : World} {X : Nat → Prop} {ow : Nat → Option Nat} {L M b : Nat} {C : Cd} {r r' : RR} {n m : Nat} (h : MW B K w X ow M b C r) (hT : ErrT w) (hB : 0 < B) (hL : LM w L M) (hn : n ≤ 100000) (hg : goR C r n m r') :
    Calls Tryz.prog 27 #[.pointer (some ⟨L, 0, none⟩), .int .i64 n] w (TupP (RanP B K X ow w L M b C m r')) := by
  refine lrun_go w L M n _ hL (hide ?_)
  cases r with
  | run s =>
    obtain ⟨F, hg⟩ := hg
    cases r' with
    | run s' =>
      refine (run_go h n F hn m (.run s') hg (fun _ _ _ e => by cases e)).mono ?_
      rintro e w2 ⟨rfl, X', ow', hM, hG⟩
      exact ⟨_, _, rfl, rfl, rfl, X', ow', hM, hG⟩
    | done t o =>
      refine (run_go h n F hn m (.done t o) hg (fun _ _ _ e => by cases e)).mono ?_
      rintro e w2 ⟨rfl, X', ow', hM, hG⟩
      exact ⟨_, _, rfl, rfl, rfl, X', ow', hM, hG⟩
    | err er d o =>
      refine (run_err h hT hB n F hn m er d o hg).mono ?_
      rintro e w2 ⟨rfl, X', ow', hM, hG⟩
      exact ⟨_, _, rfl, rfl, rfl, X', ow', hM, hG⟩
  | done t o =>
    obtain ⟨rfl, rfl⟩ := hg
    refine (run_end (by rfl) h n hn).mono ?_
    rintro e w2 ⟨rfl, hb⟩
    exact ⟨_, _, rfl, rfl, rfl, X, ow, MW.below (r := .done t o) h hb, Gw.of_below hb⟩
  | err er d o =>
    obtain ⟨rfl, rfl⟩ := hg
    refine (run_end (by rfl) h n hn).mono ?_
    rintro e w2 ⟨rfl, hb⟩
    exact ⟨_, _, rfl, rfl, rfl, X, ow, MW.below (r := .err er d o) h hb, Gw.of_below hb⟩
/-- What Look tells: state, error, depth, value. -/
def vSt : RR → Int
  | .run _ => 0
  | .done _ _ => 1
  | .err _ _ _ => 2
def vEr : RR → Int
  | .run _ => 0
  | .done _ _ => 0
  | .err e _ _ => e
def vDe : RR → Int
  | .run s => ((s.st.length - 1 : Nat) : Int)
  | .done _ _ => 0
  | .err _ d _ => (d : Int)
def vVa : RR → ByteArray
  | .run _ => ⟨#[]⟩
  | .done t _ => ⟨t.toArray⟩
  | .err _ _ _ => ⟨#[]⟩
def vOut : RR → List (List UInt8)
  | .run s => s.out
  | .done _ o => o
  | .err _ _ o => o
theorem looks_go {B K : Nat} {w : World} {X : Nat → Prop} {ow : Nat → Option Nat} {L M b : Nat} {z : BS} {vs : List V} {r : RR} (h : MW B K w X ow M b (cdOf z vs) r) (hS : Stands z vs r) (hL : LM w L M) :
    Calls Tryz.prog 28 #[.pointer (some ⟨L, 0, none⟩)] w (LookP w (vSt r) (vEr r) (vDe r) (vVa r)) := by
  cases r with
  | run s => exact mlook_run h hL hS.2
  | done t o => exact mlook_end (by rfl) h hL
  | err e d o => exact mlook_end (by rfl) h hL
theorem outs_go {B K : Nat} {w : World} {X : Nat → Prop} {ow : Nat → Option Nat} {L M b : Nat} {C : Cd} {r : RR} (h : MW B K w X ow M b C r) (hL : LM w L M) :
    Calls Tryz.prog 43 #[.pointer (some ⟨L, 0, none⟩)] w (OutP w ((vOut r).map strV)) := by
  have key : ∀ (c : Array Value) (out : Value) (o : List (List UInt8)), w.heap[M]? = some (Obj.cells c 119 (0, 0)) → c[7]? = some out → OutX w B ow out o → Calls Tryz.prog 43 #[.pointer (some ⟨L, 0, none⟩)] w (OutP w (o.map strV)) := by
    intro c out o hM h7 hO
    refine lout_go w L M _ hL (hide ?_)
    obtain ⟨h1, _, h3⟩ := hO
    obtain ⟨a, cap, rfl, _, _, _⟩ := ownsRow_slice h1
    exact output_go (by rw [cell_of_block hM]; exact h7) h1 h3
  cases r with
  | run s =>
    obtain ⟨mo, mf, val, app, args, out, top, gf, hM, hR⟩ := h
    exact key _ _ _ hM rfl hR.out
  | done t o => obtain ⟨out, hM, hO, _⟩ := h; exact key _ _ _ hM rfl hO
  | err e d o => obtain ⟨out, hM, hO, _⟩ := h; exact key _ _ _ hM rfl hO
theorem MW.outl {B K : Nat} {w : World} {X : Nat → Prop} {ow : Nat → Option Nat} {M b : Nat} {C : Cd} {r : RR} (h : MW B K w X ow M b C r) : (vOut r).length ≤ 40 := by
  cases r with
  | run s =>
    obtain ⟨mo, mf, val, app, args, out, top, gf, hM, hR⟩ := h
    exact hR.out.2.2
  | done t o => obtain ⟨out, hM, hO, _⟩ := h; exact hO.2.2
  | err e d o => obtain ⟨out, hM, hO, _⟩ := h; exact hO.2.2
/-- Code keeps, for one more machine. -/
theorem Code.up {K : Nat} {w : World} {X : Nat → Prop} {b : Nat} {C : Cd} (h : Code K w X b C) : Code w.heap.size w X b C := by
  obtain ⟨c, u0, u1, u2, u3, x1, x3, h⟩ := h
  refine ⟨c, u0, u1, u2, u3, x1, x3, h.hS, h.c0, h.c1, h.c2, h.c3, h.r0, h.r1, VXs.keep (fun _ _ h => h) (fun i g hi => ?_) _ _ h.v1, h.r2, h.r3, h.l3, h.li, h.ln, h.lc, h.ll, Nat.le_refl _⟩
  unfold datM at hi ⊢
  split at hi
  · rename_i hc
    rw [if_pos ⟨hc.1, by have := h.lb; omega⟩]; exact hi
  · cases hi
theorem MR.code {B K : Nat} {w : World} {X : Nat → Prop} {ow : Nat → Option Nat} {M b : Nat} {C : Cd} {s : MS} (h : MR B K w X ow M b C s) : Code K w X b C := by
  obtain ⟨mo, mf, val, app, args, out, top, gf, hM, hR⟩ := h
  exact hR.code
theorem MR.tab {B K : Nat} {w : World} {X : Nat → Prop} {ow : Nat → Option Nat} {M b : Nat} {C : Cd} {s : MS} (h : MR B K w X ow M b C s) : Tab B w := by
  obtain ⟨mo, mf, val, app, args, out, top, gf, hM, hR⟩ := h
  exact hR.tab
/-- Three machines of one Code, in memory. -/
structure Tri (B Ka Kb Ko La Ma Lb Mb Lo Mo b : Nat) (C : Cd) (ra rb ro : RR) (X : Nat → Prop) (oa ob oo : Nat → Option Nat) (w : World) : Prop where
  ma : MW B Ka w X oa Ma b C ra
  mb : MW B Kb w X ob Mb b C rb
  mo : MW B Ko w X oo Mo b C ro
  ab : Apart oa ob
  ao : Apart oa oo
  bo : Apart ob oo
  la : LM w La Ma
  lb : LM w Lb Mb
  lo : LM w Lo Mo
theorem Tri.below {B Ka Kb Ko La Ma Lb Mb Lo Mo b : Nat} {C : Cd} {ra rb ro : RR} {X : Nat → Prop} {oa ob oo : Nat → Option Nat} {w w' : World} (h : Tri B Ka Kb Ko La Ma Lb Mb Lo Mo b C ra rb ro X oa ob oo w) (hb : Below w.heap.size w w') : Tri B Ka Kb Ko La Ma Lb Mb Lo Mo b C ra rb ro X oa ob oo w' :=
  ⟨h.ma.below hb, h.mb.below hb, h.mo.below hb, h.ab, h.ao, h.bo, (hb.block _ (lt_of_some h.la)).trans h.la, (hb.block _ (lt_of_some h.lb)).trans h.lb, (hb.block _ (lt_of_some h.lo)).trans h.lo⟩
/-- The first one runs. -/
theorem Tri.one {B Ka Kb Ko La Ma Lb Mb Lo Mo b : Nat} {C : Cd} {ra rb ro r' : RR} {X X' : Nat → Prop} {oa ob oo oa' : Nat → Option Nat} {w w' : World} (h : Tri B Ka Kb Ko La Ma Lb Mb Lo Mo b C ra rb ro X oa ob oo w) (hm : MW B Ka w' X' oa' Ma b C r') (hg : Gw X oa w X' oa' w') : Tri B Ka Kb Ko La Ma Lb Mb Lo Mo b C r' rb ro X' oa' ob oo w' := by
  have hk := h.ma.ki hg
  have h1 := h.ma.own.1
  have hx := hm.own.2
  exact ⟨hm, h.mb.other hg h.ab h1 hx, h.mo.other hg h.ao h1 hx, h.ab.gw hg h.mb.own.2 h.mb.own.1, h.ao.gw hg h.mo.own.2 h.mo.own.1, h.bo, hk _ (by decide) _ _ h.la, hk _ (by decide) _ _ h.lb, hk _ (by decide) _ _ h.lo⟩
/-- Another one first. -/
theorem Tri.swap {B Ka Kb Ko La Ma Lb Mb Lo Mo b : Nat} {C : Cd} {ra rb ro : RR} {X : Nat → Prop} {oa ob oo : Nat → Option Nat} {w : World} (h : Tri B Ka Kb Ko La Ma Lb Mb Lo Mo b C ra rb ro X oa ob oo w) : Tri B Kb Ka Ko Lb Mb La Ma Lo Mo b C rb ra ro X ob oa oo w := ⟨h.mb, h.ma, h.mo, h.ab.symm, h.bo, h.ao, h.lb, h.la, h.lo⟩
theorem Tri.rot {B Ka Kb Ko La Ma Lb Mb Lo Mo b : Nat} {C : Cd} {ra rb ro : RR} {X : Nat → Prop} {oa ob oo : Nat → Option Nat} {w : World} (h : Tri B Ka Kb Ko La Ma Lb Mb Lo Mo b C ra rb ro X oa ob oo w) : Tri B Ko Ka Kb Lo Mo La Ma Lb Mb b C ro ra rb X oo oa ob w := ⟨h.mo, h.ma, h.mb, h.ao.symm, h.bo.symm, h.ab, h.lo, h.la, h.lb⟩
end Go.Proofs.YtlobegpjenabaaaGreatDoor

/- lathekeep: what its walks share. -/
namespace Go.Proofs.YtlobegpjenabaaaGreatDoor
open Go.RowKit
set_option linter.unusedSimpArgs false
set_option linter.unusedVariables false

/-- Texts of a row, one by one. -/
theorem row_strs {w : World} {B : Nat} {v : Value} {l : List (List UInt8)} (h : w.ownsRow B 9 1 v l.length (l.map strV)) : ∃ a cap, v = .slice a l.length cap ∧ ∀ i (hi : i < l.length), ∃ g, a = some ⟨g, 0, none⟩ ∧ g < w.heap.size ∧ w.cell? ⟨g, i, none⟩ = some (.string ⟨l[i].toArray⟩) := by
  obtain ⟨a, cap, rfl, _, _, _⟩ := ownsRow_slice h
  refine ⟨a, cap, rfl, fun i hi => ?_⟩
  rcases h.2 with ⟨hv, h0⟩ | ⟨g, cap', cu, hv, hg, hh, _⟩
  · omega
  · cases hv
    refine ⟨g, rfl, lt_of_some hh, ?_⟩
    have := h.cellAt i (by omega)
    rw [this]
    simp [strV, hi]
end Go.Proofs.YtlobegpjenabaaaGreatDoor

/- lathekeep: same. -/
namespace Go.Proofs.YtlobegpjenabaaaGreatDoor
open Go.RowKit
set_option linter.unusedSimpArgs false
set_option linter.unusedVariables false

/-- What a machine tells, wherever it is asked. -/
def Seen (w : World) (L : Nat) (st er de : Int) (va : ByteArray) (o : List (List UInt8)) : Prop :=
  ∀ w', Below w.heap.size w w' → Calls Tryz.prog 28 #[.pointer (some ⟨L, 0, none⟩)] w' (LookP w' st er de va) ∧ Calls Tryz.prog 43 #[.pointer (some ⟨L, 0, none⟩)] w' (OutP w' (o.map strV))
theorem MW.seen {B K : Nat} {w : World} {X : Nat → Prop} {ow : Nat → Option Nat} {L M b : Nat} {z : BS} {vs : List V} {r : RR} (h : MW B K w X ow M b (cdOf z vs) r) (hS : Stands z vs r) (hL : LM w L M) : Seen w L (vSt r) (vEr r) (vDe r) (vVa r) (vOut r) := fun w' hb =>
  ⟨looks_go (h.below hb) hS ((hb.block _ (lt_of_some hL)).trans hL), outs_go (h.below hb) ((hb.block _ (lt_of_some hL)).trans hL)⟩
def lookC (st er de : Int) (va : ByteArray) : Obj := .cells #[.int .i64 st, .int .i64 er, .int .i64 de, .string va] 52
theorem look_cells {w w' : World} {st er de : Int} {va : ByteArray} (hb : Below (w.alloc (lookC st er de va)).heap.size (w.alloc (lookC st er de va)) w') : w'.cell? ⟨w.heap.size, 0, none⟩ = some (.int .i64 st) ∧ w'.cell? ⟨w.heap.size, 1, none⟩ = some (.int .i64 er) ∧ w'.cell? ⟨w.heap.size, 2, none⟩ = some (.int .i64 de) ∧ w'.cell? ⟨w.heap.size, 3, none⟩ = some (.string va) := by
  have hh := (hb.block w.heap.size (by simp)).trans Array.getElem?_push_size
  refine ⟨?_, ?_, ?_, ?_⟩ <;> rw [cell_of_block hh] <;> rfl
set_option maxRecDepth 100000 in
set_option maxHeartbeats 4000000 in
theorem same_go (w : World) (La Lb : Nat) (st er de : Int) (va : ByteArray) (o : List (List UInt8)) (ha : Seen w La st er de va o) (hb : Seen w Lb st er de va o) (ho : o.length ≤ 40) :
    Calls Tryz.prog 31 #[.pointer (some ⟨La, 0, none⟩), .pointer (some ⟨Lb, 0, none⟩)] w (RckP w) := by
  have HA := hide ha
  have HB := hide hb
  clear ha hb
  go_enter Tryz.func31, Tryz.ntmps31
  go_wp2_with fail
  refine (HA.out w (Below.refl _ _)).1.mono ?_
  rintro e w1 ⟨he, hb1⟩
  unfold lookV at he
  subst he
  have HB1 := hide hb1
  have hz1 := hb1.size
  clear hb1
  go_wp2_with fail
  refine (HB.out (w1.alloc (lookC st er de va)) (HB1.out.alloc hz1 _)).1.mono ?_
  rintro e w2 ⟨he, hb2⟩
  unfold lookV at he
  subst he
  have HB2 := hide hb2
  have hz2 := hb2.size
  have hs1 : (w1.alloc (lookC st er de va)).heap.size = w1.heap.size + 1 := by simp
  rw [hs1] at hz2
  have HW2 := hide (show Below w.heap.size w w2 from (HB1.out.alloc hz1 _).trans (hb2.mono (by rw [hs1]; omega)))
  clear hb2
  go_wp2_with fail
  refine (HA.out (w2.alloc (lookC st er de va)) (HW2.out.alloc HW2.out.size _)).2.mono ?_
  rintro e w3 ⟨vo, rfl, hvo, hb3⟩
  have hs2 : (w2.alloc (lookC st er de va)).heap.size = w2.heap.size + 1 := by simp
  have HB3 := hide hb3
  have hz3 := hb3.size
  rw [hs2] at hz3
  have HW3 := hide (show Below w.heap.size w w3 from (HW2.out.alloc HW2.out.size _).trans (hb3.mono (by rw [hs2]; omega)))
  rw [List.length_map] at hvo
  obtain ⟨a1, c1, rfl, h1⟩ := row_strs hvo
  have HR1 := hide h1
  clear hb3 hvo h1
  go_wp2_with fail
  refine (HB.out w3 HW3.out).2.mono ?_
  rintro e w4 ⟨vo, rfl, hvo, hb4⟩
  have hz4 := hb4.size
  have HW4 := hide (show Below w.heap.size w w4 from HW3.out.trans (hb4.mono HW3.out.size))
  rw [List.length_map] at hvo
  obtain ⟨a2, c2, rfl, h2⟩ := row_strs hvo
  have HR2 := hide h2
  have HR1' : Hid (∀ i (hi : i < o.length), ∃ g, a1 = some ⟨g, 0, none⟩ ∧ g < w4.heap.size ∧ w4.cell? ⟨g, i, none⟩ = some (.string ⟨o[i].toArray⟩)) := fun i hi => by
    obtain ⟨g, e1, e2, e3⟩ := HR1.out i hi
    exact ⟨g, e1, by omega, (hb4.cell (p := ⟨g, i, none⟩) e2).trans e3⟩
  obtain ⟨x0, x1, x2, x3⟩ := look_cells (w := w1) (w' := w4) (st := st) (er := er) (de := de) (va := va) (HB2.out.trans (((Below.refl _ w2).alloc (Nat.le_refl _) _).trans (HB3.out.mono (by rw [hs2]; omega)) |>.trans (hb4.mono (by omega)) |>.mono (by rw [hs1]; omega)))
  obtain ⟨y0, y1, y2, y3⟩ := look_cells (w := w2) (w' := w4) (st := st) (er := er) (de := de) (va := va) (HB3.out.trans (hb4.mono (by rw [hs2]; omega)))
  clear hb4 hvo h2 HR1 HB1 HB2 HB3 HW2 HW3 HA HB
  go_wp2
  go_loopw [4, 9] (fun r i wr => ∃ k : Nat, k ≤ o.length ∧ i = .int .i64 k ∧ Below w4.heap.size w4 wr) (fun _ i _ => o.length - (intOf i).toNat)
  case atStart => exact ⟨0, Nat.zero_le _, rfl, Below.refl _ _⟩
  case round =>
    obtain ⟨k, hk, rfl, hb⟩ := hrel
    have hbz := hb.size
    have HBR := hide hb
    by_cases hlt : k < o.length
    · obtain ⟨g1, rfl, e1, f1⟩ := HR1'.out k hlt
      obtain ⟨g2, rfl, e2, f2⟩ := HR2.out k hlt
      have d1 := (hb.cell (p := ⟨g1, k, none⟩) e1).trans f1
      have d2 := (hb.cell (p := ⟨g2, k, none⟩) e2).trans f2
      obtain ⟨y, hy⟩ : ∃ y : ByteArray, y = ⟨o[k].toArray⟩ := ⟨_, rfl⟩
      rw [← hy] at d1 d2
      have hl2 : (k : Int) < (o.length : Int) := by omega
      clear hy f1 f2 hb
      go_wp2
      go_region
      go_wp2
      go_roundw
      case rel => exact ⟨k + 1, by omega, rfl, HBR.out.drew⟩
      case measure => simp [intOf]; omega
    · have hke : k = o.length := by omega
      subst hke
      clear hb
      go_wp2
      go_ret
      exact ⟨rfl, HW4.out.trans (HBR.out.mono HW4.out.size)⟩
end Go.Proofs.YtlobegpjenabaaaGreatDoor

/- lathekeep: pick. -/
namespace Go.Proofs.YtlobegpjenabaaaGreatDoor
open Go.RowKit
set_option linter.unusedSimpArgs false
set_option linter.unusedVariables false

/-- Which of n things a raw number speaks of. -/
def pickS (c n : Int) : Int := (if c < 0 then -(c + 1) else c).tmod n
theorem pickS_in (c n : Int) (h : 0 < n) : 0 ≤ pickS c n ∧ pickS c n < n := by
  unfold pickS
  split
  · exact ⟨Int.tmod_nonneg _ (by omega), Int.tmod_lt_of_pos _ h⟩
  · exact ⟨Int.tmod_nonneg _ (by omega), Int.tmod_lt_of_pos _ h⟩
set_option maxRecDepth 100000 in
set_option maxHeartbeats 1000000 in
theorem pick_100 (w : World) (c : Int) (h : -9223372036854775808 ≤ c ∧ c ≤ 9223372036854775807) : Calls Tryz.prog 25 #[.int .i64 c, .int .i64 100] w (RetW (.int .i64 (pickS c 100)) w) := by
  by_cases hc : c < 0
  · have HP : Hid (pickS c 100 = -((c + 1).tmod 100)) := by show _ = _; unfold pickS; rw [if_pos hc, Int.neg_tmod]
    go_enter Tryz.func25, Tryz.ntmps25
    go_wp2
    go_ret
    exact ⟨by rw [HP.out]; rfl, rfl⟩
  · have HP : Hid (pickS c 100 = c % 100) := by show _ = _; unfold pickS; rw [if_neg hc, Int.tmod_eq_emod_of_nonneg (by omega)]
    go_enter Tryz.func25, Tryz.ntmps25
    go_wp2
    go_ret
    exact ⟨by rw [HP.out]; rfl, rfl⟩
set_option maxRecDepth 100000 in
set_option maxHeartbeats 1000000 in
theorem pick_7 (w : World) (c : Int) (h : -9223372036854775808 ≤ c ∧ c ≤ 9223372036854775807) : Calls Tryz.prog 25 #[.int .i64 c, .int .i64 7] w (RetW (.int .i64 (pickS c 7)) w) := by
  by_cases hc : c < 0
  · have HP : Hid (pickS c 7 = -((c + 1).tmod 7)) := by show _ = _; unfold pickS; rw [if_pos hc, Int.neg_tmod]
    go_enter Tryz.func25, Tryz.ntmps25
    go_wp2
    go_ret
    exact ⟨by rw [HP.out]; rfl, rfl⟩
  · have HP : Hid (pickS c 7 = c % 7) := by show _ = _; unfold pickS; rw [if_neg hc, Int.tmod_eq_emod_of_nonneg (by omega)]
    go_enter Tryz.func25, Tryz.ntmps25
    go_wp2
    go_ret
    exact ⟨by rw [HP.out]; rfl, rfl⟩
end Go.Proofs.YtlobegpjenabaaaGreatDoor
