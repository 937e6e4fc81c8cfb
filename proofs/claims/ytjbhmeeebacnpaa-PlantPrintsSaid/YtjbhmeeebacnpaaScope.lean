/- A law about a scope that a run leaves by a goto to a label further on, and small laws about memory that a call only reads. -/
import Derived.ScopeJumps
import Derived.WalkMore
import Derived.Below
import Derived.Laws.OwnMore
import Derived.Deep.AppendLies
import Derived.Deep.Draws
import Derived.Laws.Rows
namespace Go.Proofs.Ytjbhmeeebacnpaa
open Go Go.RowKit

/-- By a goto to label l: J; by one to label m: as Q; by another one: no way out. -/
def jumpTo (l m : Nat) (J : Act → World → Prop) (Q : Exit → Act → World → Prop) : Exit → Act → World → Prop
  | .goto l', a, w => (l' = l ∧ J a w) ∨ (l' = m ∧ Q (.goto m) a w)
  | e, a, w => Q e a w
/-- By a goto to label m: as Q; by another one: no way out. -/
def passOn (m : Nat) (Q : Exit → Act → World → Prop) : Exit → Act → World → Prop
  | .goto l', a, w => l' = m ∧ Q (.goto m) a w
  | e, a, w => Q e a w
section
variable {P : Program} {a : Act} {w : World} {Q : Exit → Act → World → Prop} {J : Act → World → Prop} {l m : Nat}
theorem jumpTo_normal : jumpTo l m J Q .normal a w = Q .normal a w := rfl
theorem jumpTo_exit (id : Nat) : jumpTo l m J Q (.exit id) a w = Q (.exit id) a w := rfl
theorem jumpTo_ret : jumpTo l m J Q .ret a w = Q .ret a w := rfl
theorem jumpTo_panic (ch : List PanicEntry) : jumpTo l m J Q (.panic ch) a w = Q (.panic ch) a w := rfl
theorem passOn_normal : passOn m Q .normal a w = Q .normal a w := rfl
theorem passOn_exit (id : Nat) : passOn m Q (.exit id) a w = Q (.exit id) a w := rfl
theorem passOn_ret : passOn m Q .ret a w = Q .ret a w := rfl
theorem passOn_panic (ch : List PanicEntry) : passOn m Q (.panic ch) a w = Q (.panic ch) a w := rfl

/-- A goto to a label further on: at it, what the rest of the scope does from there. -/
theorem wp_scope_on {c rest : Code} (l m : Nat) (hf : findLabel c l = some rest) (hm : findLabel c m = none)
    (first : c.wp P (jumpTo l m (fun a w => rest.wp P (passOn m Q) a w) Q) a w) : (Code.scope c).wp P Q a w := by
  intro b k cs
  have hg : gotoIn l (.inScope c :: k) = some (.code rest :: .inScope c :: k) := by simp [gotoIn, hf]
  have hg' : ∀ k', gotoIn m k = some k' → gotoIn m (.inScope c :: k) = some k' := fun k' h => by simp [gotoIn, hm, h]
  obtain ⟨e, a₁, w₁, hq, harr⟩ := first b (.inScope c :: k) cs
  cases e with
  | normal => exact ⟨.normal, a₁, w₁, hq, .head step_scope (Steps.trans harr (.one step_inScope))⟩
  | exit id => exact ⟨.exit id, a₁, w₁, hq, fun k' hk => .head step_scope (harr k' (by simp [exitTo, hk]))⟩
  | goto l' =>
    rcases hq with ⟨rfl, hJ⟩ | ⟨rfl, hq⟩
    · obtain ⟨e₂, a₂, w₂, hq₂, harr₂⟩ := hJ b (.inScope c :: k) cs
      cases e₂ with
      | normal => exact ⟨.normal, a₂, w₂, hq₂, .head step_scope (Steps.trans (harr _ hg) (Steps.trans harr₂ (.one step_inScope)))⟩
      | exit id => exact ⟨.exit id, a₂, w₂, hq₂, fun k' hk => .head step_scope (Steps.trans (harr _ hg) (harr₂ k' (by simp [exitTo, hk])))⟩
      | goto l₂ =>
        obtain ⟨rfl, hq₂⟩ := hq₂
        exact ⟨.goto _, a₂, w₂, hq₂, fun k' hk => .head step_scope (Steps.trans (harr _ hg) (harr₂ k' (hg' k' hk)))⟩
      | ret => exact ⟨_, a₂, w₂, hq₂, .of_steps (.head step_scope (harr _ hg)) harr₂⟩
      | panic ch => exact ⟨_, a₂, w₂, hq₂, .of_steps (.head step_scope (harr _ hg)) harr₂⟩
      | outgrown => exact ⟨_, a₂, w₂, hq₂, .of_steps (.head step_scope (harr _ hg)) harr₂⟩
    · exact ⟨.goto _, a₁, w₁, hq, fun k' hk => .head step_scope (harr k' (hg' k' hk))⟩
  | ret => exact ⟨_, a₁, w₁, hq, .of_steps (.one step_scope) harr⟩
  | panic ch => exact ⟨_, a₁, w₁, hq, .of_steps (.one step_scope) harr⟩
  | outgrown => exact ⟨_, a₁, w₁, hq, .of_steps (.one step_scope) harr⟩
end

/-- From address A on, the cells hold xs. -/
def Holds (w : World) (A : Option Addr) (xs : List Value) : Prop :=
  xs = [] ∨ ∃ b o, A = some ⟨b, o, none⟩ ∧ b < w.heap.size ∧ ∀ j (h : j < xs.length), w.cell? ⟨b, o + j, none⟩ = some xs[j]
theorem Holds.nil {w : World} {A : Option Addr} : Holds w A [] := .inl rfl
theorem Holds.keep {w w' : World} {A : Option Addr} {xs : List Value} (h : Holds w A xs) (hb : Below w.heap.size w w') : Holds w' A xs := by
  rcases h with h | ⟨b, o, hA, hlt, hc⟩
  · exact .inl h
  · exact .inr ⟨b, o, hA, Nat.lt_of_lt_of_le hlt hb.size, fun j hj => (hb.cell (p := ⟨b, o + j, none⟩) hlt).trans (hc j hj)⟩
theorem Holds.drewN {w : World} {A : Option Addr} {xs : List Value} (h : Holds w A xs) (n : Nat) : Holds (w.drewN n) A xs := h.keep ⟨rfl, rfl, rfl, Nat.le_refl _, fun _ _ => rfl⟩
theorem Holds.at_ {w : World} {A : Option Addr} {xs : List Value} (h : Holds w A xs) (hn : 0 < xs.length) : ∃ b o, A = some ⟨b, o, none⟩ ∧ b < w.heap.size ∧ ∀ j (h : j < xs.length), w.cell? ⟨b, o + j, none⟩ = some xs[j] := by
  rcases h with h | h
  · subst h; simp at hn
  · exact h
theorem below_drewN {B : Nat} {a w : World} (h : Below B a w) (n : Nat) : Below B a (w.drewN n) := ⟨h.os, h.tape, h.output, h.size, h.block⟩
theorem below_later {a b c : World} (h : Below a.heap.size a b) (k : Below b.heap.size b c) : Below a.heap.size a c := h.trans (k.mono h.size)
theorem ownsRow_holds {w : World} {base : Nat} {e : TypeId} {size n : Nat} {A : Option Addr} {c : Nat} {xs : List Value} (h : w.ownsRow base e size (.slice A n c) n xs) : Holds w A xs := by
  obtain ⟨h1, h2⟩ := h
  rcases h2 with ⟨hv, h0⟩ | ⟨g, cap, cur, hv, hg, hh, hnc, hcap, hsz, hx⟩
  · subst h0
    exact .inl (List.eq_nil_of_length_eq_zero (by simpa using h1))
  · injection hv with hA _ _
    refine .inr ⟨g, 0, hA, ?_, fun j hj => ?_⟩
    · rcases Nat.lt_or_ge g w.heap.size with hlt | hge
      · exact hlt
      · rw [Array.getElem?_eq_none hge] at hh; cases hh
    · have e1 := cell_of_row w g j cur e (0, 0) hh
      rw [Nat.zero_add, e1]
      subst hx
      rw [List.length_take] at hj
      rw [List.getElem_take]
      simp only [Array.length_toList] at hj
      rw [Array.getElem?_eq_getElem (by omega)]
      simp
theorem own_base {w : World} {base : Nat} {e : TypeId} {size n : Nat} {v : Value} {xs : List Value} (h : w.ownsRow base e size v n xs) : ∀ k, v.ownBlock = some k → base ≤ k := by
  obtain ⟨_, h2⟩ := h
  intro k hk
  rcases h2 with ⟨rfl, _⟩ | ⟨g, cap, cur, rfl, hg, _⟩
  · simp [Value.ownBlock] at hk
  · simp [Value.ownBlock] at hk; omega
theorem ownsRow_below {w w' : World} {base : Nat} {e : TypeId} {size : Nat} {v : Value} {n : Nat} {xs : List Value} (h : w.ownsRow base e size v n xs) (hb : Below w.heap.size w w') : w'.ownsRow base e size v n xs := by
  obtain ⟨h1, h2⟩ := h
  refine ⟨h1, ?_⟩
  rcases h2 with h2 | ⟨g, cap, cur, hv, hg, hh, hr⟩
  · exact .inl h2
  · refine .inr ⟨g, cap, cur, hv, hg, ?_, hr⟩
    rw [hb.block g (by
      rcases Nat.lt_or_ge g w.heap.size with hlt | hge
      · exact hlt
      · rw [Array.getElem?_eq_none hge] at hh; cases hh)]
    exact hh
theorem block_lt {w : World} {g : Nat} {o : Obj} (h : w.heap[g]? = some o) : g < w.heap.size := by
  rcases Nat.lt_or_ge g w.heap.size with hlt | hge
  · exact hlt
  · rw [Array.getElem?_eq_none hge] at h; cases h
/-- A row of another element type is not touched by what writes into one row. -/
theorem ownsRow_apart {w w' : World} {base base2 : Nat} {e e2 : TypeId} {size size2 n n2 : Nat} {v v2 : Value} {xs xs2 : List Value} (h : w.ownsRow base e size v n xs) (h2 : w.ownsRow base2 e2 size2 v2 n2 xs2) (hne : e ≠ e2) (hg : w.grownBy w' v2.ownBlock) : w'.ownsRow base e size v n xs := by
  obtain ⟨h1, hr⟩ := h
  refine ⟨h1, ?_⟩
  rcases hr with hr | ⟨g, cap, cur, hv, hgb, hh, hrest⟩
  · exact .inl hr
  · refine .inr ⟨g, cap, cur, hv, hgb, ?_, hrest⟩
    refine (hg.block g (block_lt hh) fun e => ?_).trans hh
    obtain ⟨_, hr2⟩ := h2
    rcases hr2 with ⟨rfl, _⟩ | ⟨g2, cap2, cur2, rfl, _, hh2, _⟩
    · simp [Value.ownBlock] at e
    · simp [Value.ownBlock] at e
      subst e
      rw [hh] at hh2
      injection hh2 with hh2
      injection hh2 with _ ht
      exact hne ht
theorem ownsRow_base {w : World} {base base2 : Nat} {e : TypeId} {size n : Nat} {v : Value} {xs : List Value} (h : w.ownsRow base e size v n xs) (hb : base2 ≤ base) : w.ownsRow base2 e size v n xs := by
  obtain ⟨h1, hr⟩ := h
  refine ⟨h1, ?_⟩
  rcases hr with hr | ⟨g, cap, cur, hv, hgb, hrest⟩
  · exact .inl hr
  · exact .inr ⟨g, cap, cur, hv, Nat.le_trans hb hgb, hrest⟩
end Go.Proofs.Ytjbhmeeebacnpaa
