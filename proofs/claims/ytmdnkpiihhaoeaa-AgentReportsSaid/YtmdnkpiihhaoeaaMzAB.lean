/- Joined texts. -/
import Derived.ScopeJumps
import Derived.WalkMore
import Derived.Below
import Derived.Laws.OwnMore
import Derived.Deep.AppendLies
import Derived.Deep.Draws
import Derived.Laws.Rows
import Derived.Test.YtmdnkpiihhaoeaaMzAA
import Derived.Test.YtmdnkpiihhaoeaaChecked
import Derived.WalkKit
import Derived.ProofKit
import Derived.BigQuiet
import Derived.OwnWalk
import Derived.Lib.Hide
import Derived.Deep.QuietTactic
import Derived.Deep.DeepCutAuto
import Derived.Deep.RegionHeld3
import Derived.Deep.RegionWith
import Derived.Deep.DrawnRows
namespace Go.Proofs.Ytmdnkpiihhaoeaa
open Go Go.RowKit

/-- By a goto to label l: J; by one to label m: as Q; by another one: no way out. -/
def jumpTo (l m : Nat) (J : Act → World → Prop) (Q : Exit → Act → World → Prop) : Exit → Act → World → Prop
  | .goto l', a, w => (l' = l ∧ J a w) ∨ (l' = m ∧ Q (.goto m) a w)
  | e, a, w => Q e a w
/-- By a goto to label m: as Q; by another one: no way out. -/
def passOn (m : Nat) (Q : Exit → Act → World → Prop) : Exit → Act → World → Prop
  | .goto l', a, w => l' = m ∧ Q (.goto m) a w
  | e, a, w => Q e a w
section
variable {P : Program} {a : Act} {w : World} {Q : Exit → Act → World → Prop} {J : Act → World → Prop} {l m : Nat}
theorem jumpTo_normal : jumpTo l m J Q .normal a w = Q .normal a w := rfl
theorem jumpTo_exit (id : Nat) : jumpTo l m J Q (.exit id) a w = Q (.exit id) a w := rfl
theorem jumpTo_ret : jumpTo l m J Q .ret a w = Q .ret a w := rfl
theorem jumpTo_panic (ch : List PanicEntry) : jumpTo l m J Q (.panic ch) a w = Q (.panic ch) a w := rfl
theorem passOn_normal : passOn m Q .normal a w = Q .normal a w := rfl
theorem passOn_exit (id : Nat) : passOn m Q (.exit id) a w = Q (.exit id) a w := rfl
theorem passOn_ret : passOn m Q .ret a w = Q .ret a w := rfl
theorem passOn_panic (ch : List PanicEntry) : passOn m Q (.panic ch) a w = Q (.panic ch) a w := rfl

/-- A goto to a label further on: at it, what the rest of the scope does from there. -/
theorem wp_scope_on {c rest : Code} (l m : Nat) (hf : findLabel c l = some rest) (hm : findLabel c m = none)
    (first : c.wp P (jumpTo l m (fun a w => rest.wp P (passOn m Q) a w) Q) a w) : (Code.scope c).wp P Q a w := by
  intro b k cs
  have hg : gotoIn l (.inScope c :: k) = some (.code rest :: .inScope c :: k) := by simp [gotoIn, hf]
  have hg' : ∀ k', gotoIn m k = some k' → gotoIn m (.inScope c :: k) = some k' := fun k' h => by simp [gotoIn, hm, h]
  obtain ⟨e, a₁, w₁, hq, harr⟩ := first b (.inScope c :: k) cs
  cases e with
  | normal => exact ⟨.normal, a₁, w₁, hq, .head step_scope (Steps.trans harr (.one step_inScope))⟩
  | exit id => exact ⟨.exit id, a₁, w₁, hq, fun k' hk => .head step_scope (harr k' (by simp [exitTo, hk]))⟩
  | goto l' =>
    rcases hq with ⟨rfl, hJ⟩ | ⟨rfl, hq⟩
    · obtain ⟨e₂, a₂, w₂, hq₂, harr₂⟩ := hJ b (.inScope c :: k) cs
      cases e₂ with
      | normal => exact ⟨.normal, a₂, w₂, hq₂, .head step_scope (Steps.trans (harr _ hg) (Steps.trans harr₂ (.one step_inScope)))⟩
      | exit id => exact ⟨.exit id, a₂, w₂, hq₂, fun k' hk => .head step_scope (Steps.trans (harr _ hg) (harr₂ k' (by simp [exitTo, hk])))⟩
      | goto l₂ =>
        obtain ⟨rfl, hq₂⟩ := hq₂
        exact ⟨.goto _, a₂, w₂, hq₂, fun k' hk => .head step_scope (Steps.trans (harr _ hg) (harr₂ k' (hg' k' hk)))⟩
      | ret => exact ⟨_, a₂, w₂, hq₂, .of_steps (.head step_scope (harr _ hg)) harr₂⟩
      | panic ch => exact ⟨_, a₂, w₂, hq₂, .of_steps (.head step_scope (harr _ hg)) harr₂⟩
      | outgrown => exact ⟨_, a₂, w₂, hq₂, .of_steps (.head step_scope (harr _ hg)) harr₂⟩
    · exact ⟨.goto _, a₁, w₁, hq, fun k' hk => .head step_scope (harr k' (hg' k' hk))⟩
  | ret => exact ⟨_, a₁, w₁, hq, .of_steps (.one step_scope) harr⟩
  | panic ch => exact ⟨_, a₁, w₁, hq, .of_steps (.one step_scope) harr⟩
  | outgrown => exact ⟨_, a₁, w₁, hq, .of_steps (.one step_scope) harr⟩
end

/-- From address A on, the cells hold xs. -/
def Holds (w : World) (A : Option Addr) (xs : List Value) : Prop :=
  xs = [] ∨ ∃ b o, A = some ⟨b, o, none⟩ ∧ b < w.heap.size ∧ ∀ j (h : j < xs.length), w.cell? ⟨b, o + j, none⟩ = some xs[j]
theorem Holds.nil {w : World} {A : Option Addr} : Holds w A [] := .inl rfl
theorem Holds.keep {w w' : World} {A : Option Addr} {xs : List Value} (h : Holds w A xs) (hb : Below w.heap.size w w') : Holds w' A xs := by
  rcases h with h | ⟨b, o, hA, hlt, hc⟩
  · exact .inl h
  · exact .inr ⟨b, o, hA, Nat.lt_of_lt_of_le hlt hb.size, fun j hj => (hb.cell (p := ⟨b, o + j, none⟩) hlt).trans (hc j hj)⟩
theorem Holds.drewN {w : World} {A : Option Addr} {xs : List Value} (h : Holds w A xs) (n : Nat) : Holds (w.drewN n) A xs := h.keep ⟨rfl, rfl, rfl, Nat.le_refl _, fun _ _ => rfl⟩
theorem Holds.at_ {w : World} {A : Option Addr} {xs : List Value} (h : Holds w A xs) (hn : 0 < xs.length) : ∃ b o, A = some ⟨b, o, none⟩ ∧ b < w.heap.size ∧ ∀ j (h : j < xs.length), w.cell? ⟨b, o + j, none⟩ = some xs[j] := by
  rcases h with h | h
  · subst h; simp at hn
  · exact h
theorem below_drewN {B : Nat} {a w : World} (h : Below B a w) (n : Nat) : Below B a (w.drewN n) := ⟨h.os, h.tape, h.output, h.size, h.block⟩
theorem below_later {a b c : World} (h : Below a.heap.size a b) (k : Below b.heap.size b c) : Below a.heap.size a c := h.trans (k.mono h.size)
theorem ownsRow_holds {w : World} {base : Nat} {e : TypeId} {size n : Nat} {A : Option Addr} {c : Nat} {xs : List Value} (h : w.ownsRow base e size (.slice A n c) n xs) : Holds w A xs := by
  obtain ⟨h1, h2⟩ := h
  rcases h2 with ⟨hv, h0⟩ | ⟨g, cap, cur, hv, hg, hh, hnc, hcap, hsz, hx⟩
  · subst h0
    exact .inl (List.eq_nil_of_length_eq_zero (by simpa using h1))
  · injection hv with hA _ _
    refine .inr ⟨g, 0, hA, ?_, fun j hj => ?_⟩
    · rcases Nat.lt_or_ge g w.heap.size with hlt | hge
      · exact hlt
      · rw [Array.getElem?_eq_none hge] at hh; cases hh
    · have e1 := cell_of_row w g j cur e (0, 0) hh
      rw [Nat.zero_add, e1]
      subst hx
      rw [List.length_take] at hj
      rw [List.getElem_take]
      simp only [Array.length_toList] at hj
      rw [Array.getElem?_eq_getElem (by omega)]
      simp
theorem own_base {w : World} {base : Nat} {e : TypeId} {size n : Nat} {v : Value} {xs : List Value} (h : w.ownsRow base e size v n xs) : ∀ k, v.ownBlock = some k → base ≤ k := by
  obtain ⟨_, h2⟩ := h
  intro k hk
  rcases h2 with ⟨rfl, _⟩ | ⟨g, cap, cur, rfl, hg, _⟩
  · simp [Value.ownBlock] at hk
  · simp [Value.ownBlock] at hk; omega
theorem ownsRow_below {w w' : World} {base : Nat} {e : TypeId} {size : Nat} {v : Value} {n : Nat} {xs : List Value} (h : w.ownsRow base e size v n xs) (hb : Below w.heap.size w w') : w'.ownsRow base e size v n xs := by
  obtain ⟨h1, h2⟩ := h
  refine ⟨h1, ?_⟩
  rcases h2 with h2 | ⟨g, cap, cur, hv, hg, hh, hr⟩
  · exact .inl h2
  · refine .inr ⟨g, cap, cur, hv, hg, ?_, hr⟩
    rw [hb.block g (by
      rcases Nat.lt_or_ge g w.heap.size with hlt | hge
      · exact hlt
      · rw [Array.getElem?_eq_none hge] at hh; cases hh)]
    exact hh
theorem block_lt {w : World} {g : Nat} {o : Obj} (h : w.heap[g]? = some o) : g < w.heap.size := by
  rcases Nat.lt_or_ge g w.heap.size with hlt | hge
  · exact hlt
  · rw [Array.getElem?_eq_none hge] at h; cases h
/-- A row of another element type is not touched by what writes into one row. -/
theorem ownsRow_apart {w w' : World} {base base2 : Nat} {e e2 : TypeId} {size size2 n n2 : Nat} {v v2 : Value} {xs xs2 : List Value} (h : w.ownsRow base e size v n xs) (h2 : w.ownsRow base2 e2 size2 v2 n2 xs2) (hne : e ≠ e2) (hg : w.grownBy w' v2.ownBlock) : w'.ownsRow base e size v n xs := by
  obtain ⟨h1, hr⟩ := h
  refine ⟨h1, ?_⟩
  rcases hr with hr | ⟨g, cap, cur, hv, hgb, hh, hrest⟩
  · exact .inl hr
  · refine .inr ⟨g, cap, cur, hv, hgb, ?_, hrest⟩
    refine (hg.block g (block_lt hh) fun e => ?_).trans hh
    obtain ⟨_, hr2⟩ := h2
    rcases hr2 with ⟨rfl, _⟩ | ⟨g2, cap2, cur2, rfl, _, hh2, _⟩
    · simp [Value.ownBlock] at e
    · simp [Value.ownBlock] at e
      subst e
      rw [hh] at hh2
      injection hh2 with hh2
      injection hh2 with _ ht
      exact hne ht
theorem ownsRow_base {w : World} {base base2 : Nat} {e : TypeId} {size n : Nat} {v : Value} {xs : List Value} (h : w.ownsRow base e size v n xs) (hb : base2 ≤ base) : w.ownsRow base2 e size v n xs := by
  obtain ⟨h1, hr⟩ := h
  refine ⟨h1, ?_⟩
  rcases hr with hr | ⟨g, cap, cur, hv, hgb, hrest⟩
  · exact .inl hr
  · exact .inr ⟨g, cap, cur, hv, Nat.le_trans hb hgb, hrest⟩
end Go.Proofs.Ytmdnkpiihhaoeaa
namespace Go.Proofs.Ytmdnkpiihhaoeaa
open Go Go.RowKit Fl

abbrev Iv (z : Int) : Value := .int .i64 z
abbrev Bo (b : Bool) : Value := .bool b
theorem gr_bool {a b : Bool} (h : a = b) : Ending.returned (.bool a) = .returned (.bool b) := by rw [h]
theorem gr_int {a b : Int} (h : a = b) : Ending.returned (.int .i64 a) = .returned (.int .i64 b) := by rw [h]
theorem Holds.iv {w : World} {A : Option Addr} {zs : List Int} (h : Holds w A (zs.map Iv)) {k : Nat} (hk : k < zs.length) : ∃ b o, A = some ⟨b, o, none⟩ ∧ w.cell? ⟨b, o + k, none⟩ = some (.int .i64 zs[k]) := by
  obtain ⟨b, o, hA, _, hc⟩ := h.at_ (by simp; omega)
  exact ⟨b, o, hA, by rw [hc k (by simpa using hk)]; simp⟩
theorem Holds.bo {w : World} {A : Option Addr} {zs : List Bool} (h : Holds w A (zs.map Bo)) {k : Nat} (hk : k < zs.length) : ∃ b o, A = some ⟨b, o, none⟩ ∧ w.cell? ⟨b, o + k, none⟩ = some (.bool zs[k]) := by
  obtain ⟨b, o, hA, _, hc⟩ := h.at_ (by simp; omega)
  exact ⟨b, o, hA, by rw [hc k (by simpa using hk)]; simp⟩
/-- From address A on, the cells hold slices that hold the rows of g. -/
def RowsAt (w : World) (A : Option Addr) (g : GraphD) : Prop := g = [] ∨ ∃ b o, A = some ⟨b, o, none⟩ ∧ b < w.heap.size ∧
  ∀ k (h : k < g.length), ∃ A1 c1, w.cell? ⟨b, o + k, none⟩ = some (.slice A1 g[k].length c1) ∧ Holds w A1 (g[k].map Iv)
theorem RowsAt.keep {w w' : World} {A : Option Addr} {g : GraphD} (h : RowsAt w A g) (hb : Below w.heap.size w w') : RowsAt w' A g := by
  rcases h with h | ⟨b, o, hA, hlt, hc⟩
  · exact .inl h
  · refine .inr ⟨b, o, hA, Nat.lt_of_lt_of_le hlt hb.size, fun k hk => ?_⟩
    obtain ⟨A1, c1, h1, h2⟩ := hc k hk
    exact ⟨A1, c1, (hb.cell (p := ⟨b, _, none⟩) hlt).trans h1, h2.keep hb⟩
theorem RowsAt.one {w : World} {A : Option Addr} {g : GraphD} (h : RowsAt w A g) {k : Nat} (hk : k < g.length) : ∃ b o A1 c1, A = some ⟨b, o, none⟩ ∧ w.cell? ⟨b, o + k, none⟩ = some (.slice A1 g[k].length c1) ∧ Holds w A1 (g[k].map Iv) := by
  rcases h with rfl | ⟨b, o, hA, _, hc⟩
  · simp at hk
  · obtain ⟨A1, c1, h⟩ := hc k hk
    exact ⟨b, o, A1, c1, hA, h⟩
theorem Try.infoIntG : (Try.prog.info? 3).map (fun i => (i.zero, i.size, i.bytes)) = some (some (.int .i64 0), 1, 8) := by kernel_rfl
/-- A row of the call's own: its slice. -/
theorem own_at {w : World} {base n : Nat} {e : TypeId} {v : Value} {xs : List Value} (h : w.ownsRow base e 1 v n xs) (hn : 0 < n) : ∃ g cap, v = .slice (some ⟨g, 0, none⟩) n cap ∧ base ≤ g ∧ n ≤ cap := by
  obtain ⟨h1, h2⟩ := h
  rcases h2 with ⟨_, h0⟩ | ⟨g, cap, cur, hv, hg, hh, hnc, _⟩
  · omega
  · exact ⟨g, cap, hv, hg, hnc⟩
theorem own_put {w : World} {base g n cap i : Nat} {e : TypeId} {xs : List Value} {v : Value} (h : w.ownsRow base e 1 (.slice (some ⟨g, 0, none⟩) n cap) n xs) : (w.setCell ⟨g, i, none⟩ v).ownsRow base e 1 (.slice (some ⟨g, 0, none⟩) n cap) n (xs.set i v) := by
  obtain ⟨h1, h2⟩ := h
  rcases h2 with ⟨hv, _⟩ | ⟨g', cap', cur, hv, hg, hh, hnc, hcm, hcs, hx⟩
  · cases hv
  · injection hv with hA _ hc
    injection hA with hA
    injection hA with hA
    subst hA hc
    refine ⟨by simpa using h1, .inr ⟨g, cap, cur.setIfInBounds i v, rfl, hg, ?_, hnc, hcm, by simpa using hcs, ?_⟩⟩
    · simp [World.setCell, Array.getElem?_modify]
      exact ⟨_, hh, by simp⟩
    · rw [← hx]; simp [List.take_set]
theorem own_get {w : World} {base n g cap i : Nat} {e : TypeId} {xs : List Value} (h : w.ownsRow base e 1 (.slice (some ⟨g, 0, none⟩) n cap) n xs) {u : Value} (hu : xs[i]? = some u) : w.cell? ⟨g, i, none⟩ = some u ∧ w.frozen? ⟨g, i, none⟩ = false := by
  obtain ⟨h1, h2⟩ := h
  rcases h2 with ⟨hv, _⟩ | ⟨g', cap', cur, hv, hg, hh, hnc, hcm, hcs, hx⟩
  · cases hv
  · injection hv with hA _ hc
    injection hA with hA
    injection hA with hA
    subst hA hc
    refine ⟨?_, by simp [World.frozen?, hh]⟩
    rw [cell_of_row w g i cur e (0, 0) hh]
    subst hx
    rw [List.getElem?_take] at hu
    split at hu
    · simpa using hu
    · cases hu
theorem own_blk {w : World} {base n g cap : Nat} {e : TypeId} {xs : List Value} (h : w.ownsRow base e 1 (.slice (some ⟨g, 0, none⟩) n cap) n xs) : g < w.heap.size := by
  obtain ⟨h1, h2⟩ := h
  rcases h2 with ⟨hv, _⟩ | ⟨g', cap', cur, hv, hg, hh, hnc, hcm, hcs, hx⟩
  · cases hv
  · injection hv with hA _ hc
    injection hA with hA
    injection hA with hA
    subst hA
    exact block_lt hh
theorem below_put {B : Nat} {w w' : World} {g i : Nat} {v : Value} (h : Below B w w') (hg : B ≤ g) : Below B w (w'.setCell ⟨g, i, none⟩ v) :=
  h.setCell (by simpa using hg) _
theorem own_is {w : World} {base n : Nat} {e : TypeId} {v : Value} {xs : List Value} (h : w.ownsRow base e 1 v n xs) : ∃ A c, v = .slice A n c ∧ Holds w A xs := by
  have h0 := h
  obtain ⟨h1, h2⟩ := h
  rcases h2 with ⟨rfl, rfl⟩ | ⟨g, cap, cur, rfl, _⟩
  · exact ⟨none, 0, rfl, ownsRow_holds h0⟩
  · exact ⟨_, cap, rfl, ownsRow_holds h0⟩
end Go.Proofs.Ytmdnkpiihhaoeaa
namespace Go.Proofs.Ytmdnkpiihhaoeaa
open Go Go.RowKit Fl

section
variable {ops : Array Oper} {rest : List Oper} {o : Oper} {a : Act} {Q : Exit → Act → World → Prop}
theorem app_any (w : World) (hgd : o.guard = none) (s x : Operand) (t e : TypeId) (z : Value) (bytes : Nat) (ht : Try.prog.underlying t = some (.slice e)) (hi : (Try.prog.info? e).map (fun i => (i.zero, i.size, i.bytes)) = some (some z, 1, bytes)) (hz : z.cells.size = 1) (hby : bytes ≤ 64)
    (ho : o.op = .call { callee := .builtin .append, args := #[s, x], argTypes := #[t, t] }) (base : Nat) (v : Value) (n : Nat) (xs : List Value) (hs : a.eval s = v) (hown : w.ownsRow base e 1 v n xs)
    (B : Nat) (u : Value) (hx : a.eval x = .slice (some ⟨B, 0, none⟩) 1 1) (hc : w.cell? ⟨B, 0, none⟩ = some u) (hu : u.oneCell' = true) (hn : n ≤ 1000000000) (hbase : base ≤ w.heap.size)
    (h : ∀ v' w', w'.ownsRow base e 1 v' (n + 1) (xs ++ [u]) → w.grownBy w' v.ownBlock → wpList Try.prog ops Q rest (a.put o.dst v') w') : wpList Try.prog ops Q (o :: rest) a w := by
  obtain ⟨i, h1, h2, h3, h4⟩ := info_parts hi
  refine wpList_append_own w hgd s x t ho base e i z 1 bytes ht h1 h2 h3 h4 hz (by decide) v n xs hs hown ⟨B, 0, none⟩ 1 1 [u] hx rfl ?_ ?_ ?_ ?_ hbase (fun v' w' g1 g2 _ => h v' w' g1 g2)
  · intro j y hy
    rcases j with _ | j
    · simp at hy; subst hy; simpa [Addr.add] using hc
    · simp at hy
  · intro y hy; simp at hy; subst hy; exact hu
  · unfold maxLen; omega
  · have : (n + 1) * bytes ≤ (n + 1) * 64 := Nat.mul_le_mul_left _ hby
    omega
theorem app_int (w : World) (hgd : o.guard = none) (s x : Operand) (ho : o.op = .call { callee := .builtin .append, args := #[s, x], argTypes := #[25, 25] }) (base : Nat) (v : Value) (n : Nat) (xs : List Value) (hs : a.eval s = v) (hown : w.ownsRow base 3 1 v n xs)
    (B : Nat) (z : Int) (hx : a.eval x = .slice (some ⟨B, 0, none⟩) 1 1) (hc : w.cell? ⟨B, 0, none⟩ = some (Iv z)) (hn : n ≤ 1000000000) (hbase : base ≤ w.heap.size)
    (h : ∀ v' w', w'.ownsRow base 3 1 v' (n + 1) (xs ++ [Iv z]) → w.grownBy w' v.ownBlock → wpList Try.prog ops Q rest (a.put o.dst v') w') : wpList Try.prog ops Q (o :: rest) a w :=
  app_any w hgd s x 25 3 (.int .i64 0) 8 Try.underlying25 Try.infoIntG rfl (by decide) ho base v n xs hs hown B (Iv z) hx hc rfl hn hbase h
theorem make_any (w : World) (hgd : o.guard = none) (l c : Operand) (t e : TypeId) (z : Value) (bytes : Nat) (ht : Try.prog.underlying t = some (.slice e)) (hi : (Try.prog.info? e).map (fun i => (i.zero, i.size, i.bytes)) = some (some z, 1, bytes)) (hzc : z.cells = #[z]) (hby : bytes ≤ 64)
    (hop : o.op = Op.makeSlice t l c) (kl kc : IntKind) (L C : Int) (n : Nat) (hl : a.eval l = .int kl L) (hc : a.eval c = .int kc C) (hL : L = (n : Int)) (hC : C = (n : Int)) (hn : n ≤ 1000000000)
    (h : ∀ w', w'.ownsRow w.heap.size e 1 (.slice (some ⟨w.heap.size, 0, none⟩) n n) n (List.replicate n z) → Below w.heap.size w w' → wpList Try.prog ops Q rest (a.put o.dst (.slice (some ⟨w.heap.size, 0, none⟩) n n)) w') : wpList Try.prog ops Q (o :: rest) a w := by
  obtain ⟨i, h1, h2, h3, h4⟩ := info_parts hi
  refine wpList_make_full w hgd l c t hop w.heap.size e i z 1 ht h1 h2 h3 kl kc L C n hl hc hL hC ?_ ?_ (Nat.le_refl _) (fun w' g1 g2 => h w' ?_ ((Below.refl _ _).grown g2 (Nat.le_refl _) (fun k hk => by cases hk)))
  · rw [h4]
    have : bytes * n ≤ 64 * n := Nat.mul_le_mul_right _ hby
    omega
  · unfold maxLen; omega
  · have e1 : (madeCells z.cells (n * 1)).toList = List.replicate n z := by
      rw [hzc, Nat.mul_one]
      simp [madeCells, Nat.mod_one, List.map_const']
    rwa [e1] at g1
end
end Go.Proofs.Ytmdnkpiihhaoeaa
namespace Go.Proofs.Ytmdnkpiihhaoeaa
open Go Go.RowKit Fl

structure BlockD where
  name : List UInt8
  x : Int
  y : Int
structure SpurD where
  name : List UInt8
  depot : Bool
  inn : Int
  out : Int
  slots : Int
  base : Int
structure NetD where
  blocks : List BlockD
  next : GraphD
  spurs : List SpurD
  robots : List Int
  queue : Int
  aging : Int
  detours : Int
  patience : Int
abbrev Sv (l : List UInt8) : Value := .string ⟨l.toArray⟩
def namesN (N : NetD) : List (List UInt8) := N.blocks.map (·.name) ++ N.spurs.map (·.name)
/-- The slots of the first k spurs. -/
def slotsK (l : List SpurD) (k : Nat) : Int := ((l.take k).map (·.slots)).sum
theorem slotsK_succ {l : List SpurD} {k : Nat} (h : k < l.length) : slotsK l (k + 1) = slotsK l k + l[k].slots := by
  unfold slotsK
  rw [List.take_succ_eq_append_getElem h, List.map_append, List.sum_append]
  simp only [List.map_cons, List.map_nil, List.sum_cons, List.sum_nil, Int.add_zero]
/-- A robot's cell lies in a depot. -/
def inDepot (l : List SpurD) (x : Int) : Prop := ∃ s ∈ l, s.depot = true ∧ s.base ≤ x ∧ x < s.base + s.slots
structure SpurOk (nb : Nat) (s : SpurD) : Prop where
  inn : 0 ≤ s.inn ∧ s.inn < nb
  out : 0 ≤ s.out ∧ s.out < nb
  slots : 1 ≤ s.slots ∧ s.slots ≤ 4
structure ConfOk (q a d p : Int) : Prop where
  queue : 1 ≤ q ∧ q ≤ 8
  aging : 0 ≤ a ∧ a ≤ 4
  detours : 0 ≤ d ∧ d ≤ 3
  patience : 1 ≤ p ∧ p ≤ 16
structure NetOk (N : NetD) : Prop where
  some : 1 ≤ N.blocks.length
  few : N.blocks.length ≤ 24
  lanes : N.next.length = N.blocks.length
  places : ∀ b ∈ N.blocks, -9999 ≤ b.x ∧ b.x ≤ 9999 ∧ -9999 ≤ b.y ∧ b.y ≤ 9999
  outs : ∀ r ∈ N.next, r.length ≤ 4
  graph : validG N.next = true
  spurs6 : N.spurs.length ≤ 6
  named : ∀ s ∈ namesN N, name s = true
  apart : (namesN N).Nodup
  robots8 : N.robots.length ≤ 8
  conf : ConfOk N.queue N.aging N.detours N.patience
  spurOk : ∀ s ∈ N.spurs, SpurOk N.blocks.length s
  bases : ∀ k (h : k < N.spurs.length), N.spurs[k].base = N.blocks.length + slotsK N.spurs k
  homes : ∀ x ∈ N.robots, inDepot N.spurs x
  once : N.robots.Nodup
  depot : ∃ s ∈ N.spurs, s.depot = true
theorem slotsK_bounds {l : List SpurD} (h : ∀ s ∈ l, 0 ≤ s.slots ∧ s.slots ≤ 4) : ∀ k, k ≤ l.length → 0 ≤ slotsK l k ∧ slotsK l k ≤ 4 * k
  | 0, _ => by simp [slotsK]
  | k + 1, hk => by
    have ih := slotsK_bounds h k (by omega)
    have := h _ (List.getElem_mem (show k < l.length by omega))
    rw [slotsK_succ (by omega)]
    omega
def blockCells : List BlockD → List Value
  | [] => []
  | b :: l => Sv b.name :: Iv b.x :: Iv b.y :: blockCells l
def spurCells : List SpurD → List Value
  | [] => []
  | s :: l => Sv s.name :: Bo s.depot :: Iv s.inn :: Iv s.out :: Iv s.slots :: Iv s.base :: spurCells l
theorem blockCells_length : ∀ (l : List BlockD), (blockCells l).length = l.length * 3
  | [] => rfl
  | b :: l => by simp only [blockCells, List.length_cons]; rw [blockCells_length l]; omega
theorem spurCells_length : ∀ (l : List SpurD), (spurCells l).length = l.length * 6
  | [] => rfl
  | b :: l => by simp only [spurCells, List.length_cons]; rw [spurCells_length l]; omega
theorem blockCells_append : ∀ (a b : List BlockD), blockCells (a ++ b) = blockCells a ++ blockCells b
  | [], _ => rfl
  | x :: a, b => by simp only [List.cons_append, blockCells]; rw [blockCells_append a b]
theorem spurCells_append : ∀ (a b : List SpurD), spurCells (a ++ b) = spurCells a ++ spurCells b
  | [], _ => rfl
  | x :: a, b => by simp only [List.cons_append, spurCells]; rw [spurCells_append a b]
theorem blockCells_at : ∀ (l : List BlockD) (k : Nat) (h : k < l.length), (blockCells l)[k * 3]? = some (Sv l[k].name) ∧ (blockCells l)[k * 3 + 1]? = some (Iv l[k].x) ∧ (blockCells l)[k * 3 + 2]? = some (Iv l[k].y)
  | [], k, h => by simp at h
  | b :: l, 0, _ => ⟨rfl, rfl, rfl⟩
  | b :: l, k + 1, h => by
    obtain ⟨h1, h2, h3⟩ := blockCells_at l k (by simpa using h)
    refine ⟨?_, ?_, ?_⟩
    · rw [show (k + 1) * 3 = k * 3 + 1 + 1 + 1 by omega]; simpa [blockCells] using h1
    · rw [show (k + 1) * 3 + 1 = k * 3 + 1 + 1 + 1 + 1 by omega]; simpa [blockCells] using h2
    · rw [show (k + 1) * 3 + 2 = k * 3 + 2 + 1 + 1 + 1 by omega]; simpa [blockCells] using h3
theorem spurCells_at : ∀ (l : List SpurD) (k : Nat) (h : k < l.length), (spurCells l)[k * 6]? = some (Sv l[k].name) ∧ (spurCells l)[k * 6 + 1]? = some (Bo l[k].depot) ∧ (spurCells l)[k * 6 + 2]? = some (Iv l[k].inn) ∧ (spurCells l)[k * 6 + 3]? = some (Iv l[k].out) ∧ (spurCells l)[k * 6 + 4]? = some (Iv l[k].slots) ∧ (spurCells l)[k * 6 + 5]? = some (Iv l[k].base)
  | [], k, h => by simp at h
  | b :: l, 0, _ => ⟨rfl, rfl, rfl, rfl, rfl, rfl⟩
  | b :: l, k + 1, h => by
    obtain ⟨h1, h2, h3, h4, h5, h6⟩ := spurCells_at l k (by simpa using h)
    refine ⟨?_, ?_, ?_, ?_, ?_, ?_⟩
    · rw [show (k + 1) * 6 = k * 6 + 1 + 1 + 1 + 1 + 1 + 1 by omega]; simpa [spurCells] using h1
    · rw [show (k + 1) * 6 + 1 = k * 6 + 1 + 1 + 1 + 1 + 1 + 1 + 1 by omega]; simpa [spurCells] using h2
    · rw [show (k + 1) * 6 + 2 = k * 6 + 2 + 1 + 1 + 1 + 1 + 1 + 1 by omega]; simpa [spurCells] using h3
    · rw [show (k + 1) * 6 + 3 = k * 6 + 3 + 1 + 1 + 1 + 1 + 1 + 1 by omega]; simpa [spurCells] using h4
    · rw [show (k + 1) * 6 + 4 = k * 6 + 4 + 1 + 1 + 1 + 1 + 1 + 1 by omega]; simpa [spurCells] using h5
    · rw [show (k + 1) * 6 + 5 = k * 6 + 5 + 1 + 1 + 1 + 1 + 1 + 1 by omega]; simpa [spurCells] using h6
theorem Holds.look {w : World} {b o : Nat} {xs : List Value} (h : Holds w (some ⟨b, o, none⟩) xs) {i : Nat} {u : Value} (hu : xs[i]? = some u) : w.cell? ⟨b, o + i, none⟩ = some u := by
  obtain ⟨hi, hu⟩ := List.getElem?_eq_some_iff.1 hu
  obtain ⟨b', o', hA, _, hc⟩ := h.at_ (by omega)
  injection hA with hA
  injection hA with h1 h2
  subst h1 h2
  rw [hc i hi, hu]
/-- The cells of one block, of one spur. -/
structure BlockAt (w : World) (b o : Nat) (x : BlockD) : Prop where
  c0 : w.cell? ⟨b, o, none⟩ = some (Sv x.name)
  c1 : w.cell? ⟨b, o + 1, none⟩ = some (Iv x.x)
  c2 : w.cell? ⟨b, o + 2, none⟩ = some (Iv x.y)
structure SpurAt (w : World) (b o : Nat) (x : SpurD) : Prop where
  c0 : w.cell? ⟨b, o, none⟩ = some (Sv x.name)
  c1 : w.cell? ⟨b, o + 1, none⟩ = some (Bo x.depot)
  c2 : w.cell? ⟨b, o + 2, none⟩ = some (Iv x.inn)
  c3 : w.cell? ⟨b, o + 3, none⟩ = some (Iv x.out)
  c4 : w.cell? ⟨b, o + 4, none⟩ = some (Iv x.slots)
  c5 : w.cell? ⟨b, o + 5, none⟩ = some (Iv x.base)
theorem Holds.block {w : World} {A : Option Addr} {l : List BlockD} (h : Holds w A (blockCells l)) {k : Nat} (hk : k < l.length) : ∃ b o, A = some ⟨b, o, none⟩ ∧ b < w.heap.size ∧ BlockAt w b (o + k * 3) l[k] := by
  obtain ⟨b, o, rfl, hlt, _⟩ := h.at_ (by rw [blockCells_length]; omega)
  obtain ⟨h0, h1, h2⟩ := blockCells_at l k hk
  exact ⟨b, o, rfl, hlt, h.look h0, by rw [Nat.add_assoc]; exact h.look h1, by rw [Nat.add_assoc]; exact h.look h2⟩
theorem Holds.spur {w : World} {A : Option Addr} {l : List SpurD} (h : Holds w A (spurCells l)) {k : Nat} (hk : k < l.length) : ∃ b o, A = some ⟨b, o, none⟩ ∧ b < w.heap.size ∧ SpurAt w b (o + k * 6) l[k] := by
  obtain ⟨b, o, rfl, hlt, _⟩ := h.at_ (by rw [spurCells_length]; omega)
  obtain ⟨h0, h1, h2, h3, h4, h5⟩ := spurCells_at l k hk
  exact ⟨b, o, rfl, hlt, h.look h0, by rw [Nat.add_assoc]; exact h.look h1, by rw [Nat.add_assoc]; exact h.look h2, by rw [Nat.add_assoc]; exact h.look h3, by rw [Nat.add_assoc]; exact h.look h4, by rw [Nat.add_assoc]; exact h.look h5⟩
theorem SpurAt.keep {w w' : World} {B b o : Nat} {x : SpurD} (h : SpurAt w b o x) (hb : b < B) (hw : Below B w w') : SpurAt w' b o x :=
  ⟨(hw.cell (p := ⟨b, _, none⟩) hb).trans h.c0, (hw.cell (p := ⟨b, _, none⟩) hb).trans h.c1, (hw.cell (p := ⟨b, _, none⟩) hb).trans h.c2, (hw.cell (p := ⟨b, _, none⟩) hb).trans h.c3, (hw.cell (p := ⟨b, _, none⟩) hb).trans h.c4, (hw.cell (p := ⟨b, _, none⟩) hb).trans h.c5⟩
theorem BlockAt.keep {w w' : World} {B b o : Nat} {x : BlockD} (h : BlockAt w b o x) (hb : b < B) (hw : Below B w w') : BlockAt w' b o x :=
  ⟨(hw.cell (p := ⟨b, _, none⟩) hb).trans h.c0, (hw.cell (p := ⟨b, _, none⟩) hb).trans h.c1, (hw.cell (p := ⟨b, _, none⟩) hb).trans h.c2⟩
/-- A network's four lists lie at these addresses. -/
structure NetAt (w : World) (Ab An As Ar : Option Addr) (N : NetD) : Prop where
  blocks : Holds w Ab (blockCells N.blocks)
  next : RowsAt w An N.next
  spurs : Holds w As (spurCells N.spurs)
  robots : Holds w Ar (N.robots.map Iv)
theorem NetAt.keep {w w' : World} {Ab An As Ar : Option Addr} {N : NetD} (h : NetAt w Ab An As Ar N) (hb : Below w.heap.size w w') : NetAt w' Ab An As Ar N :=
  ⟨h.blocks.keep hb, h.next.keep hb, h.spurs.keep hb, h.robots.keep hb⟩
/-- A network's box: its cells. -/
abbrev netCells (Ab An As Ar : Option Addr) (cb cn cs cr : Nat) (N : NetD) : Array Value := #[.slice Ab N.blocks.length cb, .slice An N.next.length cn, .slice As N.spurs.length cs, .slice Ar N.robots.length cr, Iv N.queue, Iv N.aging, Iv N.detours, Iv N.patience]
structure BoxAt (w : World) (b : Nat) (Ab An As Ar : Option Addr) (cb cn cs cr : Nat) (N : NetD) : Prop where
  c0 : w.cell? ⟨b, 0, none⟩ = some (.slice Ab N.blocks.length cb)
  c1 : w.cell? ⟨b, 1, none⟩ = some (.slice An N.next.length cn)
  c2 : w.cell? ⟨b, 2, none⟩ = some (.slice As N.spurs.length cs)
  c3 : w.cell? ⟨b, 3, none⟩ = some (.slice Ar N.robots.length cr)
  c4 : w.cell? ⟨b, 4, none⟩ = some (Iv N.queue)
  c5 : w.cell? ⟨b, 5, none⟩ = some (Iv N.aging)
  c6 : w.cell? ⟨b, 6, none⟩ = some (Iv N.detours)
  c7 : w.cell? ⟨b, 7, none⟩ = some (Iv N.patience)
theorem boxAt_of {w : World} {b : Nat} {Ab An As Ar : Option Addr} {cb cn cs cr : Nat} {N : NetD} {t : TypeId} {fr : Nat × Nat} (h : w.heap[b]? = some (.cells (netCells Ab An As Ar cb cn cs cr N) t fr)) : BoxAt w b Ab An As Ar cb cn cs cr N := by
  constructor
  all_goals rw [cell_of_row w b _ _ _ _ h]; rfl
theorem BoxAt.keep {w w' : World} {B b : Nat} {Ab An As Ar : Option Addr} {cb cn cs cr : Nat} {N : NetD} (h : BoxAt w b Ab An As Ar cb cn cs cr N) (hb : b < B) (hw : Below B w w') : BoxAt w' b Ab An As Ar cb cn cs cr N :=
  ⟨(hw.cell (p := ⟨b, _, none⟩) hb).trans h.c0, (hw.cell (p := ⟨b, _, none⟩) hb).trans h.c1, (hw.cell (p := ⟨b, _, none⟩) hb).trans h.c2, (hw.cell (p := ⟨b, _, none⟩) hb).trans h.c3, (hw.cell (p := ⟨b, _, none⟩) hb).trans h.c4, (hw.cell (p := ⟨b, _, none⟩) hb).trans h.c5, (hw.cell (p := ⟨b, _, none⟩) hb).trans h.c6, (hw.cell (p := ⟨b, _, none⟩) hb).trans h.c7⟩
end Go.Proofs.Ytmdnkpiihhaoeaa
namespace Go.Proofs.Ytmdnkpiihhaoeaa
open Go Go.RowKit Fl

def cellsN (N : NetD) : Int := N.blocks.length + slotsK N.spurs N.spurs.length
/-- Slots are few. -/
def fewSlots (N : NetD) : Prop := N.blocks.length ≤ 24 ∧ N.spurs.length ≤ 6 ∧ ∀ s ∈ N.spurs, 0 ≤ s.slots ∧ s.slots ≤ 4
set_option maxRecDepth 100000 in
set_option maxHeartbeats 2000000 in
theorem cells_c (Ab An As Ar : Option Addr) (cb cn cs cr : Nat) (N : NetD) (w : World) (hN : NetAt w Ab An As Ar N) (hf : fewSlots N) :
    Calls Try.prog 9 #[.agg #[.slice Ab N.blocks.length cb, .slice An N.next.length cn, .slice As N.spurs.length cs, .slice Ar N.robots.length cr, Iv N.queue, Iv N.aging, Iv N.detours, Iv N.patience]] w fun e w' => e = .returned (.int .i64 (cellsN N)) ∧ Below w.heap.size w w' := by
  obtain ⟨f1, f2, f3⟩ := hf
  have HS := Lib.hid hN.spurs
  have HB := Lib.hid (slotsK_bounds f3)
  have hB : Below w.heap.size w (w.alloc (.cells (netCells Ab An As Ar cb cn cs cr N) 29)) := (Below.refl _ _).alloc (Nat.le_refl _) _
  have hX := boxAt_of (heap_alloc_new w (.cells (netCells Ab An As Ar cb cn cs cr N) 29))
  obtain ⟨x0, _, x2, _⟩ := hX
  have HC : Hid (cellsN N = N.blocks.length + slotsK N.spurs N.spurs.length) := Lib.hid rfl
  have F3 := Lib.hid f3
  clear hN f3
  generalize cellsN N = res at *
  go_enter Try.func9, Try.ntmps9
  go_wp2
  generalize w.alloc (.cells (netCells Ab An As Ar cb cn cs cr N) 29) = w0 at *
  generalize N.spurs = l at *
  go_loop [3, 4] (fun c i => ∃ (k : Nat) (z : Int), i = .int .i64 k ∧ k ≤ l.length ∧ c = .int .i64 z ∧ Hid (z = N.blocks.length + slotsK l k) ∧ 0 ≤ z ∧ z ≤ 24 + 4 * k) (fun _ i => l.length - (intOf i).toNat)
  case atStart => exact ⟨0, _, rfl, Nat.zero_le _, rfl, Lib.hid (by simp [slotsK]), by omega, by omega⟩
  case round =>
    obtain ⟨k, z, rfl, hk, rfl, HZ, hz0, hz1⟩ := hrel
    by_cases hlt : k < l.length
    · obtain ⟨b, o, rfl, hbw, hs⟩ := HS.out.spur hlt
      have hs0 := hs.keep hbw hB
      have c4 := hs0.c4
      have HZ2 := Lib.hid (slotsK_succ hlt)
      have hsl := F3.out _ (List.getElem_mem hlt)
      clear hs hs0
      generalize l[k] = s at *
      obtain ⟨nm, dp, i, ot, sl, bs⟩ := s
      simp only at c4 HZ2 hsl
      go_wp2
      go_round
      case rel => exact ⟨k + 1, z + sl, by go_num, by omega, rfl, Lib.hid (by rw [HZ2.out, HZ.out]; omega), by omega, by omega⟩
      case measure => simp [intOf]; omega
    · obtain rfl : k = l.length := by omega
      have HE : Hid (z = res) := Lib.hid (by rw [HC.out, HZ.out])
      go_wp2
      go_ret
      exact ⟨gr_int HE.out, hB⟩
/-- A spur is open. -/
def openS (s : List Bool) (x : SpurD) : Bool := !(atB s x.inn.toNat || atB s x.out.toNat) && !((List.range x.slots.toNat).any (fun j => atB s (x.base.toNat + j)))
theorem atB_get {s : List Bool} {v : Nat} (h : v < s.length) : atB s v = s[v] := by unfold atB; rw [List.getD_eq_getElem?_getD, List.getElem?_eq_getElem h]; rfl
set_option maxRecDepth 100000 in
set_option maxHeartbeats 4000000 in
theorem open_c (Ab An As Ar B : Option Addr) (cb cn cs cr d : Nat) (N : NetD) (s : List Bool) (k : Nat) (w : World) (hN : NetAt w Ab An As Ar N) (hs : Holds w B (s.map Bo)) (hk : k < N.spurs.length) (hsl : s.length ≤ 1000)
    (h1 : 0 ≤ N.spurs[k].inn ∧ N.spurs[k].inn < s.length) (h2 : 0 ≤ N.spurs[k].out ∧ N.spurs[k].out < s.length) (h3 : 0 ≤ N.spurs[k].base ∧ 0 ≤ N.spurs[k].slots ∧ N.spurs[k].base + N.spurs[k].slots ≤ s.length) :
    Calls Try.prog 79 #[.agg #[.slice Ab N.blocks.length cb, .slice An N.next.length cn, .slice As N.spurs.length cs, .slice Ar N.robots.length cr, Iv N.queue, Iv N.aging, Iv N.detours, Iv N.patience], .slice B s.length d, .int .i64 k] w fun e w' => e = .returned (.bool (openS s N.spurs[k])) ∧ Below w.heap.size w w' := by
  obtain ⟨b, o, rfl, hbw, hsp⟩ := hN.spurs.spur hk
  have hB : Below w.heap.size w (w.alloc (.cells (netCells Ab An (some ⟨b, o, none⟩) Ar cb cn cs cr N) 29)) := (Below.refl _ _).alloc (Nat.le_refl _) _
  have hX := boxAt_of (heap_alloc_new w (.cells (netCells Ab An (some ⟨b, o, none⟩) Ar cb cn cs cr N) 29))
  obtain ⟨_, _, x2, _⟩ := hX
  obtain ⟨c0, c1, c2, c3, c4, c5⟩ := hsp.keep hbw hB
  have HR : Hid (openS s N.spurs[k] = (!(atB s N.spurs[k].inn.toNat || atB s N.spurs[k].out.toNat) && !((List.range N.spurs[k].slots.toNat).any (fun j => atB s (N.spurs[k].base.toNat + j))))) := Lib.hid rfl
  generalize openS s N.spurs[k] = res at *
  generalize N.spurs[k] = x at *
  obtain ⟨nm, dp, i, ot, sl, bs⟩ := x
  simp only at c0 c1 c2 c3 c4 c5 HR h1 h2 h3
  obtain ⟨i, rfl⟩ := Int.eq_ofNat_of_zero_le h1.1
  obtain ⟨ot, rfl⟩ := Int.eq_ofNat_of_zero_le h2.1
  obtain ⟨bs, rfl⟩ := Int.eq_ofNat_of_zero_le h3.1
  obtain ⟨sl, rfl⟩ := Int.eq_ofNat_of_zero_le h3.2.1
  have hi : i < s.length := by omega
  have ho : ot < s.length := by omega
  have hbsl : bs + sl ≤ s.length := by omega
  simp only [Int.toNat_natCast] at HR
  rw [atB_get hi, atB_get ho] at HR
  obtain ⟨br, or_, rfl, ei⟩ := (hs.keep hB).bo hi
  obtain ⟨br2, or2, hBeq, eo⟩ := (hs.keep hB).bo ho
  injection hBeq with hBeq
  injection hBeq with hB1 hB2
  subst hB1 hB2
  have HS := Lib.hid (hs.keep hB)
  have HBl := Lib.hid hB
  have hbr : br < (w.alloc (.cells (netCells Ab An (some ⟨b, o, none⟩) Ar cb cn cs cr N) 29)).heap.size := World.block_lt_of_cell? _ _ ei
  have eia : ∀ ob, ((w.alloc (.cells (netCells Ab An (some ⟨b, o, none⟩) Ar cb cn cs cr N) 29)).alloc ob).cell? ⟨br, or_ + i, none⟩ = some (.bool s[i]) := fun ob => (((Below.refl _ _).alloc (Nat.le_refl _) ob).cell (p := ⟨br, or_ + i, none⟩) hbr).trans ei
  have eoa : ∀ ob, ((w.alloc (.cells (netCells Ab An (some ⟨b, o, none⟩) Ar cb cn cs cr N) 29)).alloc ob).cell? ⟨br, or_ + ot, none⟩ = some (.bool s[ot]) := fun ob => (((Below.refl _ _).alloc (Nat.le_refl _) ob).cell (p := ⟨br, or_ + ot, none⟩) hbr).trans eo
  clear hN hs hsp h1 h2 h3 hB ei eo hbr
  have hcase : (s[i] = true ∨ s[i] = false ∧ s[ot] = true) ∨ s[i] = false ∧ s[ot] = false := by
    rcases s[i] with _ | _ <;> rcases s[ot] with _ | _ <;> simp
  rcases hcase with hor | ⟨q1, q2⟩
  · have HF : Hid (res = false) := Lib.hid (by
      rw [HR.out]
      rcases hor with h | ⟨h, h'⟩
      · rw [h]; simp
      · rw [h, h']; simp)
    clear HR
    generalize s[i] = si at *
    generalize s[ot] = so at *
    rcases hor with rfl | ⟨rfl, rfl⟩
    all_goals
      go_enter Try.func79, Try.ntmps79
      go_wp2
      go_ret
      exact ⟨gr_bool HF.out.symm, HBl.out.alloc HBl.out.size _⟩
  · rw [q1, q2] at HR
    rw [q1] at eia
    rw [q2] at eoa
    have HR2 : Hid (res = !((List.range sl).any (fun j => atB s (bs + j)))) := Lib.hid (by rw [HR.out]; simp)
    clear HR q1 q2
    go_enter Try.func79, Try.ntmps79
    go_wp2
    go_loop [8] (fun c => ∃ (j : Nat), c = .int .i64 ((bs + j : Nat) : Int) ∧ j ≤ sl ∧ Hid (∀ i, i < j → atB s (bs + i) = false)) (fun c => bs + sl - (intOf c).toNat)
    case atStart => exact ⟨0, rfl, Nat.zero_le _, Lib.hid (fun i hi => by omega)⟩
    case round =>
      obtain ⟨j, rfl, hj, HA⟩ := hrel
      by_cases hlt : j < sl
      · have hbj : bs + j < s.length := by omega
        obtain ⟨br2, or2, hBeq, ej⟩ := HS.out.bo hbj
        injection hBeq with hBeq
        injection hBeq with hB1 hB2
        subst hB1 hB2
        have hbr : br < (w.alloc (.cells (netCells Ab An (some ⟨b, o, none⟩) Ar cb cn cs cr N) 29)).heap.size := World.block_lt_of_cell? _ _ ej
        have eja : ∀ ob, ((w.alloc (.cells (netCells Ab An (some ⟨b, o, none⟩) Ar cb cn cs cr N) 29)).alloc ob).cell? ⟨br, or_ + (bs + j), none⟩ = some (.bool s[bs + j]) := fun ob => (((Below.refl _ _).alloc (Nat.le_refl _) ob).cell (p := ⟨br, or_ + (bs + j), none⟩) hbr).trans ej
        have hlt2 : bs + j < bs + sl := by omega
        clear ej hbr
        rcases hsj : s[bs + j] with _ | _
        · rw [hsj] at eja
          have HA2 : Hid (∀ i, i < j + 1 → atB s (bs + i) = false) := Lib.hid (fun i hi => by
            rcases Nat.lt_succ_iff_lt_or_eq.1 hi with h | rfl
            · exact HA.out i h
            · rw [atB_get hbj, hsj])
          clear hsj HA
          go_wp2
          go_round
          case rel => exact ⟨j + 1, by go_num, by omega, HA2⟩
          case measure => simp [intOf]; omega
        · rw [hsj] at eja
          have HF : Hid (res = false) := Lib.hid (by
            rw [HR2.out]
            have : (List.range sl).any (fun j => atB s (bs + j)) = true := List.any_eq_true.2 ⟨j, by simpa using hlt, by rw [atB_get hbj, hsj]⟩
            rw [this]; rfl)
          clear hsj HA
          go_wp2
          go_ret
          exact ⟨gr_bool HF.out.symm, HBl.out.alloc HBl.out.size _⟩
      · have HF : Hid (res = true) := Lib.hid (by
          rw [HR2.out]
          have : (List.range sl).any (fun j => atB s (bs + j)) = false := by
            rw [List.any_eq_false]
            intro i hi
            rw [HA.out i (by have := List.mem_range.1 hi; omega)]
            simp
          rw [this]; rfl)
        have hge : bs + sl ≤ bs + j := by omega
        go_wp2
        go_ret
        exact ⟨gr_bool HF.out.symm, HBl.out.alloc HBl.out.size _⟩
end Go.Proofs.Ytmdnkpiihhaoeaa
