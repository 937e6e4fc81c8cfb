/- Joined texts. -/
import Derived.Test.YtfgpenekmokdiaaMzAE
import Derived.Test.YtfgpenekmokdiaaMzAC
import Derived.Test.YtfgpenekmokdiaaMzAD
import Derived.Deep.LoopGhost
import Derived.Test.YtfgpenekmokdiaaMzAA
import Derived.Deep.AppendLies
import Derived.Laws.Rows
import Derived.Laws.Tables
namespace Go.Proofs.Ytfgpenekmokdiaa
open Go Go.RowKit Fl

theorem Try.infoBoolS : (Try.prog.info? 4).map (fun i => (i.zero, i.size, i.bytes)) = some (some (.bool false), 1, 1) := by kernel_rfl
theorem own_but {w w' : World} {base q n : Nat} {e : TypeId} {v : Value} {xs : List Value} (h : w.ownsRow base e 1 v n xs) (hw : w.grownBy w' (some q)) (hq : q < base) : w'.ownsRow base e 1 v n xs := by
  obtain ⟨h1, hr⟩ := h
  refine ⟨h1, ?_⟩
  rcases hr with hr | ⟨b, cap, cur, hv, hgb, hh, hrest⟩
  · exact .inl hr
  · exact .inr ⟨b, cap, cur, hv, hgb, (hw.block b (block_lt hh) (fun e => by injection e with e; omega)).trans hh, hrest⟩
/-- What Shut returns. -/
def ShutPost (w : World) (B gt T n : Nat) (e : Ending) (w' : World) : Prop := ∃ (v : Value) (s : List Bool), e = .returned v ∧ s.length = n ∧ w'.ownsRow w.heap.size 4 1 v n (s.map Bo) ∧ TapeOk w' B gt (T + 1000) ∧ Still gt w.heap.size w w'
set_option maxRecDepth 100000 in
set_option maxHeartbeats 1000000 in
theorem sameIntsE_c (A1 A2 : Option Addr) (c1 c2 : Nat) (xs : List Int) (w : World) (h1 : Holds w A1 (xs.map Iv)) (h2 : Holds w A2 (xs.map Iv)) (hl : xs.length ≤ 1000000000000000000) :
    Calls Try.prog 21 #[.slice A1 xs.length c1, .slice A2 xs.length c2] w fun e w' => e = .returned (.bool true) ∧ ∃ n, w' = w.drewN n := by
  have H1 := Lib.hid h1
  have H2 := Lib.hid h2
  have hne : ((xs.length : Int) != (xs.length : Int)) = false := by simp
  clear h1 h2
  go_enter Try.func21, Try.ntmps21
  go_wp2
  go_loopw [5] (fun i wr => ∃ k n : Nat, i = .int .i64 k ∧ k ≤ xs.length ∧ wr = w.drewN n) (fun i _ => xs.length - (intOf i).toNat)
  case atStart => exact ⟨0, 0, rfl, Nat.zero_le _, rfl⟩
  case round =>
    obtain ⟨k, n, rfl, hk, rfl⟩ := hrel
    by_cases hlt : k < xs.length
    · obtain ⟨b1, o1, rfl, e1⟩ := H1.out.iv hlt
      obtain ⟨b2, o2, rfl, e2⟩ := H2.out.iv hlt
      have hnn : (xs[k] != xs[k]) = false := by simp
      generalize xs[k] = x at *
      clear H1 H2
      go_wp2
      go_quiet (fail)
      go_wp2
      go_roundw
      case rel => exact ⟨k + 1, _, by go_num, by omega, rfl⟩
      case measure => simp [intOf]; omega
    · clear H1 H2
      go_wp2
      go_ret
      exact ⟨rfl, n, rfl⟩
end Go.Proofs.Ytfgpenekmokdiaa
namespace Go.Proofs.Ytfgpenekmokdiaa
open Go Go.RowKit Fl

theorem own_row_other {w w' : World} {base n : Nat} {e t : TypeId} {v : Value} {xs : List Value} {row : Option Nat} (h : w.ownsRow base e 1 v n xs) (hg : w.grownBy w' row) (hr : ∀ k, row = some k → ∃ cur, w.heap[k]? = some (.cells cur t (0, 0))) (ht : e ≠ t) : w'.ownsRow base e 1 v n xs := by
  obtain ⟨h1, hr1⟩ := h
  refine ⟨h1, ?_⟩
  rcases hr1 with hr1 | ⟨b, cap, cur, hv, hgb, hh, hrest⟩
  · exact .inl hr1
  · refine .inr ⟨b, cap, cur, hv, hgb, (hg.block b (block_lt hh) (fun e1 => ?_)).trans hh, hrest⟩
    obtain ⟨cur', h2⟩ := hr b e1.symm
    rw [hh] at h2
    injection h2 with h2
    injection h2 with _ h3
    exact ht h3
theorem own_marks {w : World} {base n g cap : Nat} {L : List Bool} (h : w.ownsRow base 4 1 (.slice (some ⟨g, 0, none⟩) n cap) n (L.map Bo)) (i : Nat) (hi : i < L.length) : w.cell? ⟨g, i, none⟩ = some (.bool L[i]) ∧ w.frozen? ⟨g, i, none⟩ = false :=
  own_get h (by simp [hi])
theorem own_marks_set {w : World} {base n g cap : Nat} {L : List Bool} (h : w.ownsRow base 4 1 (.slice (some ⟨g, 0, none⟩) n cap) n (L.map Bo)) (i : Nat) (z : Bool) : (w.setCell ⟨g, i, none⟩ (.bool z)).ownsRow base 4 1 (.slice (some ⟨g, 0, none⟩) n cap) n ((L.set i z).map Bo) := by
  rw [List.map_set]; exact own_put h
theorem own_row_block {w : World} {base n g cap : Nat} {e : TypeId} {xs : List Value} (h : w.ownsRow base e 1 (.slice (some ⟨g, 0, none⟩) n cap) n xs) : ∃ cs, w.heap[g]? = some (.cells cs e (0, 0)) := by
  obtain ⟨_, h⟩ := h
  rcases h with ⟨hv, _⟩ | ⟨g', cap', cur, hv, _, hh, _⟩
  · cases hv
  · injection hv with hA _ _
    injection hA with hA
    injection hA with hA
    subst hA
    exact ⟨cur, hh⟩
theorem atB_at {s : List Bool} {v : Nat} (h : v < s.length) : atB s v = s[v] := by unfold atB; rw [List.getD_eq_getElem?_getD, List.getElem?_eq_getElem h]; rfl
theorem alloc_set (w : World) (a : Addr) (u : Value) (o : Obj) : ((w.setCell a u).alloc o).heap[w.heap.size]? = some o := by
  have h := heap_alloc_new (w.setCell a u) o
  have e : (w.setCell a u).heap.size = w.heap.size := by simp [World.setCell]
  rwa [e] at h
end Go.Proofs.Ytfgpenekmokdiaa
namespace Go.Proofs.Ytfgpenekmokdiaa
open Go Go.RowKit

/-- What may follow: a jump to one of two labels with a smaller measure, or a return. -/
def ContTwo (l0 l1 : Nat) (J0 J1 : Nat → Act → World → Prop) (Q : Exit → Act → World → Prop) (m : Nat) (K : Exit → Act → World → Prop) : Prop :=
  (∀ m' a w, m' < m → J0 m' a w → K (.goto l0) a w) ∧ (∀ m' a w, m' < m → J1 m' a w → K (.goto l1) a w) ∧ (∀ a w, Q .ret a w → K .ret a w)
def postTwo (l0 l1 : Nat) (J0 J1 : Nat → Act → World → Prop) (Q : Exit → Act → World → Prop) (B : Nat → Prop) : Exit → Act → World → Prop
  | .goto l, a, w => (l = l0 ∧ ∃ m, B m ∧ J0 m a w) ∨ (l = l1 ∧ ∃ m, B m ∧ J1 m a w)
  | .ret, a, w => Q .ret a w
  | _, _, _ => False
theorem wp_scope_two {P : Program} {Q : Exit → Act → World → Prop} {a : Act} {w : World} {c r0 r1 : Code} (l0 l1 : Nat) (hf0 : findLabel c l0 = some (.seq .skip r0)) (hf1 : findLabel c l1 = some (.seq .skip r1)) (J0 J1 : Nat → Act → World → Prop)
    (pass1 : ∀ m a w, J1 m a w → ∀ K, ContTwo l0 l1 J0 J1 Q m K → r1.wp P K a w)
    (pass0 : (∀ m a w, J1 m a w → ∀ K, ContTwo l0 l1 J0 J1 Q m K → r1.wp P K a w) → ∀ m a w, J0 m a w → ∀ K, ContTwo l0 l1 J0 J1 Q m K → r0.wp P K a w)
    (first : (∀ m a w, J0 m a w → ∀ K, ContTwo l0 l1 J0 J1 Q m K → r0.wp P K a w) → ∀ K, (∀ m, ContTwo l0 l1 J0 J1 Q m K) → c.wp P K a w) : (Code.scope c).wp P Q a w := by
  intro b k cs
  have hg0 : gotoIn l0 (.inScope c :: k) = some (.code (.seq .skip r0) :: .inScope c :: k) := by simp [gotoIn, hf0]
  have hg1 : gotoIn l1 (.inScope c :: k) = some (.code (.seq .skip r1) :: .inScope c :: k) := by simp [gotoIn, hf1]
  have p0 := pass0 pass1
  have cont : ∀ m, ContTwo l0 l1 J0 J1 Q m (postTwo l0 l1 J0 J1 Q (· < m)) := fun m =>
    ⟨fun m' a w h h' => .inl ⟨rfl, m', h, h'⟩, fun m' a w h h' => .inr ⟨rfl, m', h, h'⟩, fun _ _ h => h⟩
  have step : ∀ (B : Nat → Prop) (r : Code) (a : Act) (w : World), (∀ n, B n → ∀ a w, (J0 n a w → ∃ e a' w', Q e a' w' ∧ Arrives P (lone (b.at a (.code (.seq .skip r0) :: .inScope c :: k)) cs w) b k cs e a' w') ∧ (J1 n a w → ∃ e a' w', Q e a' w' ∧ Arrives P (lone (b.at a (.code (.seq .skip r1) :: .inScope c :: k)) cs w) b k cs e a' w')) →
      r.wp P (postTwo l0 l1 J0 J1 Q B) a w → ∃ e a' w', Q e a' w' ∧ Arrives P (lone (b.at a (.code r :: .inScope c :: k)) cs w) b k cs e a' w' := fun B r a w ih hr => by
    obtain ⟨e, a₁, w₁, hq, harr⟩ := hr b (.inScope c :: k) cs
    cases e with
    | goto l' =>
      rcases hq with ⟨rfl, m, hm, hJ⟩ | ⟨rfl, m, hm, hJ⟩
      · obtain ⟨e₂, a₂, w₂, hq₂, harr₂⟩ := (ih m hm a₁ w₁).1 hJ
        exact ⟨e₂, a₂, w₂, hq₂, .of_steps (harr _ hg0) harr₂⟩
      · obtain ⟨e₂, a₂, w₂, hq₂, harr₂⟩ := (ih m hm a₁ w₁).2 hJ
        exact ⟨e₂, a₂, w₂, hq₂, .of_steps (harr _ hg1) harr₂⟩
    | ret => exact ⟨_, a₁, w₁, hq, harr⟩
    | normal => exact hq.elim
    | exit id => exact hq.elim
    | panic ch => exact hq.elim
    | outgrown => exact hq.elim
  have key : ∀ n a w, (J0 n a w → ∃ e a' w', Q e a' w' ∧ Arrives P (lone (b.at a (.code (.seq .skip r0) :: .inScope c :: k)) cs w) b k cs e a' w') ∧ (J1 n a w → ∃ e a' w', Q e a' w' ∧ Arrives P (lone (b.at a (.code (.seq .skip r1) :: .inScope c :: k)) cs w) b k cs e a' w') := by
    intro n
    induction n using Nat.strongRecOn with
    | _ n ih =>
      intro a w
      exact ⟨fun hJ => step (· < n) _ a w ih (wp_seq (wp_skip (p0 n a w hJ _ (cont n)))), fun hJ => step (· < n) _ a w ih (wp_seq (wp_skip (pass1 n a w hJ _ (cont n))))⟩
  obtain ⟨e, a₂, w₂, hq, harr⟩ := step (fun _ => True) c a w (fun n _ => key n) (first p0 _ fun m => ⟨fun m' a w _ h' => .inl ⟨rfl, m', trivial, h'⟩, fun m' a w _ h' => .inr ⟨rfl, m', trivial, h'⟩, fun _ _ h => h⟩)
  exact ⟨e, a₂, w₂, hq, .of_steps (.one step_scope) harr⟩
end Go.Proofs.Ytfgpenekmokdiaa
namespace Go.Proofs.Ytfgpenekmokdiaa
open Go Go.RowKit Fl

def ArrC (w : World) (G : Nat) (t : TypeId) (l : List Value) : Prop := w.heap[G]? = some (.cells l.toArray t (0, 0))
theorem ArrC.lt {w : World} {G : Nat} {t : TypeId} {l : List Value} (h : ArrC w G t l) : G < w.heap.size := block_lt h
theorem ArrC.cell {w : World} {G : Nat} {t : TypeId} {l : List Value} (h : ArrC w G t l) {k : Nat} {u : Value} (hk : l[k]? = some u) : w.cell? ⟨G, k, none⟩ = some u ∧ w.frozen? ⟨G, k, none⟩ = false := by
  refine ⟨?_, ?_⟩
  · rw [cell_of_row w G k _ _ _ h]
    simpa using hk
  · unfold ArrC at h
    simp [World.frozen?, h]
theorem ArrC.set {w : World} {G : Nat} {t : TypeId} {l : List Value} (h : ArrC w G t l) (k : Nat) (u : Value) : ArrC (w.setCell ⟨G, k, none⟩ u) G t (l.set k u) := by
  unfold ArrC at h ⊢
  have e : (l.set k u).toArray = l.toArray.setIfInBounds k u := by
    apply Array.ext'
    simp
  rw [e]
  simp [World.setCell, Array.getElem?_modify]
  exact ⟨_, h, by simp⟩
theorem ArrC.same {w w' : World} {G : Nat} {t : TypeId} {l : List Value} (h : ArrC w G t l) (e : w'.heap[G]? = w.heap[G]?) : ArrC w' G t l := e.trans h
theorem ArrC.alloc {w : World} {G : Nat} {t : TypeId} {l : List Value} (h : ArrC w G t l) (o : Obj) : ArrC (w.alloc o) G t l := h.same (Below.heap_alloc _ _ _ h.lt)
theorem ArrC.put {w : World} {G H k : Nat} {t : TypeId} {l : List Value} {v : Value} (h : ArrC w G t l) (hn : G ≠ H) : ArrC (w.setCell ⟨H, k, none⟩ v) G t l := h.same (Below.heap_setCell _ _ _ _ hn)
theorem ArrC.grown {w w' : World} {G : Nat} {t : TypeId} {l : List Value} {row : Option Nat} (h : ArrC w G t l) (hg : w.grownBy w' row) (hn : some G ≠ row) : ArrC w' G t l := h.same (hg.block G h.lt hn)
theorem ArrC.not {w : World} {G b o : Nat} {t : TypeId} {M : List Bool} (h : ArrC w G t (M.map Bo)) {u : Value} (hc : w.cell? ⟨b, o, none⟩ = some u) (hu : ∀ z : Bool, u ≠ .bool z) : b ≠ G := by
  intro e
  subst e
  rw [cell_of_row w b o _ _ _ h] at hc
  rw [List.getElem?_toArray, List.getElem?_map] at hc
  rcases hx : M[o]? with _ | x
  · rw [hx] at hc; cases hc
  · rw [hx] at hc
    injection hc with hc
    exact hu x hc.symm
/-- Numbers of tries. -/
def trL (f : Nat → Nat) : List Value := (List.range 24).map fun x => Iv (f x)
theorem trL_at {f : Nat → Nat} {k : Nat} (h : k < 24) : (trL f)[k]? = some (.int .i64 (f k)) := by simp [trL, h]
def upF (f : Nat → Nat) (v k : Nat) : Nat → Nat := fun x => if x = v then k else f x
theorem trL_set {f : Nat → Nat} {v k : Nat} : (trL f).set v (.int .i64 k) = trL (upF f v k) := by
  refine List.ext_getElem (by simp [trL]) fun i h1 h2 => ?_
  rw [List.getElem_set]
  by_cases h : v = i
  · subst h; rw [if_pos rfl]; simp [trL, upF]
  · rw [if_neg h]
    have h' : ¬ i = v := fun e => h e.symm
    simp [trL, upF, h']
theorem atB_set {M : List Bool} {v x : Nat} (hv : v < M.length) : atB (M.set v true) x = true ↔ x = v ∨ atB M x = true := by
  unfold atB
  rw [List.getD_eq_getElem?_getD, List.getD_eq_getElem?_getD, List.getElem?_set]
  by_cases h : v = x
  · subst h; simp [hv]
  · rw [if_neg h]
    constructor
    · exact .inr
    · rintro (e | e)
      · exact absurd e.symm h
      · exact e
theorem set_self {M : List Bool} {v : Nat} (hv : v < M.length) (h : atB M v = true) : M.set v true = M := by
  refine List.ext_getElem (by simp) fun i h1 h2 => ?_
  rw [List.getElem_set]
  by_cases e : v = i
  · subst e; rw [if_pos rfl]; rw [atB_at hv] at h; exact h.symm
  · rw [if_neg e]

/-! ### Rows of vertices -/
def nI (l : List Nat) : List Value := l.map fun x : Nat => Iv (x : Int)
def IRow (w : World) (base : Nat) (v : Value) (l : List Nat) : Prop := w.ownsRow base 3 1 v l.length (nI l)
theorem IRow.nil (w : World) (base : Nat) : IRow w base (.slice none 0 0) [] := World.ownsRow_nil _ _ _ _
theorem IRow.same {w w' : World} {base : Nat} {v : Value} {l : List Nat} (h : IRow w base v l) (hs : ∀ k, v.ownBlock = some k → w'.heap[k]? = w.heap[k]?) : IRow w' base v l := by
  obtain ⟨h1, hr⟩ := h
  refine ⟨h1, ?_⟩
  rcases hr with hr | ⟨g, cap, cur, hv, hgb, hh, hrest⟩
  · exact .inl hr
  · exact .inr ⟨g, cap, cur, hv, hgb, (hs g (by rw [hv]; rfl)).trans hh, hrest⟩
theorem IRow.lt {w : World} {base : Nat} {v : Value} {l : List Nat} (h : IRow w base v l) {k : Nat} (hk : v.ownBlock = some k) : k < w.heap.size ∧ base ≤ k := by
  obtain ⟨_, hr⟩ := h
  rcases hr with ⟨rfl, _⟩ | ⟨g, cap, cur, rfl, hgb, hh, _⟩
  · simp [Value.ownBlock] at hk
  · simp [Value.ownBlock] at hk
    subst hk
    exact ⟨block_lt hh, hgb⟩
theorem IRow.is {w : World} {base : Nat} {v : Value} {l : List Nat} (h : IRow w base v l) : ∃ A c, v = .slice A l.length c := by
  obtain ⟨A, c, h1, _⟩ := own_is h
  exact ⟨A, c, h1⟩
/-- The last one, and the row without it. -/
theorem IRow.last {w : World} {base x : Nat} {v : Value} {l : List Nat} (h : IRow w base v (l ++ [x])) : ∃ q cap, v = .slice (some ⟨q, 0, none⟩) (l.length + 1) cap ∧ l.length + 1 ≤ cap ∧ w.cell? ⟨q, l.length, none⟩ = some (.int .i64 x) ∧ IRow w base (.slice (some ⟨q, 0, none⟩) l.length cap) l := by
  obtain ⟨h1, hr⟩ := h
  rcases hr with ⟨_, h0⟩ | ⟨g, cap, cur, hv, hgb, hh, hnc, hcm, hcs, hx⟩
  · simp at h0
  · simp only [List.length_append, List.length_singleton] at hv hnc hx
    have e1 := cell_of_row w g l.length cur _ (0, 0) hh
    have hlen : l.length < cur.size := by
      have := congrArg List.length hx
      simp [nI] at this
      omega
    refine ⟨g, cap, hv, hnc, ?_, by simp [nI], .inr ⟨g, cap, cur, rfl, hgb, hh, by omega, hcm, hcs, ?_⟩⟩
    · rw [e1]
      have e2 : (cur.toList.take ((l.length + 1) * 1))[l.length]? = (nI (l ++ [x]))[l.length]? := by rw [hx]
      rw [List.getElem?_take, if_pos (by omega)] at e2
      simpa [nI] using e2
    · have e2 := congrArg (List.take l.length) hx
      rw [List.take_take] at e2
      have e3 : min l.length ((l.length + 1) * 1) = l.length * 1 := by omega
      rw [e3] at e2
      rw [e2]
      simp [nI]
theorem nI_append (l : List Nat) (x : Nat) : nI (l ++ [x]) = nI l ++ [.int .i64 x] := by simp [nI]
/-- What an append to one row leaves of another one. -/
theorem two_app {W wn : World} {base gg : Nat} {o : Obj} {u1 u2 : Value} {L2 : List Nat} (h2 : IRow W base u2 L2) (ha : ∀ b, u1.ownBlock = some b → u2.ownBlock ≠ some b) (hg : (W.alloc o).grownBy wn u1.ownBlock) (hat : u1.ownBlock = some gg ∨ gg = (W.alloc o).heap.size) :
    IRow wn base u2 L2 ∧ u2.ownBlock ≠ some gg := by
  refine ⟨h2.same fun k hk => ?_, fun e => ?_⟩
  · rw [hg.block k (by have := (h2.lt hk).1; simp; omega) (fun e => ha k e.symm hk), Below.heap_alloc _ _ _ (h2.lt hk).1]
  · rcases hat with h | h
    · exact ha gg h e
    · have := (h2.lt e).1
      simp at h
      omega
section
variable {ops : Array Oper} {rest : List Oper} {o : Oper} {a : Act} {Q : Exit → Act → World → Prop}
theorem app_vert (w : World) (hgd : o.guard = none) (s x : Operand) (ho : o.op = .call { callee := .builtin .append, args := #[s, x], argTypes := #[23, 23] }) (base : Nat) (v : Value) (l : List Nat) (hs : a.eval s = v) (hown : IRow w base v l)
    (B : Nat) (z : Nat) (hx : a.eval x = .slice (some ⟨B, 0, none⟩) 1 1) (hc : w.cell? ⟨B, 0, none⟩ = some (.int .i64 z)) (hn : l.length ≤ 1000000000) (hbase : base ≤ w.heap.size)
    (h : ∀ g cap w', IRow w' base (.slice (some ⟨g, 0, none⟩) (l.length + 1) cap) (l ++ [z]) → w.grownBy w' v.ownBlock → (v.ownBlock = some g ∨ g = w.heap.size) → wpList Try.prog ops Q rest (a.put o.dst (.slice (some ⟨g, 0, none⟩) (l.length + 1) cap)) w') : wpList Try.prog ops Q (o :: rest) a w := by
  obtain ⟨i0, hi, hz0, hz1, hz2⟩ := info_parts Try.infoIntG
  refine wpList_append_lies w hgd s x 23 ho base 3 i0 (.int .i64 0) 1 8 Try.underlying23 hi hz0 hz1 hz2 rfl (by omega) v l.length (nI l) hs hown ⟨B, 0, none⟩ 1 1 [.int .i64 z] hx rfl (fun j u hu => ?_) (by simp [Value.oneCell']) (by omega) (by unfold maxLen; omega) (by omega) hbase _ rfl (fun g cap w' g1 g2 g3 _ => h g cap w' ?_ g2 g3)
  · rcases j with _ | j
    · simp at hu; subst hu; simpa [Addr.add] using hc
    · simp at hu
  · unfold IRow
    rw [nI_append, List.length_append, List.length_singleton]
    exact g1
end
end Go.Proofs.Ytfgpenekmokdiaa
namespace Go.Proofs.Ytfgpenekmokdiaa
open Go Go.RowKit Fl

def cntT (g : GraphD) (f : Nat → Nat) : Nat := ((List.range g.length).map fun x => (rowG g x).length - f x).sum
theorem sum_less {f f' : Nat → Nat} {v : Nat} : ∀ {l : List Nat}, (∀ x, f' x ≤ f x) → f' v < f v → v ∈ l → (l.map f').sum < (l.map f).sum
  | [], _, _, h => by simp at h
  | x :: l, h, hv, hm => by
    have hle : ∀ l : List Nat, (l.map f').sum ≤ (l.map f).sum := fun l => by
      induction l with
      | nil => simp
      | cons y l ih => have := h y; simp; omega
    have h1 := h x
    have h2 := hle l
    simp only [List.map_cons, List.sum_cons]
    rcases List.mem_cons.1 hm with rfl | hm
    · omega
    · have := sum_less h hv hm
      omega
theorem cntT_step {g : GraphD} {f : Nat → Nat} {v : Nat} (hv : v < g.length) (hf : f v < (rowG g v).length) : cntT g (upF f v (f v + 1)) < cntT g f := by
  unfold cntT
  refine sum_less (f := fun x => (rowG g x).length - f x) (f' := fun x => (rowG g x).length - upF f v (f v + 1) x) (v := v) (fun x => ?_) ?_ (List.mem_range.2 hv)
  · unfold upF
    split
    · rename_i h; subst h; show _ - (f x + 1) ≤ _; omega
    · exact Nat.le_refl _
  · show _ - upF f v (f v + 1) v < _ - f v
    unfold upF
    rw [if_pos rfl]
    omega
/-- Marks M: what is seen. -/
structure SrS (g : GraphD) (z : List Bool) (A0 : List Nat) (v0 v : Nat) (C l : List Nat) (M : List Bool) (f : Nat → Nat) : Prop where
  dfs : Dfs g z (A0 ++ l) (C ++ [v])
  ml : M.length = 24
  mks : ∀ x, atB M x = true ↔ atB z x = true ∨ x ∈ A0 ++ l ++ (C ++ [v])
  tr : ∀ x, x < g.length → f x ≤ (rowG g x).length ∧ ∀ k, k < f x → ∀ y, (rowG g x)[k]? = some y → atB M y.toNat = true
  pth : ∀ x ∈ l ++ (C ++ [v]), PathG g z v0 x
  has : v0 ∈ l ++ (C ++ [v])
/-- The last one's first untried edge leads to what is seen. -/
theorem SrS.tick {g : GraphD} {z : List Bool} {A0 : List Nat} {v0 v : Nat} {C l : List Nat} {M : List Bool} {f : Nat → Nat} (h : SrS g z A0 v0 v C l M f) {y : Int} (hlt : f v < (rowG g v).length) (hy : (rowG g v)[f v]? = some y) (hm : atB M y.toNat = true) : SrS g z A0 v0 v C l M (upF f v (f v + 1)) := by
  refine ⟨h.dfs, h.ml, h.mks, fun x hx => ?_, h.pth, h.has⟩
  unfold upF
  by_cases e : x = v
  · subst e
    rw [if_pos rfl]
    refine ⟨hlt, fun k hk u hu => ?_⟩
    rcases Nat.lt_succ_iff_lt_or_eq.1 hk with h1 | rfl
    · exact (h.tr x hx).2 k h1 u hu
    · rw [hy] at hu
      injection hu with hu
      subst hu
      exact hm
  · rw [if_neg e]
    exact h.tr x hx
/-- .. to what is not: the search goes on there. -/
theorem SrS.push {g : GraphD} {z : List Bool} {A0 : List Nat} {v0 v : Nat} {C l : List Nat} {M : List Bool} {f : Nat → Nat} (h : SrS g z A0 v0 v C l M f) {y : Nat} (hlt : f v < (rowG g v).length) (hy : (rowG g v)[f v]? = some (y : Int)) (hyg : y < g.length) (hy24 : y < 24) (hm : atB M y = false) :
    SrS g z A0 v0 y (C ++ [v]) l (M.set y true) (upF f v (f v + 1)) := by
  have hn : ¬ (atB z y = true ∨ y ∈ A0 ++ l ++ (C ++ [v])) := fun e => by rw [(h.mks y).2 e] at hm; cases hm
  have hz : atB z y = false := by
    rcases e : atB z y with _ | _
    · rfl
    · exact absurd (.inl e) hn
  have he : EdgeG g v y := List.mem_of_getElem? hy
  have hset : ∀ x, atB (M.set y true) x = true ↔ x = y ∨ atB M x = true := fun x => atB_set (by rw [h.ml]; exact hy24)
  have hv0 := (h.dfs.fresh v (by simp))
  refine ⟨h.dfs.push he hyg hz (fun e => hn (.inr (by simpa using e))), by simp [h.ml], fun x => ?_, fun x hx => ?_, fun x hx => ?_, ?_⟩
  · rw [hset, h.mks]
    simp only [List.mem_append, List.mem_singleton]
    constructor
    · rintro (e | e | (e | e) | e | e)
      · exact .inr (.inr (.inr e))
      · exact .inl e
      · exact .inr (.inl (.inl e))
      · exact .inr (.inl (.inr e))
      · exact .inr (.inr (.inl (.inl e)))
      · exact .inr (.inr (.inl (.inr e)))
    · rintro (e | (e | e) | (e | e) | e)
      · exact .inr (.inl e)
      · exact .inr (.inr (.inl (.inl e)))
      · exact .inr (.inr (.inl (.inr e)))
      · exact .inr (.inr (.inr (.inl e)))
      · exact .inr (.inr (.inr (.inr e)))
      · exact .inl e
  · unfold upF
    by_cases e : x = v
    · subst e
      rw [if_pos rfl]
      refine ⟨hlt, fun k hk u hu => (hset _).2 ?_⟩
      rcases Nat.lt_succ_iff_lt_or_eq.1 hk with h1 | rfl
      · exact .inr ((h.tr x hx).2 k h1 u hu)
      · rw [hy] at hu
        injection hu with hu
        subst hu
        exact .inl (by simp)
    · rw [if_neg e]
      exact ⟨(h.tr x hx).1, fun k hk u hu => (hset _).2 (.inr ((h.tr x hx).2 k hk u hu))⟩
  · have hvp : PathG g z v0 v := h.pth v (by simp)
    rcases List.mem_append.1 hx with hx | hx
    · exact h.pth x (List.mem_append_left _ hx)
    · rcases List.mem_append.1 hx with hx | hx
      · exact h.pth x (List.mem_append_right _ hx)
      · simp at hx; subst hx; exact hvp.step he hyg hz
  · have := h.has
    rcases List.mem_append.1 this with hx | hx
    · exact List.mem_append_left _ hx
    · exact List.mem_append_right _ (List.mem_append_left _ hx)
/-- When all its edges are tried, the last one can be left. -/
theorem SrS.left {g : GraphD} {z : List Bool} {A0 : List Nat} {v0 v : Nat} {C l : List Nat} {M : List Bool} {f : Nat → Nat} (h : SrS g z A0 v0 v C l M f) (hge : (rowG g v).length ≤ f v) : Dfs g z (A0 ++ (l ++ [v])) C := by
  have hv := h.dfs.fresh v (by simp)
  rw [← List.append_assoc]
  refine h.dfs.leave fun y he => ?_
  obtain ⟨k, hk, e⟩ := List.mem_iff_getElem.1 he
  have := (h.tr v hv.1).2 k (by omega) y (by rw [List.getElem?_eq_getElem hk, e])
  have h2 := (h.mks y).1 (by simpa using this)
  rcases h2 with h2 | h2
  · exact .inl h2
  · exact .inr (by simpa using h2)
theorem SrS.pop {g : GraphD} {z : List Bool} {A0 : List Nat} {v0 v u : Nat} {C l : List Nat} {M : List Bool} {f : Nat → Nat} (h : SrS g z A0 v0 v (C ++ [u]) l M f) (hge : (rowG g v).length ≤ f v) : SrS g z A0 v0 u C (l ++ [v]) M f := by
  refine ⟨h.left hge, h.ml, fun x => ?_, h.tr, fun x hx => h.pth x ?_, ?_⟩
  · rw [h.mks]
    simp only [List.mem_append, List.mem_singleton]
    constructor
    · rintro (e | (e | e) | (e | e) | e)
      · exact .inl e
      · exact .inr (.inl (.inl e))
      · exact .inr (.inl (.inr (.inl e)))
      · exact .inr (.inr (.inl e))
      · exact .inr (.inr (.inr e))
      · exact .inr (.inl (.inr (.inr e)))
    · rintro (e | (e | e | e) | e | e)
      · exact .inl e
      · exact .inr (.inl (.inl e))
      · exact .inr (.inl (.inr e))
      · exact .inr (.inr (.inr e))
      · exact .inr (.inr (.inl (.inl e)))
      · exact .inr (.inr (.inl (.inr e)))
  · simp only [List.mem_append, List.mem_singleton] at hx ⊢
    rcases hx with (e | e) | e | e
    · exact .inl e
    · exact .inr (.inr e)
    · exact .inr (.inl (.inl e))
    · exact .inr (.inl (.inr e))
  · have := h.has
    simp only [List.mem_append, List.mem_singleton] at this ⊢
    rcases this with e | (e | e) | e
    · exact .inl (.inl e)
    · exact .inr (.inl e)
    · exact .inr (.inr e)
    · exact .inl (.inr e)
/-- What a search from v0 leaves: the list l and the marks M. -/
structure SrEnd (g : GraphD) (z : List Bool) (A0 : List Nat) (v0 : Nat) (M0 : List Bool) (l : List Nat) (M : List Bool) : Prop where
  dfs : Dfs g z (A0 ++ l) []
  ml : M.length = 24
  mks : ∀ x, atB M x = true ↔ atB M0 x = true ∨ x ∈ l
  pth : ∀ x ∈ l, PathG g z v0 x
  has : v0 ∈ l
theorem SrS.end_ {g : GraphD} {z : List Bool} {A0 : List Nat} {v0 v : Nat} {l : List Nat} {M M0 : List Bool} {f : Nat → Nat} (h : SrS g z A0 v0 v [] l M f) (hge : (rowG g v).length ≤ f v) (h0 : ∀ x, atB M0 x = true ↔ atB z x = true ∨ x ∈ A0) : SrEnd g z A0 v0 M0 (l ++ [v]) M := by
  refine ⟨h.left hge, h.ml, fun x => ?_, fun x hx => h.pth x (by simpa using hx), by simpa using h.has⟩
  rw [h.mks, h0]
  simp only [List.mem_append, List.mem_singleton, List.nil_append]
  constructor
  · rintro (e | (e | e) | e)
    · exact .inl (.inl e)
    · exact .inl (.inr e)
    · exact .inr (.inl e)
    · exact .inr (.inr e)
  · rintro ((e | e) | e | e)
    · exact .inl e
    · exact .inr (.inl (.inl e))
    · exact .inr (.inl (.inr e))
    · exact .inr (.inr e)
theorem SrS.start {g : GraphD} {z : List Bool} {A0 : List Nat} {v0 : Nat} {M0 : List Bool} (hd : Dfs g z A0 []) (hv : v0 < g.length) (h24 : v0 < 24) (ml : M0.length = 24) (h0 : ∀ x, atB M0 x = true ↔ atB z x = true ∨ x ∈ A0) (hn : atB M0 v0 = false) : SrS g z A0 v0 v0 [] [] (M0.set v0 true) (fun _ => 0) := by
  have hn' : ¬ (atB z v0 = true ∨ v0 ∈ A0) := fun e => by rw [(h0 v0).2 e] at hn; cases hn
  have hz : atB z v0 = false := by
    rcases e : atB z v0 with _ | _
    · rfl
    · exact absurd (.inl e) hn'
  refine ⟨?_, by simp [ml], fun x => ?_, fun x _ => ⟨Nat.zero_le _, fun k hk => by omega⟩, ?_, by simp⟩
  · simp only [List.append_nil, List.nil_append]
    exact hd.start hv hz fun e => hn' (.inr e)
  · rw [atB_set (by rw [ml]; exact h24), h0]
    simp only [List.append_nil, List.nil_append, List.mem_append, List.mem_singleton]
    constructor
    · rintro (e | e | e)
      · exact .inr (.inr e)
      · exact .inl e
      · exact .inr (.inl e)
    · rintro (e | e | e)
      · exact .inr (.inl e)
      · exact .inr (.inr e)
      · exact .inl e
  · intro x hx
    simp at hx
    subst hx
    exact .refl hv hz
theorem SrS.lens {g : GraphD} {z : List Bool} {A0 : List Nat} {v0 v : Nat} {C l : List Nat} {M : List Bool} {f : Nat → Nat} (h : SrS g z A0 v0 v C l M f) : l.length + C.length + 1 ≤ g.length ∧ v < g.length := by
  have hn := h.dfs.nodup
  have hs : (A0 ++ l ++ (C ++ [v])).length ≤ (List.range g.length).length := by
    refine List.Nodup.length_le_of_subset hn fun x hx => ?_
    exact List.mem_range.2 (h.dfs.fresh x hx).1
  simp at hs
  exact ⟨by omega, (h.dfs.fresh v (by simp)).1⟩
end Go.Proofs.Ytfgpenekmokdiaa
