/- Joined texts. -/
import Derived.Test.YtfgpenekmokdiaaMzAF
import Derived.Test.YtfgpenekmokdiaaMzAS
import Derived.Test.YtfgpenekmokdiaaMzAO
namespace Go.Proofs.Ytfgpenekmokdiaa
open Go Go.RowKit Fl

structure MovS (w6 wr : World) (B gt n0 T : Nat) (mv av : Value) (ML : List MoveD) (ts : List Int) : Prop where
  tape : TapeOk wr B gt T
  still : Still gt n0 w6 wr
  mown : wr.ownsRow n0 42 3 mv ML.length (moveCells ML)
  aown : wr.ownsRow n0 3 1 av ts.length (ts.map Iv)
  low : gt < n0
  size : n0 ≤ wr.heap.size
  bg : B ≤ gt
theorem own_but3M {w w' : World} {base q n : Nat} {e : TypeId} {v : Value} {xs : List Value} (h : w.ownsRow base e 3 v n xs) (hw : w.grownBy w' (some q)) (hq : q < base) : w'.ownsRow base e 3 v n xs := by
  obtain ⟨h1, hr⟩ := h
  refine ⟨h1, ?_⟩
  rcases hr with hr | ⟨g, cap, cur, hv, hg, hh, r⟩
  · exact .inl hr
  · exact .inr ⟨g, cap, cur, hv, hg, (hw.block g (block_lt hh) (fun e => by injection e with e; omega)).trans hh, r⟩
theorem MovS.next {w6 wr w' : World} {B gt n0 T T' : Nat} {mv av : Value} {ML : List MoveD} {ts : List Int} (h : MovS w6 wr B gt n0 T mv av ML ts) (ht : TapeOk w' B gt T') (hg : wr.grownBy w' (some gt)) : MovS w6 w' B gt n0 T' mv av ML ts :=
  ⟨ht, h.still.trans (Still.of_grown hg h.size), own_but3M h.mown hg h.low, own_but h.aown hg h.low, h.low, Nat.le_trans h.size hg.size, h.bg⟩
theorem MovS.more {w6 wr : World} {B gt n0 T T' : Nat} {mv av : Value} {ML : List MoveD} {ts : List Int} (h : MovS w6 wr B gt n0 T mv av ML ts) (hT : T ≤ T') : MovS w6 wr B gt n0 T' mv av ML ts := ⟨h.tape.more hT, h.still, h.mown, h.aown, h.low, h.size, h.bg⟩
theorem MovS.alloc {w6 wr : World} {B gt n0 T : Nat} {mv av : Value} {ML : List MoveD} {ts : List Int} (h : MovS w6 wr B gt n0 T mv av ML ts) (o : Obj) : MovS w6 (wr.alloc o) B gt n0 T mv av ML ts :=
  ⟨h.tape.keep ((Below.refl _ _).alloc (Nat.le_refl _) o), h.still.trans (Still.of_below (((Below.refl _ _).alloc (Nat.le_refl _) o).mono h.size)), h.mown.alloc o, h.aown.alloc o, h.low, Nat.le_trans h.size (by simp), h.bg⟩
theorem MovS.drew {w6 wr : World} {B gt n0 T : Nat} {mv av : Value} {ML : List MoveD} {ts : List Int} (h : MovS w6 wr B gt n0 T mv av ML ts) : MovS w6 wr.drew B gt n0 T mv av ML ts :=
  ⟨h.tape.keep ((Below.refl _ _).drew), h.still.trans (Still.of_below (((Below.refl _ _).drew).mono h.size)), h.mown.drew, h.aown.drew, h.low, h.size, h.bg⟩
/-- A row of the call's own stays where another block is written. -/
theorem own_offM {w : World} {base q k n s : Nat} {e : TypeId} {v u : Value} {xs : List Value} (h : w.ownsRow base e s v n xs) (hq : v.ownBlock ≠ some q) : (w.setCell ⟨q, k, none⟩ u).ownsRow base e s v n xs := by
  obtain ⟨h1, hr⟩ := h
  refine ⟨h1, ?_⟩
  rcases hr with hr | ⟨g, cap, cur, hv, hg, hh, r⟩
  · exact .inl hr
  · refine .inr ⟨g, cap, cur, hv, hg, (Below.heap_setCell _ _ _ _ (fun e => ?_)).trans hh, r⟩
    have e' : g = q := e
    subst hv
    exact hq (by rw [← e']; rfl)
theorem own_typeM {w : World} {base n s q : Nat} {e t : TypeId} {v : Value} {xs : List Value} {cs : Array Value} {fr : Nat × Nat} (h : w.ownsRow base e s v n xs) (hq : w.heap[q]? = some (.cells cs t fr)) (hne : e ≠ t) : v.ownBlock ≠ some q := fun hv => by
  obtain ⟨_, hr⟩ := h
  rcases hr with ⟨rfl, _⟩ | ⟨g, cap, cur, rfl, hg, hh, r⟩
  · cases hv
  · have hgq : g = q := by injection hv
    subst hgq
    rw [hh] at hq
    injection hq with hq
    injection hq with _ h2
    exact hne h2
/-- .. and the box X of one move, laid when the moves' row was there. -/
structure BoxM (w6 W : World) (B gt n0 T X : Nat) (mv av : Value) (ML : List MoveD) (ts : List Int) (a b c : Int) : Prop where
  movs : MovS w6 W B gt n0 T mv av ML ts
  box : W.heap[X]? = some (.cells #[.int .i64 a, .int .i64 b, .int .i64 c] 42 (0, 0))
  over : ∀ k, mv.ownBlock = some k → k < X
  high : n0 ≤ X
theorem MovS.boxed {w6 wr : World} {B gt n0 T : Nat} {mv av : Value} {ML : List MoveD} {ts : List Int} (h : MovS w6 wr B gt n0 T mv av ML ts) (a b c : Int) : BoxM w6 (wr.alloc (.cells #[.int .i64 a, .int .i64 b, .int .i64 c] 42)) B gt n0 T wr.heap.size mv av ML ts a b c :=
  ⟨h.alloc _, heap_alloc_new _ _, fun k hk => (h.mown.lt k hk).2, h.size⟩
theorem BoxM.next {w6 W w' : World} {B gt n0 T T' X : Nat} {mv av : Value} {ML : List MoveD} {ts : List Int} {a b c : Int} (h : BoxM w6 W B gt n0 T X mv av ML ts a b c) (ht : TapeOk w' B gt T') (hg : W.grownBy w' (some gt)) : BoxM w6 w' B gt n0 T' X mv av ML ts a b c :=
  ⟨h.movs.next ht hg, (hg.block X (block_lt h.box) (fun e => by injection e with e; have := h.movs.low; have := h.high; omega)).trans h.box, h.over, h.high⟩
theorem BoxM.drew {w6 W : World} {B gt n0 T X : Nat} {mv av : Value} {ML : List MoveD} {ts : List Int} {a b c : Int} (h : BoxM w6 W B gt n0 T X mv av ML ts a b c) : BoxM w6 W.drew B gt n0 T X mv av ML ts a b c :=
  ⟨h.movs.drew, h.box, h.over, h.high⟩
theorem BoxM.cell {w6 W : World} {B gt n0 T X : Nat} {mv av : Value} {ML : List MoveD} {ts : List Int} {a b c : Int} (h : BoxM w6 W B gt n0 T X mv av ML ts a b c) : (W.cell? ⟨X, 0, none⟩ = some (.int .i64 a) ∧ W.cell? ⟨X, 1, none⟩ = some (.int .i64 b) ∧ W.cell? ⟨X, 2, none⟩ = some (.int .i64 c)) ∧ W.frozen? ⟨X, 0, none⟩ = false ∧ W.frozen? ⟨X, 1, none⟩ = false ∧ W.frozen? ⟨X, 2, none⟩ = false := by
  have hb := h.box
  refine ⟨⟨?_, ?_, ?_⟩, ?_, ?_, ?_⟩
  · rw [cell_of_row _ _ 0 _ _ _ hb]; rfl
  · rw [cell_of_row _ _ 1 _ _ _ hb]; rfl
  · rw [cell_of_row _ _ 2 _ _ _ hb]; rfl
  all_goals simp [World.frozen?, hb]
theorem BoxM.setK {w6 W : World} {B gt n0 T X k : Nat} {mv av : Value} {ML : List MoveD} {ts : List Int} {a b c a' b' c' v : Int} (h : BoxM w6 W B gt n0 T X mv av ML ts a b c) (he : (#[.int .i64 a, .int .i64 b, .int .i64 c] : Array Value).setIfInBounds k (.int .i64 v) = #[.int .i64 a', .int .i64 b', .int .i64 c']) : BoxM w6 (W.setCell ⟨X, k, none⟩ (.int .i64 v)) B gt n0 T X mv av ML ts a' b' c' := by
  have hXg : X ≠ gt := by have := h.movs.low; have := h.high; omega
  have hXb : ∀ j, j < n0 → j ≠ X := fun j hj => by have := h.high; omega
  have hg : W.grownBy (W.setCell ⟨X, k, none⟩ (.int .i64 v)) (some X) := ⟨rfl, rfl, rfl, by simp [World.setCell], fun j hj hne => Below.heap_setCell _ _ _ _ (fun e => hne (by rw [e]))⟩
  refine ⟨⟨h.movs.tape.grown hg (fun e => hXg (by injection e)) (fun j hj => by injection hj with hj; have := h.movs.bg; have := h.movs.low; have := h.high; omega), h.movs.still.trans ⟨rfl, rfl, rfl, by simp [World.setCell], fun j hj _ => Below.heap_setCell _ _ _ _ (hXb j hj)⟩, own_offM h.movs.mown (fun e => by have := h.over X e; omega), own_offM h.movs.aown (own_typeM h.movs.aown h.box (by decide)), h.movs.low, by have := h.movs.size; simpa [World.setCell] using this, h.movs.bg⟩, ?_, h.over, h.high⟩
  have hb := h.box
  simp [World.setCell, Array.getElem?_modify]
  exact ⟨_, hb, by rw [← he]⟩
theorem own_apartM {w : World} {b1 b2 s1 s2 n1 n2 : Nat} {e1 e2 : TypeId} {v1 v2 : Value} {xs ys : List Value} (h1 : w.ownsRow b1 e1 s1 v1 n1 xs) (h2 : w.ownsRow b2 e2 s2 v2 n2 ys) (hne : e1 ≠ e2) : ∀ q, v2.ownBlock = some q → v1.ownBlock ≠ some q := by
  intro q hq
  obtain ⟨_, hr⟩ := h2
  rcases hr with ⟨rfl, _⟩ | ⟨g, cap, cur, rfl, _, hh, _⟩
  · cases hq
  · injection hq with hq
    subst hq
    exact own_typeM h1 hh hne
theorem MovS.addMove {w6 wr w' : World} {B gt n0 T n : Nat} {mv av mv' : Value} {ML : List MoveD} {ts : List Int} {o : Obj} (m : MoveD) (h : MovS w6 wr B gt n0 T mv av ML ts) (hn : n = ML.length + 1) (ho : w'.ownsRow n0 42 3 mv' n (moveCells ML ++ [Iv m.tok, Iv m.frm, Iv m.dst])) (hg : (wr.alloc o).grownBy w' mv.ownBlock) : MovS w6 w' B gt n0 T mv' av (ML ++ [m]) ts := by
  have h1 := h.alloc o
  refine ⟨h1.tape.grown hg (fun e => by have := (h1.mown.lt gt e).1; have := h.low; omega) (fun j hj => by have := (h1.mown.lt j hj).1; have := h.bg; have := h.low; omega), h1.still.trans ⟨hg.os, hg.tape, hg.output, hg.size, fun k hk _ => hg.block k (by have := h1.size; omega) (fun e => by have := (h1.mown.lt k e.symm).1; omega)⟩, ?_, ownsRow_apart h1.aown h1.mown (by decide) hg, h.low, Nat.le_trans h1.size hg.size, h.bg⟩
  rw [moveCells_append, List.length_append]
  subst hn
  exact ho
theorem MovS.addAt {w6 wr w' : World} {B gt n0 T : Nat} {mv av av' : Value} {ML : List MoveD} {ts : List Int} {o : Obj} {z : Int} (h : MovS w6 wr B gt n0 T mv av ML ts) (ho : w'.ownsRow n0 3 1 av' (ts.length + 1) (ts.map Iv ++ [Iv z])) (hg : (wr.alloc o).grownBy w' av.ownBlock) : MovS w6 w' B gt n0 T mv av' ML (ts ++ [z]) := by
  have h1 := h.alloc o
  refine ⟨h1.tape.grown hg (fun e => by have := (h1.aown.lt gt e).1; have := h.low; omega) (fun j hj => by have := (h1.aown.lt j hj).1; have := h.bg; have := h.low; omega), h1.still.trans ⟨hg.os, hg.tape, hg.output, hg.size, fun k hk _ => hg.block k (by have := h1.size; omega) (fun e => by have := (h1.aown.lt k e.symm).1; omega)⟩, ownsRow_apart h1.mown h1.aown (by decide) hg, ?_, h.low, Nat.le_trans h1.size hg.size, h.bg⟩
  rw [List.map_append, List.length_append]
  exact ho
theorem MovS.setAt {w6 wr : World} {B gt n0 T g n cap i : Nat} {mv : Value} {ML : List MoveD} {ts : List Int} {z : Int} (h : MovS w6 wr B gt n0 T mv (.slice (some ⟨g, 0, none⟩) n cap) ML ts) (hn : n = ts.length) : MovS w6 (wr.setCell ⟨g, i, none⟩ (.int .i64 z)) B gt n0 T mv (.slice (some ⟨g, 0, none⟩) n cap) ML (ts.set i z) := by
  subst hn
  have hl := (h.aown.lt g rfl).1
  have hg : wr.grownBy (wr.setCell ⟨g, i, none⟩ (.int .i64 z)) (some g) := ⟨rfl, rfl, rfl, by simp [World.setCell], fun j hj hne => Below.heap_setCell _ _ _ _ (fun e => hne (by rw [e]))⟩
  refine ⟨h.tape.grown hg (fun e => by injection e with e; have := h.low; omega) (fun j hj => by injection hj with hj; have := h.bg; have := h.low; omega), h.still.trans ⟨rfl, rfl, rfl, by simp [World.setCell], fun j hj _ => Below.heap_setCell _ _ _ _ (fun e => by have e' : j = g := e; omega)⟩, own_offM h.mown (own_apartM h.mown h.aown (by decide) g rfl), ?_, h.low, by have := h.size; simpa [World.setCell] using this, h.bg⟩
  have := own_put (i := i) (v := .int .i64 z) h.aown
  rw [List.length_set, List.map_set]
  exact this
theorem BoxM.addMove {w6 W w' : World} {B gt n0 T X n : Nat} {mv av mv' : Value} {ML : List MoveD} {ts : List Int} {a b c : Int} {o : Obj} (h : BoxM w6 W B gt n0 T X mv av ML ts a b c) (hn : n = ML.length + 1) (ho : w'.ownsRow n0 42 3 mv' n (moveCells ML ++ [Iv a, Iv b, Iv c])) (hg : (W.alloc o).grownBy w' mv.ownBlock) : MovS w6 w' B gt n0 T mv' av (ML ++ [⟨a, b, c⟩]) ts ∧ w'.heap[X]? = some (.cells #[.int .i64 a, .int .i64 b, .int .i64 c] 42 (0, 0)) := by
  refine ⟨h.movs.addMove ⟨a, b, c⟩ hn ho hg, ?_⟩
  have hX := block_lt h.box
  rw [hg.block X (by simp; omega) (fun e => by have := h.over X e.symm; omega)]
  exact ((Below.refl W.heap.size W).alloc (Nat.le_refl _) o).block X hX |>.trans h.box
theorem box_cells {W : World} {X : Nat} {a b c : Int} (h : W.heap[X]? = some (.cells #[.int .i64 a, .int .i64 b, .int .i64 c] 42 (0, 0))) : W.cell? ⟨X, 0, none⟩ = some (.int .i64 a) ∧ W.cell? ⟨X, 1, none⟩ = some (.int .i64 b) ∧ W.cell? ⟨X, 2, none⟩ = some (.int .i64 c) := by
  refine ⟨?_, ?_, ?_⟩
  · rw [cell_of_row _ _ 0 _ _ _ h]; rfl
  · rw [cell_of_row _ _ 1 _ _ _ h]; rfl
  · rw [cell_of_row _ _ 2 _ _ _ h]; rfl
theorem own_capM {w : World} {base n : Nat} {e : TypeId} {v : Value} {xs : List Value} (h : w.ownsRow base e 3 v n xs) : (v = .slice none 0 0 ∧ n = 0) ∨ ∃ g cap, v = .slice (some ⟨g, 0, none⟩) n cap ∧ n ≤ cap ∧ Holds w (some ⟨g, 0, none⟩) xs := by
  obtain ⟨h1, h2⟩ := h
  rcases h2 with ⟨hv, h0⟩ | ⟨g, cap, cur, hv, hb, hg, hnc, hcm, hsz, htk⟩
  · exact .inl ⟨hv, h0⟩
  · refine .inr ⟨g, cap, hv, hnc, .inr ⟨g, 0, rfl, block_lt hg, fun j hj => ?_⟩⟩
    rw [cell_of_row w g _ _ _ _ hg, Nat.zero_add, ← Array.getElem?_toList]
    rw [← List.getElem?_eq_getElem hj]
    have h3 : (cur.toList.take (n * 3))[j]? = xs[j]? := by rw [htk]
    rw [List.getElem?_take, if_pos (by omega)] at h3
    exact h3
/-- What lies in a cell, whatever it is. -/
def cellZ (W : World) (a : Addr) : Value := (W.cell? a).getD (.int .i64 0)
theorem cellZ_some {W : World} {a : Addr} {v : Value} (h : W.cell? a = some v) : W.cell? a = some (cellZ W a) := by unfold cellZ; rw [h]; rfl
end Go.Proofs.Ytfgpenekmokdiaa
namespace Go.Proofs.Ytfgpenekmokdiaa.Fl

theorem path_own {g : GraphD} {s : List Bool} {u v : Nat} : PathG (woG g s) s u v ↔ PathG g s u v := by
  constructor
  · intro h
    induction h with
    | refl h1 h2 => exact .refl (by rwa [woG_length] at h1) h2
    | step p e h1 h2 ih => exact .step ih ((woG_edge (by have := p.right.1; rwa [woG_length] at this)).1 e).1 (by rwa [woG_length] at h1) h2
  · intro h
    induction h with
    | refl h1 h2 => exact .refl (by rwa [woG_length]) h2
    | step p e h1 h2 ih => exact .step ih ((woG_edge p.right.1).2 ⟨e, p.right.2, h2⟩) (by rwa [woG_length]) h2
theorem both_own {g : GraphD} {s : List Bool} {u v : Nat} : both (woG g s) s u v ↔ both g s u v := by
  unfold both
  rw [path_own, path_own]

/-- Vertices that were left, A, and those of the way to the last one, S; z: those that no search enters. -/
structure Dfs (g : GraphD) (z : List Bool) (A S : List Nat) : Prop where
  nodup : (A ++ S).Nodup
  fresh : ∀ x ∈ A ++ S, x < g.length ∧ atB z x = false
  done : ∀ x ∈ A, ∀ y, EdgeG g x y → atB z y = true ∨ y ∈ A ++ S
  up : S.Pairwise (PathG g z)
  kos : ∀ x ∈ A, (∃ t ∈ S, both g z x t) ∨ ∀ y, PathG g z x y → ∃ x' A1 A2, A = A1 ++ x' :: A2 ∧ both g z x x' ∧ y ∈ A1 ++ [x']
theorem Dfs.nil (g : GraphD) (z : List Bool) : Dfs g z [] [] := ⟨by simp, by simp, by simp, .nil, by simp⟩
theorem Dfs.start {g : GraphD} {z : List Bool} {A : List Nat} {v : Nat} (h : Dfs g z A []) (hv : v < g.length) (hz : atB z v = false) (hn : v ∉ A) : Dfs g z A [v] := by
  have h1 := h.nodup
  have h2 := h.fresh
  have h3 := h.done
  have h4 := h.kos
  simp only [List.append_nil] at h1 h2 h3
  refine ⟨?_, ?_, fun x hx y he => ?_, List.pairwise_singleton _ _, fun x hx => ?_⟩
  · rw [List.nodup_append]
    exact ⟨h1, by simp, fun a ha b hb => by simp at hb; subst hb; exact fun e => hn (e ▸ ha)⟩
  · intro x hx
    rcases List.mem_append.1 hx with hx | hx
    · exact h2 x hx
    · simp at hx; subst hx; exact ⟨hv, hz⟩
  · rcases h3 x hx y he with h | h
    · exact .inl h
    · exact .inr (by simp [h])
  · rcases h4 x hx with ⟨t, ht, _⟩ | h
    · simp at ht
    · exact .inr h
theorem Dfs.push {g : GraphD} {z : List Bool} {A C : List Nat} {v y : Nat} (h : Dfs g z A (C ++ [v])) (he : EdgeG g v y) (hy : y < g.length) (hz : atB z y = false) (hn : y ∉ A ++ (C ++ [v])) : Dfs g z A (C ++ [v] ++ [y]) := by
  have hv := h.fresh v (by simp)
  refine ⟨?_, ?_, fun x hx u hu => ?_, ?_, fun x hx => ?_⟩
  · rw [← List.append_assoc, List.nodup_append]
    exact ⟨h.nodup, by simp, fun a ha b hb => by simp at hb; subst hb; exact fun e => hn (e ▸ ha)⟩
  · intro x hx
    rw [← List.append_assoc] at hx
    rcases List.mem_append.1 hx with hx | hx
    · exact h.fresh x hx
    · simp at hx; subst hx; exact ⟨hy, hz⟩
  · rcases h.done x hx u hu with h | h
    · exact .inl h
    · right; rw [← List.append_assoc]; exact List.mem_append_left _ h
  · rw [List.pairwise_append]
    refine ⟨h.up, List.pairwise_singleton _ _, fun a ha b hb => ?_⟩
    simp at hb
    subst hb
    have hav : PathG g z a v := by
      rcases List.mem_append.1 ha with ha | ha
      · exact (List.pairwise_append.1 h.up).2.2 a ha v (by simp)
      · simp at ha; subst ha; exact .refl hv.1 hv.2
    exact hav.step he hy hz
  · rcases h.kos x hx with ⟨t, ht, hb⟩ | h
    · exact .inl ⟨t, List.mem_append_left _ ht, hb⟩
    · exact .inr h
theorem Dfs.leave {g : GraphD} {z : List Bool} {A C : List Nat} {v : Nat} (h : Dfs g z A (C ++ [v])) (hd : ∀ y, EdgeG g v y → atB z y = true ∨ y ∈ A ++ (C ++ [v])) : Dfs g z (A ++ [v]) C := by
  have hv := h.fresh v (by simp)
  have hmem : ∀ x, x ∈ A ++ [v] ++ C ↔ x ∈ A ++ (C ++ [v]) := fun x => by
    simp only [List.mem_append, List.mem_singleton]
    constructor
    · rintro ((h | h) | h)
      · exact .inl h
      · exact .inr (.inr h)
      · exact .inr (.inl h)
    · rintro (h | h | h)
      · exact .inl (.inl h)
      · exact .inr h
      · exact .inl (.inr h)
  have hdone : ∀ x ∈ A ++ [v], ∀ y, EdgeG g x y → atB z y = true ∨ y ∈ A ++ [v] ++ C := fun x hx y he => by
    rcases List.mem_append.1 hx with hx | hx
    · rcases h.done x hx y he with h | h
      · exact .inl h
      · exact .inr ((hmem y).2 h)
    · simp at hx
      subst hx
      rcases hd y he with h | h
      · exact .inl h
      · exact .inr ((hmem y).2 h)
  have hup := List.pairwise_append.1 h.up
  refine ⟨?_, fun x hx => h.fresh x ((hmem x).1 hx), hdone, hup.1, fun x hx => ?_⟩
  · have h1 := h.nodup
    have hp : (A ++ [v] ++ C).Perm (A ++ (C ++ [v])) := by
      rw [List.append_assoc]
      exact List.Perm.append_left A List.perm_append_comm
    exact hp.nodup_iff.2 h1
  · by_cases hc : ∃ t ∈ C, both g z x t
    · exact .inl hc
    · right
      have key : both g z x v → ∀ y, PathG g z x y → ∃ x' A1 A2, A ++ [v] = A1 ++ x' :: A2 ∧ both g z x x' ∧ y ∈ A1 ++ [x'] := fun hxv y hy => by
        have hvy : PathG g z v y := hxv.2.trans hy
        have hP : y ∈ A ++ [v] ∧ PathG g z v y := by
          refine PathG.closed (P := fun a => a ∈ A ++ [v] ∧ PathG g z v a) ⟨by simp, .refl hv.1 hv.2⟩ (fun a b ⟨ha, hva⟩ e hb hbz => ?_) hvy
          have hvb := hva.step e hb hbz
          refine ⟨?_, hvb⟩
          rcases hdone a ha b e with h5 | h5
          · rw [hbz] at h5; cases h5
          · rcases List.mem_append.1 h5 with h5 | h5
            · exact h5
            · exact absurd ⟨b, h5, hxv.1.trans hvb, (hup.2.2 b h5 v (by simp)).trans hxv.2⟩ hc
        exact ⟨v, A, [], rfl, hxv, hP.1⟩
      rcases List.mem_append.1 hx with hx | hx
      · rcases h.kos x hx with ⟨t, ht, hb⟩ | h5
        · rcases List.mem_append.1 ht with ht | ht
          · exact absurd ⟨t, ht, hb⟩ hc
          · simp at ht; subst ht; exact key hb
        · intro y hy
          obtain ⟨x', A1, A2, h6, h7, h8⟩ := h5 y hy
          exact ⟨x', A1, A2 ++ [v], by rw [h6]; simp, h7, h8⟩
      · simp at hx
        subst hx
        exact key (.self hv.1 hv.2)
/-- Nothing leads out of what was left when no way is open. -/
theorem Dfs.closed {g : GraphD} {z : List Bool} {A : List Nat} (h : Dfs g z A []) {x y : Nat} (hx : x ∈ A) (he : EdgeG g x y) (hz : atB z y = false) : y ∈ A := by
  rcases h.done x hx y he with h | h
  · rw [hz] at h; cases h
  · simpa using h
theorem nodup_after {A1 A2 B1 B2 : List Nat} {v x : Nat} (hn : (A1 ++ x :: A2).Nodup) (he : A1 ++ x :: A2 = B1 ++ v :: B2) (hv : v ∈ A1) : x ∈ B2 := by
  obtain ⟨C1, C2, rfl⟩ := List.append_of_mem hv
  have e : C1 ++ v :: (C2 ++ x :: A2) = B1 ++ v :: B2 := by rw [← he]; simp
  rw [he] at hn
  have h1 : v ∉ B1 := fun h => by
    have := (List.nodup_append.1 hn).2.2 v h v (by simp)
    exact this rfl
  have h2 : v ∉ C1 := fun h => by
    rw [← e] at hn
    have := (List.nodup_append.1 hn).2.2 v h v (by simp)
    exact this rfl
  have h3 : ∀ (P Q R T : List Nat), v ∉ P → v ∉ Q → P ++ v :: R = Q ++ v :: T → R = T := by
    intro P
    induction P with
    | nil =>
      intro Q R T _ hQ h
      cases Q with
      | nil => simpa using h
      | cons q Q => simp at h; exact absurd h.1.symm (by intro h; subst h; simp at hQ)
    | cons p P ih =>
      intro Q R T hP hQ h
      cases Q with
      | nil => simp at h; exact absurd h.1 (by intro h; subst h; simp at hP)
      | cons q Q =>
        simp at h
        exact ih Q R T (fun h => hP (by simp [h])) (fun h => hQ (by simp [h])) h.2
  rw [← h3 C1 B1 _ _ h2 h1 e]
  simp
/-- What a search against the edges finds from the last vertex without a name: its component. -/
theorem kos_comp {g : GraphD} {s M : List Bool} {L L1 L2 l : List Nat} {v : Nat} (hg : validG g = true) (hL : Dfs g s L []) (hall : ∀ x, x < g.length → atB s x = false → x ∈ L) (hsp : L = L1 ++ v :: L2) (hM : ∀ x, atB s x = true → atB M x = true)
    (hu : ∀ x y, both g s x y → atB M x = true → atB M y = true) (h2 : ∀ x ∈ L2, atB M x = true) (hv : atB M v = false) (hl : Dfs (revG g) M l []) (hlv : v ∈ l) (hp : ∀ x ∈ l, PathG (revG g) M v x) (x : Nat) : x ∈ l ↔ both g s v x := by
  constructor
  · intro hx
    have h3 : PathG g s x v := (path_rev hg).2 (PathG.mono hM (hp x hx))
    have hxM := (hl.fresh x (by simpa using hx)).2
    have hxL := hall x h3.left.1 h3.left.2
    rcases hL.kos x hxL with ⟨t, ht, _⟩ | h4
    · simp at ht
    · obtain ⟨x', A1, A2, h5, h6, h7⟩ := h4 v h3
      have hx' : atB M x' = false := by
        rcases e : atB M x' with _ | _
        · rfl
        · rw [hu x' x h6.symm e] at hxM; cases hxM
      rcases List.mem_append.1 h7 with h7 | h7
      · have hn := hL.nodup
        rw [List.append_nil, h5] at hn
        have := nodup_after hn (h5.symm.trans hsp) h7
        rw [h2 x' this] at hx'
        cases hx'
      · simp at h7
        subst h7
        exact h6.symm
  · intro hb
    have key : ∀ a, PathG (revG g) s v a → PathG g s v a → a ∈ l := by
      intro a h
      induction h with
      | refl _ _ => exact fun _ => hlv
      | step p e h5 h6 ih =>
        rename_i b a
        intro hva
        have hbr := p.right
        rw [revG_length] at hbr h5
        have eab : EdgeG g a b := ((revG_edge hbr.1).1 e).2
        have hvb : PathG g s v b := hva.step eab hbr.1 hbr.2
        have haM : atB M a = false := by
          have hba : both g s a v := ⟨(path_rev hg).2 (p.step e (by rwa [revG_length]) h6), hva⟩
          rcases e2 : atB M a with _ | _
          · rfl
          · rw [hu a v hba e2] at hv; cases hv
        exact hl.closed (ih hvb) e haM
    exact key x ((path_rev hg).1 hb.2) hb.1
end Go.Proofs.Ytfgpenekmokdiaa.Fl
