/- Joined texts. -/
import Derived.Test.YtfgpenekmokdiaaTkPosn
import Derived.Test.YtfgpenekmokdiaaMzBC
import Derived.Test.YtfgpenekmokdiaaMzBB
import Derived.Test.YtfgpenekmokdiaaMzBA
import Derived.Test.YtfgpenekmokdiaaMzAP
import Derived.Test.YtfgpenekmokdiaaMzAF
import Derived.Test.YtfgpenekmokdiaaMzAR
namespace Go.Proofs.Ytfgpenekmokdiaa
open Go Go.RowKit Fl

structure MovS (w6 wr : World) (B gt n0 T : Nat) (mv av : Value) (ML : List MoveD) (ts : List Int) : Prop where
  tape : TapeOk wr B gt T
  still : Still gt n0 w6 wr
  mown : wr.ownsRow n0 42 3 mv ML.length (moveCells ML)
  aown : wr.ownsRow n0 3 1 av ts.length (ts.map Iv)
  low : gt < n0
  size : n0 ≤ wr.heap.size
  bg : B ≤ gt
theorem own_but3M {w w' : World} {base q n : Nat} {e : TypeId} {v : Value} {xs : List Value} (h : w.ownsRow base e 3 v n xs) (hw : w.grownBy w' (some q)) (hq : q < base) : w'.ownsRow base e 3 v n xs := by
  obtain ⟨h1, hr⟩ := h
  refine ⟨h1, ?_⟩
  rcases hr with hr | ⟨g, cap, cur, hv, hg, hh, r⟩
  · exact .inl hr
  · exact .inr ⟨g, cap, cur, hv, hg, (hw.block g (block_lt hh) (fun e => by injection e with e; omega)).trans hh, r⟩
theorem MovS.next {w6 wr w' : World} {B gt n0 T T' : Nat} {mv av : Value} {ML : List MoveD} {ts : List Int} (h : MovS w6 wr B gt n0 T mv av ML ts) (ht : TapeOk w' B gt T') (hg : wr.grownBy w' (some gt)) : MovS w6 w' B gt n0 T' mv av ML ts :=
  ⟨ht, h.still.trans (Still.of_grown hg h.size), own_but3M h.mown hg h.low, own_but h.aown hg h.low, h.low, Nat.le_trans h.size hg.size, h.bg⟩
theorem MovS.more {w6 wr : World} {B gt n0 T T' : Nat} {mv av : Value} {ML : List MoveD} {ts : List Int} (h : MovS w6 wr B gt n0 T mv av ML ts) (hT : T ≤ T') : MovS w6 wr B gt n0 T' mv av ML ts := ⟨h.tape.more hT, h.still, h.mown, h.aown, h.low, h.size, h.bg⟩
theorem MovS.alloc {w6 wr : World} {B gt n0 T : Nat} {mv av : Value} {ML : List MoveD} {ts : List Int} (h : MovS w6 wr B gt n0 T mv av ML ts) (o : Obj) : MovS w6 (wr.alloc o) B gt n0 T mv av ML ts :=
  ⟨h.tape.keep ((Below.refl _ _).alloc (Nat.le_refl _) o), h.still.trans (Still.of_below (((Below.refl _ _).alloc (Nat.le_refl _) o).mono h.size)), h.mown.alloc o, h.aown.alloc o, h.low, Nat.le_trans h.size (by simp), h.bg⟩
theorem MovS.drew {w6 wr : World} {B gt n0 T : Nat} {mv av : Value} {ML : List MoveD} {ts : List Int} (h : MovS w6 wr B gt n0 T mv av ML ts) : MovS w6 wr.drew B gt n0 T mv av ML ts :=
  ⟨h.tape.keep ((Below.refl _ _).drew), h.still.trans (Still.of_below (((Below.refl _ _).drew).mono h.size)), h.mown.drew, h.aown.drew, h.low, h.size, h.bg⟩
/-- A row of the call's own stays where another block is written. -/
theorem own_offM {w : World} {base q k n s : Nat} {e : TypeId} {v u : Value} {xs : List Value} (h : w.ownsRow base e s v n xs) (hq : v.ownBlock ≠ some q) : (w.setCell ⟨q, k, none⟩ u).ownsRow base e s v n xs := by
  obtain ⟨h1, hr⟩ := h
  refine ⟨h1, ?_⟩
  rcases hr with hr | ⟨g, cap, cur, hv, hg, hh, r⟩
  · exact .inl hr
  · refine .inr ⟨g, cap, cur, hv, hg, (Below.heap_setCell _ _ _ _ (fun e => ?_)).trans hh, r⟩
    have e' : g = q := e
    subst hv
    exact hq (by rw [← e']; rfl)
theorem own_typeM {w : World} {base n s q : Nat} {e t : TypeId} {v : Value} {xs : List Value} {cs : Array Value} {fr : Nat × Nat} (h : w.ownsRow base e s v n xs) (hq : w.heap[q]? = some (.cells cs t fr)) (hne : e ≠ t) : v.ownBlock ≠ some q := fun hv => by
  obtain ⟨_, hr⟩ := h
  rcases hr with ⟨rfl, _⟩ | ⟨g, cap, cur, rfl, hg, hh, r⟩
  · cases hv
  · have hgq : g = q := by injection hv
    subst hgq
    rw [hh] at hq
    injection hq with hq
    injection hq with _ h2
    exact hne h2
/-- .. and the box X of one move, laid when the moves' row was there. -/
structure BoxM (w6 W : World) (B gt n0 T X : Nat) (mv av : Value) (ML : List MoveD) (ts : List Int) (a b c : Int) : Prop where
  movs : MovS w6 W B gt n0 T mv av ML ts
  box : W.heap[X]? = some (.cells #[.int .i64 a, .int .i64 b, .int .i64 c] 42 (0, 0))
  over : ∀ k, mv.ownBlock = some k → k < X
  high : n0 ≤ X
theorem MovS.boxed {w6 wr : World} {B gt n0 T : Nat} {mv av : Value} {ML : List MoveD} {ts : List Int} (h : MovS w6 wr B gt n0 T mv av ML ts) (a b c : Int) : BoxM w6 (wr.alloc (.cells #[.int .i64 a, .int .i64 b, .int .i64 c] 42)) B gt n0 T wr.heap.size mv av ML ts a b c :=
  ⟨h.alloc _, heap_alloc_new _ _, fun k hk => (h.mown.lt k hk).2, h.size⟩
theorem BoxM.next {w6 W w' : World} {B gt n0 T T' X : Nat} {mv av : Value} {ML : List MoveD} {ts : List Int} {a b c : Int} (h : BoxM w6 W B gt n0 T X mv av ML ts a b c) (ht : TapeOk w' B gt T') (hg : W.grownBy w' (some gt)) : BoxM w6 w' B gt n0 T' X mv av ML ts a b c :=
  ⟨h.movs.next ht hg, (hg.block X (block_lt h.box) (fun e => by injection e with e; have := h.movs.low; have := h.high; omega)).trans h.box, h.over, h.high⟩
theorem BoxM.drew {w6 W : World} {B gt n0 T X : Nat} {mv av : Value} {ML : List MoveD} {ts : List Int} {a b c : Int} (h : BoxM w6 W B gt n0 T X mv av ML ts a b c) : BoxM w6 W.drew B gt n0 T X mv av ML ts a b c :=
  ⟨h.movs.drew, h.box, h.over, h.high⟩
theorem BoxM.cell {w6 W : World} {B gt n0 T X : Nat} {mv av : Value} {ML : List MoveD} {ts : List Int} {a b c : Int} (h : BoxM w6 W B gt n0 T X mv av ML ts a b c) : (W.cell? ⟨X, 0, none⟩ = some (.int .i64 a) ∧ W.cell? ⟨X, 1, none⟩ = some (.int .i64 b) ∧ W.cell? ⟨X, 2, none⟩ = some (.int .i64 c)) ∧ W.frozen? ⟨X, 0, none⟩ = false ∧ W.frozen? ⟨X, 1, none⟩ = false ∧ W.frozen? ⟨X, 2, none⟩ = false := by
  have hb := h.box
  refine ⟨⟨?_, ?_, ?_⟩, ?_, ?_, ?_⟩
  · rw [cell_of_row _ _ 0 _ _ _ hb]; rfl
  · rw [cell_of_row _ _ 1 _ _ _ hb]; rfl
  · rw [cell_of_row _ _ 2 _ _ _ hb]; rfl
  all_goals simp [World.frozen?, hb]
theorem BoxM.setK {w6 W : World} {B gt n0 T X k : Nat} {mv av : Value} {ML : List MoveD} {ts : List Int} {a b c a' b' c' v : Int} (h : BoxM w6 W B gt n0 T X mv av ML ts a b c) (he : (#[.int .i64 a, .int .i64 b, .int .i64 c] : Array Value).setIfInBounds k (.int .i64 v) = #[.int .i64 a', .int .i64 b', .int .i64 c']) : BoxM w6 (W.setCell ⟨X, k, none⟩ (.int .i64 v)) B gt n0 T X mv av ML ts a' b' c' := by
  have hXg : X ≠ gt := by have := h.movs.low; have := h.high; omega
  have hXb : ∀ j, j < n0 → j ≠ X := fun j hj => by have := h.high; omega
  have hg : W.grownBy (W.setCell ⟨X, k, none⟩ (.int .i64 v)) (some X) := ⟨rfl, rfl, rfl, by simp [World.setCell], fun j hj hne => Below.heap_setCell _ _ _ _ (fun e => hne (by rw [e]))⟩
  refine ⟨⟨h.movs.tape.grown hg (fun e => hXg (by injection e)) (fun j hj => by injection hj with hj; have := h.movs.bg; have := h.movs.low; have := h.high; omega), h.movs.still.trans ⟨rfl, rfl, rfl, by simp [World.setCell], fun j hj _ => Below.heap_setCell _ _ _ _ (hXb j hj)⟩, own_offM h.movs.mown (fun e => by have := h.over X e; omega), own_offM h.movs.aown (own_typeM h.movs.aown h.box (by decide)), h.movs.low, by have := h.movs.size; simpa [World.setCell] using this, h.movs.bg⟩, ?_, h.over, h.high⟩
  have hb := h.box
  simp [World.setCell, Array.getElem?_modify]
  exact ⟨_, hb, by rw [← he]⟩
theorem own_apartM {w : World} {b1 b2 s1 s2 n1 n2 : Nat} {e1 e2 : TypeId} {v1 v2 : Value} {xs ys : List Value} (h1 : w.ownsRow b1 e1 s1 v1 n1 xs) (h2 : w.ownsRow b2 e2 s2 v2 n2 ys) (hne : e1 ≠ e2) : ∀ q, v2.ownBlock = some q → v1.ownBlock ≠ some q := by
  intro q hq
  obtain ⟨_, hr⟩ := h2
  rcases hr with ⟨rfl, _⟩ | ⟨g, cap, cur, rfl, _, hh, _⟩
  · cases hq
  · injection hq with hq
    subst hq
    exact own_typeM h1 hh hne
theorem MovS.addMove {w6 wr w' : World} {B gt n0 T n : Nat} {mv av mv' : Value} {ML : List MoveD} {ts : List Int} {o : Obj} (m : MoveD) (h : MovS w6 wr B gt n0 T mv av ML ts) (hn : n = ML.length + 1) (ho : w'.ownsRow n0 42 3 mv' n (moveCells ML ++ [Iv m.tok, Iv m.frm, Iv m.dst])) (hg : (wr.alloc o).grownBy w' mv.ownBlock) : MovS w6 w' B gt n0 T mv' av (ML ++ [m]) ts := by
  have h1 := h.alloc o
  refine ⟨h1.tape.grown hg (fun e => by have := (h1.mown.lt gt e).1; have := h.low; omega) (fun j hj => by have := (h1.mown.lt j hj).1; have := h.bg; have := h.low; omega), h1.still.trans ⟨hg.os, hg.tape, hg.output, hg.size, fun k hk _ => hg.block k (by have := h1.size; omega) (fun e => by have := (h1.mown.lt k e.symm).1; omega)⟩, ?_, ownsRow_apart h1.aown h1.mown (by decide) hg, h.low, Nat.le_trans h1.size hg.size, h.bg⟩
  rw [moveCells_append, List.length_append]
  subst hn
  exact ho
theorem MovS.addAt {w6 wr w' : World} {B gt n0 T : Nat} {mv av av' : Value} {ML : List MoveD} {ts : List Int} {o : Obj} {z : Int} (h : MovS w6 wr B gt n0 T mv av ML ts) (ho : w'.ownsRow n0 3 1 av' (ts.length + 1) (ts.map Iv ++ [Iv z])) (hg : (wr.alloc o).grownBy w' av.ownBlock) : MovS w6 w' B gt n0 T mv av' ML (ts ++ [z]) := by
  have h1 := h.alloc o
  refine ⟨h1.tape.grown hg (fun e => by have := (h1.aown.lt gt e).1; have := h.low; omega) (fun j hj => by have := (h1.aown.lt j hj).1; have := h.bg; have := h.low; omega), h1.still.trans ⟨hg.os, hg.tape, hg.output, hg.size, fun k hk _ => hg.block k (by have := h1.size; omega) (fun e => by have := (h1.aown.lt k e.symm).1; omega)⟩, ownsRow_apart h1.mown h1.aown (by decide) hg, ?_, h.low, Nat.le_trans h1.size hg.size, h.bg⟩
  rw [List.map_append, List.length_append]
  exact ho
theorem MovS.setAt {w6 wr : World} {B gt n0 T g n cap i : Nat} {mv : Value} {ML : List MoveD} {ts : List Int} {z : Int} (h : MovS w6 wr B gt n0 T mv (.slice (some ⟨g, 0, none⟩) n cap) ML ts) (hn : n = ts.length) : MovS w6 (wr.setCell ⟨g, i, none⟩ (.int .i64 z)) B gt n0 T mv (.slice (some ⟨g, 0, none⟩) n cap) ML (ts.set i z) := by
  subst hn
  have hl := (h.aown.lt g rfl).1
  have hg : wr.grownBy (wr.setCell ⟨g, i, none⟩ (.int .i64 z)) (some g) := ⟨rfl, rfl, rfl, by simp [World.setCell], fun j hj hne => Below.heap_setCell _ _ _ _ (fun e => hne (by rw [e]))⟩
  refine ⟨h.tape.grown hg (fun e => by injection e with e; have := h.low; omega) (fun j hj => by injection hj with hj; have := h.bg; have := h.low; omega), h.still.trans ⟨rfl, rfl, rfl, by simp [World.setCell], fun j hj _ => Below.heap_setCell _ _ _ _ (fun e => by have e' : j = g := e; omega)⟩, own_offM h.mown (own_apartM h.mown h.aown (by decide) g rfl), ?_, h.low, by have := h.size; simpa [World.setCell] using this, h.bg⟩
  have := own_put (i := i) (v := .int .i64 z) h.aown
  rw [List.length_set, List.map_set]
  exact this
theorem BoxM.addMove {w6 W w' : World} {B gt n0 T X n : Nat} {mv av mv' : Value} {ML : List MoveD} {ts : List Int} {a b c : Int} {o : Obj} (h : BoxM w6 W B gt n0 T X mv av ML ts a b c) (hn : n = ML.length + 1) (ho : w'.ownsRow n0 42 3 mv' n (moveCells ML ++ [Iv a, Iv b, Iv c])) (hg : (W.alloc o).grownBy w' mv.ownBlock) : MovS w6 w' B gt n0 T mv' av (ML ++ [⟨a, b, c⟩]) ts ∧ w'.heap[X]? = some (.cells #[.int .i64 a, .int .i64 b, .int .i64 c] 42 (0, 0)) := by
  refine ⟨h.movs.addMove ⟨a, b, c⟩ hn ho hg, ?_⟩
  have hX := block_lt h.box
  rw [hg.block X (by simp; omega) (fun e => by have := h.over X e.symm; omega)]
  exact ((Below.refl W.heap.size W).alloc (Nat.le_refl _) o).block X hX |>.trans h.box
theorem box_cells {W : World} {X : Nat} {a b c : Int} (h : W.heap[X]? = some (.cells #[.int .i64 a, .int .i64 b, .int .i64 c] 42 (0, 0))) : W.cell? ⟨X, 0, none⟩ = some (.int .i64 a) ∧ W.cell? ⟨X, 1, none⟩ = some (.int .i64 b) ∧ W.cell? ⟨X, 2, none⟩ = some (.int .i64 c) := by
  refine ⟨?_, ?_, ?_⟩
  · rw [cell_of_row _ _ 0 _ _ _ h]; rfl
  · rw [cell_of_row _ _ 1 _ _ _ h]; rfl
  · rw [cell_of_row _ _ 2 _ _ _ h]; rfl
theorem own_capM {w : World} {base n : Nat} {e : TypeId} {v : Value} {xs : List Value} (h : w.ownsRow base e 3 v n xs) : (v = .slice none 0 0 ∧ n = 0) ∨ ∃ g cap, v = .slice (some ⟨g, 0, none⟩) n cap ∧ n ≤ cap ∧ Holds w (some ⟨g, 0, none⟩) xs := by
  obtain ⟨h1, h2⟩ := h
  rcases h2 with ⟨hv, h0⟩ | ⟨g, cap, cur, hv, hb, hg, hnc, hcm, hsz, htk⟩
  · exact .inl ⟨hv, h0⟩
  · refine .inr ⟨g, cap, hv, hnc, .inr ⟨g, 0, rfl, block_lt hg, fun j hj => ?_⟩⟩
    rw [cell_of_row w g _ _ _ _ hg, Nat.zero_add, ← Array.getElem?_toList]
    rw [← List.getElem?_eq_getElem hj]
    have h3 : (cur.toList.take (n * 3))[j]? = xs[j]? := by rw [htk]
    rw [List.getElem?_take, if_pos (by omega)] at h3
    exact h3
/-- What lies in a cell, whatever it is. -/
def cellZ (W : World) (a : Addr) : Value := (W.cell? a).getD (.int .i64 0)
theorem cellZ_some {W : World} {a : Addr} {v : Value} (h : W.cell? a = some v) : W.cell? a = some (cellZ W a) := by unfold cellZ; rw [h]; rfl
end Go.Proofs.Ytfgpenekmokdiaa
namespace Go.Proofs.Ytfgpenekmokdiaa
open Go Go.RowKit Fl

def gK : GraphD := [[1], [2], [0]]
theorem gK_valid : validG gK = true := by decide
theorem gK_pos : posB gK [0, 1] [1, 2] = true := by decide
theorem gK_free : freeL [0, 1] [1, 2] 2 = [1] := by decide
theorem gK_stuck : stuckB gK [0, 1, 2] [1, 2, 0] = true := by decide
theorem gK_near : nearP gK 0 = 0 := by kernel_rfl
theorem gK_fill : fillM gK 0 = [⟨0, -1, 0⟩, ⟨0, 0, 1⟩, ⟨0, 1, 2⟩, ⟨1, -1, 0⟩, ⟨1, 0, 1⟩, ⟨2, -1, 0⟩] := by kernel_rfl
theorem gK_play : playL gK [] (fillM gK 0) = some [2, 1, 0] := by rw [gK_fill]; kernel_rfl
theorem gK_sized : Sized gK := Sized.valid gK_valid
theorem free_k (A A1 A2 : Option Addr) (c c1 c2 : Nat) (W : World) (hr : RowsAt W A gK) (h1 : Holds W A1 ([(0 : Int), 1].map Iv)) (h2 : Holds W A2 ([(1 : Int), 2].map Iv)) :
    Calls Try.prog 13 #[.slice A 3 c, .slice A1 2 c1, .slice A2 2 c2] W fun e w' => ∃ X cx, e = .returned (.tuple #[.slice X 1 cx, .int .i64 0]) ∧ Holds w' X ([(1 : Int)].map Iv) ∧ Below W.heap.size W w' := by
  refine (devFree_c A A1 A2 c c1 c2 gK [0, 1] [1, 2] W hr h1 h2 gK_sized).mono ?_
  rintro e w' ⟨hb, he⟩
  rw [if_pos gK_pos] at he
  obtain ⟨u, rfl, hu⟩ := he
  rw [show ([0, 1] : List Int).length = 2 from rfl, gK_free] at hu
  obtain ⟨X, cx, rfl, hx⟩ := own_is hu
  exact ⟨X, cx, rfl, hx, hb⟩
theorem fill_k (A : Option Addr) (c : Nat) (W : World) (hr : RowsAt W A gK) :
    Calls Try.prog 26 #[.slice A 3 c, .int .i64 0] W fun e w' => ∃ q cx, e = .returned (.tuple #[.slice (some ⟨q, 0, none⟩) 6 cx, .int .i64 0]) ∧ Holds w' (some ⟨q, 0, none⟩) (moveCells (fillM gK 0)) ∧ Below W.heap.size W w' := by
  refine (devFill_c A c 0 gK W hr gK_sized).mono ?_
  rintro e w' ⟨hb, he⟩
  rcases he with ⟨h, _⟩ | ⟨_, h, _⟩ | ⟨_, _, h, _⟩ | ⟨_, _, _, u, rfl, hu⟩
  · rw [gK_valid] at h; cases h
  · exact absurd ⟨Int.le_refl _, by decide⟩ h
  · rw [show (0 : Int).toNat = 0 from rfl, gK_near] at h; cases h
  · rw [show (0 : Int).toNat = 0 from rfl] at hu
    have hl : (fillM gK 0).length = 6 := by rw [gK_fill]; rfl
    rw [hl] at hu
    obtain ⟨_, hr⟩ := hu
    rcases hr with ⟨_, h0⟩ | ⟨q, cap, cur, rfl, hq, hh, hnc, hcm, hcs, hx⟩
    · cases h0
    · refine ⟨q, cap, rfl, .inr ⟨q, 0, rfl, block_lt hh, fun j hj => ?_⟩, hb⟩
      rw [Nat.zero_add, cell_of_row w' q j _ _ _ hh]
      have h2 := congrArg (fun l => l[j]?) hx
      simp only [List.getElem?_eq_getElem hj] at h2
      rw [List.getElem?_take] at h2
      have hm := moveCells_length (fillM gK 0)
      rw [hl] at hm
      rw [if_pos (by omega)] at h2
      simpa using h2
theorem replay_k (A A1 : Option Addr) (c c1 : Nat) (W : World) (hr : RowsAt W A gK) (h1 : Holds W A1 (moveCells (fillM gK 0))) :
    Calls Try.prog 27 #[.slice A 3 c, .slice A1 6 c1] W fun e w' => ∃ X cx, e = .returned (.tuple #[.slice X 3 cx, .int .i64 0]) ∧ Holds w' X ([(2 : Int), 1, 0].map Iv) ∧ Below W.heap.size W w' := by
  have hl : (fillM gK 0).length = 6 := by rw [gK_fill]; rfl
  have h := devReplayT_c A A1 c c1 gK (fillM gK 0) [2, 1, 0] W hr gK_valid h1 (by rw [hl]; decide) gK_play
  rw [hl] at h
  refine h.mono ?_
  rintro e w' ⟨⟨u, rfl, hu⟩, hb⟩
  obtain ⟨X, cx, rfl, hx⟩ := own_is hu
  exact ⟨X, cx, rfl, hx, hb⟩
theorem stuck_k (A A1 A2 : Option Addr) (c c1 c2 : Nat) (W : World) (hr : RowsAt W A gK) (h1 : Holds W A1 ([(0 : Int), 1, 2].map Iv)) (h2 : Holds W A2 ([(1 : Int), 2, 0].map Iv)) :
    Calls Try.prog 19 #[.slice A 3 c, .slice A1 3 c1, .slice A2 3 c2] W fun e w' => e = .returned (.bool true) ∧ Below W.heap.size W w' := by
  have h := devStuck_c A A1 A2 c c1 c2 gK [0, 1, 2] [1, 2, 0] W hr h1 h2 gK_sized
  rw [gK_stuck] at h
  exact h
theorem two_lits (w : World) (n1 n2 : Nat) (c1 c2 : Array Value) (e1 e2 : TypeId) (l1 l2 : List Value) (h1 : n1 = w.heap.size) (h2 : n2 = w.heap.size + 1) (e3 : c1.toList = l1) (e4 : c2.toList = l2) :
    Holds ((w.alloc (.cells c1 e1)).alloc (.cells c2 e2)) (some ⟨n1, 0, none⟩) l1 ∧ Holds ((w.alloc (.cells c1 e1)).alloc (.cells c2 e2)) (some ⟨n2, 0, none⟩) l2 ∧ Below w.heap.size w ((w.alloc (.cells c1 e1)).alloc (.cells c2 e2)) :=
  ⟨(lit_holds w n1 c1 e1 l1 h1 e3).keep (below_alloc _ _), lit_holds (w.alloc (.cells c1 e1)) n2 c2 e2 l2 (by simp [h2]) e4, (below_alloc w _).trans ((below_alloc _ _).mono (by simp))⟩
set_option maxRecDepth 100000 in
set_option maxHeartbeats 8000000 in
theorem known12_c (w : World) : Calls Try.prog 10 #[] w fun e w' => e = .returned (.bool true) ∧ Below w.heap.size w w' := by
  go_enter Try.func10, Try.ntmps10
  go_wp2_with fail
  have HR1 := Lib.hid (rows3 w w.heap.size #[.int .i64 1] #[.int .i64 2] #[.int .i64 0] [1] [2] [0] 1 1 1 3 3 3 23 rfl rfl rfl rfl rfl rfl rfl)
  have HW1 := Lib.hid (below_alloc4 w (.cells #[.int .i64 1] 3) (.cells #[.int .i64 2] 3) (.cells #[.int .i64 0] 3) (.cells #[.slice (some ⟨w.heap.size, 0, none⟩) 1 1, .slice (some ⟨w.heap.size + 1, 0, none⟩) 1 1, .slice (some ⟨w.heap.size + 1 + 1, 0, none⟩) 1 1] 23))
  have hs4 : ((((w.alloc (.cells #[.int .i64 1] 3)).alloc (.cells #[.int .i64 2] 3)).alloc (.cells #[.int .i64 0] 3)).alloc (.cells #[.slice (some ⟨w.heap.size, 0, none⟩) 1 1, .slice (some ⟨w.heap.size + 1, 0, none⟩) 1 1, .slice (some ⟨w.heap.size + 1 + 1, 0, none⟩) 1 1] 23)).heap.size = w.heap.size + 1 + 1 + 1 + 1 := by simp
  generalize (((w.alloc (.cells #[.int .i64 1] 3)).alloc (.cells #[.int .i64 2] 3)).alloc (.cells #[.int .i64 0] 3)).alloc (.cells #[.slice (some ⟨w.heap.size, 0, none⟩) 1 1, .slice (some ⟨w.heap.size + 1, 0, none⟩) 1 1, .slice (some ⟨w.heap.size + 1 + 1, 0, none⟩) 1 1] 23) = w4 at *
  obtain ⟨h1, h2, hb4⟩ := two_lits w4 (w.heap.size + 1 + 1 + 1 + 1) (w.heap.size + 1 + 1 + 1 + 1 + 1) #[.int .i64 0, .int .i64 1] #[.int .i64 1, .int .i64 2] 3 3 ([(0 : Int), 1].map Iv) ([(1 : Int), 2].map Iv) hs4.symm (by rw [hs4]) rfl rfl
  refine (free_k _ _ _ 3 2 2 _ (HR1.out.keep hb4) h1 h2).mono ?_
  rintro e w5 ⟨X, cx, rfl, hx, hb5⟩
  have hb45 := hb4.trans (hb5.mono hb4.size)
  have HR5 := Lib.hid (HR1.out.keep hb45)
  have HB5 := Lib.hid (HW1.out.trans (hb45.mono HW1.out.size))
  have HX5 := Lib.hid hx
  clear h1 h2 hb4 hb5 hb45 hx HR1 HW1 hs4
  go_wp2_with fail
  refine (fill_k _ 3 _ HR5.out).mono ?_
  rintro e w6 ⟨q, cq, rfl, hm, hb6⟩
  have HR6 := Lib.hid (HR5.out.keep hb6)
  have HB6 := Lib.hid (HB5.out.trans (hb6.mono HB5.out.size))
  have HX6 := Lib.hid (HX5.out.keep hb6)
  have HM6 := Lib.hid hm
  clear hb6 hm HR5 HB5 HX5
  clear w4 w5
  go_wp2_with fail
  refine (replay_k _ _ 3 cq _ HR6.out HM6.out).mono ?_
  rintro e w7 ⟨Y, cy, rfl, hy, hb7⟩
  have HR7 := Lib.hid (HR6.out.keep hb7)
  have HB7 := Lib.hid (HB6.out.trans (hb7.mono HB6.out.size))
  have HX7 := Lib.hid (HX6.out.keep hb7)
  have HM7 := Lib.hid (HM6.out.keep hb7)
  have HY7 := Lib.hid hy
  clear hb7 hy HR6 HB6 HX6 HM6
  clear w6
  go_wp2_with fail
  refine (sameIntsE_c X (some ⟨w7.heap.size, 0, none⟩) cx 1 [1] _ (HX7.out.keep (below_alloc _ _)) (lit_holds _ _ #[.int .i64 1] _ _ rfl rfl) (by decide)).mono ?_
  rintro e w8 ⟨rfl, n8, rfl⟩
  have hb8 := below_drewN (below_alloc w7 (.cells #[.int .i64 1] 3)) n8
  have HR8 := Lib.hid (HR7.out.keep hb8)
  have HB8 := Lib.hid (HB7.out.trans (hb8.mono HB7.out.size))
  have HM8 := Lib.hid (HM7.out.keep hb8)
  have HY8 := Lib.hid (HY7.out.keep hb8)
  clear hb8 HR7 HB7 HX7 HM7 HY7
  generalize (w7.alloc (.cells #[.int .i64 1] 3)).drewN n8 = w8 at *
  have hl6 : (fillM gK 0).length = 6 := by rw [gK_fill]; rfl
  have hml := moveCells_length (fillM gK 0)
  rw [hl6] at hml
  obtain ⟨_, _, hA, _, hc⟩ := HM8.out.at_ (by rw [hml]; decide)
  injection hA with hA
  injection hA with q1 q2
  subst q1 q2
  have e3 : w8.cell? ⟨q, 3, none⟩ = some (.int .i64 0) := by
    have h := hc 3 (by rw [hml]; decide)
    rw [Nat.zero_add] at h
    rw [h]
    have h2 : (moveCells (fillM gK 0))[3]? = some (Iv 0) := by rw [gK_fill]; rfl
    rwa [List.getElem?_eq_getElem (by rw [hml]; decide)] at h2
  have e4 : w8.cell? ⟨q, 4, none⟩ = some (.int .i64 0) := by
    have h := hc 4 (by rw [hml]; decide)
    rw [Nat.zero_add] at h
    rw [h]
    have h2 : (moveCells (fillM gK 0))[4]? = some (Iv 0) := by rw [gK_fill]; rfl
    rwa [List.getElem?_eq_getElem (by rw [hml]; decide)] at h2
  have e5 : w8.cell? ⟨q, 5, none⟩ = some (.int .i64 1) := by
    have h := hc 5 (by rw [hml]; decide)
    rw [Nat.zero_add] at h
    rw [h]
    have h2 : (moveCells (fillM gK 0))[5]? = some (Iv 1) := by rw [gK_fill]; rfl
    rwa [List.getElem?_eq_getElem (by rw [hml]; decide)] at h2
  clear hc hml hl6 HM8
  go_wp2_with fail
  refine (sameIntsE_c Y (some ⟨w8.heap.size, 0, none⟩) cy 3 [2, 1, 0] _ (HY8.out.keep (below_alloc _ _)) (lit_holds _ _ #[.int .i64 2, .int .i64 1, .int .i64 0] _ _ rfl rfl) (by decide)).mono ?_
  rintro e w9 ⟨rfl, n9, rfl⟩
  have hb9 := below_drewN (below_alloc w8 (.cells #[.int .i64 2, .int .i64 1, .int .i64 0] 3)) n9
  have HR9 := Lib.hid (HR8.out.keep hb9)
  have HB9 := Lib.hid (HB8.out.trans (hb9.mono HB8.out.size))
  clear hb9 HR8 HB8 HY8 e3 e4 e5
  generalize (w8.alloc (.cells #[.int .i64 2, .int .i64 1, .int .i64 0] 3)).drewN n9 = w9 at *
  go_wp2_with fail
  obtain ⟨h1, h2, hb10⟩ := two_lits w9 w9.heap.size (w9.heap.size + 1) #[.int .i64 0, .int .i64 1, .int .i64 2] #[.int .i64 1, .int .i64 2, .int .i64 0] 3 3 ([(0 : Int), 1, 2].map Iv) ([(1 : Int), 2, 0].map Iv) rfl rfl rfl rfl
  refine (stuck_k _ _ _ 3 3 3 _ (HR9.out.keep hb10) h1 h2).mono ?_
  rintro e w11 ⟨rfl, hb11⟩
  have HB11 := Lib.hid (HB9.out.trans ((hb10.trans (hb11.mono hb10.size)).mono HB9.out.size))
  clear h1 h2 hb10 hb11 HR9 HB9
  go_wp2
  go_ret
  exact ⟨rfl, HB11.out⟩
end Go.Proofs.Ytfgpenekmokdiaa
namespace Go.Proofs.Ytfgpenekmokdiaa
open Go Go.RowKit Fl

theorem rows_of {w : World} {base c : Nat} {A : Option Addr} {g : GraphD} (h : RowsOwn w base (.slice A g.length c) g) : RowsAt w A g := by
  obtain ⟨A2, c2, h1, h2⟩ := h.at_
  injection h1 with h1
  subst h1
  exact h2
set_option maxRecDepth 100000 in
set_option maxHeartbeats 8000000 in
theorem tokenBelow_c (hK : DevKnown12) (hG : DevGirth) (hF : DevFreeT) (hS : DevStuckT) (C : Option Addr) (k : Nat) (zs : List Int) (w : World) (hz : IntsAt w w.heap.size C zs) (hzl : zs.length ≤ maxLen) :
    Calls Try.prog 5 #[.slice C zs.length k] w fun e w' => e = .returned (.bool true) ∧ Below w.heap.size w w' := by
  have CK := Lib.hid (hK w)
  have HZ := Lib.hid hz
  have HL := Lib.hid hzl
  have HG := Lib.hid hG
  have hF := Lib.hid hF
  have hS := Lib.hid hS
  clear hK hz hzl hG
  go_enter Try.func5, Try.ntmps5
  go_wp2_with fail
  refine CK.out.mono ?_
  rintro e w1 ⟨rfl, hb1⟩
  have ht := tape_new (c := k) HZ.out (Nat.le_refl _) hb1 HL.out
  have hb2 : Below w.heap.size w (w1.alloc (.cells #[.slice C zs.length k, .int .i64 0] 27)) := hb1.alloc hb1.size _
  have HT2 := Lib.hid ht
  have hgB : w.heap.size ≤ w1.heap.size := hb1.size
  have HB2 := Lib.hid hb2
  have hsz2 : w1.heap.size < (w1.alloc (.cells #[.slice C zs.length k, .int .i64 0] 27)).heap.size := by simp
  clear hb1 ht hb2 CK HZ HL
  go_wp2_with fail
  refine (graph_c w.heap.size w1.heap.size _ 10 _ HT2.out (by omega) (by omega) hsz2).mono ?_
  rintro e w3 ⟨gv, g, rfl, hgl, hok, hown3, ht3, hst3⟩
  obtain ⟨A, c, rfl, _⟩ := hown3.at_
  have HV := Lib.hid (hok.valid (by omega))
  have HT3 := Lib.hid ht3
  have HO3 := Lib.hid hown3
  have HB3 := Lib.hid (HB2.out.trans (hst3.below HB2.out.size hgB))
  have hsz3 := Nat.lt_of_lt_of_le hsz2 hst3.size
  generalize w1.alloc (.cells #[.slice C zs.length k, .int .i64 0] 27) = w2 at *
  generalize w1.heap.size = gt at *
  clear hok ht3 hown3 hst3 HT2 HB2
  have hlow : gt < w2.heap.size := hsz2
  go_wp2_with (refine make_any _ rfl _ _ 50 4 (.bool false) 1 Try.underlying50 Try.infoBoolS rfl (by decide) rfl .i64 .i64 _ _ g.length rfl rfl rfl rfl (by omega) ?_)
  intro wM ownM hbM
  have HRM : Hid (RowsAt wM A g) := Lib.hid (rows_of (HO3.out.keep hbM))
  have HSM : Hid (Holds wM (some ⟨w3.heap.size, 0, none⟩) ((opensT g.length).map Bo)) := Lib.hid (by
    obtain ⟨A2, c2, h1, h2⟩ := own_is ownM
    injection h1 with h1
    subst h1
    unfold opensT
    rw [List.map_replicate]
    exact h2)
  have HBM := Lib.hid hbM
  clear ownM hbM
  go_wp2_with fail
  refine (girth_ok HG.out HRM.out HSM.out HV.out rfl (opens_len _)).mono ?_
  rintro e w4 ⟨X, cx, hcx, rfl, hx4, hb4⟩
  have HX4 := Lib.hid hx4
  have hbMi : Below w3.heap.size w3 w4 := HBM.out.trans (hb4.mono HBM.out.size)
  have HM4 := Lib.hid hbMi
  clear hbMi hb4 hx4 HRM HSM HBM
  have HO4 := Lib.hid (HO3.out.keep HM4.out)
  have HT4 := Lib.hid (HT3.out.keep HM4.out)
  have HB4 := Lib.hid (HB3.out.trans (HM4.out.mono HB3.out.size))
  have hsz4 : gt < w4.heap.size := Nat.lt_of_lt_of_le hsz3 HM4.out.size
  clear HO3 HT3 HB3 HM4 HX4
  go_wp2_with fail
  refine (position_any w.heap.size gt _ 9 _ A c g w4 HT4.out (by omega) (by omega) hsz4 HV.out (by omega) HO4.out hlow).mono ?_
  rintro e w5 ⟨v1, v2, ts, ws, rfl, hrows, hpos, hts, ht5, hst5⟩
  obtain ⟨A1, c1, rfl, hc1, hh1⟩ := own_cap hrows.one
  obtain ⟨A2, c2, rfl, hc2, hh2⟩ := own_cap hrows.two
  have H1 := Lib.hid hh1
  have H2 := Lib.hid hh2
  have HP := Lib.hid hpos
  have HR5 := Lib.hid (rows_of (HO4.out.but hst5.asGrown hlow))
  have HB5 := Lib.hid (HB4.out.trans (hst5.below HB4.out.size hgB))
  have hts9 : ts.length ≤ 9 := hts
  have hws9 : ws.length ≤ 9 := by have := hpos.len; omega
  clear hrows hpos hts ht5 hst5 hh1 hh2 HO4 HT4 HB4
  generalize hgl0 : (girF g (opensT g.length)).length = n at *
  have HN := Lib.hid hgl0
  clear hgl0
  go_wp2
  go_loop [10] (fun i => ∃ j : Nat, i = .int .i64 j ∧ j ≤ ws.length ∧ Hid (∀ q (h : q < ws.length), q < j → 0 ≤ ws[q])) (fun i => ws.length - (intOf i).toNat)
  case atStart => exact ⟨0, rfl, Nat.zero_le _, Lib.hid (fun q _ h => by omega)⟩
  case round =>
    obtain ⟨j, rfl, hj, HJ⟩ := hrel
    by_cases hlt : j < ws.length
    · obtain ⟨b2, o2, rfl, e2⟩ := H2.out.iv hlt
      by_cases hy : ws[j] < 0
      · clear HJ
        generalize ws[j] = y at *
        go_wp2
        go_ret
        exact ⟨rfl, HB5.out⟩
      · have HJ2 : Hid (∀ q (h : q < ws.length), q < j + 1 → 0 ≤ ws[q]) := Lib.hid (fun q h hq => by
          rcases Nat.lt_succ_iff_lt_or_eq.1 hq with h3 | rfl
          · exact HJ.out q h h3
          · omega)
        clear HJ
        generalize ws[j] = y at *
        go_wp2
        go_round
        case rel => exact ⟨j + 1, by go_num, by omega, HJ2⟩
        case measure => simp [intOf]; omega
    · have HW : Hid (∀ q (h : q < ws.length), 0 ≤ ws[q]) := Lib.hid (fun q h => HJ.out q h (by omega))
      clear HJ
      by_cases h0 : ts.length = 0
      · obtain rfl : ts = [] := List.eq_nil_of_length_eq_zero h0
        clear h0
        go_wp2
        go_ret
        exact ⟨rfl, HB5.out⟩
      · have hz : ((ts.length : Int) == 0) = false := by rw [beq_eq_false_iff_ne]; omega
        have hz2 : ¬ ts.length = 0 := h0
        by_cases hn : 0 < n ∧ n ≤ ts.length
        · obtain ⟨hn1, hn2⟩ := hn
          go_wp2
          go_ret
          exact ⟨rfl, HB5.out⟩
        · have HF := Lib.hid (free_below HP.out (opens_open g.length) HW.out (by omega) (by rw [HN.out]; omega))
          have CF := Lib.hid (hF.out A A1 A2 c c1 c2 g ts ws w5 HR5.out H1.out H2.out HP.out hc1 hc2)
          have HFl := Lib.hid (freeL_len ts ws ts.length)
          have HSt : Hid (stuckB g ts ws = false) := Lib.hid (by
            unfold stuckB
            rw [decide_eq_false (fun h => HF.out (List.eq_nil_of_length_eq_zero h)), Bool.and_false, Bool.false_and])
          have hfp : 0 < (freeL ts ws ts.length).length := List.length_pos_iff.2 HF.out
          clear HF HW
          generalize freeL ts ws ts.length = fr at *
          have hn3 : ¬ (0 < n) ∨ ¬ (n ≤ ts.length) := by omega
          rcases hn3 with hn3 | hn3
          all_goals
            go_wp2_with fail
            refine CF.out.mono ?_
            rintro e w6 ⟨⟨u, rfl, hu⟩, hb6⟩
            obtain ⟨A6, c6, rfl, _⟩ := own_is hu
            have HB6 := Lib.hid (HB5.out.trans (hb6.mono HB5.out.size))
            have CS := Lib.hid (hS.out A A1 A2 c c1 c2 g ts ws w6 (HR5.out.keep hb6) (H1.out.keep hb6) (H2.out.keep hb6) HP.out hc1 hc2)
            rw [HSt.out] at CS
            clear hu hb6
            generalize fr.length = fl at *
            go_wp2_with fail
            refine CS.out.mono ?_
            rintro e w7 ⟨rfl, hb7⟩
            have HB7 := Lib.hid (HB6.out.trans (hb7.mono HB6.out.size))
            clear hb7
            go_wp2
            go_ret
            exact ⟨rfl, HB7.out⟩
end Go.Proofs.Ytfgpenekmokdiaa
