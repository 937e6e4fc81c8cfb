/- What valid networks and their boxes give: bounds, rows of marks, boxes that are written. -/
import Derived.Test.YtpdjcccpohnmcaaDoorNtValid
import Derived.Test.YtpdjcccpohnmcaaDoorNtSlots
import Derived.Test.YtpdjcccpohnmcaaDoorGrSpec
import Derived.Test.YtpdjcccpohnmcaaDoorLitTab
import Derived.Deep.OwnRows
namespace Go.Proofs.YtpdjcccpohnmcaaDoor
open Go Go.RowKit Fl

theorem Tryd.infoBoolG : (Tryd.prog.info? 4).map (fun i => (i.zero, i.size, i.bytes)) = some (some (.bool false), 1, 1) := by kernel_rfl
/-- n open marks. -/
def opens (n : Nat) : List Bool := List.replicate n false
def capN (g : Nat) (sl : Int) : Int := if 0 < g then min ((g : Int) - 1) sl else sl
def girN (N : NetD) : List Int := girF N.next (opens N.blocks.length)
def slotsN (N : NetD) : Int := openSum (opens (cellsN N).toNat) N.spurs N.spurs.length
/-- What Fleet returns. -/
def FleetPost (w : World) (N : NetD) (e : Ending) (w' : World) : Prop :=
  ∃ v, e = .returned (.tuple #[.agg #[Iv (girN N).length, v, Iv (slotsN N), Iv (capN (girN N).length (slotsN N))], .int .i64 0]) ∧ w'.ownsRow w.heap.size 3 1 v (girN N).length ((girN N).map Iv) ∧ Below w.heap.size w w'
theorem make_bools (n : Nat) (hn : n ≤ 1000000) (w : World) : (Instr.makeSlice 30 (.int .i64 (n : Int)) (.int .i64 (n : Int))).run Tryd.prog w = .ok (.slice (some ⟨w.heap.size, 0, none⟩) n n) (w.alloc (.cells (madeCells #[.bool false] n) 4)) :=
  run_make_row' 30 4 (.bool false) 1 Tryd.underlying30 Tryd.infoBoolG rfl .i64 .i64 n (by omega) (by omega) w
theorem made_bools (n : Nat) : (madeCells #[(.bool false : Value)] n).toList = (opens n).map Bo := by
  simp [madeCells, opens, Nat.mod_one, List.map_const']
theorem holds_row {w : World} {F : Nat} {cs : Array Value} {t : TypeId} {xs : List Value} (h : w.heap[F]? = some (.cells cs t (0, 0))) (hx : cs.toList = xs) : Holds w (some ⟨F, 0, none⟩) xs := by
  refine .inr ⟨F, 0, rfl, block_lt h, fun j hj => ?_⟩
  rw [cell_of_row w F _ _ _ _ h, Nat.zero_add, ← Array.getElem?_toList, hx]
  exact List.getElem?_eq_getElem hj
/-- What is known of a valid network's spurs' cells. -/
theorem NetOk.spurIn {N : NetD} (h : NetOk N) : ∀ x ∈ N.spurs, SpurIn (cellsN N).toNat x := fun x hx => by
  obtain ⟨k, hk, rfl⟩ := List.mem_iff_getElem.1 hx
  have h1 := h.spurOk _ hx
  have hb := h.bases k hk
  have hs : ∀ s ∈ N.spurs, 0 ≤ s.slots ∧ s.slots ≤ 4 := fun s hs => by have := (h.spurOk s hs).slots; omega
  have b1 := slotsK_bounds hs k (by omega)
  have b2 := slotsK_succ hk
  have mono : ∀ m, k + 1 ≤ m → m ≤ N.spurs.length → slotsK N.spurs (k + 1) ≤ slotsK N.spurs m := fun m => by
    induction m with
    | zero => intro h; omega
    | succ m ih =>
      intro h1 h2
      rcases Nat.lt_or_ge k m with h3 | h3
      · have := ih (by omega) (by omega)
        have h4 := slotsK_succ (l := N.spurs) (k := m) (by omega)
        have := (hs _ (List.getElem_mem (show m < N.spurs.length by omega))).1
        omega
      · have : m = k := by omega
        subst this; exact Int.le_refl _
  have b3 := mono N.spurs.length (by omega) (Nat.le_refl _)
  have hc : cellsN N = N.blocks.length + slotsK N.spurs N.spurs.length := rfl
  obtain ⟨⟨i0, i1⟩, ⟨o0, o1⟩, s0, s1⟩ := h1
  constructor <;> omega
theorem NetOk.few' {N : NetD} (h : NetOk N) : fewSlots N := ⟨h.few, h.spurs6, fun s hs => by have := (h.spurOk s hs).slots; omega⟩
theorem cellsN_le {N : NetD} (h : fewSlots N) : 0 ≤ cellsN N ∧ cellsN N ≤ 48 := by
  obtain ⟨h1, h2, h3⟩ := h
  have := slotsK_bounds h3 N.spurs.length (Nat.le_refl _)
  unfold cellsN
  omega
theorem openSum_bounds {s : List Bool} {l : List SpurD} (h : ∀ x ∈ l, 0 ≤ x.slots ∧ x.slots ≤ 4) : ∀ k, k ≤ l.length → 0 ≤ openSum s l k ∧ openSum s l k ≤ 4 * k
  | 0, _ => by simp [openSum]
  | k + 1, hk => by
    have ih := openSum_bounds (s := s) h k (by omega)
    have := h _ (List.getElem_mem (show k < l.length by omega))
    rw [openSum_succ (by omega)]
    split <;> omega
theorem own_other {w w' : World} {base X : Nat} {e t : TypeId} {size n : Nat} {v : Value} {xs : List Value} {cs : Array Value} {fz : Nat × Nat} (h : w.ownsRow base e size v n xs) (hX : w.heap[X]? = some (.cells cs t fz)) (ht : e ≠ t) (hw : ∀ b, b ≠ X → w'.heap[b]? = w.heap[b]?) : w'.ownsRow base e size v n xs := by
  obtain ⟨h1, hr⟩ := h
  refine ⟨h1, ?_⟩
  rcases hr with hr | ⟨g, cap, cur, hv, hgb, hh, hrest⟩
  · exact .inl hr
  · refine .inr ⟨g, cap, cur, hv, hgb, (hw g (fun e1 => ?_)).trans hh, hrest⟩
    subst e1
    rw [hh] at hX
    injection hX with hX
    injection hX with _ h2
    exact ht h2
theorem set1_at {w : World} {X i : Nat} {cs : Array Value} {v : Value} {t : TypeId} (h : w.heap[X]? = some (.cells cs t (0, 0))) : (w.setCell ⟨X, i, none⟩ v).heap[X]? = some (.cells (cs.setIfInBounds i v) t (0, 0)) := by
  rw [setCell_eq_setRow w X i cs t (0, 0) v h]
  exact setRow_heap _ _ _ _ _ _ h
theorem below_push {a b : World} (h : Below a.heap.size a b) (o : Obj) : Below a.heap.size a (b.alloc o) := h.alloc h.size o
theorem set4_at {W : World} {g : Nat} {a0 a1 a2 a3 v0 v1 v2 v3 : Value} {t : TypeId} (h : W.heap[g]? = some (.cells #[a0, a1, a2, a3] t (0, 0))) : ((((W.setCell ⟨g, 0, none⟩ v0).setCell ⟨g, 1, none⟩ v1).setCell ⟨g, 2, none⟩ v2).setCell ⟨g, 3, none⟩ v3).heap[g]? = some (.cells #[v0, v1, v2, v3] t (0, 0)) := by
  have step : ∀ (W : World) (cs : Array Value) (i : Nat) (v : Value), W.heap[g]? = some (.cells cs t (0, 0)) → (W.setCell ⟨g, i, none⟩ v).heap[g]? = some (.cells (cs.setIfInBounds i v) t (0, 0)) := fun W cs i v h => by
    rw [setCell_eq_setRow W g i cs t (0, 0) v h]
    exact setRow_heap _ _ _ _ _ _ h
  exact step _ _ 3 v3 (step _ _ 2 v2 (step _ _ 1 v1 (step _ _ 0 v0 h)))
theorem heap_set4 {W : World} {g k : Nat} {v0 v1 v2 v3 : Value} (h : k ≠ g) : ((((W.setCell ⟨g, 0, none⟩ v0).setCell ⟨g, 1, none⟩ v1).setCell ⟨g, 2, none⟩ v2).setCell ⟨g, 3, none⟩ v3).heap[k]? = W.heap[k]? := by
  rw [Below.heap_setCell _ _ _ _ h, Below.heap_setCell _ _ _ _ h, Below.heap_setCell _ _ _ _ h, Below.heap_setCell _ _ _ _ h]
theorem below_set4 {B : Nat} {a W : World} {g : Nat} {v0 v1 v2 v3 : Value} (h : Below B a W) (hg : B ≤ g) : Below B a ((((W.setCell ⟨g, 0, none⟩ v0).setCell ⟨g, 1, none⟩ v1).setCell ⟨g, 2, none⟩ v2).setCell ⟨g, 3, none⟩ v3) :=
  below_put (below_put (below_put (below_put h hg) hg) hg) hg
theorem row4_c {w : World} {X : Nat} {a b c d : Value} {t : TypeId} (h : w.heap[X]? = some (.cells #[a, b, c, d] t (0, 0))) : w.cell? ⟨X, 0, none⟩ = some a ∧ w.cell? ⟨X, 1, none⟩ = some b ∧ w.cell? ⟨X, 2, none⟩ = some c ∧ w.cell? ⟨X, 3, none⟩ = some d ∧ w.frozen? ⟨X, 0, none⟩ = false ∧ w.frozen? ⟨X, 1, none⟩ = false ∧ w.frozen? ⟨X, 2, none⟩ = false ∧ w.frozen? ⟨X, 3, none⟩ = false :=
  ⟨by rw [cell_of_row w X 0 _ _ _ h]; rfl, by rw [cell_of_row w X 1 _ _ _ h]; rfl, by rw [cell_of_row w X 2 _ _ _ h]; rfl, by rw [cell_of_row w X 3 _ _ _ h]; rfl, by simp [World.frozen?, h], by simp [World.frozen?, h], by simp [World.frozen?, h], by simp [World.frozen?, h]⟩
theorem box8 {w : World} {b : Nat} {Ab An As Ar : Option Addr} {cb cn cs cr : Nat} {N : NetD} (h : BoxAt w b Ab An As Ar cb cn cs cr N) : w.cell? ⟨b, 0, none⟩ = some (.slice Ab N.blocks.length cb) ∧ w.cell? ⟨b, 1, none⟩ = some (.slice An N.next.length cn) ∧ w.cell? ⟨b, 2, none⟩ = some (.slice As N.spurs.length cs) ∧ w.cell? ⟨b, 3, none⟩ = some (.slice Ar N.robots.length cr) ∧ w.cell? ⟨b, 4, none⟩ = some (Iv N.queue) ∧ w.cell? ⟨b, 5, none⟩ = some (Iv N.aging) ∧ w.cell? ⟨b, 6, none⟩ = some (Iv N.detours) ∧ w.cell? ⟨b, 7, none⟩ = some (Iv N.patience) :=
  ⟨h.c0, h.c1, h.c2, h.c3, h.c4, h.c5, h.c6, h.c7⟩
abbrev zeroCap : Array Value := #[.int .i64 0, .slice none 0 0, .int .i64 0, .int .i64 0]
theorem fleet_ret {W : World} {g : Nat} (cs : Array Value) (h : W.heap[g]? = some (.cells cs 78 (0, 0))) (hcs : cs.size = 4) (k : Value) (tmps : Array Value) (hp : tmps.getD 2 undef = .pointer (some ⟨g, 0, none⟩)) (hk : tmps.getD 3 undef = k) :
    (results Tryd.f45 tmps).run Tryd.prog W = .ok (.tuple #[.agg cs, k]) W := by
  subst hk
  exact results_cell_tmp rfl _ _ g 78 cs (0, 0) _ hp h Tryd.underlying78 rfl (by rw [hcs]; kernel_rfl)
end Go.Proofs.YtpdjcccpohnmcaaDoor
