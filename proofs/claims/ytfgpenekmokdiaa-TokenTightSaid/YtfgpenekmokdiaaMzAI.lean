/- Joined texts. -/
import Derived.Test.YtfgpenekmokdiaaMzAH
import Derived.Test.YtfgpenekmokdiaaMzAD
import Derived.Deep.LoopGhost
import Derived.Test.YtfgpenekmokdiaaMzAG
import Derived.Test.YtfgpenekmokdiaaMzAC
import Derived.Test.YtfgpenekmokdiaaMzAE
import Derived.Test.YtfgpenekmokdiaaMzAB
namespace Go.Proofs.Ytfgpenekmokdiaa
open Go Go.RowKit Fl

open Classical in
noncomputable def ordL (g : GraphD) (s : List Bool) : List Int := if chkG g s.length = 0 then orderL g s else []
/-- The least candidate from j on. -/
def BestRel (g : GraphD) (s : List Bool) (L : List Int) (j : Nat) (z : Int) : Prop :=
  (z = -1 ∧ ∀ u, j ≤ u → u < g.length → cand g s L u = false) ∨ ∃ a : Nat, z = a ∧ a < g.length ∧ cand g s L a = true ∧ ∀ u, j ≤ u → u < a → cand g s L u = false
theorem BestRel.start (g : GraphD) (s : List Bool) (L : List Int) : BestRel g s L g.length (-1) := .inl ⟨rfl, fun u h1 h2 => by omega⟩
theorem BestRel.no {g : GraphD} {s : List Bool} {L : List Int} {j : Nat} {z : Int} (h : BestRel g s L (j + 1) z) (hc : cand g s L j = false) : BestRel g s L j z := by
  rcases h with ⟨h1, h2⟩ | ⟨a, h1, h2, h3, h4⟩
  · refine .inl ⟨h1, fun u hu hn => ?_⟩
    rcases Nat.eq_or_lt_of_le hu with rfl | h
    · exact hc
    · exact h2 u h hn
  · refine .inr ⟨a, h1, h2, h3, fun u hu hn => ?_⟩
    rcases Nat.eq_or_lt_of_le hu with rfl | h
    · exact hc
    · exact h4 u h hn
theorem BestRel.yes {g : GraphD} {s : List Bool} {L : List Int} {j : Nat} (hj : j < g.length) (hc : cand g s L j = true) : BestRel g s L j j := .inr ⟨j, rfl, hj, hc, fun u h1 h2 => by omega⟩
theorem BestRel.low {g : GraphD} {s : List Bool} {L : List Int} {j : Nat} {z : Int} (h : BestRel g s L j z) : -1 ≤ z ∧ z < 1000 + g.length := by
  rcases h with ⟨h1, _⟩ | ⟨a, h1, h2, _⟩ <;> omega
theorem BestRel.best {g : GraphD} {s : List Bool} {L : List Int} {z : Int} (h : BestRel g s L 0 z) : (z = -1 ∧ best g s L = none) ∨ ∃ a : Nat, z = a ∧ best g s L = some a := by
  rcases h with ⟨h1, h2⟩ | ⟨a, h1, h2, h3, h4⟩
  · refine .inl ⟨h1, ?_⟩
    rcases e : Fl.best g s L with _ | k
    · rfl
    · obtain ⟨h3, h4⟩ := best_some e
      rw [h2 k (Nat.zero_le _) h3] at h4
      cases h4
  · exact .inr ⟨a, h1, leastF_is h2 h3 fun j hj => h4 j (Nat.zero_le _) hj⟩
theorem cand_no1 {g : GraphD} {s : List Bool} {L : List Int} {v : Nat} (h : nameOf g s v ≠ v) : cand g s L v = false := by
  rcases e : cand g s L v with _ | _
  · rfl
  · exact absurd (cand_iff.1 e).1 h
theorem cand_no2 {g : GraphD} {s : List Bool} {L : List Int} {v : Nat} (h : (v : Int) ∈ L) : cand g s L v = false := by
  rcases e : cand g s L v with _ | _
  · rfl
  · exact absurd h (cand_iff.1 e).2.1
/-- None of the names before k that are left leads to v. -/
def NoneTo (g : GraphD) (s : List Bool) (L : List Int) (v k : Nat) : Prop := ∀ u : Nat, u < k → nameOf g s u = u → u ≠ v → (u : Int) ∉ L → ¬ PathG g s u v
theorem NoneTo.skip {g : GraphD} {s : List Bool} {L : List Int} {v k : Nat} {b : Bool} (h : b = true ↔ NoneTo g s L v k) (hn : nameOf g s k = k → k ≠ v → (k : Int) ∉ L → ¬ PathG g s k v) : b = true ↔ NoneTo g s L v (k + 1) := by
  rw [h]
  constructor
  · intro h u hu
    rcases Nat.lt_succ_iff_lt_or_eq.1 hu with h1 | rfl
    · exact h u h1
    · exact hn
  · exact fun h u hu => h u (by omega)
theorem NoneTo.hit {g : GraphD} {s : List Bool} {L : List Int} {v k : Nat} (h1 : nameOf g s k = k) (h2 : k ≠ v) (h3 : (k : Int) ∉ L) (h4 : PathG g s k v) : false = true ↔ NoneTo g s L v (k + 1) :=
  ⟨fun h => by (cases h), fun h => absurd h4 (h k (by omega) h1 h2 h3)⟩
theorem ints_in {w : World} {b o k : Nat} {l : List Int} (h : Holds w (some ⟨b, o, none⟩) (l.map Iv)) (hk : k < l.length) : w.cell? ⟨b, o + k, none⟩ = some (.int .i64 l[k]) := by
  obtain ⟨b', o', hA, h1⟩ := h.iv hk
  injection hA with hA
  injection hA with e1 e2
  subst e1 e2
  exact h1
end Go.Proofs.Ytfgpenekmokdiaa
namespace Go.Proofs.Ytfgpenekmokdiaa
open Go Go.RowKit Fl

open Classical in
noncomputable def quoL (g : GraphD) (s : List Bool) : GraphD := if chkG g s.length = 0 then quotL g s else []
/-- z comes to row a by the edges of the vertices before v, and the first m of v's. -/
def qMem (g : GraphD) (s : List Bool) (v m a : Nat) (z : Int) : Prop := ∃ (u j : Nat) (x : Nat) (h : j < (rowG g u).length), (u < v ∨ (u = v ∧ j < m)) ∧ (rowG g u)[j] = (x : Int) ∧ nameOf g s u = a ∧ nameOf g s x = z ∧ 0 ≤ z ∧ z ≠ a
open Classical in
noncomputable def qF (g : GraphD) (s : List Bool) (v m a : Nat) : List Int := ((List.range g.length).filter (fun (b : Nat) => decide (qMem g s v m a b))).map (fun (b : Nat) => (b : Int))
theorem qF_mem {g : GraphD} {s : List Bool} {v m a : Nat} {z : Int} : z ∈ qF g s v m a ↔ qMem g s v m a z := by
  classical
  unfold qF
  rw [List.mem_map]
  constructor
  · rintro ⟨b, hb, rfl⟩
    have := (List.mem_filter.1 hb).2
    simpa using this
  · intro h
    have h0 := h
    obtain ⟨u, j, x, hj, _, _, _, hx, hz, _⟩ := h
    obtain ⟨b, rfl⟩ := Int.eq_ofNat_of_zero_le hz
    exact ⟨b, List.mem_filter.2 ⟨List.mem_range.2 (name_name hx).2.1, by simpa using h0⟩, rfl⟩
theorem qF_sorted (g : GraphD) (s : List Bool) (v m a : Nat) : (qF g s v m a).Pairwise (· < ·) := by
  unfold qF
  rw [List.pairwise_map]
  refine List.Pairwise.imp (fun h => ?_) (List.Pairwise.filter _ (List.pairwise_lt_range))
  omega
theorem qF_short (g : GraphD) (s : List Bool) (v m a : Nat) : (qF g s v m a).length ≤ g.length := by
  unfold qF
  rw [List.length_map]
  exact Nat.le_trans (List.length_filter_le _ _) (by simp)
theorem qF_ext {g : GraphD} {s : List Bool} {v m v' m' a : Nat} (h : ∀ z, qMem g s v m a z ↔ qMem g s v' m' a z) : qF g s v m a = qF g s v' m' a :=
  sorted_ext (qF_sorted _ _ _ _ _) (qF_sorted _ _ _ _ _) fun z => by rw [qF_mem, qF_mem]; exact h z
theorem qF_start (g : GraphD) (s : List Bool) : rowsF g.length (qF g s 0 0) = List.replicate g.length [] := by
  rw [← rowsF_nil]
  refine rowsF_congr fun i _ => ?_
  refine List.eq_nil_iff_forall_not_mem.2 fun z hz => ?_
  obtain ⟨u, j, x, hj, h, _⟩ := qF_mem.1 hz
  omega
theorem qF_next {g : GraphD} {s : List Bool} {v m : Nat} (hm : (rowG g v).length ≤ m) : rowsF g.length (qF g s v m) = rowsF g.length (qF g s (v + 1) 0) := rowsF_congr fun i _ => qF_ext fun z => by
  constructor
  · rintro ⟨u, j, x, hj, h, h2⟩
    exact ⟨u, j, x, hj, by rcases h with h | ⟨rfl, _⟩ <;> omega, h2⟩
  · rintro ⟨u, j, x, hj, h, h2⟩
    refine ⟨u, j, x, hj, ?_, h2⟩
    rcases h with h | ⟨_, h⟩
    · rcases Nat.lt_succ_iff_lt_or_eq.1 h with h | rfl
      · exact .inl h
      · exact .inr ⟨rfl, by omega⟩
    · omega
theorem qF_end (g : GraphD) (s : List Bool) : rowsF g.length (qF g s g.length 0) = quotL g s := by
  unfold quotL rowsF
  refine List.map_congr_left fun a _ => ?_
  refine sorted_ext (qF_sorted _ _ _ _ _) (quotRow_sorted _ _ _) fun z => ?_
  rw [qF_mem, quotRow_mem]
  constructor
  · rintro ⟨u, j, x, hj, _, h1, h2⟩
    exact ⟨u, x, by unfold EdgeG; rw [← h1]; exact List.getElem_mem hj, h2⟩
  · rintro ⟨u, x, he, h2⟩
    unfold EdgeG at he
    obtain ⟨j, hj, e⟩ := List.mem_iff_getElem.1 he
    refine ⟨u, j, x, hj, .inl ?_, e, h2⟩
    rcases Nat.lt_or_ge u g.length with h | h
    · exact h
    · rw [rowG_out h] at hj; simp at hj
theorem qMem_succ {g : GraphD} {s : List Bool} {v m y a : Nat} {z : Int} (hm : m < (rowG g v).length) (hy : (rowG g v)[m] = (y : Int)) : qMem g s v (m + 1) a z ↔ qMem g s v m a z ∨ (nameOf g s v = a ∧ nameOf g s y = z ∧ 0 ≤ z ∧ z ≠ a) := by
  constructor
  · rintro ⟨u, j, x, hj, h, h1, h2⟩
    rcases h with h | ⟨rfl, h⟩
    · exact .inl ⟨u, j, x, hj, .inl h, h1, h2⟩
    · rcases Nat.lt_succ_iff_lt_or_eq.1 h with h | rfl
      · exact .inl ⟨u, j, x, hj, .inr ⟨rfl, h⟩, h1, h2⟩
      · right
        have : x = y := by omega
        subst this
        exact h2
  · rintro (⟨u, j, x, hj, h, h2⟩ | h)
    · exact ⟨u, j, x, hj, by omega, h2⟩
    · exact ⟨v, m, y, hm, .inr ⟨rfl, by omega⟩, hy, h⟩
/-- An edge that adds nothing. -/
theorem qF_skip {g : GraphD} {s : List Bool} {v m y : Nat} (hm : m < (rowG g v).length) (hy : (rowG g v)[m] = (y : Int)) (hn : ∀ a : Nat, nameOf g s v = a → 0 ≤ nameOf g s y → nameOf g s y ≠ a → nameOf g s y ∈ qF g s v m a) : rowsF g.length (qF g s v (m + 1)) = rowsF g.length (qF g s v m) := rowsF_congr fun a _ => qF_ext fun z => by
  rw [qMem_succ hm hy]
  constructor
  · rintro (h | ⟨h1, rfl, h3, h4⟩)
    · exact h
    · exact qF_mem.1 (hn a h1 h3 h4)
  · exact .inl
/-- An edge that adds a name. -/
theorem qF_put {g : GraphD} {s : List Bool} {v m y a : Nat} {z : Int} (hm : m < (rowG g v).length) (hy : (rowG g v)[m] = (y : Int)) (ha : nameOf g s v = a) (hz : nameOf g s y = z) (h0 : 0 ≤ z) (hne : z ≠ a) (hno : z ∉ qF g s v m a) : (rowsF g.length (qF g s v m)).set a (insL (qF g s v m a) z) = rowsF g.length (qF g s v (m + 1)) := by
  refine rowsF_set ?_ fun i hi => qF_ext fun x => ?_
  · refine sorted_ext (qF_sorted _ _ _ _ _) (insL_sorted (qF_sorted _ _ _ _ _) hno) fun x => ?_
    rw [qF_mem, qMem_succ hm hy, insL_mem, qF_mem]
    constructor
    · rintro (h | ⟨_, h1, _⟩)
      · exact .inr h
      · exact .inl (by rw [← h1, hz])
    · rintro (rfl | h)
      · exact .inr ⟨ha, hz, h0, hne⟩
      · exact .inl h
  · rw [qMem_succ hm hy]
    constructor
    · rintro (h | ⟨h1, _⟩)
      · exact h
      · omega
    · exact .inl
theorem own_lo {w : World} {base base' n : Nat} {e : TypeId} {v : Value} {xs : List Value} (h : w.ownsRow base e 1 v n xs) (hb : base' ≤ base) : w.ownsRow base' e 1 v n xs := by
  obtain ⟨h1, h2⟩ := h
  refine ⟨h1, ?_⟩
  rcases h2 with h2 | ⟨g, cap, cur, hv, hg, hr⟩
  · exact .inl h2
  · exact .inr ⟨g, cap, cur, hv, Nat.le_trans hb hg, hr⟩
theorem RowsOwn.putN {w : World} {base q cap k n : Nat} {g : GraphD} {u : Value} {r : List Int} (hn : g.length = n) (h : RowsOwn w base (.slice (some ⟨q, 0, none⟩) n cap) g) (hr : w.ownsRow base 3 1 u r.length (r.map Iv)) : RowsOwn (w.setCell ⟨q, k, none⟩ u) base (.slice (some ⟨q, 0, none⟩) n cap) (g.set k r) := by
  subst hn
  exact h.put hr rfl
theorem RowsOwn.low {w : World} {base base' : Nat} {v : Value} {g : GraphD} (h : RowsOwn w base v g) (hb : base' ≤ base) : RowsOwn w base' v g := by
  obtain ⟨vs, h1, h2, h3⟩ := h
  exact ⟨vs, h1, own_lo h2 hb, fun k u r hk hr => own_lo (h3 k u r hk hr) hb⟩
theorem rowsO_nil (w : World) (base : Nat) : RowsOwn w base (.slice none 0 0) [] := ⟨[], rfl, World.ownsRow_nil _ _ _ _, fun k u r h => by simp at h⟩
/-- What Quotient returns. -/
def RowsPost (w : World) (l : GraphD) (k : Int) (e : Ending) (w' : World) : Prop := ∃ u, e = .returned (.tuple #[u, .int .i64 k]) ∧ RowsOwn w' w.heap.size u l ∧ Below w.heap.size w w'
end Go.Proofs.Ytfgpenekmokdiaa
namespace Go.Proofs.Ytfgpenekmokdiaa
open Go Go.RowKit Fl

theorem order_one {g : GraphD} {s : List Bool} : mutP g s ↔ (orderL g s).length = 1 := by
  have hok := order_ok g s
  constructor
  · rintro ⟨⟨a, ha, hs⟩, hall⟩
    obtain ⟨w, hw, _, _, _⟩ := name_open ha hs
    obtain ⟨h1, h2, _, h3⟩ := name_name hw
    have hin := order_all h2 h1
    have key : ∀ z ∈ orderL g s, z = (w : Int) := fun z hz => by
      obtain ⟨v, rfl, hv, hn⟩ := hok.name z hz
      have hvo := (name_name hn).2.2.1
      have := name_eq (⟨hall a v ha hv hs hvo, hall v a hv ha hvo hs⟩ : both g s a v)
      rw [hw, hn] at this
      omega
    rcases e : orderL g s with _ | ⟨x, _ | ⟨y, l⟩⟩
    · rw [e] at hin; simp at hin
    · rfl
    · have hx := key x (by rw [e]; simp)
      have hy := key y (by rw [e]; simp)
      have hnd := hok.nodup
      rw [e, hx, hy] at hnd
      simp at hnd
  · intro h
    rcases e : orderL g s with _ | ⟨x, _ | ⟨y, l⟩⟩
    · rw [e] at h; simp at h
    · obtain ⟨w, rfl, hw, hn⟩ := hok.name x (by rw [e]; simp)
      have key : ∀ v, v < g.length → atB s v = false → nameOf g s v = w := fun v hv hs => by
        obtain ⟨a, ha, _⟩ := name_open hv hs
        obtain ⟨h1, h2, _⟩ := name_name ha
        have := order_all h2 h1
        rw [e] at this
        simp at this
        rw [ha, this]
      refine ⟨⟨w, hw, (name_name hn).2.2.1⟩, fun u v hu hv hus hvs => ?_⟩
      exact (name_both (by rw [key u hu hus, key v hv hvs]) (by rw [key u hu hus]; omega)).1
    · rw [e] at h; simp at h
theorem name_is {g : GraphD} {s : List Bool} {v w : Nat} (h : both g s v w) (hl : ∀ u, u < w → ¬ both g s v u) : nameOf g s v = w := by
  obtain ⟨a, ha, _, h1, h2⟩ := name_open h.1.left.1 h.1.left.2
  have h3 : ¬ a < w := fun hlt => hl a hlt h1
  have h4 : ¬ w < a := fun hlt => h2 w hlt h
  rw [ha]; omega
theorem leastF_no {p : Nat → Bool} {n : Nat} (h : ∀ j, j < n → p j = false) : leastF p n = none := by
  rcases e : leastF p n with _ | k
  · rfl
  · obtain ⟨h1, h2, _⟩ := leastF_some e
    rw [h k h2] at h1; cases h1
abbrev eG : GraphD := [[1], [0, 2], []]
abbrev eS : List Bool := [false, false, false]
theorem eG_valid : validG eG = true := by decide
theorem eE {u v : Nat} (h : EdgeG eG u v) : (u = 0 ∧ v = 1) ∨ (u = 1 ∧ v = 0) ∨ (u = 1 ∧ v = 2) := by
  have hr := h.range eG_valid
  have h1 : u < 3 := hr.1
  have h2 : v < 3 := hr.2.1
  unfold EdgeG rowG at h
  match u, v, h1, h2 with
  | 0, 0, _, _ => simp at h
  | 0, 1, _, _ => simp
  | 0, 2, _, _ => simp at h
  | 1, 0, _, _ => simp
  | 1, 1, _, _ => simp at h
  | 1, 2, _, _ => simp
  | 2, 0, _, _ => simp at h
  | 2, 1, _, _ => simp at h
  | 2, 2, _, _ => simp at h
  | (n + 3), _, h, _ => omega
  | _, (n + 3), _, h => omega
theorem eOpen (v : Nat) : atB eS v = false := by
  match v with
  | 0 => rfl
  | 1 => rfl
  | 2 => rfl
  | (n + 3) => rfl
theorem eStep {u v : Nat} (hu : u < 3) (hv : v < 3) (e : EdgeG eG u v) : PathG eG eS u v := .head hu (eOpen u) e (.refl hv (eOpen v))
theorem eNo {u : Nat} (h : PathG eG eS 2 u) : u = 2 := PathG.closed (P := fun v => v = 2) rfl (fun a b ha e _ _ => by
  rcases eE e with ⟨rfl, _⟩ | ⟨rfl, _⟩ | ⟨rfl, _⟩ <;> cases ha) h
theorem eN0 : nameOf eG eS 0 = (0 : Nat) := name_is (both.self (by decide) rfl) fun u hu => by omega
theorem eN1 : nameOf eG eS 1 = (0 : Nat) := name_is ⟨eStep (by decide) (by decide) (by unfold EdgeG rowG; simp), eStep (by decide) (by decide) (by unfold EdgeG rowG; simp)⟩ fun u hu => by omega
theorem eN2 : nameOf eG eS 2 = (2 : Nat) := name_is (both.self (by decide) rfl) fun u hu h => by have := eNo h.1; omega
theorem e_names : namesL eG eS = [0, 0, 2] := by
  show [nameOf eG eS 0, nameOf eG eS 1, nameOf eG eS 2] = _
  rw [eN0, eN1, eN2]; rfl
theorem e_b1 : best eG eS [] = some 0 := leastF_is (by decide) (cand_iff.2 ⟨eN0, by simp, fun w hw hn hne _ hp => by
  have h3 : w < 3 := hw
  match w, h3 with
  | 0, _ => exact hne rfl
  | 1, _ => rw [eN1] at hn; cases hn
  | 2, _ => have := eNo hp; omega⟩) fun j hj => by omega
theorem e_b2 : best eG eS [0] = some 2 := leastF_is (by decide) (cand_iff.2 ⟨eN2, by simp, fun w hw hn hne hno _ => by
  have h3 : w < 3 := hw
  match w, h3 with
  | 0, _ => exact hno (by simp)
  | 1, _ => rw [eN1] at hn; cases hn
  | 2, _ => exact hne rfl⟩) fun j hj => by
    rcases e : cand eG eS [0] j with _ | _
    · rfl
    · obtain ⟨h1, h2, _⟩ := cand_iff.1 e
      match j, hj with
      | 0, _ => exact absurd (by simp) h2
      | 1, _ => rw [eN1] at h1; cases h1
theorem e_b3 : best eG eS [0, 2] = none := leastF_no fun j hj => by
  have h3 : j < 3 := hj
  rcases e : cand eG eS [0, 2] j with _ | _
  · rfl
  · obtain ⟨h1, h2, _⟩ := cand_iff.1 e
    match j, h3 with
    | 0, _ => exact absurd (by simp) h2
    | 1, _ => rw [eN1] at h1; cases h1
    | 2, _ => exact absurd (by simp) h2
theorem e_order : orderL eG eS = [0, 2] := (((orderL_runs eG eS).some e_b1).some e_b2 |>.none e_b3).symm
theorem e_quot : quotL eG eS = [[2], [], []] := by
  have h0 : quotRow eG eS 0 = [2] := sorted_ext (quotRow_sorted _ _ _) (by simp) fun z => by
    rw [quotRow_mem]
    constructor
    · rintro ⟨u, x, he, hu, hx, h1, h2⟩
      rcases eE he with ⟨rfl, rfl⟩ | ⟨rfl, rfl⟩ | ⟨rfl, rfl⟩
      · rw [eN1] at hx; omega
      · rw [eN0] at hx; omega
      · rw [eN2] at hx; simp; omega
    · intro h
      have hz : z = 2 := by simpa using h
      subst hz
      exact ⟨1, 2, by unfold EdgeG rowG; simp, eN1, eN2, by decide, by decide⟩
  have h1 : quotRow eG eS 1 = [] := List.eq_nil_iff_forall_not_mem.2 fun z hz => by
    obtain ⟨u, x, he, hu, _⟩ := quotRow_mem.1 hz
    rcases eE he with ⟨rfl, rfl⟩ | ⟨rfl, rfl⟩ | ⟨rfl, rfl⟩
    · rw [eN0] at hu; omega
    · rw [eN1] at hu; omega
    · rw [eN1] at hu; omega
  have h2 : quotRow eG eS 2 = [] := List.eq_nil_iff_forall_not_mem.2 fun z hz => by
    obtain ⟨u, x, he, hu, _⟩ := quotRow_mem.1 hz
    rcases eE he with ⟨rfl, rfl⟩ | ⟨rfl, rfl⟩ | ⟨rfl, rfl⟩
    · rw [eN0] at hu; omega
    · rw [eN1] at hu; omega
    · rw [eN1] at hu; omega
  show [quotRow eG eS 0, quotRow eG eS 1, quotRow eG eS 2] = _
  rw [h0, h1, h2]
end Go.Proofs.Ytfgpenekmokdiaa
namespace Go.Proofs.Ytfgpenekmokdiaa
open Go Go.RowKit Fl

def IntsRes (w : World) (l : List Int) (k : Int) (e : Ending) (w' : World) : Prop := ∃ A c, e = .returned (.tuple #[.slice A l.length c, .int .i64 k]) ∧ Holds w' A (l.map Iv) ∧ Below w.heap.size w w'
theorem IntsPost.res {w w' : World} {l : List Int} {k : Int} {e : Ending} (h : IntsPost w l k e w') : IntsRes w l k e w' := by
  obtain ⟨u, rfl, ho, hb⟩ := h
  obtain ⟨A, c, rfl, hr⟩ := own_is ho
  exact ⟨A, c, rfl, hr, hb⟩
theorem RowsPost.res {w w' : World} {l : GraphD} {k : Int} {e : Ending} (h : RowsPost w l k e w') : GraphRes w l k e w' := by
  obtain ⟨u, rfl, ho, hb⟩ := h
  obtain ⟨A, c, rfl, hr⟩ := ho.at_
  exact ⟨A, c, rfl, hr, hb⟩
/-! ### The example -/
theorem holds_blk {w : World} {n : Nat} {cs : Array Value} {e : TypeId} {fr : Nat × Nat} {l : List Value} (h : w.heap[n]? = some (.cells cs e fr)) (hl : cs.toList = l) : Holds w (some ⟨n, 0, none⟩) l := by
  subst hl
  exact .inr ⟨n, 0, rfl, block_lt h, fun j hj => by
    rw [cell_of_row w n _ cs e fr h]
    simp at hj
    simp [hj]⟩
theorem alloc4h (w : World) (o1 o2 o3 o4 : Obj) : ((((w.alloc o1).alloc o2).alloc o3).alloc o4).heap[w.heap.size]? = some o1 ∧ ((((w.alloc o1).alloc o2).alloc o3).alloc o4).heap[w.heap.size + 1]? = some o2 ∧ ((((w.alloc o1).alloc o2).alloc o3).alloc o4).heap[w.heap.size + 1 + 1]? = some o3 ∧ ((((w.alloc o1).alloc o2).alloc o3).alloc o4).heap[w.heap.size + 1 + 1 + 1]? = some o4 := by
  have e : ((((w.alloc o1).alloc o2).alloc o3).alloc o4).heap = (((w.heap.push o1).push o2).push o3).push o4 := rfl
  rw [e]
  refine ⟨?_, ?_, ?_, ?_⟩ <;> simp only [Array.getElem?_push, Array.size_push]
  · rw [if_neg (by omega), if_neg (by omega), if_neg (by omega), if_pos trivial]
  · rw [if_neg (by omega), if_neg (by omega), if_pos trivial]
  · rw [if_neg (by omega), if_pos trivial]
  · rw [if_pos trivial]
/-- Three rows of numbers, as literals lay them. -/
theorem rows3 (w : World) (n : Nat) (c1 c2 c3 : Array Value) (r1 r2 r3 : List Int) (k1 k2 k3 : Nat) (e1 e2 e3 e4 : TypeId) (h1 : c1.toList = r1.map Iv) (h2 : c2.toList = r2.map Iv) (h3 : c3.toList = r3.map Iv) (hn : n = w.heap.size) (l1 : k1 = r1.length) (l2 : k2 = r2.length) (l3 : k3 = r3.length) :
    RowsAt ((((w.alloc (.cells c1 e1)).alloc (.cells c2 e2)).alloc (.cells c3 e3)).alloc (.cells #[.slice (some ⟨n, 0, none⟩) k1 k1, .slice (some ⟨n + 1, 0, none⟩) k2 k2, .slice (some ⟨n + 1 + 1, 0, none⟩) k3 k3] e4)) (some ⟨n + 1 + 1 + 1, 0, none⟩) [r1, r2, r3] := by
  subst hn l1 l2 l3
  obtain ⟨b1, b2, b3, b4⟩ := alloc4h w (.cells c1 e1) (.cells c2 e2) (.cells c3 e3) (.cells #[.slice (some ⟨w.heap.size, 0, none⟩) r1.length r1.length, .slice (some ⟨w.heap.size + 1, 0, none⟩) r2.length r2.length, .slice (some ⟨w.heap.size + 1 + 1, 0, none⟩) r3.length r3.length] e4)
  generalize ((((w.alloc (.cells c1 e1)).alloc (.cells c2 e2)).alloc (.cells c3 e3)).alloc (.cells #[.slice (some ⟨w.heap.size, 0, none⟩) r1.length r1.length, .slice (some ⟨w.heap.size + 1, 0, none⟩) r2.length r2.length, .slice (some ⟨w.heap.size + 1 + 1, 0, none⟩) r3.length r3.length] e4)) = W at b1 b2 b3 b4 ⊢
  refine .inr ⟨w.heap.size + 1 + 1 + 1, 0, rfl, block_lt b4, fun k hk => ?_⟩
  have hk3 : k < 3 := hk
  match k, hk3 with
  | 0, _ => exact ⟨_, r1.length, by rw [cell_of_row W _ _ _ e4 _ b4]; rfl, holds_blk b1 h1⟩
  | 1, _ => exact ⟨_, r2.length, by rw [cell_of_row W _ _ _ e4 _ b4]; rfl, holds_blk b2 h2⟩
  | 2, _ => exact ⟨_, r3.length, by rw [cell_of_row W _ _ _ e4 _ b4]; rfl, holds_blk b3 h3⟩
theorem lit_holds (w : World) (n : Nat) (cs : Array Value) (e : TypeId) (l : List Value) (hn : n = w.heap.size) (hl : cs.toList = l) : Holds (w.alloc (.cells cs e)) (some ⟨n, 0, none⟩) l := by
  subst hn
  exact holds_blk (heap_alloc_new w _) hl
theorem below_alloc (w : World) (ob : Obj) : Below w.heap.size w (w.alloc ob) := (Below.refl _ _).alloc (Nat.le_refl _) _
theorem below_alloc4 (w : World) (o1 o2 o3 o4 : Obj) : Below w.heap.size w ((((w.alloc o1).alloc o2).alloc o3).alloc o4) := ((((Below.refl _ _).alloc (Nat.le_refl _) _).alloc (by simp) _).alloc (by simp; omega) _).alloc (by simp; omega) _
end Go.Proofs.Ytfgpenekmokdiaa
namespace Go.Proofs.Ytfgpenekmokdiaa
open Go Go.RowKit Fl

theorem own_cap {w : World} {base n : Nat} {e : TypeId} {v : Value} {xs : List Value} (h : w.ownsRow base e 1 v n xs) : ∃ A c, v = .slice A n c ∧ n ≤ c ∧ Holds w A xs := by
  have h0 := h
  obtain ⟨h1, h2⟩ := h
  rcases h2 with ⟨rfl, rfl⟩ | ⟨g, cap, cur, rfl, _, _, hc, _⟩
  · exact ⟨none, 0, rfl, Nat.le_refl _, ownsRow_holds h0⟩
  · exact ⟨_, cap, rfl, hc, ownsRow_holds h0⟩
def GirRes (w : World) (l : List Int) (k : Int) (e : Ending) (w' : World) : Prop := ∃ A c, l.length ≤ c ∧ e = .returned (.tuple #[.int .i64 l.length, .slice A l.length c, .int .i64 k]) ∧ Holds w' A (l.map Iv) ∧ Below w.heap.size w w'
theorem WalkPost.res {w w' : World} {l : List Int} {k : Int} {e : Ending} (h : WalkPost w l k e w') : GirRes w l k e w' := by
  obtain ⟨u, rfl, ho, hb⟩ := h
  obtain ⟨A, c, rfl, hc, hr⟩ := own_cap ho
  exact ⟨A, c, hc, rfl, hr, hb⟩
def DevGirth : Prop := ∀ (A B : Option Addr) (c d : Nat) (g : GraphD) (s : List Bool) (w : World), RowsAt w A g → Holds w B (s.map Bo) → Sized g →
  Calls Try.prog 30 #[.slice A g.length c, .slice B s.length d] w (GirRes w (girL g s) (chkG g s.length))
theorem girth_ok (h : DevGirth) {A B : Option Addr} {c d n : Nat} {g : GraphD} {s : List Bool} {W : World} (hr : RowsAt W A g) (hs : Holds W B (s.map Bo)) (hg : validG g = true) (hn : g.length = n) (hsl : s.length = n) :
    Calls Try.prog 30 #[.slice A n c, .slice B n d] W fun e w' => ∃ X cx, (girF g s).length ≤ cx ∧ e = .returned (.tuple #[.int .i64 (girF g s).length, .slice X (girF g s).length cx, .int .i64 0]) ∧ Holds w' X ((girF g s).map Iv) ∧ Below W.heap.size W w' := by
  have h := h A B c d g s W hr hs (Sized.valid hg)
  have h0 := chkG_ok (m := s.length) hg (by omega)
  have h1 : girL g s = girF g s := by unfold girL; rw [if_pos h0]
  rw [h1, h0, hsl, hn] at h
  exact h
theorem cls_of {g : GraphD} {s : List Bool} {l : List Int} (hg : validG g = true) (hsl : s.length = g.length) : clsB g s l = true ↔ ClosedL g s l := by
  rw [clsB_iff]
  exact ⟨fun h => h.2, fun h => ⟨chkG_ok hg hsl, h⟩⟩
abbrev tG : GraphD := [[1], [0, 2], [0]]
theorem tG_valid : validG tG = true := by decide
theorem t_gir : girF tG eS = [0, 1] := by decide
theorem t_thr : thrF tG eS 2 = [2, 0, 1] := by decide
theorem t_cls : clsB tG eS [0, 1] = true := (cls_of tG_valid rfl).2 (by
  have := gir_closed (g := tG) (s := eS) tG_valid (by rw [t_gir]; decide)
  rwa [t_gir] at this)
end Go.Proofs.Ytfgpenekmokdiaa
namespace Go.Proofs.Ytfgpenekmokdiaa
open Go Go.RowKit Fl

/-- Nothing is shut. -/
def opensT (n : Nat) : List Bool := List.replicate n false
def DevKnown12 : Prop := ∀ w : World, Calls Try.prog 10 #[] w fun e w' => e = .returned (.bool true) ∧ Below w.heap.size w w'
def DevFreeT : Prop := ∀ (A A1 A2 : Option Addr) (c c1 c2 : Nat) (g : GraphD) (ts ws : List Int) (w : World), RowsAt w A g → Holds w A1 (ts.map Iv) → Holds w A2 (ws.map Iv) → PosOk g ts ws → ts.length ≤ c1 → ws.length ≤ c2 →
  Calls Try.prog 13 #[.slice A g.length c, .slice A1 ts.length c1, .slice A2 ws.length c2] w fun e w' => (∃ u, e = .returned (.tuple #[u, .int .i64 0]) ∧ w'.ownsRow w.heap.size 3 1 u (freeL ts ws ts.length).length ((freeL ts ws ts.length).map Iv)) ∧ Below w.heap.size w w'
def DevStuckT : Prop := ∀ (A A1 A2 : Option Addr) (c c1 c2 : Nat) (g : GraphD) (ts ws : List Int) (w : World), RowsAt w A g → Holds w A1 (ts.map Iv) → Holds w A2 (ws.map Iv) → PosOk g ts ws → ts.length ≤ c1 → ws.length ≤ c2 →
  Calls Try.prog 19 #[.slice A g.length c, .slice A1 ts.length c1, .slice A2 ws.length c2] w fun e w' => e = .returned (.bool (stuckB g ts ws)) ∧ Below w.heap.size w w'
def DevValidT : Prop := ∀ (A A1 A2 : Option Addr) (c c1 c2 : Nat) (g : GraphD) (ts ws : List Int) (w : World), RowsAt w A g → Holds w A1 (ts.map Iv) → Holds w A2 (ws.map Iv) → PosOk g ts ws → ts.length ≤ c1 → ws.length ≤ c2 →
  Calls Try.prog 17 #[.slice A g.length c, .slice A1 ts.length c1, .slice A2 ws.length c2] w fun e w' => e = .returned (.bool true) ∧ Below w.heap.size w w'
/-- Ring of a position that has one. -/
def DevRingT : Prop := ∀ (A A1 A2 : Option Addr) (c c1 c2 : Nat) (g : GraphD) (ts ws : List Int) (w : World), RowsAt w A g → Holds w A1 (ts.map Iv) → Holds w A2 (ws.map Iv) → PosOk g ts ws → ts.length ≤ c1 → ws.length ≤ c2 → ringE ts ws = 0 →
  Calls Try.prog 15 #[.slice A g.length c, .slice A1 ts.length c1, .slice A2 ws.length c2] w fun e w' => (∃ u, e = .returned (.tuple #[u, .int .i64 0]) ∧ w'.ownsRow w.heap.size 3 1 u (ringL ts ws).length ((ringL ts ws).map Iv)) ∧ Below w.heap.size w w'
/-- Tight of a valid graph. -/
def DevTightT : Prop := ∀ (A : Option Addr) (c : Nat) (g : GraphD) (w : World), RowsAt w A g → validG g = true →
  (girF g (opensT g.length) = [] → Calls Try.prog 24 #[.slice A g.length c] w fun e w' => e = .returned (.tuple #[.slice none 0 0, .slice none 0 0, .int .i64 25]) ∧ Below w.heap.size w w') ∧
  (girF g (opensT g.length) ≠ [] → Calls Try.prog 24 #[.slice A g.length c] w fun e w' => (∃ u v, e = .returned (.tuple #[u, v, .int .i64 0]) ∧ w'.ownsRow w.heap.size 3 1 u (girF g (opensT g.length)).length ((girF g (opensT g.length)).map Iv) ∧ w'.ownsRow w.heap.size 3 1 v (girF g (opensT g.length)).length ((rotL (girF g (opensT g.length))).map Iv)) ∧ Below w.heap.size w w')
theorem opens_open (n v : Nat) : atB (opensT n) v = false := by
  unfold atB opensT
  rw [List.getD_eq_getElem?_getD, List.getElem?_replicate]
  split <;> rfl
theorem opens_len (n : Nat) : (opensT n).length = n := by simp [opensT]
theorem own_cap2 {w : World} {base n : Nat} {e : TypeId} {v : Value} {xs : List Value} (h : w.ownsRow base e 1 v n xs) : ∃ A c, v = .slice A n c ∧ n ≤ c ∧ Holds w A xs := own_cap h
end Go.Proofs.Ytfgpenekmokdiaa
namespace Go.Proofs.Ytfgpenekmokdiaa.Fl

/-- Each one's hop is the next one. -/
theorem pathF_hop {h : List Int} : ∀ (f : Nat) (v : Int) (k : Nat) (x y : Int), (pathF h f v)[k]? = some x → (pathF h f v)[k + 1]? = some y → atI h x = y
  | 0, v, k, x, y, _, hy => by simp [pathF] at hy
  | f + 1, v, 0, x, y, hx, hy => by
    simp only [pathF, List.getElem?_cons_zero, Option.some.injEq] at hx
    subst hx
    simp only [pathF, List.getElem?_cons_succ] at hy
    cases f with
    | zero => simpa [pathF] using hy
    | succ f => simpa [pathF] using hy
  | f + 1, v, k + 1, x, y, hx, hy => by
    simp only [pathF, List.getElem?_cons_succ] at hx hy
    exact pathF_hop f (atI h v) k x y hx hy
theorem reach_dist {g : GraphD} {s : List Bool} {a goal : Nat} (hg : validG g = true) (ha : a < g.length) (hgo : goal < g.length) : atB (reachL g s a) goal = true ↔ 0 ≤ dAt (distF g s goal) a := by
  rw [reachL_at hgo]
  constructor
  · intro h
    obtain ⟨k, hk⟩ := rn_of_path h
    exact (dist_le hg hk).1
  · intro h
    obtain ⟨k, hk⟩ := Int.eq_ofNat_of_zero_le h
    exact (dist_is hg hgo ha hk).path
/-- What is known of a path that is not empty. -/
structure PathOk (g : GraphD) (s : List Bool) (a goal : Nat) (p : List Int) : Prop where
  pos : 0 < p.length
  first : p[0]? = some (a : Int)
  last : p[p.length - 1]? = some (goal : Int)
  dist : dAt (distF g s goal) a = ((p.length - 1 : Nat) : Int)
  ok : ∀ (k : Nat) (x : Int), p[k]? = some x → okV g s x
  next : ∀ (k : Nat) (x y : Int), p[k]? = some x → p[k + 1]? = some y → atI (hopsL g (distF g s goal)) x = y ∧ y ∈ rowG g x.toNat
theorem first_cases {g : GraphD} {s : List Bool} {a goal : Nat} (hg : validG g = true) (ha : a < g.length) (hgo : goal < g.length) : (firstF g s a goal = [] ∧ dAt (distF g s goal) a < 0) ∨ PathOk g s a goal (firstF g s a goal) := by
  by_cases hd : dAt (distF g s goal) a < 0
  · left
    refine ⟨?_, hd⟩
    unfold firstF
    exact if_pos hd
  · right
    obtain ⟨f, hf⟩ := Int.eq_ofNat_of_zero_le (show 0 ≤ dAt (distF g s goal) a by omega)
    have e : firstF g s a goal = pathF (hopsL g (distF g s goal)) f a := by
      unfold firstF
      rw [show (distF g s goal).getD a (-1) = (f : Int) from hf, if_neg (by omega)]
      rfl
    obtain ⟨w1, w2, w3⟩ := pathF_walk (s := s) hg hgo f a ha hf
    rw [e]
    have hl := pathF_length (hopsL g (distF g s goal)) f (a : Int)
    refine ⟨by omega, w2, by rw [hl]; exact w3, by rw [hl, hf]; rfl, fun k x hx => w1.ok x (get_mem hx), fun k x y hx hy => ⟨pathF_hop f _ k x y hx hy, w1.edge k x y hx hy⟩⟩
theorem first_reach {g : GraphD} {s : List Bool} {a goal : Nat} (hg : validG g = true) (ha : a < g.length) (hgo : goal < g.length) : atB (reachL g s a) goal = true ↔ 0 < (firstF g s a goal).length := by
  rw [reach_dist hg ha hgo]
  rcases first_cases (s := s) hg ha hgo with ⟨h1, h2⟩ | h
  · rw [h1]
    constructor
    · intro h3; omega
    · intro h3; simp at h3
  · constructor
    · intro _; exact h.pos
    · intro _; rw [h.dist]; omega
end Go.Proofs.Ytfgpenekmokdiaa.Fl
