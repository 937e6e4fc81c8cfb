/- Joined texts. -/
import Derived.PlainAid
namespace Go.Proofs.Ytfgpenekmokdiaa.Fl

abbrev GraphD := List (List Int)
/-- Put into an ascending list. -/
def insL : List Int → Int → List Int
  | [], x => [x]
  | y :: l, x => if x < y then x :: y :: l else y :: insL l x
theorem insL_length : ∀ (l : List Int) (x : Int), (insL l x).length = l.length + 1
  | [], _ => rfl
  | y :: l, x => by
    unfold insL
    split
    · rfl
    · simp [insL_length l x]
theorem insL_mem : ∀ (l : List Int) (x z : Int), z ∈ insL l x ↔ z = x ∨ z ∈ l
  | [], x, z => by simp [insL]
  | y :: l, x, z => by
    unfold insL
    split
    · simp
    · rw [List.mem_cons, insL_mem l x z, List.mem_cons]
      constructor
      · rintro (h | h | h)
        · exact .inr (.inl h)
        · exact .inl h
        · exact .inr (.inr h)
      · rintro (h | h | h)
        · exact .inr (.inl h)
        · exact .inl h
        · exact .inr (.inr h)
/-- What stands before place k. -/
def prevOf (l : List Int) : Nat → Option Int
  | 0 => none
  | k + 1 => l[k]?
def overP : Option Int → Int → Bool
  | none, _ => true
  | some y, x => decide (y < x)
/-- A row of a valid graph of n vertices, at vertex v, behind p. -/
def rowOk (n v : Int) : Option Int → List Int → Bool
  | _, [] => true
  | p, x :: l => (decide (0 ≤ x ∧ x < n ∧ x ≠ v) && overP p x) && rowOk n v (some x) l
def rowsOk (n : Int) : Int → GraphD → Bool
  | _, [] => true
  | v, l :: g => rowOk n v none l && rowsOk n (v + 1) g
def validG (g : GraphD) : Bool := decide (g.length ≤ 24) && rowsOk g.length 0 g
theorem rowOk_step {n v : Int} {l : List Int} {k : Nat} (h : k < l.length) : rowOk n v (prevOf l k) (l.drop k) = ((decide (0 ≤ l[k] ∧ l[k] < n ∧ l[k] ≠ v) && overP (prevOf l k) l[k]) && rowOk n v (prevOf l (k + 1)) (l.drop (k + 1))) := by
  rw [List.drop_eq_getElem_cons h, rowOk]
  congr 2
  simp [prevOf, h]
theorem rowOk_end {n v : Int} {l : List Int} {k : Nat} {p : Option Int} (h : l.length ≤ k) : rowOk n v p (l.drop k) = true := by
  rw [List.drop_of_length_le h]; cases p <;> rfl
theorem rowsOk_step {n : Int} {g : GraphD} {k : Nat} {v : Int} (h : k < g.length) : rowsOk n v (g.drop k) = (rowOk n v none g[k] && rowsOk n (v + 1) (g.drop (k + 1))) := by
  rw [List.drop_eq_getElem_cons h, rowsOk]
theorem rowsOk_end {n v : Int} {g : GraphD} {k : Nat} (h : g.length ≤ k) : rowsOk n v (g.drop k) = true := by
  rw [List.drop_of_length_le h]; rfl
theorem rowOk_all {n v : Int} : ∀ {p : Option Int} {l : List Int}, rowOk n v p l = true → ∀ x ∈ l, 0 ≤ x ∧ x < n ∧ x ≠ v
  | _, [], _, x, hx => by simp at hx
  | p, y :: l, h, x, hx => by
    simp only [rowOk, Bool.and_eq_true, decide_eq_true_eq] at h
    rcases List.mem_cons.1 hx with rfl | hx
    · exact h.1.1
    · exact rowOk_all h.2 x hx
theorem rowsOk_at {n : Int} : ∀ {v : Int} {g : GraphD}, rowsOk n v g = true → ∀ (k : Nat) (hk : k < g.length), rowOk n (v + k) none g[k] = true
  | _, [], _, k, hk => by simp at hk
  | v, r :: g, h, 0, _ => by
    simp only [rowsOk, Bool.and_eq_true] at h
    simpa using h.1
  | v, r :: g, h, k + 1, hk => by
    simp only [rowsOk, Bool.and_eq_true] at h
    have := rowsOk_at h.2 k (by simpa using hk)
    rw [show v + ((k + 1 : Nat) : Int) = v + 1 + k by omega]
    simpa using this
/-- Rows of a valid graph lead to vertices, other than their own. -/
theorem validG_row {g : GraphD} (h : validG g = true) {k : Nat} (hk : k < g.length) : ∀ x ∈ g[k], 0 ≤ x ∧ x < g.length ∧ x ≠ k := by
  unfold validG at h
  simp only [Bool.and_eq_true] at h
  have := rowOk_all (rowsOk_at h.2 k hk)
  simpa using this
theorem validG_len {g : GraphD} (h : validG g = true) : g.length ≤ 24 := by
  unfold validG at h
  simp only [Bool.and_eq_true, decide_eq_true_eq] at h
  exact h.1
theorem rowOk_sorted {n v : Int} : ∀ {p : Option Int} {l : List Int}, rowOk n v p l = true → l.Pairwise (· < ·) ∧ ∀ y, p = some y → ∀ x ∈ l, y < x
  | _, [], _ => ⟨.nil, by simp⟩
  | p, z :: l, h => by
    simp only [rowOk, Bool.and_eq_true, decide_eq_true_eq] at h
    obtain ⟨i1, i2⟩ := rowOk_sorted h.2
    refine ⟨.cons (fun x hx => i2 z rfl x hx) i1, fun y hy x hx => ?_⟩
    subst hy
    have hz : y < z := by simpa [overP] using h.1.2
    rcases List.mem_cons.1 hx with rfl | hx
    · exact hz
    · exact Int.lt_trans hz (i2 z rfl x hx)
theorem validG_sorted' {g : GraphD} (h : validG g = true) {k : Nat} (hk : k < g.length) : g[k].Pairwise (· < ·) := by
  unfold validG at h
  simp only [Bool.and_eq_true] at h
  exact (rowOk_sorted (rowsOk_at h.2 k hk)).1
/-- A row of a valid graph is short. -/
theorem sorted_short {n : Nat} : ∀ (l : List Int), l.Pairwise (· < ·) → (∀ x ∈ l, 0 ≤ x ∧ x < n) → l.length ≤ n := by
  have key : ∀ (l : List Int) (a : Int), l.Pairwise (· < ·) → (∀ x ∈ l, a ≤ x ∧ x < n) → a ≤ n → (l.length : Int) ≤ n - a := by
    intro l
    induction l with
    | nil => intro a _ _ ha; simp; omega
    | cons y l ih =>
      intro a hp hb _
      have hy := hb y (by simp)
      have := ih (y + 1) (List.Pairwise.of_cons hp) (fun x hx => ⟨by have := (List.pairwise_cons.1 hp).1 x hx; omega, (hb x (by simp [hx])).2⟩) (by omega)
      simp only [List.length_cons]
      omega
  intro l hp hb
  have := key l 0 hp hb (by omega)
  omega
theorem validG_short {g : GraphD} (h : validG g = true) : ∀ r ∈ g, r.length ≤ 24 := fun r hr => by
  obtain ⟨k, hk, rfl⟩ := List.mem_iff_getElem.1 hr
  have h2 := h
  unfold validG at h2
  simp only [Bool.and_eq_true] at h2
  have h3 := rowOk_sorted (rowsOk_at h2.2 k hk)
  have := sorted_short (n := g.length) g[k] h3.1 (fun x hx => by have := validG_row h hk x hx; omega)
  have := validG_len h
  omega

theorem rowG_at' {g : GraphD} {v : Nat} (hv : v < g.length) : g.getD v [] = g[v] := by rw [List.getD_eq_getElem?_getD, List.getElem?_eq_getElem hv]; rfl
/-- The element at place x. -/
def atI (l : List Int) (x : Int) : Int := l.getD x.toNat (-1)
def atB (s : List Bool) (v : Nat) : Bool := s.getD v false
def rowG (g : GraphD) (v : Nat) : List Int := g.getD v []
theorem rowG_at {g : GraphD} {v : Nat} (hv : v < g.length) : rowG g v = g[v] := rowG_at' hv
theorem rowOk_row {g : GraphD} (h : validG g = true) {v : Nat} (hv : v < g.length) : ∀ x ∈ rowG g v, 0 ≤ x ∧ x < g.length ∧ x ≠ v := by rw [rowG_at hv]; exact validG_row h hv
/-- One vertex in round d. -/
def distV (g : GraphD) (s : List Bool) (d : Int) (out : List Int) (v : Nat) : List Int :=
  if atB s v || decide (0 ≤ out.getD v (-1)) then out else if (rowG g v).any (fun x => decide (atI out x = d - 1)) then out.set v d else out
/-- Round d, up to vertex k. -/
def distR (g : GraphD) (s : List Bool) (d : Int) (out : List Int) (k : Nat) : List Int := (List.range k).foldl (distV g s d) out
/-- The first k rounds. -/
def distK (g : GraphD) (s : List Bool) (out : List Int) (k : Nat) : List Int := (List.range k).foldl (fun o (i : Nat) => distR g s ((i : Int) + 1) o g.length) out
/-- The distances from a goal. -/
def distF (g : GraphD) (s : List Bool) (goal : Nat) : List Int :=
  if atB s goal then List.replicate g.length (-1) else distK g s ((List.replicate g.length (-1)).set goal 0) (g.length - 1)
theorem distR_zero (g : GraphD) (s : List Bool) (d : Int) (out : List Int) : distR g s d out 0 = out := rfl
theorem distR_succ (g : GraphD) (s : List Bool) (d : Int) (out : List Int) (k : Nat) : distR g s d out (k + 1) = distV g s d (distR g s d out k) k := by
  unfold distR; rw [List.range_succ, List.foldl_append]; rfl
theorem distK_zero (g : GraphD) (s : List Bool) (out : List Int) : distK g s out 0 = out := rfl
theorem distK_succ (g : GraphD) (s : List Bool) (out : List Int) (k : Nat) : distK g s out (k + 1) = distR g s ((k : Int) + 1) (distK g s out k) g.length := by
  unfold distK; rw [List.range_succ, List.foldl_append]; rfl
theorem distV_length (g : GraphD) (s : List Bool) (d : Int) (out : List Int) (v : Nat) : (distV g s d out v).length = out.length := by
  unfold distV
  split
  · rfl
  · split
    · simp
    · rfl
theorem distR_length (g : GraphD) (s : List Bool) (d : Int) (out : List Int) : ∀ k, (distR g s d out k).length = out.length
  | 0 => rfl
  | k + 1 => by rw [distR_succ, distV_length, distR_length g s d out k]
theorem distK_length (g : GraphD) (s : List Bool) (out : List Int) : ∀ k, (distK g s out k).length = out.length
  | 0 => rfl
  | k + 1 => by rw [distK_succ, distR_length, distK_length g s out k]
theorem distF_length (g : GraphD) (s : List Bool) (goal : Nat) : (distF g s goal).length = g.length := by
  unfold distF
  split
  · simp
  · rw [distK_length]; simp
/-- What holds of distances all the time: d is the greatest so far. -/
structure DistInv (g : GraphD) (goal : Nat) (d : Int) (out : List Int) : Prop where
  len : out.length = g.length
  goal : ∀ v, v < g.length → (out.getD v (-1) = 0 ↔ v = goal)
  low : ∀ v, -1 ≤ out.getD v (-1) ∧ out.getD v (-1) ≤ d
  step : ∀ v, v < g.length → 0 < out.getD v (-1) → ∃ x ∈ rowG g v, 0 ≤ x ∧ x < g.length ∧ atI out x = out.getD v (-1) - 1
theorem distV_inv {g : GraphD} {s : List Bool} {goal : Nat} {d : Int} {out : List Int} {v : Nat} (hg : validG g = true) (hv : v < g.length) (hd : 1 ≤ d) (h : DistInv g goal d out) : DistInv g goal d (distV g s d out v) := by
  unfold distV
  split
  · exact h
  · rename_i h1
    split
    · rename_i h2
      have hneg : out.getD v (-1) < 0 := by
        simp only [Bool.or_eq_true, decide_eq_true_eq, not_or] at h1
        omega
      obtain ⟨x, hx, hx2⟩ := List.any_eq_true.1 h2
      have hx2 : atI out x = d - 1 := by simpa using hx2
      have key : ∀ u, (out.set v d).getD u (-1) = if u = v then d else out.getD u (-1) := fun u => by
        rw [List.getD_eq_getElem?_getD, List.getElem?_set, List.getD_eq_getElem?_getD]
        by_cases e : u = v
        · subst e; simp [h.len, hv]
        · rw [if_neg (fun h => e h.symm), if_neg e]
      have hrow : rowG g v = g[v] := by unfold rowG; rw [List.getD_eq_getElem?_getD, List.getElem?_eq_getElem hv]; rfl
      have hxr := validG_row hg hv x (by rw [← hrow]; exact hx)
      refine ⟨by simpa using h.len, fun u hu => ?_, fun u => ?_, fun u hu hp => ?_⟩
      · rw [key]
        split
        · rename_i e
          subst e
          constructor
          · intro h0; omega
          · intro e
            have := (h.goal u hu).2 e
            omega
        · exact h.goal u hu
      · rw [key]
        split
        · omega
        · exact h.low u
      · rw [key] at hp ⊢
        split at hp
        · rename_i e
          subst e
          rw [if_pos rfl]
          refine ⟨x, hx, hxr.1, hxr.2.1, ?_⟩
          unfold atI at hx2 ⊢
          rw [key, if_neg (by omega), hx2]
        · rename_i e
          rw [if_neg e]
          obtain ⟨y, hy, y0, y1, y2⟩ := h.step u hu hp
          refine ⟨y, hy, y0, y1, ?_⟩
          unfold atI at y2 ⊢
          rw [key, if_neg (fun e2 => by rw [e2] at y2; omega), y2]
    · exact h
theorem distR_inv {g : GraphD} {s : List Bool} {goal : Nat} {d : Int} {out : List Int} (hg : validG g = true) (hd : 1 ≤ d) (h : DistInv g goal d out) : ∀ k, k ≤ g.length → DistInv g goal d (distR g s d out k)
  | 0, _ => h
  | k + 1, hk => by rw [distR_succ]; exact distV_inv hg (by omega) hd (distR_inv hg hd h k (by omega))
theorem DistInv.more {g : GraphD} {goal : Nat} {d d' : Int} {out : List Int} (h : DistInv g goal d out) (hd : d ≤ d') : DistInv g goal d' out :=
  ⟨h.len, h.goal, fun v => ⟨(h.low v).1, Int.le_trans (h.low v).2 hd⟩, h.step⟩
theorem distK_inv {g : GraphD} {s : List Bool} {goal : Nat} {out : List Int} (hg : validG g = true) (h : DistInv g goal 0 out) : ∀ k : Nat, DistInv g goal k (distK g s out k)
  | 0 => h
  | k + 1 => by
    rw [distK_succ]
    have := distR_inv (s := s) hg (d := (k : Int) + 1) (by omega) ((distK_inv (s := s) hg h k).more (by omega)) g.length (Nat.le_refl _)
    exact this
theorem dist_start {g : GraphD} {goal : Nat} (hv : goal < g.length) : DistInv g goal 0 ((List.replicate g.length (-1)).set goal 0) := by
  have key : ∀ u, ((List.replicate g.length (-1 : Int)).set goal 0).getD u (-1) = if u = goal then 0 else -1 := fun u => by
    rw [List.getD_eq_getElem?_getD, List.getElem?_set]
    by_cases e : u = goal
    · subst e; simp [hv]
    · rw [if_neg (fun h => e h.symm), if_neg e]
      by_cases hu : u < g.length
      · simp [hu]
      · simp [hu]
  refine ⟨by simp, fun v _ => ?_, fun v => ?_, fun v _ hp => ?_⟩
  · rw [key]; split <;> simp_all
  · rw [key]; split <;> omega
  · rw [key] at hp; split at hp <;> omega
theorem distF_inv {g : GraphD} {s : List Bool} {goal : Nat} (hg : validG g = true) (hv : goal < g.length) (hs : atB s goal = false) : DistInv g goal 24 (distF g s goal) := by
  unfold distF
  rw [hs]
  have := validG_len hg
  exact (distK_inv hg (dist_start hv) _).more (by omega)
theorem distF_shut {g : GraphD} {s : List Bool} {goal : Nat} (hs : atB s goal = true) : distF g s goal = List.replicate g.length (-1) := by
  unfold distF; rw [hs]; rfl

/-- The first vertex of a row one step nearer. -/
def hopOf (row dist : List Int) (d : Int) : Int := (row.find? (fun x => decide (atI dist x = d - 1))).getD (-1)
def hopV (g : GraphD) (dist : List Int) (v : Nat) : Int := if 0 < dist.getD v (-1) then hopOf (rowG g v) dist (dist.getD v (-1)) else -1
def hopsL (g : GraphD) (dist : List Int) : List Int := (List.range g.length).map (hopV g dist)
theorem hopsL_at {g : GraphD} {dist : List Int} {v : Nat} (hv : v < g.length) : (hopsL g dist)[v]? = some (hopV g dist v) := by simp [hopsL, hv]
theorem hopOf_step {row dist : List Int} {d : Int} {k : Nat} (hk : k < row.length) : hopOf (row.drop k) dist d = if atI dist row[k] = d - 1 then row[k] else hopOf (row.drop (k + 1)) dist d := by
  unfold hopOf
  rw [List.drop_eq_getElem_cons hk, List.find?_cons]
  by_cases h : atI dist row[k] = d - 1
  · simp [h]
  · simp [h]
theorem hopOf_end {row dist : List Int} {d : Int} {k : Nat} (hk : row.length ≤ k) : hopOf (row.drop k) dist d = -1 := by
  unfold hopOf; rw [List.drop_of_length_le hk]; rfl
/-- A hop leads one step nearer. -/
theorem hop_near {g : GraphD} {goal v : Nat} {d : Int} {dist : List Int} (h : DistInv g goal d dist) (hg : validG g = true) (hv : v < g.length) (hp : 0 < dist.getD v (-1)) : ∃ y : Nat, hopV g dist v = y ∧ y < g.length ∧ dist.getD y (-1) = dist.getD v (-1) - 1 := by
  obtain ⟨x, hx, x0, x1, x2⟩ := h.step v hv hp
  unfold hopV hopOf
  rw [if_pos hp]
  have hrow : rowG g v = g[v] := by unfold rowG; rw [List.getD_eq_getElem?_getD, List.getElem?_eq_getElem hv]; rfl
  rcases hf : (rowG g v).find? (fun x => decide (atI dist x = dist.getD v (-1) - 1)) with _ | y
  · have := List.find?_eq_none.1 hf x hx
    simp [x2] at this
  · have h1 := List.find?_some hf
    have h2 := List.mem_of_find?_eq_some hf
    have h3 := validG_row hg hv y (by rw [← hrow]; exact h2)
    refine ⟨y.toNat, by show y = _; omega, by omega, ?_⟩
    simpa [atI] using h1
/-- The path of f hops. -/
def pathF (h : List Int) : Nat → Int → List Int
  | 0, v => [v]
  | f + 1, v => v :: pathF h f (atI h v)
theorem pathF_length (h : List Int) : ∀ (f : Nat) (v : Int), (pathF h f v).length = f + 1
  | 0, _ => rfl
  | f + 1, v => by simp [pathF, pathF_length h f]
def firstF (g : GraphD) (s : List Bool) (a goal : Nat) : List Int :=
  if (distF g s goal).getD a (-1) < 0 then [] else pathF (hopsL g (distF g s goal)) ((distF g s goal).getD a (-1)).toNat a
/-- The nearest of a row, of those before k: the first one, or -1. -/
def bestK (row dist : List Int) : Nat → Int
  | 0 => -1
  | k + 1 => let b := bestK row dist k
             let x := row.getD k 0
             if 0 ≤ atI dist x ∧ (b < 0 ∨ atI dist x < atI dist b) then x else b
def thrF (g : GraphD) (s : List Bool) (v : Nat) : List Int :=
  if atB s v then [] else
    let b := bestK (rowG g v) (distF g s v) (rowG g v).length
    if b < 0 then [] else (v : Int) :: (firstF g s b.toNat v).dropLast
theorem bestK_ok {g : GraphD} {v : Nat} {dist : List Int} (hg : validG g = true) (hv : v < g.length) : ∀ k, k ≤ (rowG g v).length → bestK (rowG g v) dist k = -1 ∨ 0 ≤ bestK (rowG g v) dist k ∧ bestK (rowG g v) dist k < g.length ∧ 0 ≤ atI dist (bestK (rowG g v) dist k)
  | 0, _ => .inl rfl
  | k + 1, hk => by
    have ih := bestK_ok (dist := dist) hg hv k (by omega)
    have hrow : rowG g v = g[v] := by unfold rowG; rw [List.getD_eq_getElem?_getD, List.getElem?_eq_getElem hv]; rfl
    unfold bestK
    simp only
    split
    · rename_i h
      have hx : (rowG g v).getD k 0 ∈ g[v] := by
        rw [List.getD_eq_getElem?_getD, List.getElem?_eq_getElem (by omega)]
        simp only [Option.getD_some]
        rw [← hrow]
        exact List.getElem_mem _
      have := validG_row hg hv _ hx
      exact .inr ⟨this.1, this.2.1, h.1⟩
    · exact ih
def girK (g : GraphD) (s : List Bool) : Nat → List Int
  | 0 => []
  | k + 1 => let b := girK g s k
             let t := thrF g s k
             if 0 < t.length ∧ (b.length = 0 ∨ t.length < b.length) then t else b
def girF (g : GraphD) (s : List Bool) : List Int := girK g s g.length
theorem firstF_short {g : GraphD} {s : List Bool} {a goal : Nat} (hg : validG g = true) (hv : goal < g.length) : (firstF g s a goal).length ≤ 25 := by
  unfold firstF
  split
  · simp
  · rename_i h
    rw [pathF_length]
    rcases hs : atB s goal with _ | _
    · have := ((distF_inv hg hv hs).low a).2
      omega
    · exfalso
      apply h
      rw [distF_shut hs, List.getD_eq_getElem?_getD, List.getElem?_replicate]
      split <;> simp
theorem thrF_short {g : GraphD} {s : List Bool} {v : Nat} (hg : validG g = true) (hv : v < g.length) : (thrF g s v).length ≤ 25 := by
  unfold thrF
  split
  · simp
  · simp only
    split
    · simp
    · rename_i h
      have := firstF_short (s := s) (a := (bestK (rowG g v) (distF g s v) (rowG g v).length).toNat) hg hv
      simp only [List.length_cons, List.length_dropLast]
      omega
theorem girK_short {g : GraphD} {s : List Bool} (hg : validG g = true) : ∀ k, k ≤ g.length → (girK g s k).length ≤ 25
  | 0, _ => by simp [girK]
  | k + 1, hk => by
    have ih := girK_short (s := s) hg k (by omega)
    have ht := thrF_short (s := s) hg (show k < g.length by omega)
    unfold girK
    simp only
    split
    · exact ht
    · exact ih
end Go.Proofs.Ytfgpenekmokdiaa.Fl
namespace Go.Proofs.Ytfgpenekmokdiaa.Fl

/-- An edge from u to v. -/
def EdgeG (g : GraphD) (u v : Nat) : Prop := (v : Int) ∈ rowG g u
/-- u reaches v over open vertices. -/
inductive PathG (g : GraphD) (s : List Bool) : Nat → Nat → Prop
  | refl {u : Nat} : u < g.length → atB s u = false → PathG g s u u
  | step {u v x : Nat} : PathG g s u v → EdgeG g v x → x < g.length → atB s x = false → PathG g s u x
theorem PathG.right {g : GraphD} {s : List Bool} {u v : Nat} (h : PathG g s u v) : v < g.length ∧ atB s v = false := by
  cases h with
  | refl h1 h2 => exact ⟨h1, h2⟩
  | step _ _ h1 h2 => exact ⟨h1, h2⟩
theorem PathG.left {g : GraphD} {s : List Bool} {u v : Nat} (h : PathG g s u v) : u < g.length ∧ atB s u = false := by
  induction h with
  | refl h1 h2 => exact ⟨h1, h2⟩
  | step _ _ _ _ ih => exact ih
theorem PathG.trans {g : GraphD} {s : List Bool} {u v x : Nat} (h : PathG g s u v) (k : PathG g s v x) : PathG g s u x := by
  induction k with
  | refl _ _ => exact h
  | step _ e h1 h2 ih => exact .step ih e h1 h2
theorem PathG.head {g : GraphD} {s : List Bool} {u v x : Nat} (h1 : u < g.length) (h2 : atB s u = false) (e : EdgeG g u v) (k : PathG g s v x) : PathG g s u x :=
  (PathG.step (.refl h1 h2) e k.left.1 k.left.2).trans k
/-- With less shut, no less is reached. -/
theorem PathG.mono {g : GraphD} {s m : List Bool} (hs : ∀ v, atB s v = true → atB m v = true) {u v : Nat} (h : PathG g m u v) : PathG g s u v := by
  have key : ∀ v, atB m v = false → atB s v = false := fun v hv => by
    rcases h : atB s v with _ | _
    · rfl
    · rw [hs v h] at hv; cases hv
  induction h with
  | refl h1 h2 => exact .refl h1 (key _ h2)
  | step _ e h1 h2 ih => exact .step ih e h1 (key _ h2)
/-- A set that holds u and is closed under edges to open vertices holds all that u reaches. -/
theorem PathG.closed {g : GraphD} {s : List Bool} {P : Nat → Prop} {u v : Nat} (hu : P u) (hc : ∀ a b, P a → EdgeG g a b → b < g.length → atB s b = false → P b) (h : PathG g s u v) : P v := by
  induction h with
  | refl _ _ => exact hu
  | step _ e h1 h2 ih => exact hc _ _ ih e h1 h2
open Classical in
/-- Which vertices v reaches. -/
noncomputable def reachL (g : GraphD) (s : List Bool) (v : Nat) : List Bool := (List.range g.length).map (fun x => decide (PathG g s v x))
theorem reachL_length (g : GraphD) (s : List Bool) (v : Nat) : (reachL g s v).length = g.length := by simp [reachL]
theorem reachL_at {g : GraphD} {s : List Bool} {v x : Nat} (hx : x < g.length) : atB (reachL g s v) x = true ↔ PathG g s v x := by
  unfold atB reachL
  rw [List.getD_eq_getElem?_getD]
  simp [hx]
theorem reachL_eq {g : GraphD} {s l : List Bool} {v : Nat} (hl : l.length = g.length) (h : ∀ x, x < g.length → (atB l x = true ↔ PathG g s v x)) : l = reachL g s v := by
  apply List.ext_getElem?
  intro x
  rcases Nat.lt_or_ge x g.length with hx | hx
  · have h1 := h x hx
    have h2 := reachL_at (s := s) (v := v) hx
    have e : atB l x = atB (reachL g s v) x := by rw [Bool.eq_iff_iff, h1, h2]
    unfold atB at e
    rw [List.getD_eq_getElem?_getD, List.getD_eq_getElem?_getD, List.getElem?_eq_getElem (by omega), List.getElem?_eq_getElem (by rw [reachL_length]; omega)] at e
    rw [List.getElem?_eq_getElem (by omega), List.getElem?_eq_getElem (by rw [reachL_length]; omega)]
    simpa using e
  · rw [List.getElem?_eq_none (by omega), List.getElem?_eq_none (by rw [reachL_length]; omega)]

/-- Two strictly ascending lists with the same elements are the same. -/
theorem sorted_ext : ∀ {a b : List Int}, a.Pairwise (· < ·) → b.Pairwise (· < ·) → (∀ x, x ∈ a ↔ x ∈ b) → a = b
  | [], [], _, _, _ => rfl
  | [], y :: b, _, _, h => by have := (h y).2 (by simp); simp at this
  | x :: a, [], _, _, h => by have := (h x).1 (by simp); simp at this
  | x :: a, y :: b, ha, hb, h => by
    have h1 := List.pairwise_cons.1 ha
    have h2 := List.pairwise_cons.1 hb
    have e : x = y := by
      rcases List.mem_cons.1 ((h x).1 (by simp)) with e | hx
      · exact e
      · rcases List.mem_cons.1 ((h y).2 (by simp)) with e | hy
        · exact e.symm
        · have := h2.1 x hx; have := h1.1 y hy; omega
    subst e
    congr 1
    refine sorted_ext h1.2 h2.2 fun z => ?_
    have hz := h z
    rw [List.mem_cons, List.mem_cons] at hz
    constructor
    · intro hza
      rcases hz.1 (.inr hza) with e | hzb
      · have := h1.1 z hza; omega
      · exact hzb
    · intro hzb
      rcases hz.2 (.inr hzb) with e | hza
      · have := h2.1 z hzb; omega
      · exact hza
theorem validG_sorted {g : GraphD} (h : validG g = true) {k : Nat} (hk : k < g.length) : g[k].Pairwise (· < ·) := by
  unfold validG at h
  simp only [Bool.and_eq_true] at h
  exact (rowOk_sorted (rowsOk_at h.2 k hk)).1
theorem rowOk_mk {n v : Int} : ∀ {l : List Int} {p : Option Int}, l.Pairwise (· < ·) → (∀ x ∈ l, 0 ≤ x ∧ x < n ∧ x ≠ v) → (∀ y, p = some y → ∀ x ∈ l, y < x) → rowOk n v p l = true
  | [], _, _, _, _ => by simp [rowOk]
  | x :: l, p, hp, hm, hb => by
    have h1 := List.pairwise_cons.1 hp
    simp only [rowOk, Bool.and_eq_true, decide_eq_true_eq]
    refine ⟨⟨hm x (by simp), ?_⟩, rowOk_mk h1.2 (fun z hz => hm z (by simp [hz])) (fun y hy z hz => by injection hy with hy; subst hy; exact h1.1 z hz)⟩
    cases p with
    | none => rfl
    | some y => simpa [overP] using hb y rfl x (by simp)
theorem rowsOk_mk {n : Int} : ∀ {g : GraphD} {v : Int}, (∀ (k : Nat) (hk : k < g.length), rowOk n (v + k) none g[k] = true) → rowsOk n v g = true
  | [], _, _ => rfl
  | r :: g, v, h => by
    simp only [rowsOk, Bool.and_eq_true]
    refine ⟨by have := h 0 (by simp); rwa [show v + ((0 : Nat) : Int) = v by omega] at this, rowsOk_mk fun k hk => ?_⟩
    have := h (k + 1) (by simpa using hk)
    rw [show v + 1 + (k : Int) = v + ((k + 1 : Nat) : Int) by omega]
    simpa using this
theorem validG_mk {g : GraphD} (hl : g.length ≤ 24) (hs : ∀ (k : Nat) (hk : k < g.length), g[k].Pairwise (· < ·)) (hm : ∀ (k : Nat) (hk : k < g.length), ∀ x ∈ g[k], 0 ≤ x ∧ x < g.length ∧ x ≠ k) : validG g = true := by
  unfold validG
  rw [decide_eq_true hl, Bool.true_and]
  refine rowsOk_mk fun k hk => ?_
  rw [Int.zero_add]
  exact rowOk_mk (hs k hk) (hm k hk) (by simp)
theorem rowG_get {g : GraphD} {v : Nat} (hv : v < g.length) : rowG g v = g[v] := by unfold rowG; rw [List.getD_eq_getElem?_getD, List.getElem?_eq_getElem hv]; rfl
theorem rowG_out {g : GraphD} {v : Nat} (hv : g.length ≤ v) : rowG g v = [] := by unfold rowG; rw [List.getD_eq_getElem?_getD, List.getElem?_eq_none hv]; rfl
theorem EdgeG.range {g : GraphD} (hg : validG g = true) {u v : Nat} (h : EdgeG g u v) : u < g.length ∧ v < g.length ∧ v ≠ u := by
  rcases Nat.lt_or_ge u g.length with hu | hu
  · unfold EdgeG at h
    rw [rowG_get hu] at h
    have := validG_row hg hu _ h
    omega
  · unfold EdgeG at h
    rw [rowG_out hu] at h
    simp at h
/-- The vertices before k with an edge to x, ascending. -/
def intoK (g : GraphD) (k x : Nat) : List Int := ((List.range k).filter (fun (v : Nat) => decide ((x : Int) ∈ rowG g v))).map (fun v : Nat => (v : Int))
/-- The reversed graph. -/
def revG (g : GraphD) : GraphD := (List.range g.length).map (intoK g g.length)
theorem revG_length (g : GraphD) : (revG g).length = g.length := by simp [revG]
theorem intoK_sorted (g : GraphD) (k x : Nat) : (intoK g k x).Pairwise (· < ·) := by
  unfold intoK
  rw [List.pairwise_map]
  refine (List.Pairwise.filter _ (List.pairwise_lt_range (n := k))).imp fun h => ?_
  omega
theorem intoK_mem {g : GraphD} {k x : Nat} {z : Int} : z ∈ intoK g k x ↔ ∃ v : Nat, v < k ∧ (x : Int) ∈ rowG g v ∧ z = v := by
  unfold intoK
  simp only [List.mem_map, List.mem_filter, List.mem_range, decide_eq_true_eq]
  constructor
  · rintro ⟨v, ⟨h1, h2⟩, rfl⟩; exact ⟨v, h1, h2, rfl⟩
  · rintro ⟨v, h1, h2, rfl⟩; exact ⟨v, ⟨h1, h2⟩, rfl⟩
theorem revG_row {g : GraphD} {x : Nat} (hx : x < g.length) : rowG (revG g) x = intoK g g.length x := by
  unfold rowG revG
  rw [List.getD_eq_getElem?_getD]
  simp [hx]
theorem revG_edge {g : GraphD} {u v : Nat} (hu : u < g.length) : EdgeG (revG g) u v ↔ v < g.length ∧ EdgeG g v u := by
  unfold EdgeG
  rw [revG_row hu, intoK_mem]
  constructor
  · rintro ⟨a, h1, h2, h3⟩
    obtain rfl : v = a := by omega
    exact ⟨h1, h2⟩
  · rintro ⟨h1, h2⟩
    exact ⟨v, h1, h2, rfl⟩
theorem revG_valid {g : GraphD} (hg : validG g = true) : validG (revG g) = true := by
  refine validG_mk (by rw [revG_length]; exact validG_len hg) (fun k hk => ?_) (fun k hk x hx => ?_)
  · rw [revG_length] at hk
    rw [← rowG_get, revG_row hk]
    exact intoK_sorted _ _ _
  · have hk' := hk
    rw [revG_length] at hk'
    rw [← rowG_get, revG_row hk', intoK_mem] at hx
    obtain ⟨v, h1, h2, rfl⟩ := hx
    have h3 : EdgeG g v k := h2
    have := h3.range hg
    rw [revG_length]
    omega
theorem revG_rev {g : GraphD} (hg : validG g = true) : revG (revG g) = g := by
  apply List.ext_getElem (by rw [revG_length, revG_length])
  intro x h1 h2
  rw [← rowG_get, revG_row (by rw [revG_length]; exact h2)]
  refine sorted_ext (intoK_sorted _ _ _) (validG_sorted hg h2) fun z => ?_
  rw [intoK_mem, ← rowG_get h2]
  constructor
  · rintro ⟨v, h3, h4, rfl⟩
    rw [revG_length] at h3
    have h5 : EdgeG (revG g) v x := h4
    exact ((revG_edge h3).1 h5).2
  · intro hz
    rw [rowG_get h2] at hz
    have hr := validG_row hg h2 z hz
    refine ⟨z.toNat, by rw [revG_length]; omega, ?_, by omega⟩
    have : EdgeG (revG g) z.toNat x := (revG_edge (by omega)).2 ⟨h2, by unfold EdgeG; rw [rowG_get h2, show ((z.toNat : Nat) : Int) = z by omega]; exact hz⟩
    exact this
/-- Paths turn round with the edges. -/
theorem PathG.rev {g : GraphD} {s : List Bool} {u v : Nat} (h : PathG g s u v) : PathG (revG g) s v u := by
  induction h with
  | refl h1 h2 => exact .refl (by rwa [revG_length]) h2
  | step p e h1 h2 ih => exact .head (by rwa [revG_length]) h2 ((revG_edge h1).2 ⟨p.right.1, e⟩) ih
theorem path_rev {g : GraphD} {s : List Bool} (hg : validG g = true) {u v : Nat} : PathG g s u v ↔ PathG (revG g) s v u :=
  ⟨fun h => h.rev, fun h => by have := h.rev; rwa [revG_rev hg] at this⟩
/-- The graph without the edges from and to shut vertices. -/
def woRow (s : List Bool) (row : List Int) : List Int := row.filter (fun x => !atB s x.toNat)
def woG (g : GraphD) (s : List Bool) : GraphD := (List.range g.length).map (fun v => if atB s v then [] else woRow s (rowG g v))
theorem woG_length (g : GraphD) (s : List Bool) : (woG g s).length = g.length := by simp [woG]
theorem woG_row {g : GraphD} {s : List Bool} {x : Nat} (hx : x < g.length) : rowG (woG g s) x = if atB s x then [] else woRow s (rowG g x) := by
  rw [rowG_get (by rwa [woG_length])]
  simp [woG]
theorem woG_edge {g : GraphD} {s : List Bool} {u v : Nat} (hu : u < g.length) : EdgeG (woG g s) u v ↔ EdgeG g u v ∧ atB s u = false ∧ atB s v = false := by
  unfold EdgeG
  rw [woG_row hu]
  rcases h : atB s u with _ | _
  · simp [woRow]
  · simp
theorem woG_valid {g : GraphD} {s : List Bool} (hg : validG g = true) : validG (woG g s) = true := by
  refine validG_mk (by rw [woG_length]; exact validG_len hg) (fun k hk => ?_) (fun k hk x hx => ?_)
  · rw [woG_length] at hk
    rw [← rowG_get, woG_row hk]
    split
    · exact .nil
    · rw [rowG_get hk]
      exact (validG_sorted hg hk).filter _
  · have hk' := hk
    rw [woG_length] at hk'
    rw [← rowG_get, woG_row hk'] at hx
    rw [woG_length]
    split at hx
    · simp at hx
    · rw [rowG_get hk'] at hx
      exact validG_row hg hk' x (List.mem_filter.1 hx).1
/-- Between open vertices nothing changes without the edges at shut ones. -/
theorem path_wo {g : GraphD} {s z : List Bool} (hz : ∀ v, atB z v = false) {u v : Nat} (hu : atB s u = false) (hul : u < g.length) : PathG g s u v ↔ PathG (woG g s) z u v := by
  constructor
  · intro h
    induction h with
    | refl h1 h2 => exact .refl (by rwa [woG_length]) (hz _)
    | step p e h1 h2 ih => exact .step ih ((woG_edge p.right.1).2 ⟨e, p.right.2, h2⟩) (by rwa [woG_length]) (hz _)
  · intro h
    induction h with
    | refl h1 h2 => exact .refl hul hu
    | step p e h1 h2 ih =>
      have h3 := ih
      have h4 := (woG_edge h3.right.1).1 e
      exact .step h3 h4.1 (by rwa [woG_length] at h1) h4.2.2
/-- All open vertices reach each other if and only if one of them reaches all, in the graph and in the reversed one. -/
theorem mutual_one {g : GraphD} {s : List Bool} (hg : validG g = true) {a : Nat} (ha : a < g.length) (hs : atB s a = false) :
    (∀ u v, u < g.length → v < g.length → atB s u = false → atB s v = false → PathG g s u v) ↔ ∀ v, v < g.length → atB s v = false → PathG g s a v ∧ PathG (revG g) s a v := by
  constructor
  · intro h v hv hv2
    exact ⟨h a v ha hv hs hv2, (path_rev hg).1 (h v a hv ha hv2 hs)⟩
  · intro h u v hu hv hu2 hv2
    exact ((path_rev hg).2 (h u hu hu2).2).trans (h v hv hv2).1
end Go.Proofs.Ytfgpenekmokdiaa.Fl
