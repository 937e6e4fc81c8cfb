/- Steps to a vertex found level by level; the first shortest closed walk read off them. No program is named here. -/
import Derived.Test.YtfgpenekmokdiaaMzAH
namespace Go.Proofs.Ytfgpenekmokdiaa.Fl

abbrev atZ (M : List Int) (u : Nat) : Int := M.getD u 0
theorem atZ_at {M : List Int} {u : Nat} (h : u < M.length) : atZ M u = M[u] := by unfold atZ; rw [List.getD_eq_getElem?_getD, List.getElem?_eq_getElem h]; rfl
theorem atZ_set {M : List Int} {v u : Nat} {d : Int} (hv : v < M.length) : atZ (M.set v d) u = if u = v then d else atZ M u := by
  unfold atZ
  rw [List.getD_eq_getElem?_getD, List.getElem?_set, List.getD_eq_getElem?_getD]
  by_cases e : u = v
  · subst e; simp [hv]
  · rw [if_neg (fun h => e h.symm), if_neg e]
/-- Walks of at least one edge. -/
inductive Wn (h : GraphD) : Nat → Nat → Nat → Prop
  | one {u v : Nat} : EdgeG h u v → Wn h 1 u v
  | succ {k u y v : Nat} : EdgeG h u y → Wn h k y v → Wn h (k + 1) u v
theorem Wn.pos {h : GraphD} {k u v : Nat} (w : Wn h k u v) : 1 ≤ k := by cases w <;> omega
theorem Wn.first {h : GraphD} {k u v : Nat} (w : Wn h k u v) : (k = 1 ∧ EdgeG h u v) ∨ ∃ y, EdgeG h u y ∧ 1 ≤ k - 1 ∧ Wn h (k - 1) y v := by
  cases w with
  | one e => exact .inl ⟨rfl, e⟩
  | succ e w' => exact .inr ⟨_, e, by have := w'.pos; omega, w'⟩
/-- What is known before the round of distance d. -/
structure StK (h : GraphD) (v d : Nat) (M : List Int) : Prop where
  len : M.length = h.length
  sound : ∀ u, u < h.length → atZ M u ≠ 0 → ∃ k : Nat, atZ M u = k ∧ 1 ≤ k ∧ k < d ∧ Wn h k u v
  all : ∀ u k, u < h.length → Wn h k u v → k < d → 1 ≤ atZ M u ∧ atZ M u ≤ k
structure StO (h : GraphD) (v d : Nat) (M Q : List Int) : Prop where
  kn : StK h v d M
  one : 1 ≤ d
  que : ∀ x ∈ Q, 0 ≤ x ∧ x < h.length ∧ ((d = 1 ∧ x = v) ∨ (1 < d ∧ Wn h (d - 1) x.toNat v))
  has : ∀ y : Nat, y < h.length → ((d = 1 ∧ y = v) ∨ (1 < d ∧ atZ M y = (d : Int) - 1)) → (y : Int) ∈ Q
/-- In the round of distance d, at edge m of the reversed row of vertex i of the level; A is the next level. -/
structure StM (h : GraphD) (v d : Nat) (Q : List Int) (i m : Nat) (M A : List Int) : Prop where
  len : M.length = h.length
  one : 1 ≤ d
  que : ∀ x ∈ Q, 0 ≤ x ∧ x < h.length ∧ ((d = 1 ∧ x = v) ∨ (1 < d ∧ Wn h (d - 1) x.toNat v))
  sound : ∀ u, u < h.length → atZ M u ≠ 0 → ∃ k : Nat, atZ M u = k ∧ 1 ≤ k ∧ k ≤ d ∧ Wn h k u v
  all : ∀ u k, u < h.length → Wn h k u v → k < d → 1 ≤ atZ M u ∧ atZ M u ≤ k
  has : ∀ y : Nat, y < h.length → ((d = 1 ∧ y = v) ∨ (1 < d ∧ atZ M y = (d : Int) - 1)) → (y : Int) ∈ Q
  app : ∀ x : Int, x ∈ A ↔ 0 ≤ x ∧ x < h.length ∧ atZ M x.toNat = d
  done : ∀ (j y u : Nat), j < i → Q[j]? = some (y : Int) → u < h.length → EdgeG h u y → atZ M u ≠ 0
  part : ∀ (j y : Nat) (z : Int), j < m → Q[i]? = some (y : Int) → (rowG (revG h) y)[j]? = some z → atZ M z.toNat ≠ 0
theorem StO.start {h : GraphD} {v : Nat} (hv : v < h.length) : StO h v 1 (List.replicate h.length 0) [(v : Int)] := by
  have h0 : ∀ u, atZ (List.replicate h.length 0) u = 0 := fun u => by
    unfold atZ; rw [List.getD_eq_getElem?_getD, List.getElem?_replicate]; split <;> rfl
  refine ⟨⟨by simp, fun u _ hu => absurd (h0 u) hu, fun u k _ w hk => by have := w.pos; omega⟩, Nat.le_refl _, fun x hx => ?_, fun y hy h1 => ?_⟩
  · simp at hx
    subst hx
    exact ⟨by omega, by omega, .inl ⟨rfl, rfl⟩⟩
  · rcases h1 with ⟨_, rfl⟩ | ⟨h1, _⟩
    · simp
    · omega
theorem StO.mid {h : GraphD} {v d : Nat} {M Q : List Int} (hs : StO h v d M Q) : StM h v d Q 0 0 M [] := by
  refine ⟨hs.kn.len, hs.one, hs.que, fun u hu h0 => ?_, hs.kn.all, hs.has, fun x => ⟨fun hx => by simp at hx, fun hx => ?_⟩, fun j y u hj => by omega, fun j y z hj => by omega⟩
  · obtain ⟨k, h1, h2, h3, h4⟩ := hs.kn.sound u hu h0
    exact ⟨k, h1, h2, by omega, h4⟩
  · exfalso
    have h1 := hs.one
    obtain ⟨k, h2, h3, h4, h5⟩ := hs.kn.sound x.toNat (by omega) (by omega)
    omega
theorem StM.skip {h : GraphD} {v d : Nat} {Q : List Int} {i m : Nat} {M A : List Int} (hs : StM h v d Q i m M A) {y : Nat} {z : Int} (hy : Q[i]? = some (y : Int)) (hz : (rowG (revG h) y)[m]? = some z) (h0 : atZ M z.toNat ≠ 0) : StM h v d Q i (m + 1) M A := by
  refine ⟨hs.len, hs.one, hs.que, hs.sound, hs.all, hs.has, hs.app, hs.done, fun j y2 z2 hj hy2 hz2 => ?_⟩
  rcases Nat.lt_succ_iff_lt_or_eq.1 hj with hj | rfl
  · exact hs.part j y2 z2 hj hy2 hz2
  · rw [hy] at hy2
    injection hy2 with e
    obtain rfl : y = y2 := by omega
    rw [hz] at hz2
    injection hz2 with e
    subst e
    exact h0
theorem StM.mark {h : GraphD} {v d : Nat} {Q : List Int} {i m : Nat} {M A : List Int} (hs : StM h v d Q i m M A) {y z : Nat} (hy : Q[i]? = some (y : Int)) (hz : (rowG (revG h) y)[m]? = some (z : Int)) (hzl : z < h.length) (h0 : atZ M z = 0) : StM h v d Q i (m + 1) (M.set z d) (A ++ [(z : Int)]) := by
  have hd := hs.one
  have key : ∀ u, atZ (M.set z (d : Int)) u = if u = z then (d : Int) else atZ M u := fun u => atZ_set (by rw [hs.len]; exact hzl)
  have keep : ∀ u, atZ M u ≠ 0 → atZ (M.set z (d : Int)) u = atZ M u := fun u hu => by
    rw [key, if_neg (fun e => hu (by rw [e]; exact h0))]
  have some0 : ∀ u, atZ M u ≠ 0 → atZ (M.set z (d : Int)) u ≠ 0 := fun u hu => by rw [keep u hu]; exact hu
  have hyQ := hs.que _ (List.mem_of_getElem? hy)
  have hyl : y < h.length := by omega
  have he : EdgeG h z y := by
    have h1 : EdgeG (revG h) y z := List.mem_of_getElem? hz
    exact ((revG_edge hyl).1 h1).2
  have hw : Wn h d z v := by
    rcases hyQ.2.2 with ⟨h1, h2⟩ | ⟨h1, h2⟩
    · obtain rfl : y = v := by omega
      rw [h1]; exact .one he
    · rw [Int.toNat_natCast] at h2
      have h3 := Wn.succ he h2
      rwa [show d - 1 + 1 = d by omega] at h3
  have hno : ∀ k, Wn h k z v → d ≤ k := fun k w => by
    rcases Nat.lt_or_ge k d with hk | hk
    · have := hs.all z k hzl w hk; omega
    · exact hk
  refine ⟨by simpa using hs.len, hd, hs.que, fun u hu h1 => ?_, fun u k hu w hk => ?_, fun u hu h1 => ?_, fun x => ?_, fun j y2 u hj hy2 hu he2 => some0 _ (hs.done j y2 u hj hy2 hu he2), fun j y2 z2 hj hy2 hz2 => ?_⟩
  · rw [key] at h1 ⊢
    split
    · rename_i e
      subst e
      exact ⟨d, rfl, hd, Nat.le_refl _, hw⟩
    · rename_i e
      rw [if_neg e] at h1
      exact hs.sound u hu h1
  · have h2 := hs.all u k hu w hk
    rw [keep u (by omega)]
    exact h2
  · refine hs.has u hu ?_
    rcases h1 with h1 | ⟨h1, h2⟩
    · exact .inl h1
    · rw [key] at h2
      split at h2
      · omega
      · exact .inr ⟨h1, h2⟩
  · rw [List.mem_append, List.mem_singleton, hs.app, key]
    constructor
    · rintro (⟨a1, a2, a3⟩ | rfl)
      · refine ⟨a1, a2, ?_⟩
        split
        · rfl
        · exact a3
      · exact ⟨by omega, by omega, by rw [Int.toNat_natCast, if_pos rfl]⟩
    · rintro ⟨a1, a2, a3⟩
      split at a3
      · rename_i e
        exact .inr (by omega)
      · exact .inl ⟨a1, a2, a3⟩
  · rcases Nat.lt_succ_iff_lt_or_eq.1 hj with hj | rfl
    · exact some0 _ (hs.part j y2 z2 hj hy2 hz2)
    · rw [hy] at hy2
      injection hy2 with e
      obtain rfl : y = y2 := by omega
      rw [hz] at hz2
      injection hz2 with e
      subst e
      rw [Int.toNat_natCast, key, if_pos rfl]
      omega
theorem StM.next {h : GraphD} {v d : Nat} {Q : List Int} {i m : Nat} {M A : List Int} (hs : StM h v d Q i m M A) {y : Nat} (hy : Q[i]? = some (y : Int)) (hm : (rowG (revG h) y).length ≤ m) : StM h v d Q (i + 1) 0 M A := by
  refine ⟨hs.len, hs.one, hs.que, hs.sound, hs.all, hs.has, hs.app, fun j y2 u hj hy2 hu he => ?_, fun j y2 z hj => by omega⟩
  rcases Nat.lt_succ_iff_lt_or_eq.1 hj with hj | rfl
  · exact hs.done j y2 u hj hy2 hu he
  · rw [hy] at hy2
    injection hy2 with e
    obtain rfl : y = y2 := by omega
    have hyl : y < h.length := by have := hs.que _ (List.mem_of_getElem? hy); omega
    have h1 : EdgeG (revG h) y u := (revG_edge hyl).2 ⟨hu, he⟩
    obtain ⟨k, hk, e⟩ := List.mem_iff_getElem.1 h1
    have := hs.part k y u (by omega) hy (by rw [List.getElem?_eq_getElem hk, e])
    rwa [Int.toNat_natCast] at this
theorem StM.over {h : GraphD} {v d : Nat} {Q : List Int} {i m : Nat} {M A : List Int} (hg : validG h = true) (hs : StM h v d Q i m M A) (hi : Q.length ≤ i) : StO h v (d + 1) M A := by
  have hd := hs.one
  have hall : ∀ u k, u < h.length → Wn h k u v → k < d + 1 → 1 ≤ atZ M u ∧ atZ M u ≤ k := fun u k hu w hk => by
    rcases Nat.lt_succ_iff_lt_or_eq.1 hk with hk | rfl
    · exact hs.all u k hu w hk
    · by_cases h0 : atZ M u = 0
      · exfalso
        have fin : ∀ y : Nat, (y : Int) ∈ Q → ¬ EdgeG h u y := fun y hy he => by
          obtain ⟨j, hj, e⟩ := List.mem_iff_getElem.1 hy
          exact hs.done j y u (by omega) (by rw [List.getElem?_eq_getElem hj, e]) hu he h0
        rcases w.first with ⟨h1, he⟩ | ⟨y, he, h1, w2⟩
        · exact fin v (hs.has v (he.range hg).2.1 (.inl ⟨h1, rfl⟩)) he
        · have hyl := (he.range hg).2.1
          have h2 := hs.all y (k - 1) hyl w2 (by omega)
          refine fin y (hs.has y hyl (.inr ⟨by omega, ?_⟩)) he
          obtain ⟨j, h3, h4, h5, h6⟩ := hs.sound y hyl (by omega)
          have h7 : ¬ j + 1 < k := fun h7 => by
            have := hs.all u (j + 1) hu (.succ he h6) h7
            omega
          omega
      · obtain ⟨j, h3, h4, h5, h6⟩ := hs.sound u hu h0
        omega
  refine ⟨⟨hs.len, fun u hu h0 => ?_, hall⟩, by omega, fun x hx => ?_, fun y hy h1 => ?_⟩
  · obtain ⟨j, h3, h4, h5, h6⟩ := hs.sound u hu h0
    exact ⟨j, h3, h4, by omega, h6⟩
  · obtain ⟨h1, h2, h3⟩ := (hs.app x).1 hx
    refine ⟨h1, h2, .inr ⟨by omega, ?_⟩⟩
    obtain ⟨j, h4, h5, h6, h7⟩ := hs.sound x.toNat (by omega) (by omega)
    obtain rfl : j = d := by omega
    exact h7
  · rcases h1 with ⟨h1, _⟩ | ⟨h1, h2⟩
    · omega
    · exact (hs.app y).2 ⟨by omega, by omega, by rw [Int.toNat_natCast]; omega⟩
/-- All steps are known. -/
structure StF (h : GraphD) (v : Nat) (M : List Int) : Prop where
  len : M.length = h.length
  sound : ∀ u, u < h.length → atZ M u ≠ 0 → ∃ k : Nat, atZ M u = k ∧ 1 ≤ k ∧ Wn h k u v
  all : ∀ u k, u < h.length → Wn h k u v → 1 ≤ atZ M u ∧ atZ M u ≤ k
theorem StO.end_ {h : GraphD} {v d : Nat} {M : List Int} (hg : validG h = true) (hs : StO h v d M []) : StF h v M := by
  have hno : ∀ y : Nat, y < h.length → ¬ ((d = 1 ∧ y = v) ∨ (1 < d ∧ atZ M y = (d : Int) - 1)) := fun y hy h1 => by
    have := hs.has y hy h1
    simp at this
  refine ⟨hs.kn.len, fun u hu h0 => ?_, ?_⟩
  · obtain ⟨k, h1, h2, _, h3⟩ := hs.kn.sound u hu h0
    exact ⟨k, h1, h2, h3⟩
  · intro u k
    induction k generalizing u with
    | zero => intro _ w; have := w.pos; omega
    | succ k ih =>
      intro hu w
      by_cases hk : k + 1 < d
      · exact hs.kn.all u (k + 1) hu w hk
      · rcases w.first with ⟨h1, he⟩ | ⟨y, he, h1, w2⟩
        · exfalso
          have h2 := hs.one
          exact hno v (he.range hg).2.1 (.inl ⟨by omega, rfl⟩)
        · have hyl := (he.range hg).2.1
          have h2 := ih y hyl w2
          obtain ⟨j, h3, h4, h5, h6⟩ := hs.kn.sound y hyl (by omega)
          have h7 : ¬ atZ M y = (d : Int) - 1 := fun h7 => hno y hyl (.inr ⟨by omega, h7⟩)
          have h8 := hs.kn.all u (j + 1) hu (.succ he h6) (by omega)
          omega
/-- How many are not marked. -/
def zer (M : List Int) : Nat := (M.filter (fun x => decide (x = 0))).length
theorem zer_set {d : Int} (hd : d ≠ 0) : ∀ {M : List Int} {y : Nat} (hy : y < M.length), M[y] = 0 → zer (M.set y d) + 1 = zer M
  | [], _, hy, _ => by simp at hy
  | x :: M, 0, _, h => by
    have h : x = 0 := h
    simp [zer, h, hd]
  | x :: M, y + 1, hy, h => by
    have ih := zer_set hd (M := M) (y := y) (by simpa using hy) (by simpa using h)
    unfold zer at ih ⊢
    rw [List.set_cons_succ, List.filter_cons, List.filter_cons]
    by_cases e : decide (x = 0) = true
    · rw [if_pos e, if_pos e, List.length_cons, List.length_cons]
      omega
    · rw [if_neg e, if_neg e]
      exact ih
theorem zer_start (n : Nat) : zer (List.replicate n 0) = n := by simp [zer]
theorem zer_le (M : List Int) : zer M ≤ M.length := List.length_filter_le _ _

/-! ### The walk -/
def nxF (h : GraphD) (M : List Int) (x f : Nat) : Nat := (((rowG h x).find? (fun y => decide (atZ M y.toNat = f))).getD 0).toNat
def wkF (h : GraphD) (M : List Int) : Nat → Nat → List Int
  | 0, x => [(x : Int)]
  | f + 1, x => (x : Int) :: wkF h M f (nxF h M x (f + 1))
theorem wkF_length (h : GraphD) (M : List Int) : ∀ f x, (wkF h M f x).length = f + 1
  | 0, _ => rfl
  | f + 1, x => by simp [wkF, wkF_length h M f]
theorem wkF_head (h : GraphD) (M : List Int) (f x : Nat) : wkF h M f x = (x : Int) :: (wkF h M f x).tail := by cases f <;> rfl
/-- The next vertex of a walk. -/
theorem StF.next {h : GraphD} {v : Nat} {M : List Int} (hg : validG h = true) (hs : StF h v M) {x f : Nat} (hx : x < h.length) (hm : atZ M x = (f + 1 : Nat) + 1) : ∃ y : Nat, (rowG h x).find? (fun y => decide (atZ M y.toNat = (f + 1 : Nat))) = some (y : Int) ∧ y < h.length ∧ EdgeG h x y ∧ atZ M y = (f + 1 : Nat) := by
  obtain ⟨k, h1, h2, h3⟩ := hs.sound x hx (by omega)
  obtain rfl : k = f + 2 := by omega
  rcases h3.first with ⟨h4, _⟩ | ⟨y, he, h4, w2⟩
  · omega
  · have hyl := (he.range hg).2.1
    have h5 := hs.all y (f + 2 - 1) hyl w2
    obtain ⟨j, h6, h7, h8⟩ := hs.sound y hyl (by omega)
    have h9 := hs.all x (j + 1) hx (.succ he h8)
    have h10 : atZ M y = (f + 1 : Nat) := by omega
    rcases hf : (rowG h x).find? (fun y => decide (atZ M y.toNat = (f + 1 : Nat))) with _ | z
    · have := List.find?_eq_none.1 hf y he
      rw [Int.toNat_natCast, h10] at this
      exact absurd (decide_eq_true rfl) this
    · have p1 := List.find?_some hf
      have p2 := List.mem_of_find?_eq_some hf
      have p3 := rowOk_row hg hx z p2
      obtain ⟨zn, rfl⟩ := Int.eq_ofNat_of_zero_le p3.1
      refine ⟨zn, hf, by omega, p2, ?_⟩
      simpa using p1
theorem StF.nxF {h : GraphD} {v : Nat} {M : List Int} (hg : validG h = true) (hs : StF h v M) {x f : Nat} (hx : x < h.length) (hm : atZ M x = (f + 1 : Nat) + 1) : Fl.nxF h M x (f + 1) < h.length ∧ atZ M (Fl.nxF h M x (f + 1)) = (f + 1 : Nat) ∧ (rowG h x).find? (fun y => decide (atZ M y.toNat = (f + 1 : Nat))) = some (Fl.nxF h M x (f + 1) : Int) := by
  obtain ⟨y, h1, h2, _, h3⟩ := hs.next hg hx hm
  have e : Fl.nxF h M x (f + 1) = y := by unfold Fl.nxF; rw [h1]; exact Int.toNat_natCast y
  rw [e]
  exact ⟨h2, h3, h1⟩

/-! ### .. is the reference's -/
theorem wn_rn {g : GraphD} {s : List Bool} (hg : validG g = true) {k u v : Nat} (w : Wn (woG g s) k u v) : Rn g s k u v := by
  have ed : ∀ {u v : Nat}, EdgeG (woG g s) u v → u < g.length ∧ v < g.length ∧ EdgeG g u v ∧ atB s u = false ∧ atB s v = false := fun {u v} he => by
    have hr := he.range (woG_valid hg)
    rw [woG_length] at hr
    exact ⟨hr.1, hr.2.1, (woG_edge hr.1).1 he⟩
  induction w with
  | one e =>
    obtain ⟨a, b, c, d, f⟩ := ed e
    exact .succ a d c (.zero b f)
  | succ e _ ih =>
    obtain ⟨a, b, c, d, f⟩ := ed e
    exact .succ a d c ih
theorem rn_wn {g : GraphD} {s : List Bool} {k u v : Nat} (r : Rn g s k u v) (hk : 1 ≤ k) : Wn (woG g s) k u v := by
  induction r with
  | zero => omega
  | @succ k u y v h1 h2 h3 r ih =>
    have he : EdgeG (woG g s) u y := (woG_edge h1).2 ⟨h3, h2, r.left.2⟩
    rcases Nat.eq_zero_or_pos k with rfl | hk
    · cases r with
      | zero => exact .one he
    · exact .succ he (ih hk)
/-- Away from v, steps are distances. -/
theorem StF.dist {g : GraphD} {s : List Bool} {v : Nat} {M : List Int} (hg : validG g = true) (hv : v < g.length) (hs : StF (woG g s) v M) {u : Nat} (hu : u < g.length) (hne : u ≠ v) (k : Nat) (hk : 1 ≤ k) : atZ M u = k ↔ dAt (distF g s v) u = k := by
  have hu' : u < (woG g s).length := by rwa [woG_length]
  constructor
  · intro h
    obtain ⟨j, h1, h2, h3⟩ := hs.sound u hu' (by omega)
    obtain rfl : j = k := by omega
    have h4 := dist_le hg (wn_rn hg h3)
    obtain ⟨i, hi⟩ := Int.eq_ofNat_of_zero_le h4.1
    have h5 := dist_is (s := s) hg hv hu hi
    have hi1 : 1 ≤ i := by
      rcases i with _ | i
      · exfalso
        cases h5
        exact hne rfl
      · omega
    have h6 := hs.all u i hu' (rn_wn h5 hi1)
    omega
  · intro h
    have h5 := dist_is (s := s) hg hv hu h
    have h6 := hs.all u k hu' (rn_wn h5 hk)
    obtain ⟨j, h1, h2, h3⟩ := hs.sound u hu' (by omega)
    have h4 := dist_le hg (wn_rn hg h3)
    omega
theorem StF.open {g : GraphD} {s : List Bool} {v : Nat} {M : List Int} (hg : validG g = true) (hs : StF (woG g s) v M) {u : Nat} (hu : u < g.length) (h : atZ M u ≠ 0) : atB s u = false ∧ atB s v = false := by
  obtain ⟨j, h1, h2, h3⟩ := hs.sound u (by rwa [woG_length]) h
  have := wn_rn hg h3
  exact ⟨this.left.2, this.right.2⟩
theorem wo_sub {g : GraphD} {s : List Bool} {x : Nat} (hx : x < g.length) (ho : atB s x = false) : rowG (woG g s) x = (rowG g x).filter (fun y => !atB s y.toNat) := by
  rw [woG_row hx, ho]; rfl
/-- The first vertex of a row at distance f. -/
theorem StF.find {g : GraphD} {s : List Bool} {v : Nat} {M : List Int} (hg : validG g = true) (hv : v < g.length) (hs : StF (woG g s) v M) {x f : Nat} (hx : x < g.length) (ho : atB s x = false) (hf : 1 ≤ f) (hvf : x = v ∨ atZ M v ≠ f) : (rowG (woG g s) x).find? (fun y => decide (atZ M y.toNat = f)) = (rowG g x).find? (fun y => decide (atI (distF g s v) y = f)) := by
  rw [wo_sub hx ho, List.find?_filter]
  have key : ∀ (l : List Int), (∀ y ∈ l, y ∈ rowG g x) → l.find? (fun a => decide ((!atB s a.toNat) = true ∧ decide (atZ M a.toNat = f) = true)) = l.find? (fun y => decide (atI (distF g s v) y = f)) := by
    intro l
    induction l with
    | nil => intro _; rfl
    | cons y l ih =>
      intro hl
      have hy := rowOk_row hg hx y (hl y (by simp))
      have hyn : y.toNat < g.length := by omega
      have e : decide ((!atB s y.toNat) = true ∧ decide (atZ M y.toNat = f) = true) = decide (atI (distF g s v) y = f) := by
        apply decide_eq_decide.2
        show _ ↔ dAt (distF g s v) y.toNat = f
        by_cases hyv : y.toNat = v
        · constructor
          · rintro ⟨_, h2⟩
            exfalso
            rw [decide_eq_true_eq, hyv] at h2
            rcases hvf with h3 | h3
            · omega
            · exact h3 h2
          · intro h2
            exfalso
            have := dist_is (s := s) hg hv hyn h2
            rw [hyv] at h2
            have h0 := dist_le hg (Rn.zero hv this.right.2)
            omega
        · rw [← hs.dist hg hv hyn hyv f hf]
          constructor
          · rintro ⟨_, h2⟩
            simpa using h2
          · intro h2
            refine ⟨?_, by simpa using h2⟩
            rw [(hs.open hg hyn (by omega)).1]; rfl
      rw [List.find?_cons, List.find?_cons, e, ih (fun z hz => hl z (by simp [hz]))]
  have h2 := key (rowG g x) (fun y h => h)
  rw [← h2]
/-- bestK is the first one at the least distance. -/
theorem bestK_find {row dist : List Int} {f : Int} (hf : 0 ≤ f) (hp : ∀ x ∈ row, 0 ≤ x) : ∀ k, k ≤ row.length → (∀ j, j < k → 0 ≤ atI dist (row.getD j 0) → f ≤ atI dist (row.getD j 0)) →
    (bestK row dist k = -1 ∨ ∃ j, j < k ∧ bestK row dist k = row.getD j 0 ∧ 0 ≤ atI dist (row.getD j 0)) ∧ ((∃ j, j < k ∧ atI dist (row.getD j 0) = f) → (row.take k).find? (fun x => decide (atI dist x = f)) = some (bestK row dist k))
  | 0, _, _ => ⟨.inl rfl, fun ⟨j, h, _⟩ => by omega⟩
  | k + 1, hk, h => by
    obtain ⟨i1, i2⟩ := bestK_find (dist := dist) hf hp k (by omega) (fun j hj => h j (by omega))
    have hx0 : row.getD k 0 ∈ row := by
      rw [List.getD_eq_getElem?_getD, List.getElem?_eq_getElem (by omega)]
      exact List.getElem_mem _
    have htk : row.take (k + 1) = row.take k ++ [row.getD k 0] := by
      rw [List.take_succ_eq_append_getElem (by omega)]
      congr 2
      rw [List.getD_eq_getElem?_getD, List.getElem?_eq_getElem (by omega)]; rfl
    unfold bestK
    simp only
    refine ⟨?_, fun ⟨j, hj, he⟩ => ?_⟩
    · split
      · rename_i hc
        exact .inr ⟨k, by omega, rfl, hc.1⟩
      · rcases i1 with h1 | ⟨j, h1, h2, h3⟩
        · exact .inl h1
        · exact .inr ⟨j, by omega, h2, h3⟩
    · rw [htk, List.find?_append]
      by_cases hex : ∃ j, j < k ∧ atI dist (row.getD j 0) = f
      · rw [i2 hex]
        have hb := List.find?_some (i2 hex)
        have hb : atI dist (bestK row dist k) = f := by simpa using hb
        have hbm := List.mem_of_mem_take (List.mem_of_find?_eq_some (i2 hex))
        have hb0 := hp _ hbm
        rw [if_neg]
        · rfl
        · rintro ⟨h1, h2⟩
          have := h k (by omega) h1
          omega
      · obtain rfl : j = k := by
          rcases Nat.lt_succ_iff_lt_or_eq.1 hj with h1 | h1
          · exact absurd ⟨j, h1, he⟩ hex
          · exact h1
        have hnone : (row.take j).find? (fun x => decide (atI dist x = f)) = none := by
          refine List.find?_eq_none.2 fun x hx => ?_
          obtain ⟨i, hi, e⟩ := List.mem_iff_getElem.1 hx
          rw [List.getElem_take] at e
          rw [List.length_take] at hi
          intro hc
          refine hex ⟨i, by omega, ?_⟩
          rw [List.getD_eq_getElem?_getD, List.getElem?_eq_getElem (by omega), Option.getD_some, e]
          simpa using hc
        rw [hnone, if_pos]
        · rw [List.find?_cons, decide_eq_true he]; rfl
        · refine ⟨by omega, ?_⟩
          rcases i1 with h1 | ⟨i, h1, h2, h3⟩
          · exact .inl (by omega)
          · have h4 := h i (by omega) h3
            have h5 : ¬ atI dist (row.getD i 0) = f := fun e => hex ⟨i, h1, e⟩
            rw [h2]
            exact .inr (by omega)
/-- Behind the first vertex, the hops. -/
theorem wk_path {g : GraphD} {s : List Bool} {v : Nat} {M : List Int} (hg : validG g = true) (hv : v < g.length) (hs : StF (woG g s) v M) : ∀ (f x : Nat), x < g.length → x ≠ v → atZ M x = (f : Int) + 1 → (f : Int) + 1 < atZ M v → wkF (woG g s) M f x = (pathF (hopsL g (distF g s v)) (f + 1) x).dropLast
  | 0, x, hx, hne, hm, hl => by simp [wkF, pathF]
  | f + 1, x, hx, hne, hm, hl => by
    have hxo := hs.open hg hx (by omega)
    have hxw : x < (woG g s).length := by rwa [woG_length]
    obtain ⟨n1, n2, n3⟩ := hs.nxF (woG_valid hg) hxw (f := f) (by omega)
    rw [woG_length] at n1
    have hd : dAt (distF g s v) x = ((f + 2 : Nat) : Int) := (hs.dist hg hv hx hne (f + 2) (by omega)).1 (by omega)
    have hfi := hs.find hg hv hx hxo.1 (show 1 ≤ f + 1 by omega) (.inr (by omega))
    rw [n3] at hfi
    have hhop : atI (hopsL g (distF g s v)) x = (nxF (woG g s) M x (f + 1) : Int) := by
      unfold atI
      rw [Int.toNat_natCast, List.getD_eq_getElem?_getD, hopsL_at hx, Option.getD_some]
      unfold hopV
      rw [if_pos (by show 0 < dAt _ _; omega)]
      unfold hopOf
      rw [show (distF g s v).getD x (-1) - 1 = ((f + 1 : Nat) : Int) by show dAt _ _ - 1 = _; omega, ← hfi]
      rfl
    show (x : Int) :: wkF _ M f _ = ((x : Int) :: pathF _ (f + 1) (atI _ x)).dropLast
    rw [hhop, List.dropLast_cons_of_ne_nil (by cases f <;> simp [pathF])]
    congr 1
    refine wk_path hg hv hs f _ n1 (fun e => ?_) (by omega) (by omega)
    rw [e] at n2
    omega
theorem thr_none {g : GraphD} {s : List Bool} {v : Nat} {M : List Int} (hg : validG g = true) (hv : v < g.length) (hs : StF (woG g s) v M) (h0 : atZ M v = 0) : thrF g s v = [] := by
  refine Classical.byContradiction fun hne => ?_
  obtain ⟨hc, h1, b, he, hb, hb0, hl, _⟩ := thr_closed hg hv hne
  obtain ⟨j, hj⟩ := Int.eq_ofNat_of_zero_le hb0
  have hr := dist_is (s := s) hg hv hb hj
  have ho := hc.walk.ok _ (get_mem h1)
  have hvs : atB s v = false := by have := ho.2.2; rwa [Int.toNat_natCast] at this
  have := hs.all v (j + 1) (by rwa [woG_length]) (rn_wn (.succ hv hvs he hr) (by omega))
  omega
theorem thr_walk {g : GraphD} {s : List Bool} {v f : Nat} {M : List Int} (hg : validG g = true) (hv : v < g.length) (hs : StF (woG g s) v M) (h0 : atZ M v = (f : Int) + 1) : thrF g s v = wkF (woG g s) M f v := by
  have hvs := (hs.open hg hv (by omega)).1
  have hvw : v < (woG g s).length := by rwa [woG_length]
  have hwv := woG_valid (s := s) hg
  rcases f with _ | f
  · exfalso
    obtain ⟨k, h1, h2, h3⟩ := hs.sound v hvw (by omega)
    obtain rfl : k = 1 := by omega
    rcases h3.first with ⟨_, he⟩ | ⟨y, _, h4, _⟩
    · exact (he.range hwv).2.2 rfl
    · omega
  · obtain ⟨n1, n2, n3⟩ := hs.nxF hwv hvw (f := f) (by omega)
    rw [woG_length] at n1
    have hne : nxF (woG g s) M v (f + 1) ≠ v := fun e => by rw [e] at n2; omega
    have hfi := hs.find hg hv hv hvs (show 1 ≤ f + 1 by omega) (.inl rfl)
    rw [n3] at hfi
    have hb : bestK (rowG g v) (distF g s v) (rowG g v).length = (nxF (woG g s) M v (f + 1) : Int) := by
      have hlow : ∀ j, j < (rowG g v).length → 0 ≤ atI (distF g s v) ((rowG g v).getD j 0) → ((f + 1 : Nat) : Int) ≤ atI (distF g s v) ((rowG g v).getD j 0) := fun j hj hjd => by
        have hm : (rowG g v).getD j 0 ∈ rowG g v := by
          rw [List.getD_eq_getElem?_getD, List.getElem?_eq_getElem hj]
          exact List.getElem_mem _
        have hr := rowOk_row hg hv _ hm
        obtain ⟨y, hy⟩ := Int.eq_ofNat_of_zero_le hr.1
        rw [hy] at hm hr hjd ⊢
        unfold atI at hjd ⊢
        rw [Int.toNat_natCast] at hjd ⊢
        obtain ⟨i, hi⟩ := Int.eq_ofNat_of_zero_le hjd
        have hrn := dist_is (s := s) hg hv (by omega) hi
        have := hs.all v (i + 1) hvw (rn_wn (.succ hv hvs hm hrn) (by omega))
        omega
      have hex : ∃ j, j < (rowG g v).length ∧ atI (distF g s v) ((rowG g v).getD j 0) = ((f + 1 : Nat) : Int) := by
        obtain ⟨j, hj, e⟩ := List.mem_iff_getElem.1 (List.mem_of_find?_eq_some hfi.symm)
        refine ⟨j, hj, ?_⟩
        rw [List.getD_eq_getElem?_getD, List.getElem?_eq_getElem hj, Option.getD_some, e]
        have := List.find?_some hfi.symm
        simpa using this
      have h2 := (bestK_find (dist := distF g s v) (f := ((f + 1 : Nat) : Int)) (by omega) (fun x hx => (rowOk_row hg hv x hx).1) _ (Nat.le_refl _) hlow).2 hex
      rw [List.take_length, ← hfi] at h2
      injection h2 with h2
      exact h2.symm
    have hd : dAt (distF g s v) (nxF (woG g s) M v (f + 1)) = ((f + 1 : Nat) : Int) := (hs.dist hg hv n1 hne (f + 1) (by omega)).1 n2
    have hwk := wk_path hg hv hs f _ n1 hne (by omega) (by omega)
    unfold thrF
    rw [hvs]
    simp only [Bool.false_eq_true, if_false]
    rw [hb, if_neg (by omega), Int.toNat_natCast]
    show _ = (v : Int) :: wkF _ M f _
    congr 1
    rw [hwk]
    unfold firstF
    rw [if_neg (by show ¬ dAt _ _ < 0; omega)]
    show (pathF _ (dAt (distF g s v) _).toNat _).dropLast = _
    rw [hd, Int.toNat_natCast]
end Go.Proofs.Ytfgpenekmokdiaa.Fl
