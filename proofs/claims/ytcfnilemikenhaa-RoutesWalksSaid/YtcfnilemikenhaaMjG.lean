/- Joined texts. -/
import Derived.Test.YtcfnilemikenhaaGsWalk
import Derived.Test.YtcfnilemikenhaaRcQueue
import Derived.Laws.Rows
import Derived.Laws.Tables
import Derived.Test.YtcfnilemikenhaaGrApp
import Derived.Test.YtcfnilemikenhaaRdRev
import Derived.Test.YtcfnilemikenhaaRdWo
import Derived.Test.YtcfnilemikenhaaCgBase
namespace Go.Proofs.Ytcfnilemikenhaa.Fl

abbrev atZ (M : List Int) (u : Nat) : Int := M.getD u 0
theorem atZ_at {M : List Int} {u : Nat} (h : u < M.length) : atZ M u = M[u] := by unfold atZ; rw [List.getD_eq_getElem?_getD, List.getElem?_eq_getElem h]; rfl
theorem atZ_set {M : List Int} {v u : Nat} {d : Int} (hv : v < M.length) : atZ (M.set v d) u = if u = v then d else atZ M u := by
  unfold atZ
  rw [List.getD_eq_getElem?_getD, List.getElem?_set, List.getD_eq_getElem?_getD]
  by_cases e : u = v
  · subst e; simp [hv]
  · rw [if_neg (fun h => e h.symm), if_neg e]
/-- Walks of at least one edge. -/
inductive Wn (h : GraphD) : Nat → Nat → Nat → Prop
  | one {u v : Nat} : EdgeG h u v → Wn h 1 u v
  | succ {k u y v : Nat} : EdgeG h u y → Wn h k y v → Wn h (k + 1) u v
theorem Wn.pos {h : GraphD} {k u v : Nat} (w : Wn h k u v) : 1 ≤ k := by cases w <;> omega
theorem Wn.first {h : GraphD} {k u v : Nat} (w : Wn h k u v) : (k = 1 ∧ EdgeG h u v) ∨ ∃ y, EdgeG h u y ∧ 1 ≤ k - 1 ∧ Wn h (k - 1) y v := by
  cases w with
  | one e => exact .inl ⟨rfl, e⟩
  | succ e w' => exact .inr ⟨_, e, by have := w'.pos; omega, w'⟩
/-- What is known before the round of distance d. -/
structure StK (h : GraphD) (v d : Nat) (M : List Int) : Prop where
  len : M.length = h.length
  sound : ∀ u, u < h.length → atZ M u ≠ 0 → ∃ k : Nat, atZ M u = k ∧ 1 ≤ k ∧ k < d ∧ Wn h k u v
  all : ∀ u k, u < h.length → Wn h k u v → k < d → 1 ≤ atZ M u ∧ atZ M u ≤ k
structure StO (h : GraphD) (v d : Nat) (M Q : List Int) : Prop where
  kn : StK h v d M
  one : 1 ≤ d
  que : ∀ x ∈ Q, 0 ≤ x ∧ x < h.length ∧ ((d = 1 ∧ x = v) ∨ (1 < d ∧ Wn h (d - 1) x.toNat v))
  has : ∀ y : Nat, y < h.length → ((d = 1 ∧ y = v) ∨ (1 < d ∧ atZ M y = (d : Int) - 1)) → (y : Int) ∈ Q
/-- In the round of distance d, at edge m of the reversed row of vertex i of the level; A is the next level. -/
structure StM (h : GraphD) (v d : Nat) (Q : List Int) (i m : Nat) (M A : List Int) : Prop where
  len : M.length = h.length
  one : 1 ≤ d
  que : ∀ x ∈ Q, 0 ≤ x ∧ x < h.length ∧ ((d = 1 ∧ x = v) ∨ (1 < d ∧ Wn h (d - 1) x.toNat v))
  sound : ∀ u, u < h.length → atZ M u ≠ 0 → ∃ k : Nat, atZ M u = k ∧ 1 ≤ k ∧ k ≤ d ∧ Wn h k u v
  all : ∀ u k, u < h.length → Wn h k u v → k < d → 1 ≤ atZ M u ∧ atZ M u ≤ k
  has : ∀ y : Nat, y < h.length → ((d = 1 ∧ y = v) ∨ (1 < d ∧ atZ M y = (d : Int) - 1)) → (y : Int) ∈ Q
  app : ∀ x : Int, x ∈ A ↔ 0 ≤ x ∧ x < h.length ∧ atZ M x.toNat = d
  done : ∀ (j y u : Nat), j < i → Q[j]? = some (y : Int) → u < h.length → EdgeG h u y → atZ M u ≠ 0
  part : ∀ (j y : Nat) (z : Int), j < m → Q[i]? = some (y : Int) → (rowG (revG h) y)[j]? = some z → atZ M z.toNat ≠ 0
theorem StO.start {h : GraphD} {v : Nat} (hv : v < h.length) : StO h v 1 (List.replicate h.length 0) [(v : Int)] := by
  have h0 : ∀ u, atZ (List.replicate h.length 0) u = 0 := fun u => by
    unfold atZ; rw [List.getD_eq_getElem?_getD, List.getElem?_replicate]; split <;> rfl
  refine ⟨⟨by simp, fun u _ hu => absurd (h0 u) hu, fun u k _ w hk => by have := w.pos; omega⟩, Nat.le_refl _, fun x hx => ?_, fun y hy h1 => ?_⟩
  · simp at hx
    subst hx
    exact ⟨by omega, by omega, .inl ⟨rfl, rfl⟩⟩
  · rcases h1 with ⟨_, rfl⟩ | ⟨h1, _⟩
    · simp
    · omega
theorem StO.mid {h : GraphD} {v d : Nat} {M Q : List Int} (hs : StO h v d M Q) : StM h v d Q 0 0 M [] := by
  refine ⟨hs.kn.len, hs.one, hs.que, fun u hu h0 => ?_, hs.kn.all, hs.has, fun x => ⟨fun hx => by simp at hx, fun hx => ?_⟩, fun j y u hj => by omega, fun j y z hj => by omega⟩
  · obtain ⟨k, h1, h2, h3, h4⟩ := hs.kn.sound u hu h0
    exact ⟨k, h1, h2, by omega, h4⟩
  · exfalso
    have h1 := hs.one
    obtain ⟨k, h2, h3, h4, h5⟩ := hs.kn.sound x.toNat (by omega) (by omega)
    omega
theorem StM.skip {h : GraphD} {v d : Nat} {Q : List Int} {i m : Nat} {M A : List Int} (hs : StM h v d Q i m M A) {y : Nat} {z : Int} (hy : Q[i]? = some (y : Int)) (hz : (rowG (revG h) y)[m]? = some z) (h0 : atZ M z.toNat ≠ 0) : StM h v d Q i (m + 1) M A := by
  refine ⟨hs.len, hs.one, hs.que, hs.sound, hs.all, hs.has, hs.app, hs.done, fun j y2 z2 hj hy2 hz2 => ?_⟩
  rcases Nat.lt_succ_iff_lt_or_eq.1 hj with hj | rfl
  · exact hs.part j y2 z2 hj hy2 hz2
  · rw [hy] at hy2
    injection hy2 with e
    obtain rfl : y = y2 := by omega
    rw [hz] at hz2
    injection hz2 with e
    subst e
    exact h0
theorem StM.mark {h : GraphD} {v d : Nat} {Q : List Int} {i m : Nat} {M A : List Int} (hs : StM h v d Q i m M A) {y z : Nat} (hy : Q[i]? = some (y : Int)) (hz : (rowG (revG h) y)[m]? = some (z : Int)) (hzl : z < h.length) (h0 : atZ M z = 0) : StM h v d Q i (m + 1) (M.set z d) (A ++ [(z : Int)]) := by
  have hd := hs.one
  have key : ∀ u, atZ (M.set z (d : Int)) u = if u = z then (d : Int) else atZ M u := fun u => atZ_set (by rw [hs.len]; exact hzl)
  have keep : ∀ u, atZ M u ≠ 0 → atZ (M.set z (d : Int)) u = atZ M u := fun u hu => by
    rw [key, if_neg (fun e => hu (by rw [e]; exact h0))]
  have some0 : ∀ u, atZ M u ≠ 0 → atZ (M.set z (d : Int)) u ≠ 0 := fun u hu => by rw [keep u hu]; exact hu
  have hyQ := hs.que _ (List.mem_of_getElem? hy)
  have hyl : y < h.length := by omega
  have he : EdgeG h z y := by
    have h1 : EdgeG (revG h) y z := List.mem_of_getElem? hz
    exact ((revG_edge hyl).1 h1).2
  have hw : Wn h d z v := by
    rcases hyQ.2.2 with ⟨h1, h2⟩ | ⟨h1, h2⟩
    · obtain rfl : y = v := by omega
      rw [h1]; exact .one he
    · rw [Int.toNat_natCast] at h2
      have h3 := Wn.succ he h2
      rwa [show d - 1 + 1 = d by omega] at h3
  have hno : ∀ k, Wn h k z v → d ≤ k := fun k w => by
    rcases Nat.lt_or_ge k d with hk | hk
    · have := hs.all z k hzl w hk; omega
    · exact hk
  refine ⟨by simpa using hs.len, hd, hs.que, fun u hu h1 => ?_, fun u k hu w hk => ?_, fun u hu h1 => ?_, fun x => ?_, fun j y2 u hj hy2 hu he2 => some0 _ (hs.done j y2 u hj hy2 hu he2), fun j y2 z2 hj hy2 hz2 => ?_⟩
  · rw [key] at h1 ⊢
    split
    · rename_i e
      subst e
      exact ⟨d, rfl, hd, Nat.le_refl _, hw⟩
    · rename_i e
      rw [if_neg e] at h1
      exact hs.sound u hu h1
  · have h2 := hs.all u k hu w hk
    rw [keep u (by omega)]
    exact h2
  · refine hs.has u hu ?_
    rcases h1 with h1 | ⟨h1, h2⟩
    · exact .inl h1
    · rw [key] at h2
      split at h2
      · omega
      · exact .inr ⟨h1, h2⟩
  · rw [List.mem_append, List.mem_singleton, hs.app, key]
    constructor
    · rintro (⟨a1, a2, a3⟩ | rfl)
      · refine ⟨a1, a2, ?_⟩
        split
        · rfl
        · exact a3
      · exact ⟨by omega, by omega, by rw [Int.toNat_natCast, if_pos rfl]⟩
    · rintro ⟨a1, a2, a3⟩
      split at a3
      · rename_i e
        exact .inr (by omega)
      · exact .inl ⟨a1, a2, a3⟩
  · rcases Nat.lt_succ_iff_lt_or_eq.1 hj with hj | rfl
    · exact some0 _ (hs.part j y2 z2 hj hy2 hz2)
    · rw [hy] at hy2
      injection hy2 with e
      obtain rfl : y = y2 := by omega
      rw [hz] at hz2
      injection hz2 with e
      subst e
      rw [Int.toNat_natCast, key, if_pos rfl]
      omega
theorem StM.next {h : GraphD} {v d : Nat} {Q : List Int} {i m : Nat} {M A : List Int} (hs : StM h v d Q i m M A) {y : Nat} (hy : Q[i]? = some (y : Int)) (hm : (rowG (revG h) y).length ≤ m) : StM h v d Q (i + 1) 0 M A := by
  refine ⟨hs.len, hs.one, hs.que, hs.sound, hs.all, hs.has, hs.app, fun j y2 u hj hy2 hu he => ?_, fun j y2 z hj => by omega⟩
  rcases Nat.lt_succ_iff_lt_or_eq.1 hj with hj | rfl
  · exact hs.done j y2 u hj hy2 hu he
  · rw [hy] at hy2
    injection hy2 with e
    obtain rfl : y = y2 := by omega
    have hyl : y < h.length := by have := hs.que _ (List.mem_of_getElem? hy); omega
    have h1 : EdgeG (revG h) y u := (revG_edge hyl).2 ⟨hu, he⟩
    obtain ⟨k, hk, e⟩ := List.mem_iff_getElem.1 h1
    have := hs.part k y u (by omega) hy (by rw [List.getElem?_eq_getElem hk, e])
    rwa [Int.toNat_natCast] at this
theorem StM.over {h : GraphD} {v d : Nat} {Q : List Int} {i m : Nat} {M A : List Int} (hg : validG h = true) (hs : StM h v d Q i m M A) (hi : Q.length ≤ i) : StO h v (d + 1) M A := by
  have hd := hs.one
  have hall : ∀ u k, u < h.length → Wn h k u v → k < d + 1 → 1 ≤ atZ M u ∧ atZ M u ≤ k := fun u k hu w hk => by
    rcases Nat.lt_succ_iff_lt_or_eq.1 hk with hk | rfl
    · exact hs.all u k hu w hk
    · by_cases h0 : atZ M u = 0
      · exfalso
        have fin : ∀ y : Nat, (y : Int) ∈ Q → ¬ EdgeG h u y := fun y hy he => by
          obtain ⟨j, hj, e⟩ := List.mem_iff_getElem.1 hy
          exact hs.done j y u (by omega) (by rw [List.getElem?_eq_getElem hj, e]) hu he h0
        rcases w.first with ⟨h1, he⟩ | ⟨y, he, h1, w2⟩
        · exact fin v (hs.has v (he.range hg).2.1 (.inl ⟨h1, rfl⟩)) he
        · have hyl := (he.range hg).2.1
          have h2 := hs.all y (k - 1) hyl w2 (by omega)
          refine fin y (hs.has y hyl (.inr ⟨by omega, ?_⟩)) he
          obtain ⟨j, h3, h4, h5, h6⟩ := hs.sound y hyl (by omega)
          have h7 : ¬ j + 1 < k := fun h7 => by
            have := hs.all u (j + 1) hu (.succ he h6) h7
            omega
          omega
      · obtain ⟨j, h3, h4, h5, h6⟩ := hs.sound u hu h0
        omega
  refine ⟨⟨hs.len, fun u hu h0 => ?_, hall⟩, by omega, fun x hx => ?_, fun y hy h1 => ?_⟩
  · obtain ⟨j, h3, h4, h5, h6⟩ := hs.sound u hu h0
    exact ⟨j, h3, h4, by omega, h6⟩
  · obtain ⟨h1, h2, h3⟩ := (hs.app x).1 hx
    refine ⟨h1, h2, .inr ⟨by omega, ?_⟩⟩
    obtain ⟨j, h4, h5, h6, h7⟩ := hs.sound x.toNat (by omega) (by omega)
    obtain rfl : j = d := by omega
    exact h7
  · rcases h1 with ⟨h1, _⟩ | ⟨h1, h2⟩
    · omega
    · exact (hs.app y).2 ⟨by omega, by omega, by rw [Int.toNat_natCast]; omega⟩
/-- All steps are known. -/
structure StF (h : GraphD) (v : Nat) (M : List Int) : Prop where
  len : M.length = h.length
  sound : ∀ u, u < h.length → atZ M u ≠ 0 → ∃ k : Nat, atZ M u = k ∧ 1 ≤ k ∧ Wn h k u v
  all : ∀ u k, u < h.length → Wn h k u v → 1 ≤ atZ M u ∧ atZ M u ≤ k
theorem StO.end_ {h : GraphD} {v d : Nat} {M : List Int} (hg : validG h = true) (hs : StO h v d M []) : StF h v M := by
  have hno : ∀ y : Nat, y < h.length → ¬ ((d = 1 ∧ y = v) ∨ (1 < d ∧ atZ M y = (d : Int) - 1)) := fun y hy h1 => by
    have := hs.has y hy h1
    simp at this
  refine ⟨hs.kn.len, fun u hu h0 => ?_, ?_⟩
  · obtain ⟨k, h1, h2, _, h3⟩ := hs.kn.sound u hu h0
    exact ⟨k, h1, h2, h3⟩
  · intro u k
    induction k generalizing u with
    | zero => intro _ w; have := w.pos; omega
    | succ k ih =>
      intro hu w
      by_cases hk : k + 1 < d
      · exact hs.kn.all u (k + 1) hu w hk
      · rcases w.first with ⟨h1, he⟩ | ⟨y, he, h1, w2⟩
        · exfalso
          have h2 := hs.one
          exact hno v (he.range hg).2.1 (.inl ⟨by omega, rfl⟩)
        · have hyl := (he.range hg).2.1
          have h2 := ih y hyl w2
          obtain ⟨j, h3, h4, h5, h6⟩ := hs.kn.sound y hyl (by omega)
          have h7 : ¬ atZ M y = (d : Int) - 1 := fun h7 => hno y hyl (.inr ⟨by omega, h7⟩)
          have h8 := hs.kn.all u (j + 1) hu (.succ he h6) (by omega)
          omega
/-- How many are not marked. -/
def zer (M : List Int) : Nat := (M.filter (fun x => decide (x = 0))).length
theorem zer_set {d : Int} (hd : d ≠ 0) : ∀ {M : List Int} {y : Nat} (hy : y < M.length), M[y] = 0 → zer (M.set y d) + 1 = zer M
  | [], _, hy, _ => by simp at hy
  | x :: M, 0, _, h => by
    have h : x = 0 := h
    simp [zer, h, hd]
  | x :: M, y + 1, hy, h => by
    have ih := zer_set hd (M := M) (y := y) (by simpa using hy) (by simpa using h)
    unfold zer at ih ⊢
    rw [List.set_cons_succ, List.filter_cons, List.filter_cons]
    by_cases e : decide (x = 0) = true
    · rw [if_pos e, if_pos e, List.length_cons, List.length_cons]
      omega
    · rw [if_neg e, if_neg e]
      exact ih
theorem zer_start (n : Nat) : zer (List.replicate n 0) = n := by simp [zer]
theorem zer_le (M : List Int) : zer M ≤ M.length := List.length_filter_le _ _

/-! ### The walk -/
def nxF (h : GraphD) (M : List Int) (x f : Nat) : Nat := (((rowG h x).find? (fun y => decide (atZ M y.toNat = f))).getD 0).toNat
def wkF (h : GraphD) (M : List Int) : Nat → Nat → List Int
  | 0, x => [(x : Int)]
  | f + 1, x => (x : Int) :: wkF h M f (nxF h M x (f + 1))
theorem wkF_length (h : GraphD) (M : List Int) : ∀ f x, (wkF h M f x).length = f + 1
  | 0, _ => rfl
  | f + 1, x => by simp [wkF, wkF_length h M f]
theorem wkF_head (h : GraphD) (M : List Int) (f x : Nat) : wkF h M f x = (x : Int) :: (wkF h M f x).tail := by cases f <;> rfl
/-- The next vertex of a walk. -/
theorem StF.next {h : GraphD} {v : Nat} {M : List Int} (hg : validG h = true) (hs : StF h v M) {x f : Nat} (hx : x < h.length) (hm : atZ M x = (f + 1 : Nat) + 1) : ∃ y : Nat, (rowG h x).find? (fun y => decide (atZ M y.toNat = (f + 1 : Nat))) = some (y : Int) ∧ y < h.length ∧ EdgeG h x y ∧ atZ M y = (f + 1 : Nat) := by
  obtain ⟨k, h1, h2, h3⟩ := hs.sound x hx (by omega)
  obtain rfl : k = f + 2 := by omega
  rcases h3.first with ⟨h4, _⟩ | ⟨y, he, h4, w2⟩
  · omega
  · have hyl := (he.range hg).2.1
    have h5 := hs.all y (f + 2 - 1) hyl w2
    obtain ⟨j, h6, h7, h8⟩ := hs.sound y hyl (by omega)
    have h9 := hs.all x (j + 1) hx (.succ he h8)
    have h10 : atZ M y = (f + 1 : Nat) := by omega
    rcases hf : (rowG h x).find? (fun y => decide (atZ M y.toNat = (f + 1 : Nat))) with _ | z
    · have := List.find?_eq_none.1 hf y he
      rw [Int.toNat_natCast, h10] at this
      exact absurd (decide_eq_true rfl) this
    · have p1 := List.find?_some hf
      have p2 := List.mem_of_find?_eq_some hf
      have p3 := rowOk_row hg hx z p2
      obtain ⟨zn, rfl⟩ := Int.eq_ofNat_of_zero_le p3.1
      refine ⟨zn, hf, by omega, p2, ?_⟩
      simpa using p1
theorem StF.nxF {h : GraphD} {v : Nat} {M : List Int} (hg : validG h = true) (hs : StF h v M) {x f : Nat} (hx : x < h.length) (hm : atZ M x = (f + 1 : Nat) + 1) : Fl.nxF h M x (f + 1) < h.length ∧ atZ M (Fl.nxF h M x (f + 1)) = (f + 1 : Nat) ∧ (rowG h x).find? (fun y => decide (atZ M y.toNat = (f + 1 : Nat))) = some (Fl.nxF h M x (f + 1) : Int) := by
  obtain ⟨y, h1, h2, _, h3⟩ := hs.next hg hx hm
  have e : Fl.nxF h M x (f + 1) = y := by unfold Fl.nxF; rw [h1]; exact Int.toNat_natCast y
  rw [e]
  exact ⟨h2, h3, h1⟩

/-! ### .. is the reference's -/
theorem wn_rn {g : GraphD} {s : List Bool} (hg : validG g = true) {k u v : Nat} (w : Wn (woG g s) k u v) : Rn g s k u v := by
  have ed : ∀ {u v : Nat}, EdgeG (woG g s) u v → u < g.length ∧ v < g.length ∧ EdgeG g u v ∧ atB s u = false ∧ atB s v = false := fun {u v} he => by
    have hr := he.range (woG_valid hg)
    rw [woG_length] at hr
    exact ⟨hr.1, hr.2.1, (woG_edge hr.1).1 he⟩
  induction w with
  | one e =>
    obtain ⟨a, b, c, d, f⟩ := ed e
    exact .succ a d c (.zero b f)
  | succ e _ ih =>
    obtain ⟨a, b, c, d, f⟩ := ed e
    exact .succ a d c ih
theorem rn_wn {g : GraphD} {s : List Bool} {k u v : Nat} (r : Rn g s k u v) (hk : 1 ≤ k) : Wn (woG g s) k u v := by
  induction r with
  | zero => omega
  | @succ k u y v h1 h2 h3 r ih =>
    have he : EdgeG (woG g s) u y := (woG_edge h1).2 ⟨h3, h2, r.left.2⟩
    rcases Nat.eq_zero_or_pos k with rfl | hk
    · cases r with
      | zero => exact .one he
    · exact .succ he (ih hk)
/-- Away from v, steps are distances. -/
theorem StF.dist {g : GraphD} {s : List Bool} {v : Nat} {M : List Int} (hg : validG g = true) (hv : v < g.length) (hs : StF (woG g s) v M) {u : Nat} (hu : u < g.length) (hne : u ≠ v) (k : Nat) (hk : 1 ≤ k) : atZ M u = k ↔ dAt (distF g s v) u = k := by
  have hu' : u < (woG g s).length := by rwa [woG_length]
  constructor
  · intro h
    obtain ⟨j, h1, h2, h3⟩ := hs.sound u hu' (by omega)
    obtain rfl : j = k := by omega
    have h4 := dist_le hg (wn_rn hg h3)
    obtain ⟨i, hi⟩ := Int.eq_ofNat_of_zero_le h4.1
    have h5 := dist_is (s := s) hg hv hu hi
    have hi1 : 1 ≤ i := by
      rcases i with _ | i
      · exfalso
        cases h5
        exact hne rfl
      · omega
    have h6 := hs.all u i hu' (rn_wn h5 hi1)
    omega
  · intro h
    have h5 := dist_is (s := s) hg hv hu h
    have h6 := hs.all u k hu' (rn_wn h5 hk)
    obtain ⟨j, h1, h2, h3⟩ := hs.sound u hu' (by omega)
    have h4 := dist_le hg (wn_rn hg h3)
    omega
theorem StF.open {g : GraphD} {s : List Bool} {v : Nat} {M : List Int} (hg : validG g = true) (hs : StF (woG g s) v M) {u : Nat} (hu : u < g.length) (h : atZ M u ≠ 0) : atB s u = false ∧ atB s v = false := by
  obtain ⟨j, h1, h2, h3⟩ := hs.sound u (by rwa [woG_length]) h
  have := wn_rn hg h3
  exact ⟨this.left.2, this.right.2⟩
theorem wo_sub {g : GraphD} {s : List Bool} {x : Nat} (hx : x < g.length) (ho : atB s x = false) : rowG (woG g s) x = (rowG g x).filter (fun y => !atB s y.toNat) := by
  rw [woG_row hx, ho]; rfl
/-- The first vertex of a row at distance f. -/
theorem StF.find {g : GraphD} {s : List Bool} {v : Nat} {M : List Int} (hg : validG g = true) (hv : v < g.length) (hs : StF (woG g s) v M) {x f : Nat} (hx : x < g.length) (ho : atB s x = false) (hf : 1 ≤ f) (hvf : x = v ∨ atZ M v ≠ f) : (rowG (woG g s) x).find? (fun y => decide (atZ M y.toNat = f)) = (rowG g x).find? (fun y => decide (atI (distF g s v) y = f)) := by
  rw [wo_sub hx ho, List.find?_filter]
  have key : ∀ (l : List Int), (∀ y ∈ l, y ∈ rowG g x) → l.find? (fun a => decide ((!atB s a.toNat) = true ∧ decide (atZ M a.toNat = f) = true)) = l.find? (fun y => decide (atI (distF g s v) y = f)) := by
    intro l
    induction l with
    | nil => intro _; rfl
    | cons y l ih =>
      intro hl
      have hy := rowOk_row hg hx y (hl y (by simp))
      have hyn : y.toNat < g.length := by omega
      have e : decide ((!atB s y.toNat) = true ∧ decide (atZ M y.toNat = f) = true) = decide (atI (distF g s v) y = f) := by
        apply decide_eq_decide.2
        show _ ↔ dAt (distF g s v) y.toNat = f
        by_cases hyv : y.toNat = v
        · constructor
          · rintro ⟨_, h2⟩
            exfalso
            rw [decide_eq_true_eq, hyv] at h2
            rcases hvf with h3 | h3
            · omega
            · exact h3 h2
          · intro h2
            exfalso
            have := dist_is (s := s) hg hv hyn h2
            rw [hyv] at h2
            have h0 := dist_le hg (Rn.zero hv this.right.2)
            omega
        · rw [← hs.dist hg hv hyn hyv f hf]
          constructor
          · rintro ⟨_, h2⟩
            simpa using h2
          · intro h2
            refine ⟨?_, by simpa using h2⟩
            rw [(hs.open hg hyn (by omega)).1]; rfl
      rw [List.find?_cons, List.find?_cons, e, ih (fun z hz => hl z (by simp [hz]))]
  have h2 := key (rowG g x) (fun y h => h)
  rw [← h2]
/-- bestK is the first one at the least distance. -/
theorem bestK_find {row dist : List Int} {f : Int} (hf : 0 ≤ f) (hp : ∀ x ∈ row, 0 ≤ x) : ∀ k, k ≤ row.length → (∀ j, j < k → 0 ≤ atI dist (row.getD j 0) → f ≤ atI dist (row.getD j 0)) →
    (bestK row dist k = -1 ∨ ∃ j, j < k ∧ bestK row dist k = row.getD j 0 ∧ 0 ≤ atI dist (row.getD j 0)) ∧ ((∃ j, j < k ∧ atI dist (row.getD j 0) = f) → (row.take k).find? (fun x => decide (atI dist x = f)) = some (bestK row dist k))
  | 0, _, _ => ⟨.inl rfl, fun ⟨j, h, _⟩ => by omega⟩
  | k + 1, hk, h => by
    obtain ⟨i1, i2⟩ := bestK_find (dist := dist) hf hp k (by omega) (fun j hj => h j (by omega))
    have hx0 : row.getD k 0 ∈ row := by
      rw [List.getD_eq_getElem?_getD, List.getElem?_eq_getElem (by omega)]
      exact List.getElem_mem _
    have htk : row.take (k + 1) = row.take k ++ [row.getD k 0] := by
      rw [List.take_succ_eq_append_getElem (by omega)]
      congr 2
      rw [List.getD_eq_getElem?_getD, List.getElem?_eq_getElem (by omega)]; rfl
    unfold bestK
    simp only
    refine ⟨?_, fun ⟨j, hj, he⟩ => ?_⟩
    · split
      · rename_i hc
        exact .inr ⟨k, by omega, rfl, hc.1⟩
      · rcases i1 with h1 | ⟨j, h1, h2, h3⟩
        · exact .inl h1
        · exact .inr ⟨j, by omega, h2, h3⟩
    · rw [htk, List.find?_append]
      by_cases hex : ∃ j, j < k ∧ atI dist (row.getD j 0) = f
      · rw [i2 hex]
        have hb := List.find?_some (i2 hex)
        have hb : atI dist (bestK row dist k) = f := by simpa using hb
        have hbm := List.mem_of_mem_take (List.mem_of_find?_eq_some (i2 hex))
        have hb0 := hp _ hbm
        rw [if_neg]
        · rfl
        · rintro ⟨h1, h2⟩
          have := h k (by omega) h1
          omega
      · obtain rfl : j = k := by
          rcases Nat.lt_succ_iff_lt_or_eq.1 hj with h1 | h1
          · exact absurd ⟨j, h1, he⟩ hex
          · exact h1
        have hnone : (row.take j).find? (fun x => decide (atI dist x = f)) = none := by
          refine List.find?_eq_none.2 fun x hx => ?_
          obtain ⟨i, hi, e⟩ := List.mem_iff_getElem.1 hx
          rw [List.getElem_take] at e
          rw [List.length_take] at hi
          intro hc
          refine hex ⟨i, by omega, ?_⟩
          rw [List.getD_eq_getElem?_getD, List.getElem?_eq_getElem (by omega), Option.getD_some, e]
          simpa using hc
        rw [hnone, if_pos]
        · rw [List.find?_cons, decide_eq_true he]; rfl
        · refine ⟨by omega, ?_⟩
          rcases i1 with h1 | ⟨i, h1, h2, h3⟩
          · exact .inl (by omega)
          · have h4 := h i (by omega) h3
            have h5 : ¬ atI dist (row.getD i 0) = f := fun e => hex ⟨i, h1, e⟩
            rw [h2]
            exact .inr (by omega)
/-- Behind the first vertex, the hops. -/
theorem wk_path {g : GraphD} {s : List Bool} {v : Nat} {M : List Int} (hg : validG g = true) (hv : v < g.length) (hs : StF (woG g s) v M) : ∀ (f x : Nat), x < g.length → x ≠ v → atZ M x = (f : Int) + 1 → (f : Int) + 1 < atZ M v → wkF (woG g s) M f x = (pathF (hopsL g (distF g s v)) (f + 1) x).dropLast
  | 0, x, hx, hne, hm, hl => by simp [wkF, pathF]
  | f + 1, x, hx, hne, hm, hl => by
    have hxo := hs.open hg hx (by omega)
    have hxw : x < (woG g s).length := by rwa [woG_length]
    obtain ⟨n1, n2, n3⟩ := hs.nxF (woG_valid hg) hxw (f := f) (by omega)
    rw [woG_length] at n1
    have hd : dAt (distF g s v) x = ((f + 2 : Nat) : Int) := (hs.dist hg hv hx hne (f + 2) (by omega)).1 (by omega)
    have hfi := hs.find hg hv hx hxo.1 (show 1 ≤ f + 1 by omega) (.inr (by omega))
    rw [n3] at hfi
    have hhop : atI (hopsL g (distF g s v)) x = (nxF (woG g s) M x (f + 1) : Int) := by
      unfold atI
      rw [Int.toNat_natCast, List.getD_eq_getElem?_getD, hopsL_at hx, Option.getD_some]
      unfold hopV
      rw [if_pos (by show 0 < dAt _ _; omega)]
      unfold hopOf
      rw [show (distF g s v).getD x (-1) - 1 = ((f + 1 : Nat) : Int) by show dAt _ _ - 1 = _; omega, ← hfi]
      rfl
    show (x : Int) :: wkF _ M f _ = ((x : Int) :: pathF _ (f + 1) (atI _ x)).dropLast
    rw [hhop, List.dropLast_cons_of_ne_nil (by cases f <;> simp [pathF])]
    congr 1
    refine wk_path hg hv hs f _ n1 (fun e => ?_) (by omega) (by omega)
    rw [e] at n2
    omega
theorem thr_none {g : GraphD} {s : List Bool} {v : Nat} {M : List Int} (hg : validG g = true) (hv : v < g.length) (hs : StF (woG g s) v M) (h0 : atZ M v = 0) : thrF g s v = [] := by
  refine Classical.byContradiction fun hne => ?_
  obtain ⟨hc, h1, b, he, hb, hb0, hl, _⟩ := thr_closed hg hv hne
  obtain ⟨j, hj⟩ := Int.eq_ofNat_of_zero_le hb0
  have hr := dist_is (s := s) hg hv hb hj
  have ho := hc.walk.ok _ (get_mem h1)
  have hvs : atB s v = false := by have := ho.2.2; rwa [Int.toNat_natCast] at this
  have := hs.all v (j + 1) (by rwa [woG_length]) (rn_wn (.succ hv hvs he hr) (by omega))
  omega
theorem thr_walk {g : GraphD} {s : List Bool} {v f : Nat} {M : List Int} (hg : validG g = true) (hv : v < g.length) (hs : StF (woG g s) v M) (h0 : atZ M v = (f : Int) + 1) : thrF g s v = wkF (woG g s) M f v := by
  have hvs := (hs.open hg hv (by omega)).1
  have hvw : v < (woG g s).length := by rwa [woG_length]
  have hwv := woG_valid (s := s) hg
  rcases f with _ | f
  · exfalso
    obtain ⟨k, h1, h2, h3⟩ := hs.sound v hvw (by omega)
    obtain rfl : k = 1 := by omega
    rcases h3.first with ⟨_, he⟩ | ⟨y, _, h4, _⟩
    · exact (he.range hwv).2.2 rfl
    · omega
  · obtain ⟨n1, n2, n3⟩ := hs.nxF hwv hvw (f := f) (by omega)
    rw [woG_length] at n1
    have hne : nxF (woG g s) M v (f + 1) ≠ v := fun e => by rw [e] at n2; omega
    have hfi := hs.find hg hv hv hvs (show 1 ≤ f + 1 by omega) (.inl rfl)
    rw [n3] at hfi
    have hb : bestK (rowG g v) (distF g s v) (rowG g v).length = (nxF (woG g s) M v (f + 1) : Int) := by
      have hlow : ∀ j, j < (rowG g v).length → 0 ≤ atI (distF g s v) ((rowG g v).getD j 0) → ((f + 1 : Nat) : Int) ≤ atI (distF g s v) ((rowG g v).getD j 0) := fun j hj hjd => by
        have hm : (rowG g v).getD j 0 ∈ rowG g v := by
          rw [List.getD_eq_getElem?_getD, List.getElem?_eq_getElem hj]
          exact List.getElem_mem _
        have hr := rowOk_row hg hv _ hm
        obtain ⟨y, hy⟩ := Int.eq_ofNat_of_zero_le hr.1
        rw [hy] at hm hr hjd ⊢
        unfold atI at hjd ⊢
        rw [Int.toNat_natCast] at hjd ⊢
        obtain ⟨i, hi⟩ := Int.eq_ofNat_of_zero_le hjd
        have hrn := dist_is (s := s) hg hv (by omega) hi
        have := hs.all v (i + 1) hvw (rn_wn (.succ hv hvs hm hrn) (by omega))
        omega
      have hex : ∃ j, j < (rowG g v).length ∧ atI (distF g s v) ((rowG g v).getD j 0) = ((f + 1 : Nat) : Int) := by
        obtain ⟨j, hj, e⟩ := List.mem_iff_getElem.1 (List.mem_of_find?_eq_some hfi.symm)
        refine ⟨j, hj, ?_⟩
        rw [List.getD_eq_getElem?_getD, List.getElem?_eq_getElem hj, Option.getD_some, e]
        have := List.find?_some hfi.symm
        simpa using this
      have h2 := (bestK_find (dist := distF g s v) (f := ((f + 1 : Nat) : Int)) (by omega) (fun x hx => (rowOk_row hg hv x hx).1) _ (Nat.le_refl _) hlow).2 hex
      rw [List.take_length, ← hfi] at h2
      injection h2 with h2
      exact h2.symm
    have hd : dAt (distF g s v) (nxF (woG g s) M v (f + 1)) = ((f + 1 : Nat) : Int) := (hs.dist hg hv n1 hne (f + 1) (by omega)).1 n2
    have hwk := wk_path hg hv hs f _ n1 hne (by omega) (by omega)
    unfold thrF
    rw [hvs]
    simp only [Bool.false_eq_true, if_false]
    rw [hb, if_neg (by omega), Int.toNat_natCast]
    show _ = (v : Int) :: wkF _ M f _
    congr 1
    rw [hwk]
    unfold firstF
    rw [if_neg (by show ¬ dAt _ _ < 0; omega)]
    show (pathF _ (dAt (distF g s v) _).toNat _).dropLast = _
    rw [hd, Int.toNat_natCast]
end Go.Proofs.Ytcfnilemikenhaa.Fl
namespace Go.Proofs.Ytcfnilemikenhaa
open Go Go.RowKit Fl

def ArrD (w : World) (G : Nat) (t : TypeId) (l : List Value) : Prop := w.heap[G]? = some (.cells l.toArray t (0, 0))
theorem ArrD.lt {w : World} {G : Nat} {t : TypeId} {l : List Value} (h : ArrD w G t l) : G < w.heap.size := block_lt h
theorem ArrD.cell {w : World} {G : Nat} {t : TypeId} {l : List Value} (h : ArrD w G t l) {k : Nat} {u : Value} (hk : l[k]? = some u) : w.cell? ⟨G, k, none⟩ = some u ∧ w.frozen? ⟨G, k, none⟩ = false := by
  refine ⟨?_, ?_⟩
  · rw [cell_of_row w G k _ _ _ h]
    simpa using hk
  · unfold ArrD at h
    simp [World.frozen?, h]
theorem ArrD.set {w : World} {G : Nat} {t : TypeId} {l : List Value} (h : ArrD w G t l) (k : Nat) (u : Value) : ArrD (w.setCell ⟨G, k, none⟩ u) G t (l.set k u) := by
  unfold ArrD at h ⊢
  have e : (l.set k u).toArray = l.toArray.setIfInBounds k u := by
    apply Array.ext'
    simp
  rw [e]
  simp [World.setCell, Array.getElem?_modify]
  exact ⟨_, h, by simp⟩
theorem ArrD.same {w w' : World} {G : Nat} {t : TypeId} {l : List Value} (h : ArrD w G t l) (e : w'.heap[G]? = w.heap[G]?) : ArrD w' G t l := e.trans h
theorem ArrD.alloc {w : World} {G : Nat} {t : TypeId} {l : List Value} (h : ArrD w G t l) (o : Obj) : ArrD (w.alloc o) G t l := h.same (Below.heap_alloc _ _ _ h.lt)
theorem ArrD.put {w : World} {G H k : Nat} {t : TypeId} {l : List Value} {v : Value} (h : ArrD w G t l) (hn : G ≠ H) : ArrD (w.setCell ⟨H, k, none⟩ v) G t l := h.same (Below.heap_setCell _ _ _ _ hn)
theorem ArrD.grown {w w' : World} {G : Nat} {t : TypeId} {l : List Value} {row : Option Nat} (h : ArrD w G t l) (hg : w.grownBy w' row) (hn : some G ≠ row) : ArrD w' G t l := h.same (hg.block G h.lt hn)
theorem ArrD.keep {w w' : World} {G B : Nat} {t : TypeId} {l : List Value} (h : ArrD w G t l) (hb : Below B w w') (hG : G < B) : ArrD w' G t l := h.same (hb.block G hG)
theorem ArrD.row {w : World} {G : Nat} {t : TypeId} {l l' : List Value} (h : ArrD w G t l) : ArrD (w.setRow G l'.toArray) G t l' := setRow_heap w G _ _ _ _ h
theorem gd_set (w : World) (a : Addr) (u : Value) (o : Obj) : ((w.setCell a u).alloc o).heap[w.heap.size]? = some o := by
  have h := heap_alloc_new (w.setCell a u) o
  have e : (w.setCell a u).heap.size = w.heap.size := by simp [World.setCell]
  rwa [e] at h
/-- The numbers in an array of 24. -/
def padZ (M : List Int) : List Value := (M ++ List.replicate (24 - M.length) 0).map Iv
theorem padZ_length {M : List Int} (h : M.length ≤ 24) : (padZ M).length = 24 := by simp [padZ]; omega
theorem padZ_at {M : List Int} {k : Nat} (h : k < M.length) : (padZ M)[k]? = some (.int .i64 (atZ M k)) := by
  rw [atZ_at h]
  unfold padZ
  rw [List.getElem?_map, List.getElem?_append_left h, List.getElem?_eq_getElem h]
  rfl
theorem padZ_set {M : List Int} {k : Nat} {z : Int} (h : k < M.length) : (padZ M).set k (.int .i64 z) = padZ (M.set k z) := by
  unfold padZ
  rw [List.length_set, ← List.set_append_left _ _ h, List.map_set]
theorem padZ_none {n : Nat} (h : n ≤ 24) : padZ (List.replicate n 0) = List.replicate 24 (.int .i64 0) := by
  unfold padZ
  rw [List.length_replicate, List.replicate_append_replicate, List.map_replicate]
  congr 1
  omega
theorem Try.undZ : Try.prog.underlying 66 = some (.array 24 3) := by kernel_rfl
theorem Try.sizeZ : (Try.prog.info? 66).map (·.size) = some 24 := by kernel_rfl
theorem sizeZl {l : List Value} (h : l.length = 24) : (Try.prog.info? 66).map (·.size) = some l.toArray.size := by rw [List.size_toArray, h]; exact Try.sizeZ
theorem padZ_one (M : List Int) : (padZ M).toArray.all (·.oneCell') = true := by
  refine Array.all_eq_true_iff_forall_mem.2 fun v hv => ?_
  simp only [padZ, List.mem_toArray, List.mem_map] at hv
  obtain ⟨x, _, rfl⟩ := hv
  rfl
/-- The slice (b, o) holds the numbers Q, with room for cap. -/
def QAt (w : World) (base b o cap : Nat) (Q : List Int) : Prop := ∃ cur, w.heap[b]? = some (.cells cur 3 (0, 0)) ∧ base ≤ b ∧ o + cap ≤ cur.size ∧ Q.length ≤ cap ∧ ∀ j (h : j < Q.length), cur[o + j]? = some (Iv Q[j])
theorem QAt.lt {w : World} {base b o cap : Nat} {Q : List Int} (h : QAt w base b o cap Q) : b < w.heap.size ∧ base ≤ b := by
  obtain ⟨cur, h1, h2, _⟩ := h
  exact ⟨block_lt h1, h2⟩
theorem QAt.cap {w : World} {base b o cap : Nat} {Q : List Int} (h : QAt w base b o cap Q) : Q.length ≤ cap := by
  obtain ⟨cur, _, _, _, h, _⟩ := h
  exact h
theorem QAt.same {w w' : World} {base b o cap : Nat} {Q : List Int} (h : QAt w base b o cap Q) (e : w'.heap[b]? = w.heap[b]?) : QAt w' base b o cap Q := by
  obtain ⟨cur, h1, h2⟩ := h
  exact ⟨cur, e.trans h1, h2⟩
theorem QAt.alloc {w : World} {base b o cap : Nat} {Q : List Int} (h : QAt w base b o cap Q) (ob : Obj) : QAt (w.alloc ob) base b o cap Q := h.same (Below.heap_alloc _ _ _ h.lt.1)
theorem QAt.put {w : World} {base b o cap H k : Nat} {Q : List Int} {v : Value} (h : QAt w base b o cap Q) (hn : b ≠ H) : QAt (w.setCell ⟨H, k, none⟩ v) base b o cap Q := h.same (Below.heap_setCell _ _ _ _ hn)
theorem QAt.cell {w : World} {base b o cap : Nat} {Q : List Int} (h : QAt w base b o cap Q) {j : Nat} (hj : j < Q.length) : w.cell? ⟨b, o + j, none⟩ = some (.int .i64 Q[j]) := by
  obtain ⟨cur, h1, _, _, _, h5⟩ := h
  rw [cell_of_row w b _ cur _ _ h1]
  exact h5 j hj
theorem QAt.one {w : World} {base F : Nat} {z : Int} (h : w.heap[F]? = some (.cells #[Iv z] 3 (0, 0))) (hb : base ≤ F) : QAt w base F 0 1 [z] :=
  ⟨_, h, hb, by simp, by simp, fun j hj => by
    obtain rfl : j = 0 := by simpa using hj
    rfl⟩
theorem QAt.front {w : World} {base b o cap : Nat} {Q : List Int} (h : QAt w base b o cap Q) : QAt w base b o Q.length Q := by
  obtain ⟨cur, h1, h2, h3, h4, h5⟩ := h
  exact ⟨cur, h1, h2, by omega, Nat.le_refl _, h5⟩
/-- Behind the first ones. -/
theorem QAt.behind {w : World} {base b o cap : Nat} {L A : List Int} (h : QAt w base b o cap (L ++ A)) : QAt w base b (if cap = L.length then o else o + L.length) (cap - L.length) A := by
  obtain ⟨cur, h1, h2, h3, h4, h5⟩ := h
  rw [List.length_append] at h4
  refine ⟨cur, h1, h2, by split <;> omega, by omega, fun j hj => ?_⟩
  rw [if_neg (by omega)]
  have := h5 (L.length + j) (by rw [List.length_append]; omega)
  rw [show o + L.length + j = o + (L.length + j) by omega, this, List.getElem_append_right (by omega)]
  simp
/-- A level, and the queue that begins with it. -/
structure LQ (w : World) (base b o b2 o2 cap : Nat) (L A : List Int) : Prop where
  lev : QAt w base b o L.length L
  que : QAt w base b2 o2 cap (L ++ A)
  off : b = b2 → o = o2
theorem LQ.start {w : World} {base b o cap : Nat} {L : List Int} (h : QAt w base b o cap L) : LQ w base b o b o cap L [] := ⟨h.front, by simpa using h, fun _ => rfl⟩
theorem LQ.alloc {w : World} {base b o b2 o2 cap : Nat} {L A : List Int} (h : LQ w base b o b2 o2 cap L A) (ob : Obj) : LQ (w.alloc ob) base b o b2 o2 cap L A := ⟨h.lev.alloc ob, h.que.alloc ob, h.off⟩
theorem LQ.put {w : World} {base b o b2 o2 cap H k : Nat} {L A : List Int} {v : Value} (h : LQ w base b o b2 o2 cap L A) (hn : H < base) : LQ (w.setCell ⟨H, k, none⟩ v) base b o b2 o2 cap L A :=
  ⟨h.lev.put (by have := h.lev.lt.2; omega), h.que.put (by have := h.que.lt.2; omega), h.off⟩
section
variable {ops : Array Oper} {rest : List Oper} {o : Oper} {a : Act} {Q : Exit → Act → World → Prop}
theorem app_level (w : World) (hgd : o.guard = none) (s x : Operand) (ho : o.op = .call { callee := .builtin .append, args := #[s, x], argTypes := #[25, 25] }) (base b o1 b2 o2 cap : Nat) (L A : List Int) (n : Nat) (hn : n = L.length + A.length) (hs : a.eval s = .slice (some ⟨b2, o2, none⟩) n cap) (hown : LQ w base b o1 b2 o2 cap L A)
    (B : Nat) (z : Int) (hx : a.eval x = .slice (some ⟨B, 0, none⟩) 1 1) (hc : w.cell? ⟨B, 0, none⟩ = some (Iv z)) (hn2 : n ≤ 1000000000) (hbase : base ≤ w.heap.size)
    (h : ∀ b2' o2' cap' w' row, LQ w' base b o1 b2' o2' cap' L (A ++ [z]) → w.grownBy w' row → (∀ k, row = some k → base ≤ k) → wpList Try.prog ops Q rest (a.put o.dst (.slice (some ⟨b2', o2', none⟩) (n + 1) cap')) w') : wpList Try.prog ops Q (o :: rest) a w := by
  obtain ⟨i, i1, i2, i3, i4⟩ := info_parts Try.infoIntG
  have hnews : ∀ j u, [Iv z][j]? = some u → w.cell? ((⟨B, 0, none⟩ : Addr).add j) = some u := fun j u hu => by
    rcases j with _ | j
    · simp at hu; subst hu; simpa [Addr.add] using hc
    · simp at hu
  have hone : ∀ u ∈ [Iv z], u.oneCell' = true := fun u hu => by simp at hu; subst hu; rfl
  obtain ⟨hl, hq, hoff⟩ := hown
  have hl0 := hl.lt
  obtain ⟨cur, hh, hb, hof, hle, hcells⟩ := hq
  have hlen : (L ++ A).length = n := by rw [List.length_append, hn]
  rw [hlen] at hle
  have hcell : ∀ j u, ((L ++ A).map Iv)[j]? = some u → w.cell? ⟨b2, o2 + j, none⟩ = some u := fun j u hu => by
    rw [List.getElem?_map] at hu
    rcases hx' : (L ++ A)[j]? with _ | y
    · rw [hx'] at hu; cases hu
    · rw [hx'] at hu
      obtain ⟨hj, rfl⟩ := List.getElem?_eq_some_iff.1 hx'
      rw [cell_of_row w b2 _ cur _ _ hh, hcells j hj]
      exact hu
  refine wpList_append_arg w hgd s x 25 ho 3 i (.int .i64 0) 1 8 Try.underlying25 i1 i2 i3 i4 rfl (by decide) b2 o2 n cap ((L ++ A).map Iv) hs (by rw [List.length_map, hlen]; omega) hcell ⟨B, 0, none⟩ 1 1 [Iv z] hx rfl hnews hone (fun hr j hj => ?_) (by unfold maxLen; omega) (by omega) (fun hr => ?_) (fun _ v' w' g1 g2 => ?_)
  · obtain rfl : j = 0 := by simpa using hj
    refine ⟨?_, by simp [World.frozen?, hh]⟩
    rw [cell_of_row w b2 _ cur _ _ hh, Array.getElem?_eq_getElem (by omega)]
    rfl
  · rw [setCells_one, Nat.mul_one]
    have hset : (w.setCell ⟨b2, o2 + n, none⟩ (Iv z)).heap[b2]? = some (.cells (cur.setIfInBounds (o2 + n) (Iv z)) 3 (0, 0)) := by
      rw [setCell_eq_setRow w b2 _ cur _ _ _ hh]
      exact setRow_heap _ _ _ _ _ _ hh
    refine h b2 o2 cap _ (some b2) ⟨?_, ⟨cur.setIfInBounds (o2 + n) (Iv z), hset, hb, by simpa using hof, by rw [← List.append_assoc, List.length_append, hlen]; simp; omega, fun j hj => ?_⟩, hoff⟩ ⟨rfl, rfl, rfl, by simp [World.setCell], fun k _ hne => Below.heap_setCell w _ _ k (fun e => hne (by rw [e]))⟩ (fun k hk => by injection hk with hk; subst hk; exact hb)
    · by_cases e : b = b2
      · have e2 := hoff e
        subst e e2
        obtain ⟨cur', c1, c2, c3, c4, c5⟩ := hl
        rw [hh] at c1
        injection c1 with c1
        injection c1 with c1
        subst c1
        refine ⟨_, hset, c2, by simpa using c3, c4, fun j hj => ?_⟩
        rw [Array.getElem?_setIfInBounds, if_neg (by omega)]
        exact c5 j hj
      · exact hl.put e
    · have hj' : j < n + 1 := by rw [← List.append_assoc, List.length_append, hlen] at hj; simpa using hj
      by_cases e : j = n
      · subst e
        rw [Array.getElem?_setIfInBounds, if_pos rfl, if_pos (by omega)]
        congr 2
        rw [List.getElem_of_eq (List.append_assoc L A [z]).symm, List.getElem_append_right (by omega)]
        simp
      · have hj'' : j < (L ++ A).length := by omega
        rw [Array.getElem?_setIfInBounds, if_neg (by omega), hcells j hj'']
        congr 2
        rw [List.getElem_of_eq (List.append_assoc L A [z]).symm, List.getElem_append_left hj'']
  · obtain ⟨g1a, g1b⟩ := g1
    rcases g1b with ⟨_, h0⟩ | ⟨g, cap', cur', hv, hgb, hh', hnc, hcm, hcs, hxs⟩
    · simp at h0
    · rw [hv]
      refine h g 0 cap' w' none ⟨hl.same (g2.block b hl0.1 (by simp)), ⟨cur', hh', by omega, by omega, by rw [← List.append_assoc, List.length_append, hlen]; simp; omega, fun j hj => ?_⟩, fun e => by omega⟩ g2 (fun k hk => by cases hk)
      have hj' : j < n + 1 := by rw [← List.append_assoc, List.length_append, hlen] at hj; simpa using hj
      have e : (cur'.toList.take ((n + 1) * 1))[j]? = some (Iv (L ++ (A ++ [z]))[j]) := by
        rw [hxs, show (L ++ A).map Iv ++ [Iv z] = (L ++ (A ++ [z])).map Iv by simp, List.getElem?_map, List.getElem?_eq_getElem hj]; rfl
      rw [List.getElem?_take] at e
      split at e
      · rw [Nat.zero_add]; simpa using e
      · cases e
end
theorem zeros_new (w : World) : ArrD (w.alloc (.cells #[.int .i64 0, .int .i64 0, .int .i64 0, .int .i64 0, .int .i64 0, .int .i64 0, .int .i64 0, .int .i64 0, .int .i64 0, .int .i64 0, .int .i64 0, .int .i64 0, .int .i64 0, .int .i64 0, .int .i64 0, .int .i64 0, .int .i64 0, .int .i64 0, .int .i64 0, .int .i64 0, .int .i64 0, .int .i64 0, .int .i64 0, .int .i64 0] 66)) w.heap.size 66 (List.replicate 24 (.int .i64 0)) := by
  unfold ArrD
  rw [heap_alloc_new]
  rfl
theorem below_rowZ {B G : Nat} {w w' : World} (h : Below B w w') (hg : B ≤ G) (c : Array Value) : Below B w (w'.setRow G c) := by
  refine ⟨h.os, h.tape, h.output, Nat.le_trans h.size (by simp [World.setRow]), fun k hk => ?_⟩
  rw [setRow_other w' G k c (by omega)]
  exact h.block k hk
set_option maxRecDepth 100000 in
set_option maxHeartbeats 8000000 in
theorem steps_c (A : Option Addr) (c : Nat) (h : GraphD) (v : Nat) (w : World) (hh : RowsAt w A (revG h)) (hg : validG h = true) (hv : v < h.length) :
    Calls Try.prog 47 #[.slice A h.length c, .int .i64 v] w fun e w' => ∃ M, StF h v M ∧ e = .returned (.agg (padZ M).toArray) ∧ Below w.heap.size w w' := by
  have HH := Lib.hid hh
  have HG := Lib.hid hg
  have HV := Lib.hid (revG_valid hg)
  have hl24 := validG_len hg
  have HRL := Lib.hid (revG_length h)
  have HR24 := Lib.hid (validG_short (revG_valid hg))
  have HZ1 := Lib.hid (((zeros_new w).alloc (.cells #[.int .i64 0, .int .i64 0, .int .i64 0, .int .i64 0, .int .i64 0, .int .i64 0, .int .i64 0, .int .i64 0, .int .i64 0, .int .i64 0, .int .i64 0, .int .i64 0, .int .i64 0, .int .i64 0, .int .i64 0, .int .i64 0, .int .i64 0, .int .i64 0, .int .i64 0, .int .i64 0, .int .i64 0, .int .i64 0, .int .i64 0, .int .i64 0] 66)).alloc (.cells #[.int .i64 v] 3))
  have HZ2 := Lib.hid ((zeros_new (w.alloc (.cells #[.int .i64 0, .int .i64 0, .int .i64 0, .int .i64 0, .int .i64 0, .int .i64 0, .int .i64 0, .int .i64 0, .int .i64 0, .int .i64 0, .int .i64 0, .int .i64 0, .int .i64 0, .int .i64 0, .int .i64 0, .int .i64 0, .int .i64 0, .int .i64 0, .int .i64 0, .int .i64 0, .int .i64 0, .int .i64 0, .int .i64 0, .int .i64 0] 66))).alloc (.cells #[.int .i64 v] 3))
  have HQ1 := Lib.hid (QAt.one (heap_alloc_new ((w.alloc (.cells #[.int .i64 0, .int .i64 0, .int .i64 0, .int .i64 0, .int .i64 0, .int .i64 0, .int .i64 0, .int .i64 0, .int .i64 0, .int .i64 0, .int .i64 0, .int .i64 0, .int .i64 0, .int .i64 0, .int .i64 0, .int .i64 0, .int .i64 0, .int .i64 0, .int .i64 0, .int .i64 0, .int .i64 0, .int .i64 0, .int .i64 0, .int .i64 0] 66)).alloc (.cells #[.int .i64 0, .int .i64 0, .int .i64 0, .int .i64 0, .int .i64 0, .int .i64 0, .int .i64 0, .int .i64 0, .int .i64 0, .int .i64 0, .int .i64 0, .int .i64 0, .int .i64 0, .int .i64 0, .int .i64 0, .int .i64 0, .int .i64 0, .int .i64 0, .int .i64 0, .int .i64 0, .int .i64 0, .int .i64 0, .int .i64 0, .int .i64 0] 66)) (.cells #[.int .i64 v] 3)) (Nat.le_refl _))
  have hs1 : (w.alloc (.cells #[.int .i64 0, .int .i64 0, .int .i64 0, .int .i64 0, .int .i64 0, .int .i64 0, .int .i64 0, .int .i64 0, .int .i64 0, .int .i64 0, .int .i64 0, .int .i64 0, .int .i64 0, .int .i64 0, .int .i64 0, .int .i64 0, .int .i64 0, .int .i64 0, .int .i64 0, .int .i64 0, .int .i64 0, .int .i64 0, .int .i64 0, .int .i64 0] 66)).heap.size = w.heap.size + 1 := by simp
  have hs2 : ((w.alloc (.cells #[.int .i64 0, .int .i64 0, .int .i64 0, .int .i64 0, .int .i64 0, .int .i64 0, .int .i64 0, .int .i64 0, .int .i64 0, .int .i64 0, .int .i64 0, .int .i64 0, .int .i64 0, .int .i64 0, .int .i64 0, .int .i64 0, .int .i64 0, .int .i64 0, .int .i64 0, .int .i64 0, .int .i64 0, .int .i64 0, .int .i64 0, .int .i64 0] 66)).alloc (.cells #[.int .i64 0, .int .i64 0, .int .i64 0, .int .i64 0, .int .i64 0, .int .i64 0, .int .i64 0, .int .i64 0, .int .i64 0, .int .i64 0, .int .i64 0, .int .i64 0, .int .i64 0, .int .i64 0, .int .i64 0, .int .i64 0, .int .i64 0, .int .i64 0, .int .i64 0, .int .i64 0, .int .i64 0, .int .i64 0, .int .i64 0, .int .i64 0] 66)).heap.size = w.heap.size + 1 + 1 := by simp
  rw [hs1] at HZ2
  rw [hs2] at HQ1
  have HB0 := Lib.hid (((((Below.refl w.heap.size w).alloc (Nat.le_refl _) (.cells #[.int .i64 0, .int .i64 0, .int .i64 0, .int .i64 0, .int .i64 0, .int .i64 0, .int .i64 0, .int .i64 0, .int .i64 0, .int .i64 0, .int .i64 0, .int .i64 0, .int .i64 0, .int .i64 0, .int .i64 0, .int .i64 0, .int .i64 0, .int .i64 0, .int .i64 0, .int .i64 0, .int .i64 0, .int .i64 0, .int .i64 0, .int .i64 0] 66)).alloc (by simp) (.cells #[.int .i64 0, .int .i64 0, .int .i64 0, .int .i64 0, .int .i64 0, .int .i64 0, .int .i64 0, .int .i64 0, .int .i64 0, .int .i64 0, .int .i64 0, .int .i64 0, .int .i64 0, .int .i64 0, .int .i64 0, .int .i64 0, .int .i64 0, .int .i64 0, .int .i64 0, .int .i64 0, .int .i64 0, .int .i64 0, .int .i64 0, .int .i64 0] 66))).alloc (by simp; omega) (.cells #[.int .i64 v] 3))
  have HS0 : w.heap.size + 1 + 1 ≤ (((w.alloc (.cells #[.int .i64 0, .int .i64 0, .int .i64 0, .int .i64 0, .int .i64 0, .int .i64 0, .int .i64 0, .int .i64 0, .int .i64 0, .int .i64 0, .int .i64 0, .int .i64 0, .int .i64 0, .int .i64 0, .int .i64 0, .int .i64 0, .int .i64 0, .int .i64 0, .int .i64 0, .int .i64 0, .int .i64 0, .int .i64 0, .int .i64 0, .int .i64 0] 66)).alloc (.cells #[.int .i64 0, .int .i64 0, .int .i64 0, .int .i64 0, .int .i64 0, .int .i64 0, .int .i64 0, .int .i64 0, .int .i64 0, .int .i64 0, .int .i64 0, .int .i64 0, .int .i64 0, .int .i64 0, .int .i64 0, .int .i64 0, .int .i64 0, .int .i64 0, .int .i64 0, .int .i64 0, .int .i64 0, .int .i64 0, .int .i64 0, .int .i64 0] 66)).alloc (.cells #[.int .i64 v] 3)).heap.size := by simp
  have HI := Lib.hid (StO.start hv)
  have HU := zer_start h.length
  have hZl : (List.replicate h.length (0 : Int)).length = h.length := by simp
  rw [← padZ_none hl24] at HZ2
  clear hh hg hs1 hs2
  go_enter Try.func47, Try.ntmps47
  go_wp2
  generalize ((w.alloc (.cells #[.int .i64 0, .int .i64 0, .int .i64 0, .int .i64 0, .int .i64 0, .int .i64 0, .int .i64 0, .int .i64 0, .int .i64 0, .int .i64 0, .int .i64 0, .int .i64 0, .int .i64 0, .int .i64 0, .int .i64 0, .int .i64 0, .int .i64 0, .int .i64 0, .int .i64 0, .int .i64 0, .int .i64 0, .int .i64 0, .int .i64 0, .int .i64 0] 66)).alloc (.cells #[.int .i64 0, .int .i64 0, .int .i64 0, .int .i64 0, .int .i64 0, .int .i64 0, .int .i64 0, .int .i64 0, .int .i64 0, .int .i64 0, .int .i64 0, .int .i64 0, .int .i64 0, .int .i64 0, .int .i64 0, .int .i64 0, .int .i64 0, .int .i64 0, .int .i64 0, .int .i64 0, .int .i64 0, .int .i64 0, .int .i64 0, .int .i64 0] 66)).alloc (.cells #[.int .i64 v] 3) = w3 at *
  generalize List.replicate h.length (0 : Int) = M0 at *
  obtain ⟨G, hG⟩ : ∃ G, G = w.heap.size := ⟨_, rfl⟩
  rw [← hG] at HZ1 HZ2 HQ1 HB0 HS0 ⊢
  have HGG := Lib.hid hG
  clear hG
  go_loopw [6, 7] (fun qv dv wr => ∃ (d : Nat) (Q M : List Int) (b o cap : Nat), qv = .slice (some ⟨b, o, none⟩) Q.length cap ∧ dv = .int .i64 d ∧ Hid (StO h v d M Q) ∧ (d + zer M ≤ h.length + 1 ∨ Q.length = 0 ∧ d + zer M ≤ h.length + 2) ∧ Q.length ≤ 24 ∧
    Hid (QAt wr (G + 1 + 1) b o cap Q) ∧ Hid (ArrD wr G 66 (List.replicate 24 (.int .i64 0))) ∧ Hid (ArrD wr (G + 1) 66 (padZ M)) ∧ Hid (Below G w wr) ∧ G + 1 + 1 ≤ wr.heap.size) (fun _ dv _ => 30 - (intOf dv).toNat)
  case atStart => exact ⟨1, [(v : Int)], M0, _, _, _, rfl, rfl, HI, .inl (by omega), by simp, HQ1, HZ1, HZ2, HB0, HS0⟩
  case round =>
    clear HI HQ1 HZ1 HZ2 HB0 HS0 HU hZl
    clear M0
    obtain ⟨d, Q, M, b, o, cap, rfl, rfl, HI, hdz, hQ24, HQ, HZ1, HZ2, HB, hsz⟩ := hrel
    have hMl : M.length = h.length := HI.out.kn.len
    rcases Nat.eq_zero_or_pos Q.length with hq | hq
    · have HE : Hid (StF h v M) := Lib.hid (StO.end_ HG.out (by have h1 := HI.out; rwa [List.eq_nil_of_length_eq_zero hq] at h1))
      have h24 : (padZ M).length = 24 := padZ_length (by omega)
      have h24z : (List.replicate 24 (Value.int .i64 0)).length = 24 := by simp
      clear HI HQ hdz
      rw [hq]
      go_wp2_with (first | refine wpList_load_row rfl _ _ rfl (G + 1) rfl _ _ _ _ HZ2.out Try.undZ rfl (sizeZl h24) ?_ | refine wpList_store_row rfl _ _ _ rfl G _ rfl rfl _ _ HZ1.out (sizeZl h24) (by rw [List.size_toArray, List.size_toArray, h24, h24z]) (padZ_one _) ?_)
      refine bodyPost_ret (v := .agg (padZ M).toArray) ?_ rfl ⟨M, HE.out, rfl, ?_⟩
      · rw [results_cell_row rfl _ _ _ _ _ _ _ rfl HZ1.out.row Try.undZ rfl (sizeZl h24)]
      · rw [← HGG.out]; exact below_rowZ HB.out (Nat.le_refl _) _
    · have hd1 : d + zer M ≤ h.length + 1 := by omega
      have hcap : Q.length ≤ cap := HQ.out.cap
      have hqn : ¬ Q.length = 0 := by omega
      have HL := Lib.hid (LQ.start HQ.out)
      have HM := Lib.hid HI.out.mid
      clear hdz HQ HI
      go_wp2
      clear hcap
      go_loopw [6, 28] (fun qv iv wr => ∃ (i : Nat) (M1 X : List Int) (b2 o2 cap2 : Nat), qv = .slice (some ⟨b2, o2, none⟩) (Q.length + X.length) cap2 ∧ iv = .int .i64 i ∧ i ≤ Q.length ∧ Hid (StM h v d Q i 0 M1 X) ∧ X.length + zer M1 = zer M ∧
        Hid (LQ wr (G + 1 + 1) b o b2 o2 cap2 Q X) ∧ Hid (ArrD wr G 66 (List.replicate 24 (.int .i64 0))) ∧ Hid (ArrD wr (G + 1) 66 (padZ M1)) ∧ Hid (Below G w wr) ∧ G + 1 + 1 ≤ wr.heap.size) (fun _ iv _ => Q.length - (intOf iv).toNat)
      case atStart => exact ⟨0, M, [], _, _, _, rfl, rfl, Nat.zero_le _, HM, by simp, HL, HZ1, HZ2, HB, hsz⟩
      case round =>
        clear HM HL HZ1 HZ2 HB hsz
        obtain ⟨i, M1, X, b2, o2, cap2, rfl, rfl, hi, HM, hxz, HL, HZ1, HZ2, HB, hsz⟩ := hrel
        have hX24 : X.length ≤ 24 := by have := zer_le M; omega
        by_cases hlt : i < Q.length
        · have hQi : Q[i]? = some Q[i] := List.getElem?_eq_getElem hlt
          obtain ⟨x0, x1, _⟩ := HM.out.que _ (List.getElem_mem hlt)
          have ex := HL.out.lev.cell hlt
          obtain ⟨xn, hx⟩ := Int.eq_ofNat_of_zero_le x0
          rw [hx] at hQi ex x1
          have HQi := Lib.hid hQi
          have hxn : xn < (revG h).length := by have := HRL.out; omega
          obtain ⟨bg, og, A2, c2, rfl, e1, h1⟩ := HH.out.one hxn
          have hbg : bg < G := by have h : bg < w.heap.size := World.block_lt_of_cell? _ _ e1; have := HGG.out; omega
          have e1r : wr.cell? ⟨bg, og + xn, none⟩ = some (.slice A2 (revG h)[xn].length c2) := (HB.out.cell (p := ⟨bg, og + xn, none⟩) hbg).trans e1
          have hr24 := HR24.out _ (List.getElem_mem hxn)
          have HX := Lib.hid (rowOk_row HV.out hxn)
          have hrow := rowG_at hxn
          rw [hrow] at HX
          have HRow := Lib.hid hrow
          have HR1 := Lib.hid h1
          have hxh : xn < h.length := by omega
          clear e1 h1 hrow hx x0 x1 hQi
          generalize (revG h)[xn] = r at *
          clear hxn
          go_wp2
          clear ex e1r
          go_loopw [6, 37] (fun qv mv wr => ∃ (m : Nat) (M1 X : List Int) (b2 o2 cap2 : Nat), qv = .slice (some ⟨b2, o2, none⟩) (Q.length + X.length) cap2 ∧ mv = .int .i64 m ∧ m ≤ r.length ∧ Hid (StM h v d Q i m M1 X) ∧ X.length + zer M1 = zer M ∧
            Hid (LQ wr (G + 1 + 1) b o b2 o2 cap2 Q X) ∧ Hid (ArrD wr G 66 (List.replicate 24 (.int .i64 0))) ∧ Hid (ArrD wr (G + 1) 66 (padZ M1)) ∧ Hid (Below G w wr) ∧ G + 1 + 1 ≤ wr.heap.size) (fun _ mv _ => r.length - (intOf mv).toNat)
          case atStart => exact ⟨0, M1, X, _, _, _, rfl, rfl, Nat.zero_le _, HM, hxz, HL, HZ1, HZ2, HB, hsz⟩
          case round =>
            clear HM HL HZ1 HZ2 HB hsz hxz hX24
            obtain ⟨m, M1, X, b2, o2, cap2, rfl, rfl, hm, HM, hxz, HL, HZ1, HZ2, HB, hsz⟩ := hrel
            have hX24 : X.length ≤ 24 := by have := zer_le M; omega
            by_cases hmlt : m < r.length
            · obtain ⟨br, or_, rfl, e2⟩ := HR1.out.iv hmlt
              have hbr : br < G := by have h : br < w.heap.size := World.block_lt_of_cell? _ _ e2; have := HGG.out; omega
              have e2r : wr.cell? ⟨br, or_ + m, none⟩ = some (.int .i64 r[m]) := (HB.out.cell (p := ⟨br, or_ + m, none⟩) hbr).trans e2
              obtain ⟨y0, y1, y2⟩ := HX.out r[m] (List.getElem_mem hmlt)
              obtain ⟨y, hy⟩ := Int.eq_ofNat_of_zero_le y0
              have hyr : (rowG (revG h) xn)[m]? = some (y : Int) := by rw [HRow.out, List.getElem?_eq_getElem hmlt, hy]
              rw [hy] at e2r y1
              have hyn : y < h.length := by have := HRL.out; omega
              have hM1l : M1.length = h.length := HM.out.len
              have hyM : y < M1.length := by omega
              have hy24 : y < 24 := by omega
              obtain ⟨em, fm⟩ := HZ2.out.cell (padZ_at hyM)
              clear e2 y0 y1 y2 hy
              rcases Classical.em (atZ M1 y = 0) with h0 | h0
              · have HM2 := Lib.hid (HM.out.mark HQi.out hyr hyn h0)
                have hz2 : (X ++ [(y : Int)]).length + zer (M1.set y d) = zer M := by
                  have := zer_set (d := (d : Int)) (by have := HM.out.one; omega) hyM (by rw [← atZ_at hyM]; exact h0)
                  rw [List.length_append, List.length_singleton]
                  omega
                have N1 := Lib.hid (HZ1.out.put (H := G + 1) (k := y) (v := .int .i64 d) (by omega))
                have N2 := Lib.hid (HZ2.out.set y (.int .i64 d))
                rw [padZ_set hyM] at N2
                have NB := Lib.hid (below_put (i := y) (v := .int .i64 d) HB.out (show G ≤ G + 1 by omega))
                have NL := Lib.hid (fun ob => (HL.out.put (H := G + 1) (k := y) (v := .int .i64 d) (by omega)).alloc ob)
                have NS : G + 1 + 1 ≤ (wr.setCell ⟨G + 1, y, none⟩ (.int .i64 d)).heap.size := by simpa [World.setCell] using hsz
                rw [h0] at em
                have hlen : Q.length + X.length + 1 = Q.length + (X ++ [(y : Int)]).length := by rw [List.length_append, List.length_singleton, Nat.add_assoc]
                have HLen := Lib.hid hlen
                clear HM HZ1 HZ2 HB HL h0 hyr hxz hlen
                go_wp2_with (at_builtin; refine app_level _ rfl _ _ rfl (G + 1 + 1) b o b2 o2 cap2 Q X (Q.length + X.length) rfl (by rfl) (NL.out _) _ y (by rfl) (by rw [cell_of_row _ _ 0 _ _ _ (gd_set _ _ _ _)]; rfl) (by omega) (by simp [World.setCell]; omega) ?_)
                intro b3 o3 cap3 w8 row8 hLQ hgrow hrow8
                have hne : ∀ k, k < G + 1 + 1 → some k ≠ row8 := fun k hk e => by have := hrow8 k e.symm; omega
                have KZ1 := Lib.hid ((N1.out.alloc (.cells #[.int .i64 y] 3)).grown hgrow (hne G (by omega)))
                have KZ2 := Lib.hid ((N2.out.alloc (.cells #[.int .i64 y] 3)).grown hgrow (hne (G + 1) (by omega)))
                have KB := Lib.hid ((NB.out.alloc (by simp [World.setCell]; omega) (.cells #[.int .i64 y] 3)).grown hgrow (by simp [World.setCell]; omega) (fun k hk => by have := hrow8 k hk; omega))
                have KS : G + 1 + 1 ≤ w8.heap.size := by have h := hgrow.size; simp [World.setCell] at h; omega
                have KL := Lib.hid hLQ
                clear hLQ hgrow hrow8 hne N1 N2 NB NL em fm
                rw [HLen.out]
                go_wp2
                go_roundw
                case rel => exact ⟨m + 1, M1.set y d, X ++ [(y : Int)], b3, o3, cap3, rfl, by go_num, by omega, HM2, hz2, KL, KZ1, KZ2, KB, KS⟩
                case measure => simp [intOf]; omega
              · have HM2 := Lib.hid (HM.out.skip HQi.out hyr (by rw [Int.toNat_natCast]; exact h0))
                have h0b : (atZ M1 y == 0) = false := by rw [beq_eq_false_iff_ne]; exact h0
                clear HM hyr
                generalize atZ M1 y = s at *
                go_wp2
                go_roundw
                case rel => exact ⟨m + 1, M1, X, _, _, _, rfl, by go_num, by omega, HM2, hxz, HL, HZ1, HZ2, HB, hsz⟩
                case measure => simp [intOf]; omega
            · have HM2 := Lib.hid (HM.out.next HQi.out (by rw [HRow.out]; omega))
              clear HM
              go_wp2
              go_roundw
              case rel => exact ⟨i + 1, M1, X, _, _, _, rfl, by go_num, by omega, HM2, hxz, HL, HZ1, HZ2, HB, hsz⟩
              case measure => simp [intOf]; omega
        · have HI2 := Lib.hid (HM.out.over HG.out (by omega))
          have HQ2 := Lib.hid HL.out.que.behind
          have hc2 : Q.length + X.length ≤ cap2 := by have := HL.out.que.cap; rwa [List.length_append] at this
          have hdz2 : d + 1 + zer M1 ≤ h.length + 1 ∨ X.length = 0 ∧ d + 1 + zer M1 ≤ h.length + 2 := by omega
          clear HM HL
          by_cases hcq : cap2 = Q.length
          · rw [if_pos hcq] at HQ2
            go_wp2
            go_roundw
            case rel => exact ⟨d + 1, X, M1, _, _, _, by simp [hcq], by go_num, HI2, hdz2, hX24, HQ2, HZ1, HZ2, HB, hsz⟩
            case measure => simp [intOf]; omega
          · rw [if_neg hcq] at HQ2
            go_wp2
            go_roundw
            case rel => exact ⟨d + 1, X, M1, _, _, _, by simp, by go_num, HI2, hdz2, hX24, HQ2, HZ1, HZ2, HB, hsz⟩
            case measure => simp [intOf]; omega
end Go.Proofs.Ytcfnilemikenhaa
namespace Go.Proofs.Ytcfnilemikenhaa
open Go Go.RowKit Fl

set_option maxRecDepth 100000 in
set_option maxHeartbeats 4000000 in
/-- The test of IndexFunc. -/
theorem near_c (G H : Nat) (M : List Int) (f : Int) (z : Nat) (w : World) (hz : ArrD w G 66 (padZ M)) (hH : w.heap[H]? = some (.cells #[.int .i64 f] 3 (0, 0))) (hl : z < M.length) (h24 : M.length ≤ 24) :
    Calls Try.prog 49 #[.int .i64 z, .pointer (some ⟨G, 0, none⟩), .pointer (some ⟨H, 0, none⟩)] w fun e w' => e = .returned (.bool (decide (atZ M z = f))) ∧ w' = w.drew := by
  obtain ⟨e1, _⟩ := hz.cell (padZ_at hl)
  have e2 : w.cell? ⟨H, 0, none⟩ = some (.int .i64 f) := cell_of_one hH
  have hz24 : z < 24 := by omega
  clear hz hH
  generalize atZ M z = s at *
  go_enter Try.func49, Try.ntmps49
  go_wp2
  go_region
  all_goals (try go_wp2)
  all_goals go_ret
  all_goals exact ⟨gr_bool (by rw [Bool.eq_iff_iff]; simp), rfl⟩
set_option maxRecDepth 100000 in
set_option maxHeartbeats 4000000 in
theorem idx_c (A : Option Addr) (c G H : Nat) (r M : List Int) (f : Int) (j : Nat) (w : World) (hr : Holds w A (r.map Iv)) (hz : ArrD w G 66 (padZ M)) (hH : w.heap[H]? = some (.cells #[.int .i64 f] 3 (0, 0))) (h24 : M.length ≤ 24) (hr24 : r.length ≤ 24) (hx : ∀ x ∈ r, 0 ≤ x ∧ x < M.length) (hj : j < r.length) (hjf : atZ M r[j].toNat = f) (hbef : ∀ i (h : i < r.length), i < j → atZ M r[i].toNat ≠ f) :
    Calls Try.prog 48 #[.slice A r.length c, .func (.func 49) #[] #[.pointer (some ⟨G, 0, none⟩), .pointer (some ⟨H, 0, none⟩)]] w fun e w' => e = .returned (.int .i64 j) ∧ Below w.heap.size w w' := by
  have HR := Lib.hid hr
  have HX := Lib.hid hx
  have HJ := Lib.hid hjf
  have HBf := Lib.hid hbef
  have HC := Lib.hid (fun (wr : World) (hb : Below w.heap.size w wr) (z : Nat) (hl : z < M.length) => near_c G H M f z wr (hz.keep hb hz.lt) ((hb.block H (block_lt hH)).trans hH) hl h24)
  clear hr hx hjf hbef hz hH
  go_enter Try.func48, Try.ntmps48
  go_wp2
  go_loopw [8] (fun iv wr => ∃ (i : Nat), iv = .int .i64 i ∧ i ≤ j ∧ Hid (Below w.heap.size w wr)) (fun iv _ => r.length - (intOf iv).toNat)
  case atStart => exact ⟨0, rfl, Nat.zero_le _, Lib.hid (Below.refl _ _)⟩
  case round =>
    obtain ⟨i, rfl, hij, HB⟩ := hrel
    have hir : i < r.length := by omega
    obtain ⟨b, o, rfl, e1⟩ := (HR.out.keep HB.out).iv hir
    obtain ⟨x0, x1⟩ := HX.out r[i] (List.getElem_mem hir)
    obtain ⟨x, hx⟩ := Int.eq_ofNat_of_zero_le x0
    rw [hx] at e1 x1
    have hxl : x < M.length := by omega
    have CN := Lib.hid (HC.out wr HB.out x hxl)
    have HB2 := Lib.hid (HB.out.drew)
    rcases Nat.lt_or_ge i j with h1 | h1
    · have hd : decide (atZ M x = f) = false := by
        refine decide_eq_false ?_
        have := HBf.out i hir h1
        rwa [hx, Int.toNat_natCast] at this
      rw [hd] at CN
      clear hd hx x0 x1 HB
      go_wp2_with (go_at_call 49; refine CN.out.mono ?_; rintro e w2 ⟨rfl, rfl⟩)
      go_roundw
      case rel => exact ⟨i + 1, by go_num, by omega, HB2⟩
      case measure => simp [intOf]; omega
    · obtain rfl : i = j := by omega
      have hd : decide (atZ M x = f) = true := by
        refine decide_eq_true ?_
        have := HJ.out
        rwa [hx, Int.toNat_natCast] at this
      rw [hd] at CN
      clear hd hx x0 x1 HB
      go_wp2_with (go_at_call 49; refine CN.out.mono ?_; rintro e w2 ⟨rfl, rfl⟩)
      go_ret
      exact ⟨rfl, HB2.out⟩
/-- How long a slice is. -/
def lnOf : Value → Nat
  | .slice _ n _ => n
  | _ => 0
theorem zeros24 : (List.replicate 24 (Value.int .i64 0)).length = 24 := by simp
/-- The first place in a row. -/
theorem first_at {r M : List Int} {f : Int} {y : Nat} (h : r.find? (fun y => decide (atZ M y.toNat = f)) = some (y : Int)) : ∃ (j : Nat) (hj : j < r.length), r[j] = (y : Int) ∧ atZ M r[j].toNat = f ∧ ∀ i (h : i < r.length), i < j → atZ M r[i].toNat ≠ f := by
  obtain ⟨h1, j, hj, h2, h3⟩ := List.find?_eq_some_iff_getElem.1 h
  refine ⟨j, hj, h2, by rw [h2]; simpa using h1, fun i hi hij => ?_⟩
  have := h3 i hij
  simpa using this
theorem wk_step {h : GraphD} {M W T : List Int} {f x : Nat} (e : W ++ wkF h M (f + 1) x = T) : (W ++ [(x : Int)]) ++ wkF h M f (nxF h M x (f + 1)) = T := by
  rw [← e, List.append_assoc]; rfl
theorem own_keep {w w' : World} {base n : Nat} {e : TypeId} {v : Value} {xs : List Value} (h : w.ownsRow base e 1 v n xs) (hb : Below w.heap.size w w') : w'.ownsRow base e 1 v n xs := by
  obtain ⟨h1, h2⟩ := h
  refine ⟨h1, ?_⟩
  rcases h2 with h2 | ⟨g, cap, cur, hv, hg, hh, hr⟩
  · exact .inl h2
  · exact .inr ⟨g, cap, cur, hv, hg, (hb.block g (block_lt hh)).trans hh, hr⟩
theorem gd_low {w : World} {base base' n : Nat} {e : TypeId} {v : Value} {xs : List Value} (h : w.ownsRow base e 1 v n xs) (hb : base' ≤ base) : w.ownsRow base' e 1 v n xs := by
  obtain ⟨h1, h2⟩ := h
  refine ⟨h1, ?_⟩
  rcases h2 with h2 | ⟨g, cap, cur, hv, hg, hr⟩
  · exact .inl h2
  · exact .inr ⟨g, cap, cur, hv, by omega, hr⟩
/-- The two cells of the loop at its start. -/
theorem two_start (W : World) (v F : Int) : ((W.alloc (.cells #[.int .i64 v] 3)).alloc (.cells #[.int .i64 F] 3)).heap[W.heap.size]? = some (.cells #[.int .i64 v] 3 (0, 0)) ∧
    ((W.alloc (.cells #[.int .i64 v] 3)).alloc (.cells #[.int .i64 F] 3)).heap[W.heap.size + 1]? = some (.cells #[.int .i64 F] 3 (0, 0)) ∧
    W.heap.size + 2 ≤ ((W.alloc (.cells #[.int .i64 v] 3)).alloc (.cells #[.int .i64 F] 3)).heap.size ∧
    Below W.heap.size W ((W.alloc (.cells #[.int .i64 v] 3)).alloc (.cells #[.int .i64 F] 3)) := by
  have s1 : (W.alloc (.cells #[.int .i64 v] 3)).heap.size = W.heap.size + 1 := by simp
  refine ⟨?_, ?_, by simp, ?_⟩
  · rw [Below.heap_alloc _ _ _ (by rw [s1]; omega)]
    exact heap_alloc_new W _
  · rw [← s1]
    exact heap_alloc_new _ _
  · exact ((Below.refl W.heap.size W).alloc (Nat.le_refl _) _).alloc (by rw [s1]; omega) _
set_option maxRecDepth 100000 in
set_option maxHeartbeats 8000000 in
theorem walk_c (A B : Option Addr) (c d : Nat) (h : GraphD) (T : List Int) (v : Nat) (w : World) (ha : RowsAt w A h) (hb : RowsAt w B (revG h)) (hg : validG h = true) (hv : v < h.length) (hT : T.length ≤ 25) (hT0 : ∀ M, StF h v M → atZ M v = 0 → T = []) (hT1 : ∀ M (F : Nat), StF h v M → atZ M v = (F : Int) + 1 → T = wkF h M F v) :
    Calls Try.prog 40 #[.slice A h.length c, .slice B h.length d, .int .i64 v] w fun e w' => ∃ u, e = .returned u ∧ w'.ownsRow w.heap.size 3 1 u T.length (T.map Iv) ∧ Below w.heap.size w w' := by
  have CS := Lib.hid (steps_c B d h v w hb hg hv)
  have HA := Lib.hid ha
  have HG := Lib.hid hg
  have hl24 := validG_len hg
  have HR24 := Lib.hid (validG_short hg)
  have HT0 := Lib.hid hT0
  have HT1 := Lib.hid hT1
  clear ha hb hg hT0 hT1
  have hmf : ∀ (fn : Fn) (first cap : Array Value) (w : World), (Instr.makeFunc fn first cap).run Try.prog w = .ok (.func fn first cap) w := fun _ _ _ _ => rfl
  go_enter Try.func40, Try.ntmps40
  go_wp2_with fail
  refine CS.out.mono ?_
  rintro e w1 ⟨M, hst, rfl, hb1⟩
  have HST := Lib.hid hst
  have hMl : M.length = h.length := hst.len
  have HB1 := Lib.hid hb1
  have h24 : (padZ M).length = 24 := padZ_length (by omega)
  have hz24 := zeros24
  have HN := Lib.hid (zeros_new w1)
  have HN2 := Lib.hid (HN.out.row (l' := padZ M))
  have HB2 := Lib.hid (below_rowZ (hb1.alloc hb1.size (.cells #[.int .i64 0, .int .i64 0, .int .i64 0, .int .i64 0, .int .i64 0, .int .i64 0, .int .i64 0, .int .i64 0, .int .i64 0, .int .i64 0, .int .i64 0, .int .i64 0, .int .i64 0, .int .i64 0, .int .i64 0, .int .i64 0, .int .i64 0, .int .i64 0, .int .i64 0, .int .i64 0, .int .i64 0, .int .i64 0, .int .i64 0, .int .i64 0] 66)) hb1.size (padZ M).toArray)
  have hGw : w.heap.size ≤ w1.heap.size := hb1.size
  have hW2s : ((w1.alloc (.cells #[.int .i64 0, .int .i64 0, .int .i64 0, .int .i64 0, .int .i64 0, .int .i64 0, .int .i64 0, .int .i64 0, .int .i64 0, .int .i64 0, .int .i64 0, .int .i64 0, .int .i64 0, .int .i64 0, .int .i64 0, .int .i64 0, .int .i64 0, .int .i64 0, .int .i64 0, .int .i64 0, .int .i64 0, .int .i64 0, .int .i64 0, .int .i64 0] 66)).setRow w1.heap.size (padZ M).toArray).heap.size = w1.heap.size + 1 := by simp [World.setRow]
  clear hst hb1 CS
  have hv24 : v < 24 := by omega
  obtain ⟨e1, _⟩ := HN2.out.cell (padZ_at (M := M) (k := v) (by omega))
  rcases Classical.em (atZ M v = 0) with h0 | h0
  · have HE := Lib.hid (HT0.out M HST.out h0)
    rw [h0] at e1
    go_wp2_with (refine wpList_store_row rfl _ _ _ rfl w1.heap.size _ rfl rfl _ _ HN.out (sizeZl h24) (by rw [List.size_toArray, List.size_toArray, h24, hz24]) (padZ_one _) ?_)
    go_ret
    exact ⟨_, rfl, by rw [HE.out]; exact World.ownsRow_nil _ _ _ _, HB2.out⟩
  · obtain ⟨F1, hF, hF1, hWn⟩ := HST.out.sound v hv h0
    obtain ⟨F, rfl⟩ : ∃ F, F1 = F + 1 := ⟨F1 - 1, by omega⟩
    have hFe : atZ M v = (F : Int) + 1 := by rw [hF]; omega
    have HE := Lib.hid (HT1.out M F HST.out hFe)
    have hF24 : F ≤ 24 := by
      have := congrArg List.length HE.out
      rw [wkF_length] at this
      omega
    rw [hFe] at e1
    have hne : ((F : Int) + 1 == 0) = false := by rw [beq_eq_false_iff_ne]; omega
    have hTS := two_start ((w1.alloc (.cells #[.int .i64 0, .int .i64 0, .int .i64 0, .int .i64 0, .int .i64 0, .int .i64 0, .int .i64 0, .int .i64 0, .int .i64 0, .int .i64 0, .int .i64 0, .int .i64 0, .int .i64 0, .int .i64 0, .int .i64 0, .int .i64 0, .int .i64 0, .int .i64 0, .int .i64 0, .int .i64 0, .int .i64 0, .int .i64 0, .int .i64 0, .int .i64 0] 66)).setRow w1.heap.size (padZ M).toArray) v F
    rw [hW2s] at hTS
    obtain ⟨k1, k2, k3, k4⟩ := hTS
    have K1 := Lib.hid k1
    have K2 := Lib.hid k2
    have KZ := Lib.hid (HN2.out.keep k4 (Nat.lt_succ_self _))
    have KB := Lib.hid (HB2.out.trans (k4.mono (by omega)))
    clear k1 k2 k4 HN2 HB2 hF h0 hWn
    go_wp2_with (refine wpList_store_row rfl _ _ _ rfl w1.heap.size _ rfl rfl _ _ HN.out (sizeZl h24) (by rw [List.size_toArray, List.size_toArray, h24, hz24]) (padZ_one _) ?_)
    clear hW2s HN
    generalize (((w1.alloc (.cells #[.int .i64 0, .int .i64 0, .int .i64 0, .int .i64 0, .int .i64 0, .int .i64 0, .int .i64 0, .int .i64 0, .int .i64 0, .int .i64 0, .int .i64 0, .int .i64 0, .int .i64 0, .int .i64 0, .int .i64 0, .int .i64 0, .int .i64 0, .int .i64 0, .int .i64 0, .int .i64 0, .int .i64 0, .int .i64 0, .int .i64 0, .int .i64 0] 66)).setRow w1.heap.size (padZ M).toArray).alloc (.cells #[.int .i64 v] 3)).alloc (.cells #[.int .i64 F] 3) = w3 at *
    generalize w1.heap.size = G at *
    have HO : Hid (w3.ownsRow (G + 1) 3 1 (.slice (some ⟨G + 1, 0, none⟩) 1 1) 1 (([] ++ [(v : Int)]).map Iv)) := Lib.hid ⟨rfl, .inr ⟨G + 1, 1, #[Iv v], rfl, Nat.le_refl _, K1.out, by omega, by unfold maxLen; omega, rfl, rfl⟩⟩
    have HW : Hid ([] ++ wkF h M F v = T) := Lib.hid HE.out.symm
    have hGs : G + 1 + 1 < w3.heap.size := lt_of_block K2.out
    clear K1 HE hF1 hne e1 HT0 HT1 HB1 hz24 h24 hv24
    go_loopw [8, 9] (fun lv pv wr => ∃ (f x q cap H : Nat) (W : List Int), lv = .slice (some ⟨q, 0, none⟩) (W.length + 1) cap ∧ pv = .pointer (some ⟨H, 0, none⟩) ∧ q ≠ H ∧ G + 1 ≤ H ∧ x < h.length ∧ W.length + f = F ∧ Hid (atZ M x = (f : Int) + 1) ∧ Hid (W ++ wkF h M f x = T) ∧
      Hid (wr.ownsRow (G + 1) 3 1 (.slice (some ⟨q, 0, none⟩) (W.length + 1) cap) (W.length + 1) ((W ++ [(x : Int)]).map Iv)) ∧ Hid (wr.heap[H]? = some (.cells #[.int .i64 f] 3 (0, 0))) ∧ Hid (ArrD wr G 66 (padZ M)) ∧ Hid (Below w.heap.size w wr)) (fun lv _ _ => F + 2 - lnOf lv)
    case atStart => exact ⟨F, v, G + 1, 1, G + 1 + 1, [], rfl, rfl, by omega, by omega, hv, by simp, Lib.hid hFe, HW, HO, K2, KZ, KB⟩
    case round =>
      clear HO K2 KZ KB HW hFe k3 hGs
      obtain ⟨f, x, q, cap, H, W, rfl, rfl, hqH, hGH, hx, hWf, HMx, HW, HO, HH, HZ, HB⟩ := hrel
      have eH : wr.cell? ⟨H, 0, none⟩ = some (.int .i64 f) := cell_of_one HH.out
      rcases f with _ | f
      · have HE : Hid (W ++ [(x : Int)] = T) := HW
        have hTl : W.length + 1 = T.length := by rw [← HE.out]; simp
        clear HW HMx
        go_wp2
        go_ret
        exact ⟨_, rfl, by rw [← hTl, ← HE.out]; exact gd_low HO.out (by omega), HB.out⟩
      · have ex : wr.cell? ⟨q, W.length, none⟩ = some (.int .i64 x) := (own_get HO.out (i := W.length) (u := Iv x) (by simp)).1
        obtain ⟨n1, n2, n3⟩ := HST.out.nxF HG.out hx (f := f) HMx.out
        have HW2 : Hid ((W ++ [(x : Int)]) ++ wkF h M f (nxF h M x (f + 1)) = T) := Lib.hid (wk_step HW.out)
        rw [rowG_at hx] at n3
        have HX := Lib.hid (rowOk_row HG.out hx)
        rw [rowG_at hx] at HX
        obtain ⟨bg, og, A2, c2, rfl, e1, h1⟩ := HA.out.one hx
        have hbg : bg < w.heap.size := World.block_lt_of_cell? _ _ e1
        have e1r : wr.cell? ⟨bg, og + x, none⟩ = some (.slice A2 h[x].length c2) := (HB.out.cell (p := ⟨bg, og + x, none⟩) hbg).trans e1
        have hr24 := HR24.out _ (List.getElem_mem hx)
        generalize h[x] = r at *
        generalize nxF h M x (f + 1) = y at *
        obtain ⟨j, hj, hjy, hjf, hbef⟩ := first_at n3
        obtain ⟨br, or_, rfl, e2⟩ := h1.iv hj
        have hbr : br < w.heap.size := World.block_lt_of_cell? _ _ e2
        rw [hjy] at e2
        have CI := Lib.hid (idx_c _ c2 G H r M ((f + 1 : Nat) : Int) j wr (h1.keep HB.out) HZ.out HH.out (by omega) hr24 (fun z hz => by have := HX.out z hz; omega) hj hjf hbef)
        have HMy := Lib.hid n2
        clear n2 n3 HW HMx e1 h1 hjy hjf hbef HX
        have hq24 : W.length ≤ 24 := by omega
        go_wp2_with fail
        refine CI.out.mono ?_
        rintro e w4 ⟨rfl, hb4⟩
        have hHw : H < wr.heap.size := lt_of_block HH.out
        have hGw4 : G < wr.heap.size := HZ.out.lt
        have HB4 := Lib.hid (HB.out.trans (hb4.mono HB.out.size))
        have e2r : w4.cell? ⟨br, or_ + j, none⟩ = some (.int .i64 y) := (HB4.out.cell (p := ⟨br, or_ + j, none⟩) hbr).trans e2
        have HH4 : Hid (w4.heap[H]? = some (.cells #[.int .i64 ((f + 1 : Nat) : Int)] 3 (0, 0))) := Lib.hid ((hb4.block H hHw).trans HH.out)
        have HZ4 := Lib.hid (HZ.out.keep hb4 hGw4)
        have HO4 := Lib.hid (own_keep HO.out hb4)
        have hs4 : wr.heap.size ≤ w4.heap.size := hb4.size
        have HOa := Lib.hid (fun ob => HO4.out.alloc ob)
        obtain ⟨i0, hi0, hz0, hz1, hz2⟩ := info_parts Try.infoIntG
        clear CI hb4 HO HH HZ HB eH ex e1r e2
        go_wp2_with (at_builtin; (refine wpList_append_lies _ rfl _ _ 25 rfl (G + 1) 3 i0 (.int .i64 0) 1 8 Try.underlying25 hi0 hz0 hz1 hz2 rfl (by omega) (.slice (some ⟨q, 0, none⟩) (W.length + 1) cap) (W.length + 1) ((W ++ [(x : Int)]).map Iv) (by rfl) (HOa.out _) ⟨_, 0, none⟩ 1 1 [Iv y] (by rfl) (by rfl) (World.news_of_block (cs := #[Iv y]) (t := 3) (fr := (0, 0)) (heap_alloc_new _ _)) (by simp [Value.oneCell']) (by omega) (by unfold maxLen; omega) (by omega) (by simp; omega) _ rfl ?_))
        intro q8 cap8 w8 hown hgrow hat hlt8
        have hlen : W.length + 1 + 1 = (W ++ [(x : Int)]).length + 1 := by simp
        have HLen := Lib.hid hlen
        have hq8 : q8 ≠ H := by
          rcases hat with h1 | h1
          · simp [Value.ownBlock] at h1; omega
          · have e : (w4.alloc (.cells #[.int .i64 y] 3)).heap.size = w4.heap.size + 1 := by simp
            omega
        have eqH : some H ≠ (Value.slice (some ⟨q, 0, none⟩) (W.length + 1) cap).ownBlock := by
          intro e; simp [Value.ownBlock] at e; exact hqH e.symm
        have eqG : some G ≠ (Value.slice (some ⟨q, 0, none⟩) (W.length + 1) cap).ownBlock := by
          intro e
          have := own_base HO4.out q rfl
          simp [Value.ownBlock] at e; omega
        have HH8 : w8.heap[H]? = some (.cells #[.int .i64 ((f + 1 : Nat) : Int)] 3 (0, 0)) := (hgrow.block H (by simp; omega) eqH).trans ((Below.heap_alloc _ _ _ (by omega)).trans HH4.out)
        have eH8 : w8.cell? ⟨H, 0, none⟩ = some (.int .i64 ((f + 1 : Nat) : Int)) := cell_of_one HH8
        have HZ8 := Lib.hid ((HZ4.out.alloc (.cells #[.int .i64 y] 3)).grown hgrow eqG)
        have HB8 := Lib.hid ((HB4.out.alloc HB4.out.size (.cells #[.int .i64 y] 3)).grown hgrow (by have := HB4.out.size; simp; omega) (fun k hk => by
          have h2 := own_base HO4.out q rfl
          simp [Value.ownBlock] at hk; omega))
        have HO8 := Lib.hid hown
        have hs8 := hgrow.size
        clear hown hgrow hat HH8 HO4 HOa HZ4 HB4 HH4 e2r hlen eqH eqG
        go_wp2
        go_roundw
        case rel => exact ⟨f, y, q8, cap8, w8.heap.size, W ++ [(x : Int)], by rw [HLen.out], rfl, by omega, by have := HB8.out.size; have e : (w4.alloc (.cells #[.int .i64 y] 3)).heap.size = w4.heap.size + 1 := by simp
                                                                                                               omega, n1, by simp; omega, Lib.hid (by have := HMy.out; omega), HW2, Lib.hid (by have h8 := HO8.out.alloc (.cells #[.int .i64 (f : Int)] 3); rw [← HLen.out]; simpa using h8), Lib.hid (heap_alloc_new _ _), Lib.hid (HZ8.out.alloc _), Lib.hid (HB8.out.alloc HB8.out.size _)⟩
        case measure => simp [lnOf]; omega
end Go.Proofs.Ytcfnilemikenhaa
namespace Go.Proofs.Ytcfnilemikenhaa
open Go Go.RowKit Fl

set_option maxRecDepth 100000 in
set_option maxHeartbeats 4000000 in
theorem both_c (A B : Option Addr) (c d n : Nat) (g : GraphD) (s : List Bool) (w : World) (hh : RowsAt w A g) (hs : Holds w B (s.map Bo)) (hg : validG g = true) (hsl : s.length = n) (hn : g.length = n) :
    Calls Try.prog 39 #[.slice A n c, .slice B n d] w fun e w' => ∃ A1 c1 A2 c2, e = .returned (.tuple #[.slice A1 n c1, .slice A2 n c2, .int .i64 0]) ∧ RowsAt w' A1 (woG g s) ∧ RowsAt w' A2 (revG (woG g s)) ∧ Below w.heap.size w w' := by
  have hsz := Sized.valid hg
  have h0 := chkG_ok (m := s.length) hg (by omega)
  have C1 := devWithout_c A B c d g s w hh hs hsz.1 hsz.2
  have hL : woL g s = woG g s := by unfold woL; rw [if_pos h0]
  rw [hL, h0, hsl, hn] at C1
  have hv := woG_valid (s := s) hg
  have hsv := Sized.valid hv
  have hwl : (woG g s).length = n := by rw [woG_length, hn]
  have C2 := fun (A1 : Option Addr) (c1 : Nat) (w1 : World) (h1 : RowsAt w1 A1 (woG g s)) => devReverse_c A1 c1 (woG g s) w1 h1 hsv.1 hsv.2
  have hR : revL (woG g s) = revG (woG g s) := by unfold revL; rw [if_pos hv]
  have hE : revE (woG g s) = 0 := by unfold revE; rw [if_pos hv]
  rw [hR, hE, hwl] at C2
  have CA := Lib.hid C1
  have CB := Lib.hid C2
  have HL1 := Lib.hid hwl
  have HL2 : Hid ((revG (woG g s)).length = n) := Lib.hid (by rw [revG_length, hwl])
  clear C1 C2 hh hs hg hsl hn hsz h0 hL hv hsv hR hE hwl
  generalize revG (woG g s) = R at *
  generalize woG g s = O at *
  go_enter Try.func39, Try.ntmps39
  go_wp2_with fail
  refine CA.out.mono ?_
  rintro e w1 ⟨u, rfl, own1, hb1⟩
  obtain ⟨A1, c1, rfl, r1⟩ := own1.at_
  rw [HL1.out]
  have H1 := Lib.hid r1
  have HB1 := Lib.hid hb1
  clear own1 r1 hb1 CA
  go_wp2_with fail
  refine (CB.out A1 c1 w1 H1.out).mono ?_
  rintro e w2 ⟨u, rfl, own2, hb2⟩
  obtain ⟨A2, c2, rfl, r2⟩ := own2.at_
  rw [HL2.out]
  have H2 := Lib.hid r2
  have H12 := Lib.hid (H1.out.keep hb2)
  have HB2 := Lib.hid (HB1.out.trans (hb2.mono HB1.out.size))
  clear own2 r2 hb2 CB H1 HB1
  go_wp2
  go_ret3
  exact ⟨_, _, _, _, rfl, H12.out, H2.out, HB2.out⟩
set_option maxRecDepth 100000 in
set_option maxHeartbeats 4000000 in
theorem bothE_c (A B : Option Addr) (c d : Nat) (g : GraphD) (s : List Bool) (w : World) (hh : RowsAt w A g) (hs : Holds w B (s.map Bo)) (hz : Sized g) (h0 : chkG g s.length ≠ 0) :
    Calls Try.prog 39 #[.slice A g.length c, .slice B s.length d] w fun e w' => e = .returned (.tuple #[.slice none 0 0, .slice none 0 0, .int .i64 (chkG g s.length)]) ∧ Below w.heap.size w w' := by
  have C1 := devWithout_c A B c d g s w hh hs hz.1 hz.2
  have CA := Lib.hid C1
  have hcase : chkG g s.length = 19 ∨ chkG g s.length = 20 := by
    rcases chkG_cases g s.length with h | h | h
    · exact absurd h.1 h0
    · exact .inl h
    · exact .inr h
  clear C1 hh hs hz h0
  rcases hcase with h | h
  all_goals
    rw [h] at CA ⊢
    clear h
    go_enter Try.func39, Try.ntmps39
    go_wp2_with fail
    refine CA.out.mono ?_
    rintro e w1 ⟨u, rfl, own1, hb1⟩
    obtain ⟨A1, c1, rfl, _⟩ := own1.at_
    have HB1 := Lib.hid hb1
    clear own1 hb1 CA
    go_wp2
    go_ret3
    exact ⟨rfl, HB1.out⟩
/-- The first shortest closed walk from a vertex. -/
theorem firstW_c (A B : Option Addr) (c d n : Nat) (g : GraphD) (s : List Bool) (v : Nat) (w : World) (ha : RowsAt w A (woG g s)) (hb : RowsAt w B (revG (woG g s))) (hg : validG g = true) (hn : g.length = n) (hv : v < n) :
    Calls Try.prog 40 #[.slice A n c, .slice B n d, .int .i64 v] w fun e w' => ∃ u, e = .returned u ∧ w'.ownsRow w.heap.size 3 1 u (thrF g s v).length ((thrF g s v).map Iv) ∧ Below w.heap.size w w' := by
  have hvg : v < g.length := by omega
  have h := walk_c A B c d (woG g s) (thrF g s v) v w ha hb (woG_valid hg) (by rw [woG_length]; exact hvg) (thrF_short hg hvg) (fun M hM h0 => thr_none hg hvg hM h0) (fun M F hM h0 => thr_walk hg hvg hM h0)
  rw [woG_length, hn] at h
  exact h
set_option maxRecDepth 100000 in
set_option maxHeartbeats 4000000 in
theorem devThrough_c (A B : Option Addr) (c d : Nat) (g : GraphD) (s : List Bool) (v : Int) (w : World) (hh : RowsAt w A g) (hs : Holds w B (s.map Bo)) (hz : Sized g) :
    Calls Try.prog 24 #[.slice A g.length c, .slice B s.length d, .int .i64 v] w (WalkPost w (thrL g s v) (fromE g s.length v)) := by
  by_cases h0 : chkG g s.length = 0
  · have hv : validG g = true ∧ s.length = g.length := by
      rcases chkG_cases g s.length with h | h | h
      · exact h.2
      · omega
      · omega
    have hl24 := validG_len hv.1
    have CC := Lib.hid (both_c A B c d g.length g s w hh hs hv.1 hv.2 rfl)
    have HG := Lib.hid hv.1
    have hsl := hv.2
    by_cases hin : 0 ≤ v ∧ v < g.length
    · obtain ⟨vn, rfl⟩ := Int.eq_ofNat_of_zero_le hin.1
      have hvn : vn < g.length := by omega
      have he : fromE g s.length (vn : Int) = 0 := by unfold fromE; rw [if_pos h0, if_pos hin]
      have CF := Lib.hid (fun (A1 A2 : Option Addr) (c1 c2 : Nat) (w1 : World) (h1 : RowsAt w1 A1 (woG g s)) (h2 : RowsAt w1 A2 (revG (woG g s))) => firstW_c A1 A2 c1 c2 g.length g s vn w1 h1 h2 hv.1 rfl hvn)
      have HL : Hid (thrL g s (vn : Int) = thrF g s vn) := Lib.hid (by unfold thrL; rw [if_pos he, Int.toNat_natCast])
      have hsh := thrF_short (s := s) hv.1 hvn
      rw [he, hsl]
      clear hh hs he h0 hv hin hz hsl
      generalize thrF g s vn = T at *
      go_enter Try.func24, Try.ntmps24
      go_wp2_with fail
      refine CC.out.mono ?_
      rintro e w1 ⟨A1, c1, A2, c2, rfl, r1, r2, hb1⟩
      have HB1 := Lib.hid hb1
      have C2 := Lib.hid (CF.out A1 A2 c1 c2 w1 r1 r2)
      clear r1 r2 hb1 CC CF
      go_wp2_with fail
      refine C2.out.mono ?_
      rintro e w2 ⟨u, rfl, own2, hb2⟩
      obtain ⟨Au, cu, rfl, _⟩ := own_is own2
      have HO := Lib.hid (ownsRow_base own2 HB1.out.size)
      have HB := Lib.hid (HB1.out.trans (hb2.mono HB1.out.size))
      clear own2 hb2 C2 HB1
      go_wp2
      go_ret3
      exact ⟨_, by rw [HL.out]; rfl, by rw [HL.out]; exact HO.out, HB.out⟩
    · have he : fromE g s.length v = 19 := by unfold fromE; rw [if_pos h0, if_neg hin]
      have HL : Hid (thrL g s v = []) := Lib.hid (by unfold thrL; rw [if_neg (by rw [he]; decide)])
      have hcase : decide (v < 0) = true ∨ decide (v < 0) = false ∧ decide ((g.length : Int) ≤ v) = true := by simp only [decide_eq_true_eq, decide_eq_false_iff_not]; omega
      rw [he, hsl]
      clear hh hs he h0 hv hin hz hsl
      rcases hcase with h1 | ⟨h1, h2⟩
      all_goals
        go_enter Try.func24, Try.ntmps24
        go_wp2_with fail
        refine CC.out.mono ?_
        rintro e w1 ⟨A1, c1, A2, c2, rfl, r1, r2, hb1⟩
        have HB1 := Lib.hid hb1
        clear r1 r2 hb1 CC
        go_wp2
        go_ret3
        exact ⟨_, by rw [HL.out]; rfl, by rw [HL.out]; exact World.ownsRow_nil _ _ _ _, HB1.out⟩
  · have CE := Lib.hid (bothE_c A B c d g s w hh hs hz h0)
    have he : fromE g s.length v = chkG g s.length := by unfold fromE; rw [if_neg h0]
    have HL : Hid (thrL g s v = []) := Lib.hid (by unfold thrL; rw [if_neg (by rw [he]; exact h0)])
    have hcase : chkG g s.length = 19 ∨ chkG g s.length = 20 := by
      rcases chkG_cases g s.length with h | h | h
      · exact absurd h.1 h0
      · exact .inl h
      · exact .inr h
    rw [he]
    clear hh hs hz he h0
    rcases hcase with h | h
    all_goals
      rw [h] at CE ⊢
      clear h
      go_enter Try.func24, Try.ntmps24
      go_wp2_with fail
      refine CE.out.mono ?_
      rintro e w1 ⟨rfl, hb1⟩
      have HB1 := Lib.hid hb1
      clear hb1 CE
      go_wp2
      go_ret3
      exact ⟨_, by rw [HL.out]; rfl, by rw [HL.out]; exact World.ownsRow_nil _ _ _ _, HB1.out⟩
theorem devThrough_k : DevThrough := fun A B c d g s v w hh hs hz => (devThrough_c A B c d g s v w hh hs hz).mono fun _ _ h => h.res
end Go.Proofs.Ytcfnilemikenhaa
