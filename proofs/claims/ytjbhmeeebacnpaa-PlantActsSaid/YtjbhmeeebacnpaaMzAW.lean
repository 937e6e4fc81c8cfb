/- Joined texts. -/
import Derived.Test.YtjbhmeeebacnpaaMzAT
import Derived.Maps.Own
import Derived.Maps.OwnSet
import Derived.Maps.Views
import Derived.WalkArith
namespace Go.Proofs.Ytjbhmeeebacnpaa
open Go Go.RowKit Fl

theorem clashK_none {a : BodD} : ∀ {l : List BodD} {k : Nat}, (∀ j (h : j < l.length), meetB a l[j] = false) → clashK a l k = none
  | [], _, _ => rfl
  | b :: l, k, h => by
    unfold clashK
    rw [if_neg (by have := h 0 (by simp); simp only [List.getElem_cons_zero] at this; rw [this]; simp)]
    exact clashK_none (fun j hj => by have := h (j + 1) (by simp; omega); simpa using this)
theorem clashK_some {a : BodD} : ∀ {l : List BodD} {k j : Nat} (hj : j < l.length), meetB a l[j] = true → (∀ i (h : i < j), meetB a (l[i]'(by omega)) = false) → clashK a l k = some (k + j)
  | b :: l, k, 0, _, ht, _ => by
    unfold clashK
    rw [if_pos (by simpa using ht)]
    rfl
  | b :: l, k, j + 1, hj, ht, h => by
    unfold clashK
    rw [if_neg (by have := h 0 (by omega); simp only [List.getElem_cons_zero] at this; rw [this]; simp), clashK_some (j := j) (by simpa using hj) (by simpa using ht) (fun i hi => by have := h (i + 1) (by omega); simpa using this)]
    congr 1
    omega
theorem clash_drop {l : List BodD} {i : Nat} (h : i < l.length) : clashL (l.drop i) i = match clashK l[i] (l.drop (i + 1)) (i + 1) with
    | some k => some (i, k)
    | none => clashL (l.drop (i + 1)) (i + 1) := by
  rw [List.drop_eq_getElem_cons h]
  rfl
/-- No later robot meets this one. -/
theorem clash_step {l : List BodD} {i : Nat} (h : i < l.length) (hn : ∀ k (_ : i < k) (hk : k < l.length), meetB l[i] l[k] = false) : clashL (l.drop i) i = clashL (l.drop (i + 1)) (i + 1) := by
  rw [clash_drop h, clashK_none (fun j hj => by
    rw [List.getElem_drop]
    rw [List.length_drop] at hj
    exact hn _ (by omega) (by omega))]
theorem clash_hit {l : List BodD} {i k : Nat} (hk : k < l.length) (hik : i < k) (ht : meetB (l[i]'(by omega)) l[k] = true) (hn : ∀ k' (_ : i < k') (h2 : k' < k), meetB (l[i]'(by omega)) (l[k']'(by omega)) = false) : clashL (l.drop i) i = some (i, k) := by
  rw [clash_drop (by omega), clashK_some (j := k - (i + 1)) (by rw [List.length_drop]; omega) (by rw [List.getElem_drop]; simpa [show i + 1 + (k - (i + 1)) = k by omega] using ht) (fun j hj => by
    rw [List.getElem_drop]
    exact hn _ (by omega) (by omega))]
  simp only [show i + 1 + (k - (i + 1)) = k by omega]
theorem clash_end {l : List BodD} {i : Nat} (h : l.length ≤ i) : clashL (l.drop i) i = none := by
  rw [List.drop_eq_nil_of_le h]
  rfl
theorem meet_yes {a b : BodD} {x y : Nat} (hx : x < (fpB a).length) (hy : y < (fpB b).length) (h : (fpB a)[x] = (fpB b)[y]) : meetB a b = true := by
  unfold meetB
  rw [List.any_eq_true]
  exact ⟨_, List.getElem_mem hx, by rw [List.any_eq_true]; exact ⟨_, List.getElem_mem hy, by rw [h]; simp⟩⟩
theorem meet_no {a b : BodD} (h : ∀ x (hx : x < (fpB a).length) y (hy : y < (fpB b).length), (fpB a)[x] ≠ (fpB b)[y]) : meetB a b = false := by
  unfold meetB
  rw [List.any_eq_false]
  intro p hp
  obtain ⟨x, hx, rfl⟩ := List.getElem_of_mem hp
  rw [Bool.not_eq_true, List.any_eq_false]
  intro q hq
  obtain ⟨y, hy, rfl⟩ := List.getElem_of_mem hq
  have := h x hx y hy
  simpa using this
/-- What Clash returns. -/
def clashV (l : List BodD) : Value := match clashL l 0 with
  | some p => .tuple #[.int .i64 p.1, .int .i64 p.2, .bool true]
  | none => .tuple #[.int .i64 0, .int .i64 0, .bool false]
theorem clashV_hit {l : List BodD} {i k : Nat} (h0 : clashL l 0 = clashL (l.drop i) i) (h : clashL (l.drop i) i = some (i, k)) : clashV l = .tuple #[.int .i64 i, .int .i64 k, .bool true] := by
  unfold clashV
  rw [h0, h]
theorem clashV_end {l : List BodD} {i : Nat} (h0 : clashL l 0 = clashL (l.drop i) i) (h : l.length ≤ i) : clashV l = .tuple #[.int .i64 0, .int .i64 0, .bool false] := by
  unfold clashV
  rw [h0, clash_end h]
theorem own_sliceC {w : World} {base : Nat} {e : TypeId} {size n : Nat} {v : Value} {xs : List Value} (h : w.ownsRow base e size v n xs) : ∃ A c, v = .slice A n c := by
  obtain ⟨_, h2⟩ := h
  rcases h2 with ⟨rfl, rfl⟩ | ⟨g, cap, cur, rfl, _⟩
  · exact ⟨_, _, rfl⟩
  · exact ⟨_, _, rfl⟩
end Go.Proofs.Ytjbhmeeebacnpaa
namespace Go.Proofs.Ytjbhmeeebacnpaa
open Go Go.RowKit Fl

theorem fpB_nodup (b : BodD) : (fpB b).Nodup := by
  unfold fpB
  split
  · exact List.nodup_nil
  · split
    · simp
    · rename_i h
      have h2 : b.dst ≠ b.cel := fun e => h (.inr e)
      simp only [List.nodup_cons, List.mem_singleton, List.not_mem_nil, not_false_eq_true, List.nodup_nil, and_true]
      omega
theorem meet_iff (a b : BodD) : meetB a b = true ↔ ∃ z, z ∈ fpB a ∧ z ∈ fpB b := by
  unfold meetB
  rw [List.any_eq_true]
  constructor
  · rintro ⟨x, hx, h⟩
    rw [List.any_eq_true] at h
    obtain ⟨y, hy, h⟩ := h
    obtain rfl : x = y := by simpa using h
    exact ⟨x, hx, hy⟩
  · rintro ⟨z, h1, h2⟩
    exact ⟨z, h1, by rw [List.any_eq_true]; exact ⟨z, h2, by simp⟩⟩
/-- Robot i has cell z, among the robots before j and the first x cells of j. -/
def SeenC (l : List BodD) (j x i : Nat) (z : Int) : Prop := ∃ h : i < l.length, (i < j ∧ z ∈ fpB l[i]) ∨ (i = j ∧ z ∈ (fpB l[i]).take x)
theorem SeenC.le {l : List BodD} {j x i : Nat} {z : Int} (h : SeenC l j x i z) : i ≤ j := by
  obtain ⟨_, h | h⟩ := h
  · omega
  · omega
theorem SeenC.lt {l : List BodD} {j x i : Nat} {z : Int} (h : SeenC l j x i z) : i < l.length := h.1
theorem seen_succ {l : List BodD} {j x : Nat} (hj : j < l.length) (hx : x < (fpB l[j]).length) (i : Nat) (z : Int) : SeenC l j (x + 1) i z ↔ SeenC l j x i z ∨ (i = j ∧ z = (fpB l[j])[x]) := by
  have ht := List.take_succ_eq_append_getElem hx
  constructor
  · rintro ⟨h, h1 | ⟨rfl, h2⟩⟩
    · exact .inl ⟨h, .inl h1⟩
    · rw [ht, List.mem_append, List.mem_singleton] at h2
      rcases h2 with h2 | h2
      · exact .inl ⟨h, .inr ⟨rfl, h2⟩⟩
      · exact .inr ⟨rfl, h2⟩
  · rintro (⟨h, h1 | ⟨rfl, h2⟩⟩ | ⟨rfl, rfl⟩)
    · exact ⟨h, .inl h1⟩
    · exact ⟨h, .inr ⟨rfl, by rw [ht]; exact List.mem_append_left _ h2⟩⟩
    · exact ⟨hj, .inr ⟨rfl, by rw [ht]; exact List.mem_append_right _ (List.mem_singleton.2 rfl)⟩⟩
theorem seen_next {l : List BodD} {j x : Nat} (hj : j < l.length) (hx : x = (fpB l[j]).length) (i : Nat) (z : Int) : SeenC l (j + 1) 0 i z ↔ SeenC l j x i z := by
  constructor
  · rintro ⟨h, ⟨h1, h2⟩ | ⟨_, h2⟩⟩
    · by_cases he : i = j
      · subst he
        exact ⟨h, .inr ⟨rfl, by rw [hx, List.take_length]; exact h2⟩⟩
      · exact ⟨h, .inl ⟨by omega, h2⟩⟩
    · simp at h2
  · rintro ⟨h, ⟨h1, h2⟩ | ⟨rfl, h2⟩⟩
    · exact ⟨h, .inl ⟨by omega, h2⟩⟩
    · exact ⟨h, .inl ⟨by omega, List.mem_of_mem_take h2⟩⟩
theorem seen_new {l : List BodD} {j x : Nat} (hj : j < l.length) (hx : x < (fpB l[j]).length) : ¬ SeenC l j x j (fpB l[j])[x] := by
  rintro ⟨_, ⟨h, _⟩ | ⟨_, h⟩⟩
  · omega
  · obtain ⟨k, hk, he⟩ := List.mem_iff_getElem.1 h
    rw [List.length_take] at hk
    rw [List.getElem_take] at he
    exact List.pairwise_iff_getElem.1 (fpB_nodup l[j]) k x (by omega) hx (by omega) he
/-- What Clash knows. -/
structure CS (l : List BodD) (j x : Nat) (D : DataW Unit) (p q : Int) (f : Bool) : Prop where
  keys : ∀ z, Maps.has D (.int .i64 z) = true ↔ ∃ i, SeenC l j x i z
  vals : ∀ z i, SeenC l j x i z → (∀ i', SeenC l j x i' z → i ≤ i') → D.atKey (.int .i64 z) (.lit (.int .i64 0)) = .lit (.int .i64 i)
  no : f = false → p = 0 ∧ q = 0 ∧ ∀ i k z, i < k → SeenC l j x i z → SeenC l j x k z → False
  yes : f = true → ∃ i k : Nat, p = i ∧ q = k ∧ i < k ∧ (∃ z, SeenC l j x i z ∧ SeenC l j x k z) ∧ ∀ i' k' z, i' < k' → SeenC l j x i' z → SeenC l j x k' z → i < i' ∨ (i = i' ∧ k ≤ k')
theorem CS.zero (l : List BodD) : CS l 0 0 (.map []) 0 0 false := by
  have hn : ∀ i z, ¬ SeenC l 0 0 i z := by
    rintro i z ⟨_, ⟨h, _⟩ | ⟨_, h⟩⟩
    · omega
    · simp at h
  refine ⟨fun z => ⟨fun h => absurd h (by simp [Maps.has]), fun ⟨i, h⟩ => (hn i z h).elim⟩, fun z i h _ => (hn i z h).elim, fun _ => ⟨rfl, rfl, fun i k z _ h _ => hn i z h⟩, fun h => by cases h⟩
theorem CS.next {l : List BodD} {j x : Nat} {D : DataW Unit} {p q : Int} {f : Bool} (h : CS l j x D p q f) (hj : j < l.length) (hx : x = (fpB l[j]).length) : CS l (j + 1) 0 D p q f := by
  have e := seen_next hj hx
  obtain ⟨h1, h2, h3, h4⟩ := h
  refine ⟨fun z => (h1 z).trans ⟨fun ⟨i, h⟩ => ⟨i, (e i z).2 h⟩, fun ⟨i, h⟩ => ⟨i, (e i z).1 h⟩⟩, fun z i hi hm => h2 z i ((e i z).1 hi) (fun i' h' => hm i' ((e i' z).2 h')), fun hf => ?_, fun hf => ?_⟩
  · obtain ⟨a, b, c⟩ := h3 hf
    exact ⟨a, b, fun i k z hik u v => c i k z hik ((e i z).1 u) ((e k z).1 v)⟩
  · obtain ⟨i, k, a, b, c, ⟨z, d1, d2⟩, g⟩ := h4 hf
    exact ⟨i, k, a, b, c, ⟨z, (e i z).2 d1, (e k z).2 d2⟩, fun i' k' z' hik u v => g i' k' z' hik ((e i' z').1 u) ((e k' z').1 v)⟩
theorem wf_key (z : Int) : WideAt.IsKeyLit (Lit.int .i64 z) := by unfold WideAt.IsKeyLit; trivial
/-- A cell that no robot had. -/
theorem CS.add {l : List BodD} {j x : Nat} {D : DataW Unit} {p q : Int} {f : Bool} (h : CS l j x D p q f) (hj : j < l.length) (hx : x < (fpB l[j]).length) (hD : Maps.IsMap D) (hn : Maps.has D (.int .i64 (fpB l[j])[x]) = false) : CS l j (x + 1) (D.put (.int .i64 (fpB l[j])[x]) (.lit (.int .i64 j))) p q f := by
  have e := seen_succ hj hx
  obtain ⟨h1, h2, h3, h4⟩ := h
  generalize hz : (fpB l[j])[x] = c at *
  have hno : ∀ i, ¬ SeenC l j x i c := fun i hi => by
    have := (h1 c).2 ⟨i, hi⟩
    rw [hn] at this
    cases this
  have hsame : ∀ i k z, i < k → SeenC l j (x + 1) i z → SeenC l j (x + 1) k z → SeenC l j x i z ∧ SeenC l j x k z := fun i k z hik u v => by
    rcases (e i z).1 u with u | ⟨u1, u2⟩
    · rcases (e k z).1 v with v | ⟨v1, v2⟩
      · exact ⟨u, v⟩
      · exact (hno i (v2 ▸ u)).elim
    · rcases (e k z).1 v with v | ⟨v1, v2⟩
      · exact (hno k (u2 ▸ v)).elim
      · omega
  refine ⟨fun z => ?_, fun z i hi hm => ?_, fun hf => ?_, fun hf => ?_⟩
  · by_cases hc : z = c
    · subst hc
      exact ⟨fun _ => ⟨j, (e j z).2 (.inr ⟨rfl, rfl⟩)⟩, fun _ => Maps.has_put_same hD (wf_key z) _⟩
    · rw [Maps.has_put_other (fun e => hc (by injection e))]
      refine (h1 z).trans ⟨fun ⟨i, hi⟩ => ⟨i, (e i z).2 (.inl hi)⟩, fun ⟨i, hi⟩ => ?_⟩
      rcases (e i z).1 hi with hi | ⟨_, hi⟩
      · exact ⟨i, hi⟩
      · exact (hc hi).elim
  · by_cases hc : z = c
    · subst hc
      rw [Maps.atKey_put_same hD (wf_key z)]
      rcases (e i z).1 hi with hi | ⟨rfl, _⟩
      · exact (hno i hi).elim
      · rfl
    · rw [Maps.atKey_put_other (fun e => hc (by injection e))]
      rcases (e i z).1 hi with hi | ⟨_, hi⟩
      · exact h2 z i hi (fun i' h' => hm i' ((e i' z).2 (.inl h')))
      · exact (hc hi).elim
  · obtain ⟨a, b, c'⟩ := h3 hf
    exact ⟨a, b, fun i k z hik u v => c' i k z hik (hsame i k z hik u v).1 (hsame i k z hik u v).2⟩
  · obtain ⟨i, k, a, b, c', ⟨z, d1, d2⟩, g⟩ := h4 hf
    exact ⟨i, k, a, b, c', ⟨z, (e i z).2 (.inl d1), (e k z).2 (.inl d2)⟩, fun i' k' z' hik u v => g i' k' z' hik (hsame i' k' z' hik u v).1 (hsame i' k' z' hik u v).2⟩
/-- The first robot that had a cell. -/
theorem CS.first {l : List BodD} {j x : Nat} {D : DataW Unit} {p q : Int} {f : Bool} (h : CS l j x D p q f) (z : Int) (hz : Maps.has D (.int .i64 z) = true) : ∃ i : Nat, D.atKey (.int .i64 z) (.lit (.int .i64 0)) = .lit (.int .i64 i) ∧ SeenC l j x i z ∧ ∀ i', SeenC l j x i' z → i ≤ i' := by
  obtain ⟨i, hi⟩ := (h.keys z).1 hz
  have : ∀ n i, i ≤ n → SeenC l j x i z → ∃ m, SeenC l j x m z ∧ ∀ i', SeenC l j x i' z → m ≤ i' := by
    intro n
    induction n with
    | zero => exact fun i h0 hi => ⟨i, hi, fun i' _ => by omega⟩
    | succ n ih =>
      intro i hin hi
      rcases Classical.em (∃ k, k < i ∧ SeenC l j x k z) with ⟨k, hk, hs⟩ | hnk
      · exact ih k (by omega) hs
      · exact ⟨i, hi, fun i' h' => by
          rcases Nat.lt_or_ge i' i with h1 | h1
          · exact (hnk ⟨i', h1, h'⟩).elim
          · exact h1⟩
  obtain ⟨m, hm, hmin⟩ := this i i (Nat.le_refl _) hi
  exact ⟨m, h.vals z m hm hmin, hm, hmin⟩
/-- A cell that a robot had: a new pair, or an older one that comes first. -/
theorem CS.hit {l : List BodD} {j x : Nat} {D : DataW Unit} {p q : Int} {f : Bool} (h : CS l j x D p q f) (hj : j < l.length) (hx : x < (fpB l[j]).length) {m : Nat} (hm : SeenC l j x m (fpB l[j])[x]) (hmin : ∀ i', SeenC l j x i' (fpB l[j])[x] → m ≤ i') :
    ((f = false ∨ (m : Int) < p) → CS l j (x + 1) D m j true) ∧ (f = true → ¬ (m : Int) < p → CS l j (x + 1) D p q f) := by
  have e := seen_succ hj hx
  have hnew := seen_new hj hx
  have hmj : m < j := by
    have h1 := hm.le
    rcases Nat.lt_or_ge m j with h2 | h2
    · exact h2
    · have h3 : m = j := by omega
      exact (hnew (h3 ▸ hm)).elim
  obtain ⟨h1, h2, h3, h4⟩ := h
  generalize hz : (fpB l[j])[x] = c at *
  have k1 : ∀ z, Maps.has D (.int .i64 z) = true ↔ ∃ i, SeenC l j (x + 1) i z := fun z => by
    refine (h1 z).trans ⟨fun ⟨i, hi⟩ => ⟨i, (e i z).2 (.inl hi)⟩, fun ⟨i, hi⟩ => ?_⟩
    rcases (e i z).1 hi with hi | ⟨_, rfl⟩
    · exact ⟨i, hi⟩
    · exact ⟨m, hm⟩
  have k2 : ∀ z i, SeenC l j (x + 1) i z → (∀ i', SeenC l j (x + 1) i' z → i ≤ i') → D.atKey (.int .i64 z) (.lit (.int .i64 0)) = .lit (.int .i64 i) := fun z i hi hmn => by
    rcases (e i z).1 hi with h | ⟨rfl, rfl⟩
    · exact h2 z i h (fun i' h' => hmn i' ((e i' z).2 (.inl h')))
    · have := hmn m ((e m z).2 (.inl hm))
      omega
  have hpair : ∀ i k z, i < k → SeenC l j (x + 1) i z → SeenC l j (x + 1) k z → (SeenC l j x i z ∧ SeenC l j x k z) ∨ (m ≤ i ∧ k = j) := fun i k z hik u v => by
    rcases (e i z).1 u with u' | ⟨u1, u2⟩
    · rcases (e k z).1 v with v' | ⟨v1, v2⟩
      · exact .inl ⟨u', v'⟩
      · exact .inr ⟨hmin i (v2 ▸ u'), v1⟩
    · have := v.le
      omega
  refine ⟨fun hc => ⟨k1, k2, (fun hf => by cases hf), fun _ => ⟨m, j, rfl, rfl, hmj, ⟨c, (e m c).2 (.inl hm), (e j c).2 (.inr ⟨rfl, rfl⟩)⟩, fun i' k' z hik u v => ?_⟩⟩, fun hf hnp => ⟨k1, k2, (fun h => by rw [hf] at h; cases h), fun _ => ?_⟩⟩
  · rcases hpair i' k' z hik u v with ⟨u', v'⟩ | ⟨a, b⟩
    · cases hff : f with
      | false => exact ((h3 hff).2.2 i' k' z hik u' v').elim
      | true =>
        obtain ⟨i, k, a, b, c', _, g⟩ := h4 hff
        have hmp : (m : Int) < p := hc.elim (fun h => by rw [hff] at h; cases h) id
        rcases g i' k' z hik u' v' with g | ⟨g, _⟩
        · exact .inl (by omega)
        · exact .inl (by omega)
    · omega
  · obtain ⟨i, k, a, b, c', ⟨z, d1, d2⟩, g⟩ := h4 hf
    refine ⟨i, k, a, b, c', ⟨z, (e i z).2 (.inl d1), (e k z).2 (.inl d2)⟩, fun i' k' z' hik u v => ?_⟩
    rcases hpair i' k' z' hik u v with ⟨u', v'⟩ | ⟨r, s⟩
    · exact g i' k' z' hik u' v'
    · have := d2.le
      omega
theorem clash_run {l : List BodD} : ∀ i : Nat, i ≤ l.length → (∀ i' k (_ : i' < i) (hik : i' < k) (hk : k < l.length), meetB (l[i']'(by omega)) l[k] = false) → clashL l 0 = clashL (l.drop i) i
  | 0, _, _ => by simp
  | i + 1, hi, h => by
    rw [clash_run i (by omega) (fun i' k h1 h2 h3 => h i' k (by omega) h2 h3)]
    exact clash_step (by omega) (fun k h1 h2 => h i k (by omega) h1 h2)
theorem seen_all {l : List BodD} {i : Nat} {z : Int} : SeenC l l.length 0 i z ↔ ∃ h : i < l.length, z ∈ fpB l[i] := by
  constructor
  · rintro ⟨h, ⟨_, h2⟩ | ⟨_, h2⟩⟩
    · exact ⟨h, h2⟩
    · simp at h2
  · rintro ⟨h, h2⟩
    exact ⟨h, .inl ⟨h, h2⟩⟩
theorem CS.out {l : List BodD} {D : DataW Unit} {p q : Int} {f : Bool} (h : CS l l.length 0 D p q f) : clashV l = .tuple #[.int .i64 p, .int .i64 q, .bool f] := by
  have hs : ∀ i k (hik : i < k) (hk : k < l.length), meetB (l[i]'(by omega)) l[k] = true ↔ ∃ z, SeenC l l.length 0 i z ∧ SeenC l l.length 0 k z := fun i k hik hk => by
    rw [meet_iff]
    exact ⟨fun ⟨z, a, b⟩ => ⟨z, seen_all.2 ⟨by omega, a⟩, seen_all.2 ⟨hk, b⟩⟩, fun ⟨z, a, b⟩ => ⟨z, (seen_all.1 a).2, (seen_all.1 b).2⟩⟩
  cases f with
  | false =>
    obtain ⟨rfl, rfl, c⟩ := h.no rfl
    exact clashV_end (clash_run l.length (Nat.le_refl _) (fun i' k _ h2 h3 => by
      rw [Bool.eq_false_iff]
      intro ht
      obtain ⟨z, a, b⟩ := (hs i' k h2 h3).1 ht
      exact c i' k z h2 a b)) (Nat.le_refl _)
  | true =>
    obtain ⟨i, k, rfl, rfl, hik, ⟨z, d1, d2⟩, g⟩ := h.yes rfl
    have hk := d2.lt
    refine clashV_hit (clash_run i (by omega) (fun i' k' h1 h2 h3 => ?_)) (clash_hit hk hik ((hs i k hik hk).2 ⟨z, d1, d2⟩) (fun k' h1 h2 => ?_))
    · rw [Bool.eq_false_iff]
      intro ht
      obtain ⟨y, a, b⟩ := (hs i' k' h2 h3).1 ht
      rcases g i' k' y h2 a b with g | ⟨g, _⟩ <;> omega
    · rw [Bool.eq_false_iff]
      intro ht
      obtain ⟨y, a, b⟩ := (hs i k' h1 (by omega)).1 ht
      rcases g i k' y h1 a b with g | ⟨_, g⟩ <;> omega
end Go.Proofs.Ytjbhmeeebacnpaa
namespace Go.Proofs.Ytjbhmeeebacnpaa
open Go Go.RowKit Fl

set_option maxRecDepth 100000 in
set_option maxHeartbeats 2000000 in
theorem devFp_c (b : BodD) (w : World) : Calls Try.prog 19 #[BV b] w fun e w' => ∃ u, e = .returned u ∧ w'.ownsRow w.heap.size 3 1 u (fpB b).length ((fpB b).map (fun z => Value.int .i64 z)) ∧ Below w.heap.size w w' := by
  have HB := Lib.hid (below_newB w (.cells (BC b) 40))
  have HX := Lib.hid (BodAt.new w b)
  have HF := Lib.hid (fun W => floor_c b W)
  have HT := Lib.hid (fun W => transit_c b W)
  have HL : Hid (∀ (W : World) (xs : Array Value), w.heap.size ≤ W.heap.size → xs.size ≤ 10 → (W.alloc (.cells xs 3)).ownsRow w.heap.size 3 1 (.slice (some ⟨W.heap.size, 0, none⟩) xs.size xs.size) xs.size xs.toList) := Lib.hid (fun W xs h1 h2 => by
    have h := World.ownsRow_lit (base := w.heap.size) (e := 3) (size := 1) W xs xs.size h1 (by unfold maxLen; omega) (by omega)
    exact h)
  obtain ⟨u, hu⟩ : ∃ u, floorB b = u := ⟨_, rfl⟩
  obtain ⟨v, hv⟩ : ∃ v, (b.dst != -1) = v := ⟨_, rfl⟩
  obtain ⟨fp, hfp⟩ : ∃ fp, fpB b = fp := ⟨_, rfl⟩
  rw [hfp]
  have hT2 : (floorB b && b.dst != -1) = (u && v) := by rw [hu, hv]
  rw [hu, hv] at HT
  rw [hu] at HF
  clear hT2
  have HE : Hid (fpB b = fp ∧ floorB b = u ∧ (b.dst != -1) = v) := Lib.hid ⟨hfp, hu, hv⟩
  clear hfp hu hv
  obtain ⟨cel, dst, srv, flt⟩ := b
  dsimp only at HE
  rcases u with _ | _
  · have hq : fp = [] := by
      rw [← HE.out.1]
      have h := HE.out.2.1
      unfold floorB at h
      exact if_pos (by simpa using h)
    subst hq
    clear HE
    go_enter Try.func19, Try.ntmps19
    go_wp2_with fail
    refine (HF.out _).mono ?_
    rintro e w2 ⟨rfl, hb2⟩
    have HB2 := Lib.hid (HB.out.trans (hb2.mono HB.out.size))
    clear hb2
    go_wp2
    go_ret
    exact ⟨_, rfl, World.ownsRow_nil _ _ _ _, HB2.out⟩
  · have h1 : cel ≠ -1 := by
      have h := HE.out.2.1
      unfold floorB at h
      simpa using h
    rcases v with _ | _
    · have hq : fp = [cel] := by
        rw [← HE.out.1]
        have h := HE.out.2.2
        unfold fpB
        rw [if_neg h1, if_pos (.inl (by simpa using h))]
      subst hq
      clear HE h1
      go_enter Try.func19, Try.ntmps19
      go_wp2_with fail
      refine (HF.out _).mono ?_
      rintro e w2 ⟨rfl, hb2⟩
      have HB2 := Lib.hid (HB.out.trans (hb2.mono HB.out.size))
      have HX2 := Lib.hid (HX.out.keep hb2)
      obtain ⟨x0, x1, x2, x3⟩ := HX2.out.cell
      clear hb2
      go_wp2_with fail
      refine (HT.out _).mono ?_
      rintro e w3 ⟨rfl, hb3⟩
      have HB3 := Lib.hid (HB2.out.trans (hb3.mono HB2.out.size))
      have HX3 := Lib.hid (HX2.out.keep hb3)
      obtain ⟨x0, x1, x2, x3⟩ := HX3.out.cell
      clear hb3 HB2
      go_wp2
      go_ret
      exact ⟨_, rfl, HL.out _ #[.int .i64 cel] HB3.out.size (by simp), HB3.out.alloc HB3.out.size _⟩
    · have h2 : dst ≠ -1 := by
        have h := HE.out.2.2
        simpa using h
      by_cases h3 : dst = cel
      · have hq : fp = [cel] := by
          rw [← HE.out.1]
          unfold fpB
          rw [if_neg h1, if_pos (.inr h3)]
        subst hq
        have h3' : (dst == cel) = true := by simpa using h3
        clear HE h1 h2 h3
        go_enter Try.func19, Try.ntmps19
        go_wp2_with fail
        refine (HF.out _).mono ?_
        rintro e w2 ⟨rfl, hb2⟩
        have HB2 := Lib.hid (HB.out.trans (hb2.mono HB.out.size))
        have HX2 := Lib.hid (HX.out.keep hb2)
        obtain ⟨x0, x1, x2, x3⟩ := HX2.out.cell
        clear hb2
        go_wp2_with fail
        refine (HT.out _).mono ?_
        rintro e w3 ⟨rfl, hb3⟩
        have HB3 := Lib.hid (HB2.out.trans (hb3.mono HB2.out.size))
        have HX3 := Lib.hid (HX2.out.keep hb3)
        obtain ⟨x0, x1, x2, x3⟩ := HX3.out.cell
        clear hb3 HB2
        go_wp2
        go_ret
        exact ⟨_, rfl, HL.out _ #[.int .i64 cel] HB3.out.size (by simp), HB3.out.alloc HB3.out.size _⟩
      · have hq : fp = [min cel dst, max cel dst] := by
          rw [← HE.out.1]
          unfold fpB
          rw [if_neg h1, if_neg (fun h => h.elim h2 h3)]
        subst hq
        have h3' : (dst == cel) = false := by simpa using h3
        clear HE h1 h2 h3
        go_enter Try.func19, Try.ntmps19
        go_wp2_with fail
        refine (HF.out _).mono ?_
        rintro e w2 ⟨rfl, hb2⟩
        have HB2 := Lib.hid (HB.out.trans (hb2.mono HB.out.size))
        have HX2 := Lib.hid (HX.out.keep hb2)
        obtain ⟨x0, x1, x2, x3⟩ := HX2.out.cell
        clear hb2
        go_wp2_with fail
        refine (HT.out _).mono ?_
        rintro e w3 ⟨rfl, hb3⟩
        have HB3 := Lib.hid (HB2.out.trans (hb3.mono HB2.out.size))
        have HX3 := Lib.hid (HX2.out.keep hb3)
        obtain ⟨x0, x1, x2, x3⟩ := HX3.out.cell
        clear hb3 HB2
        go_wp2
        go_ret
        exact ⟨_, rfl, HL.out _ #[.int .i64 (min cel dst), .int .i64 (max cel dst)] HB3.out.size (by simp), HB3.out.alloc HB3.out.size _⟩
end Go.Proofs.Ytjbhmeeebacnpaa
namespace Go.Proofs.Ytjbhmeeebacnpaa
open Go Go.RowKit Fl

def FitB (b : BodD) : Prop := (Lit.int .i64 b.cel).wf = true ∧ (Lit.int .i64 b.dst).wf = true
theorem FitB.cell {b : BodD} (h : FitB b) {z : Int} (hz : z ∈ fpB b) : (Lit.int .i64 z).wf = true := by
  unfold fpB at hz
  split at hz
  · simp at hz
  · split at hz
    · rw [List.mem_singleton] at hz
      rw [hz]
      exact h.1
    · simp only [List.mem_cons, List.not_mem_nil, or_false] at hz
      rcases hz with rfl | rfl
      · rcases Int.le_total b.cel b.dst with h1 | h1
        · rw [Int.min_eq_left h1]; exact h.1
        · rw [Int.min_eq_right h1]; exact h.2
      · rcases Int.le_total b.cel b.dst with h1 | h1
        · rw [Int.max_eq_right h1]; exact h.2
        · rw [Int.max_eq_left h1]; exact h.1
abbrev MapI (w : World) (M n : Nat) (D : DataW Unit) : Prop := w.ownsMap Try.prog 3 (plainElem Try.prog 3) M n D
theorem int_key : Maps.Keyed Try.prog 3 := Maps.int_keyed Try.underlying3
theorem key_int (z : Int) (h : (Lit.int .i64 z).wf = true) : keyOf Try.prog 3 (.int .i64 z) = some (.int .i64 z) := by
  simp [keyOf, mapKey, Try.underlying3, h]
theorem ownsMap_keep {w w' : World} {P : Program} {k : TypeId} {R : Value → Option (DataW Unit × List MemPlace)} {m n : Nat} {D : DataW Unit} (h : w.ownsMap P k R m n D) (hb : Below w.heap.size w w') : w'.ownsMap P k R m n D := by
  obtain ⟨es, clock, h1, r⟩ := h
  exact ⟨es, clock, (hb.block _ (block_lt h1)).trans h1, r⟩
theorem own_farC {w w' : World} {base X n : Nat} {e : TypeId} {size : Nat} {v : Value} {xs : List Value} (h : w.ownsRow base e size v n xs) (hg : w.grownBy w' (some X)) (hX : X < base) : w'.ownsRow base e size v n xs := by
  obtain ⟨h1, hr⟩ := h
  refine ⟨h1, ?_⟩
  rcases hr with hr | ⟨g, cap, cur, hv, hgb, hh, hrest⟩
  · exact .inl hr
  · exact .inr ⟨g, cap, cur, hv, hgb, (hg.block g (block_lt hh) (fun e => by injection e with e; omega)).trans hh, hrest⟩
set_option maxRecDepth 100000 in
set_option maxHeartbeats 8000000 in
theorem devClash_c (A : Option Addr) (cap n : Nat) (l : List BodD) (hn : l.length = n) (w : World) (hh : Holds w A (bodS.cs l)) (hl : n ≤ 1000) (hfit : ∀ b ∈ l, FitB b) :
    Calls Try.prog 16 #[.slice A n cap] w fun e w' => e = .returned (clashV l) ∧ Below w.heap.size w w' := by
  subst hn
  have HH := Lib.hid hh
  have HFt := Lib.hid hfit
  obtain ⟨V, hV⟩ : ∃ V, clashV l = V := ⟨_, rfl⟩
  rw [hV]
  have HOut : Hid (∀ D p q f, CS l l.length 0 D p q f → V = .tuple #[.int .i64 p, .int .i64 q, .bool f]) := Lib.hid (fun D p q f h => by rw [← hV]; exact h.out)
  have HB0 := Lib.hid (below_newB w (.map #[] 0))
  have HM0 : Hid (MapI (w.alloc (.map #[] 0)) w.heap.size 0 (.map [])) := Lib.hid (World.ownsMap_made w Try.prog 3 (plainElem (H := Unit) Try.prog 3))
  clear hV hh hfit
  have hmm := @run_makeMap Try.prog
  go_enter Try.func16, Try.ntmps16
  go_wp2
  go_loopw [5, 6, 7, 18] (fun o1 o2 fd iv wr => ∃ (j : Nat) (D : DataW Unit) (p q : Int) (f : Bool), o1 = .int .i64 p ∧ o2 = .int .i64 q ∧ fd = .bool f ∧ iv = .int .i64 j ∧ j ≤ l.length ∧ Hid (CS l j 0 D p q f) ∧ Hid (MapI wr w.heap.size (2 * j) D) ∧ Hid (Below w.heap.size w wr)) (fun _ _ _ iv _ => l.length - (intOf iv).toNat)
  case atStart => exact ⟨0, .map [], 0, 0, false, rfl, rfl, rfl, rfl, Nat.zero_le _, Lib.hid (CS.zero l), HM0, HB0⟩
  case round =>
    clear HM0 HB0
    obtain ⟨j, D, p, q, f, rfl, rfl, rfl, rfl, hj, HC, HM, HB⟩ := hrel
    by_cases hlt : j < l.length
    · have hjl : (j : Int) < (l.length : Int) := by omega
      obtain ⟨b, o, rfl, hbw, a1⟩ := StK.holds_at (HH.out.keep HB.out) hlt
      obtain ⟨x0, x1, x2, x3⟩ := bod_cells a1
      have hbz := HB.out.size
      obtain ⟨fp, hfp⟩ : ∃ fp, fpB l[j] = fp := ⟨_, rfl⟩
      have hfl : fp.length ≤ 2 := hfp ▸ fpB_len l[j]
      have HAdd : Hid (∀ x D p q f (hx : x < fp.length), CS l j x D p q f → Maps.IsMap D → Maps.has D (.int .i64 fp[x]) = false → CS l j (x + 1) (D.put (.int .i64 fp[x]) (.lit (.int .i64 j))) p q f) := Lib.hid (by
        subst hfp
        exact fun x D p q f hx h hD hn => h.add hlt hx hD hn)
      have HHit : Hid (∀ x D p q f (hx : x < fp.length), CS l j x D p q f → Maps.has D (.int .i64 fp[x]) = true → ∃ m : Nat, D.atKey (.int .i64 fp[x]) (.lit (.int .i64 0)) = .lit (.int .i64 m) ∧ ((f = false ∨ (m : Int) < p) → CS l j (x + 1) D m j true) ∧ (f = true → ¬ (m : Int) < p → CS l j (x + 1) D p q f)) := Lib.hid (by
        subst hfp
        intro x D p q f hx h ht
        obtain ⟨m, g1, g2, g3⟩ := h.first _ ht
        exact ⟨m, g1, h.hit hlt hx g2 g3⟩)
      have HNext : Hid (∀ D p q f, CS l j fp.length D p q f → CS l (j + 1) 0 D p q f) := Lib.hid (by
        subst hfp
        exact fun D p q f h => h.next hlt rfl)
      have HFit : Hid (∀ x (hx : x < fp.length), (Lit.int .i64 fp[x]).wf = true) := Lib.hid (by
        subst hfp
        exact fun x hx => (HFt.out _ (List.getElem_mem hlt)).cell (List.getElem_mem hx))
      have HP := Lib.hid (fun W => devFp_c l[j] W)
      simp only [hfp] at HP
      clear hfp a1
      generalize l[j] = g at *
      obtain ⟨gc, gd, gs, gf⟩ := g
      rw [show bodS.k = 4 from rfl] at x0 x1 x2 x3
      dsimp only at x0 x1 x2 x3
      have HMa : Hid (MapI (wr.alloc (.cells #[.int .i64 gc, .int .i64 gd, .bool gs, .bool gf] 40)) w.heap.size (2 * j) D) := Lib.hid (HM.out.alloc _)
      have HBa : Hid (Below w.heap.size w (wr.alloc (.cells #[.int .i64 gc, .int .i64 gd, .bool gs, .bool gf] 40))) := Lib.hid (HB.out.alloc hbz _)
      have hwm : w.heap.size < (wr.alloc (.cells #[.int .i64 gc, .int .i64 gd, .bool gs, .bool gf] 40)).heap.size := by simp; omega
      clear HM HB
      go_wp2_with fail
      generalize (wr.alloc (.cells #[.int .i64 gc, .int .i64 gd, .bool gs, .bool gf] 40)) = w1 at *
      refine (HP.out w1).mono ?_
      rintro e w2 ⟨u, rfl, ho2, hb2⟩
      obtain ⟨Au, cu, rfl⟩ := own_sliceC ho2
      have HO2 := Lib.hid ho2
      have HM2 : Hid (MapI w2 w.heap.size (2 * j + 0) D) := Lib.hid (ownsMap_keep HMa.out hb2)
      have HB2 := Lib.hid (HBa.out.trans (hb2.mono HBa.out.size))
      generalize w1.heap.size = base at *
      clear ho2 hb2 HMa HBa HP x0 x1 x2 x3
      go_wp2
      go_loopw [5, 6, 7, 26] (fun o1 o2 fd xv ws => ∃ (x : Nat) (D : DataW Unit) (p q : Int) (f : Bool), o1 = .int .i64 p ∧ o2 = .int .i64 q ∧ fd = .bool f ∧ xv = .int .i64 x ∧ x ≤ fp.length ∧ Hid (CS l j x D p q f) ∧ Hid (MapI ws w.heap.size (2 * j + x) D) ∧ Hid (Below w.heap.size w ws) ∧ Hid (ws.ownsRow base 3 1 (.slice Au fp.length cu) fp.length (fp.map (fun z => Value.int .i64 z)))) (fun _ _ _ xv _ => fp.length - (intOf xv).toNat)
      case atStart => exact ⟨0, D, p, q, f, rfl, rfl, rfl, rfl, Nat.zero_le _, HC, HM2, HB2, HO2⟩
      case round =>
        clear HM2 HB2 HO2 HC
        obtain ⟨x, D, p, q, f, rfl, rfl, rfl, rfl, hx, HC, HM, HB, HO⟩ := hrel
        by_cases hxt : x < fp.length
        · have hxl : (x : Int) < (fp.length : Int) := by omega
          obtain ⟨b2, o2, hAu, e1⟩ := (ownsRow_holds HO.out).iv hxt
          subst hAu
          have hkey := Lib.hid (key_int fp[x] (HFit.out x hxt))
          have HAdd2 := Lib.hid (HAdd.out x D p q f hxt HC.out HM.out.isMap)
          have HHit2 := Lib.hid (HHit.out x D p q f hxt HC.out)
          clear HC
          generalize fp[x] = z at *
          rcases hd : Maps.has D (.int .i64 z) with _ | _
          · have HC2 := Lib.hid (HAdd2.out hd)
            clear HAdd2 HHit2
            have hval : plainElem (H := Unit) Try.prog 3 (.int .i64 (j : Int)) = some (.lit (.int .i64 j), []) := plainElem_int Try.underlying3 (WalkArith.wf_i64 (by omega))
            go_wp2_with (at_lookup; refine wpList_lookup_own_ok_int _ rfl _ _ 65 rfl 3 3 .i64 int_key Try.underlying65 Try.underlying3 (Try.zeroValue3 _) w.heap.size (2 * j + x) D rfl HM.out _ _ rfl hkey.out ?_)
            intro c hat hwc
            clear hat hwc
            go_wp2_with (at_mapUpdate; refine wpList_mapUpdate_own _ rfl _ _ _ 65 rfl 3 3 int_key Try.underlying65 (plainElem Try.prog 3) w.heap.size (2 * j + x) D rfl HM.out (by unfold maxLen; omega) _ _ (.int .i64 z) rfl rfl hkey.out (.lit (.int .i64 j)) [] hval ?_)
            intro w4 hown hgrow
            have HM4 : Hid (MapI w4 w.heap.size (2 * j + (x + 1)) _) := Lib.hid hown
            have HB4 : Hid (Below w.heap.size w w4) := Lib.hid (HB.out.grown hgrow HB.out.size (fun k hk => by injection hk with hk; omega))
            have HO4 := Lib.hid (own_farC HO.out hgrow hwm)
            clear hown hgrow HM HB HO
            go_wp2
            go_roundw
            case rel => exact ⟨x + 1, _, p, q, f, rfl, rfl, rfl, by go_num, by omega, HC2, HM4, HB4, HO4⟩
            case measure => simp [intOf]; omega
          · obtain ⟨m, hat0, hnew, hold⟩ := HHit2.out hd
            have HNew := Lib.hid hnew
            have HOld := Lib.hid hold
            have HAt0 := Lib.hid hat0
            have HM2 : Hid (MapI wr w.heap.size (2 * j + (x + 1)) D) := Lib.hid (HM.out.mono (by omega))
            clear HAdd2 HHit2 hnew hold hat0
            go_wp2_with (at_lookup; refine wpList_lookup_own_ok_int _ rfl _ _ 65 rfl 3 3 .i64 int_key Try.underlying65 Try.underlying3 (Try.zeroValue3 _) w.heap.size (2 * j + x) D rfl HM.out _ _ rfl hkey.out ?_)
            intro c hat hwc
            obtain rfl : c = (m : Int) := by
              rw [HAt0.out] at hat
              injection hat with hat
              injection hat with _ hat
              exact hat.symm
            clear hat hwc HAt0 HM
            rcases f with _ | _
            · have HC2 := Lib.hid (HNew.out (.inl rfl))
              clear HNew HOld
              go_wp2
              go_roundw
              case rel => exact ⟨x + 1, D, m, j, true, rfl, rfl, rfl, by go_num, by omega, HC2, HM2, HB, HO⟩
              case measure => simp [intOf]; omega
            · by_cases hmp : (m : Int) < p
              · have HC2 := Lib.hid (HNew.out (.inr hmp))
                clear HNew HOld
                go_wp2
                go_roundw
                case rel => exact ⟨x + 1, D, m, j, true, rfl, rfl, rfl, by go_num, by omega, HC2, HM2, HB, HO⟩
                case measure => simp [intOf]; omega
              · have HC2 := Lib.hid (HOld.out rfl (by omega))
                clear HNew HOld
                go_wp2
                go_roundw
                case rel => exact ⟨x + 1, D, p, q, true, rfl, rfl, rfl, by go_num, by omega, HC2, HM2, HB, HO⟩
                case measure => simp [intOf]; omega
        · obtain rfl : x = fp.length := by omega
          have HC2 := Lib.hid (HNext.out D p q f HC.out)
          have HM2 : Hid (MapI wr w.heap.size (2 * (j + 1)) D) := Lib.hid (HM.out.mono (by omega))
          clear HC HM HO hxt hx
          go_wp2
          go_roundw
          case rel => exact ⟨j + 1, D, p, q, f, rfl, rfl, rfl, by go_num, by omega, HC2, HM2, HB⟩
          case measure => simp [intOf]; omega
    · obtain rfl : j = l.length := by omega
      have HV := Lib.hid (HOut.out D p q f HC.out)
      clear HC HM HH
      go_wp2
      go_ret3
      exact ⟨congrArg Ending.returned HV.out.symm, HB.out⟩
end Go.Proofs.Ytjbhmeeebacnpaa
