/- The landed Clash as plain data: the first robot in each cell, and the first pair so far. -/
import Derived.Test.YtjbhmeeebacnpaaPnClash
import Derived.Maps.Own
import Derived.Maps.OwnSet
import Derived.Maps.Views
namespace Go.Proofs.Ytjbhmeeebacnpaa
open Go Go.RowKit Fl

theorem fpB_nodup (b : BodD) : (fpB b).Nodup := by
  unfold fpB
  split
  · exact List.nodup_nil
  · split
    · simp
    · rename_i h
      have h2 : b.dst ≠ b.cel := fun e => h (.inr e)
      simp only [List.nodup_cons, List.mem_singleton, List.not_mem_nil, not_false_eq_true, List.nodup_nil, and_true]
      omega
theorem meet_iff (a b : BodD) : meetB a b = true ↔ ∃ z, z ∈ fpB a ∧ z ∈ fpB b := by
  unfold meetB
  rw [List.any_eq_true]
  constructor
  · rintro ⟨x, hx, h⟩
    rw [List.any_eq_true] at h
    obtain ⟨y, hy, h⟩ := h
    obtain rfl : x = y := by simpa using h
    exact ⟨x, hx, hy⟩
  · rintro ⟨z, h1, h2⟩
    exact ⟨z, h1, by rw [List.any_eq_true]; exact ⟨z, h2, by simp⟩⟩
/-- Robot i has cell z, among the robots before j and the first x cells of j. -/
def SeenC (l : List BodD) (j x i : Nat) (z : Int) : Prop := ∃ h : i < l.length, (i < j ∧ z ∈ fpB l[i]) ∨ (i = j ∧ z ∈ (fpB l[i]).take x)
theorem SeenC.le {l : List BodD} {j x i : Nat} {z : Int} (h : SeenC l j x i z) : i ≤ j := by
  obtain ⟨_, h | h⟩ := h
  · omega
  · omega
theorem SeenC.lt {l : List BodD} {j x i : Nat} {z : Int} (h : SeenC l j x i z) : i < l.length := h.1
theorem seen_succ {l : List BodD} {j x : Nat} (hj : j < l.length) (hx : x < (fpB l[j]).length) (i : Nat) (z : Int) : SeenC l j (x + 1) i z ↔ SeenC l j x i z ∨ (i = j ∧ z = (fpB l[j])[x]) := by
  have ht := List.take_succ_eq_append_getElem hx
  constructor
  · rintro ⟨h, h1 | ⟨rfl, h2⟩⟩
    · exact .inl ⟨h, .inl h1⟩
    · rw [ht, List.mem_append, List.mem_singleton] at h2
      rcases h2 with h2 | h2
      · exact .inl ⟨h, .inr ⟨rfl, h2⟩⟩
      · exact .inr ⟨rfl, h2⟩
  · rintro (⟨h, h1 | ⟨rfl, h2⟩⟩ | ⟨rfl, rfl⟩)
    · exact ⟨h, .inl h1⟩
    · exact ⟨h, .inr ⟨rfl, by rw [ht]; exact List.mem_append_left _ h2⟩⟩
    · exact ⟨hj, .inr ⟨rfl, by rw [ht]; exact List.mem_append_right _ (List.mem_singleton.2 rfl)⟩⟩
theorem seen_next {l : List BodD} {j x : Nat} (hj : j < l.length) (hx : x = (fpB l[j]).length) (i : Nat) (z : Int) : SeenC l (j + 1) 0 i z ↔ SeenC l j x i z := by
  constructor
  · rintro ⟨h, ⟨h1, h2⟩ | ⟨_, h2⟩⟩
    · by_cases he : i = j
      · subst he
        exact ⟨h, .inr ⟨rfl, by rw [hx, List.take_length]; exact h2⟩⟩
      · exact ⟨h, .inl ⟨by omega, h2⟩⟩
    · simp at h2
  · rintro ⟨h, ⟨h1, h2⟩ | ⟨rfl, h2⟩⟩
    · exact ⟨h, .inl ⟨by omega, h2⟩⟩
    · exact ⟨h, .inl ⟨by omega, List.mem_of_mem_take h2⟩⟩
theorem seen_new {l : List BodD} {j x : Nat} (hj : j < l.length) (hx : x < (fpB l[j]).length) : ¬ SeenC l j x j (fpB l[j])[x] := by
  rintro ⟨_, ⟨h, _⟩ | ⟨_, h⟩⟩
  · omega
  · obtain ⟨k, hk, he⟩ := List.mem_iff_getElem.1 h
    rw [List.length_take] at hk
    rw [List.getElem_take] at he
    exact List.pairwise_iff_getElem.1 (fpB_nodup l[j]) k x (by omega) hx (by omega) he
/-- What Clash knows. -/
structure CS (l : List BodD) (j x : Nat) (D : DataW Unit) (p q : Int) (f : Bool) : Prop where
  keys : ∀ z, Maps.has D (.int .i64 z) = true ↔ ∃ i, SeenC l j x i z
  vals : ∀ z i, SeenC l j x i z → (∀ i', SeenC l j x i' z → i ≤ i') → D.atKey (.int .i64 z) (.lit (.int .i64 0)) = .lit (.int .i64 i)
  no : f = false → p = 0 ∧ q = 0 ∧ ∀ i k z, i < k → SeenC l j x i z → SeenC l j x k z → False
  yes : f = true → ∃ i k : Nat, p = i ∧ q = k ∧ i < k ∧ (∃ z, SeenC l j x i z ∧ SeenC l j x k z) ∧ ∀ i' k' z, i' < k' → SeenC l j x i' z → SeenC l j x k' z → i < i' ∨ (i = i' ∧ k ≤ k')
theorem CS.zero (l : List BodD) : CS l 0 0 (.map []) 0 0 false := by
  have hn : ∀ i z, ¬ SeenC l 0 0 i z := by
    rintro i z ⟨_, ⟨h, _⟩ | ⟨_, h⟩⟩
    · omega
    · simp at h
  refine ⟨fun z => ⟨fun h => absurd h (by simp [Maps.has]), fun ⟨i, h⟩ => (hn i z h).elim⟩, fun z i h _ => (hn i z h).elim, fun _ => ⟨rfl, rfl, fun i k z _ h _ => hn i z h⟩, fun h => by cases h⟩
theorem CS.next {l : List BodD} {j x : Nat} {D : DataW Unit} {p q : Int} {f : Bool} (h : CS l j x D p q f) (hj : j < l.length) (hx : x = (fpB l[j]).length) : CS l (j + 1) 0 D p q f := by
  have e := seen_next hj hx
  obtain ⟨h1, h2, h3, h4⟩ := h
  refine ⟨fun z => (h1 z).trans ⟨fun ⟨i, h⟩ => ⟨i, (e i z).2 h⟩, fun ⟨i, h⟩ => ⟨i, (e i z).1 h⟩⟩, fun z i hi hm => h2 z i ((e i z).1 hi) (fun i' h' => hm i' ((e i' z).2 h')), fun hf => ?_, fun hf => ?_⟩
  · obtain ⟨a, b, c⟩ := h3 hf
    exact ⟨a, b, fun i k z hik u v => c i k z hik ((e i z).1 u) ((e k z).1 v)⟩
  · obtain ⟨i, k, a, b, c, ⟨z, d1, d2⟩, g⟩ := h4 hf
    exact ⟨i, k, a, b, c, ⟨z, (e i z).2 d1, (e k z).2 d2⟩, fun i' k' z' hik u v => g i' k' z' hik ((e i' z').1 u) ((e k' z').1 v)⟩
theorem wf_key (z : Int) : WideAt.IsKeyLit (Lit.int .i64 z) := by unfold WideAt.IsKeyLit; trivial
/-- A cell that no robot had. -/
theorem CS.add {l : List BodD} {j x : Nat} {D : DataW Unit} {p q : Int} {f : Bool} (h : CS l j x D p q f) (hj : j < l.length) (hx : x < (fpB l[j]).length) (hD : Maps.IsMap D) (hn : Maps.has D (.int .i64 (fpB l[j])[x]) = false) : CS l j (x + 1) (D.put (.int .i64 (fpB l[j])[x]) (.lit (.int .i64 j))) p q f := by
  have e := seen_succ hj hx
  obtain ⟨h1, h2, h3, h4⟩ := h
  generalize hz : (fpB l[j])[x] = c at *
  have hno : ∀ i, ¬ SeenC l j x i c := fun i hi => by
    have := (h1 c).2 ⟨i, hi⟩
    rw [hn] at this
    cases this
  have hsame : ∀ i k z, i < k → SeenC l j (x + 1) i z → SeenC l j (x + 1) k z → SeenC l j x i z ∧ SeenC l j x k z := fun i k z hik u v => by
    rcases (e i z).1 u with u | ⟨u1, u2⟩
    · rcases (e k z).1 v with v | ⟨v1, v2⟩
      · exact ⟨u, v⟩
      · exact (hno i (v2 ▸ u)).elim
    · rcases (e k z).1 v with v | ⟨v1, v2⟩
      · exact (hno k (u2 ▸ v)).elim
      · omega
  refine ⟨fun z => ?_, fun z i hi hm => ?_, fun hf => ?_, fun hf => ?_⟩
  · by_cases hc : z = c
    · subst hc
      exact ⟨fun _ => ⟨j, (e j z).2 (.inr ⟨rfl, rfl⟩)⟩, fun _ => Maps.has_put_same hD (wf_key z) _⟩
    · rw [Maps.has_put_other (fun e => hc (by injection e))]
      refine (h1 z).trans ⟨fun ⟨i, hi⟩ => ⟨i, (e i z).2 (.inl hi)⟩, fun ⟨i, hi⟩ => ?_⟩
      rcases (e i z).1 hi with hi | ⟨_, hi⟩
      · exact ⟨i, hi⟩
      · exact (hc hi).elim
  · by_cases hc : z = c
    · subst hc
      rw [Maps.atKey_put_same hD (wf_key z)]
      rcases (e i z).1 hi with hi | ⟨rfl, _⟩
      · exact (hno i hi).elim
      · rfl
    · rw [Maps.atKey_put_other (fun e => hc (by injection e))]
      rcases (e i z).1 hi with hi | ⟨_, hi⟩
      · exact h2 z i hi (fun i' h' => hm i' ((e i' z).2 (.inl h')))
      · exact (hc hi).elim
  · obtain ⟨a, b, c'⟩ := h3 hf
    exact ⟨a, b, fun i k z hik u v => c' i k z hik (hsame i k z hik u v).1 (hsame i k z hik u v).2⟩
  · obtain ⟨i, k, a, b, c', ⟨z, d1, d2⟩, g⟩ := h4 hf
    exact ⟨i, k, a, b, c', ⟨z, (e i z).2 (.inl d1), (e k z).2 (.inl d2)⟩, fun i' k' z' hik u v => g i' k' z' hik (hsame i' k' z' hik u v).1 (hsame i' k' z' hik u v).2⟩
/-- The first robot that had a cell. -/
theorem CS.first {l : List BodD} {j x : Nat} {D : DataW Unit} {p q : Int} {f : Bool} (h : CS l j x D p q f) (z : Int) (hz : Maps.has D (.int .i64 z) = true) : ∃ i : Nat, D.atKey (.int .i64 z) (.lit (.int .i64 0)) = .lit (.int .i64 i) ∧ SeenC l j x i z ∧ ∀ i', SeenC l j x i' z → i ≤ i' := by
  obtain ⟨i, hi⟩ := (h.keys z).1 hz
  have : ∀ n i, i ≤ n → SeenC l j x i z → ∃ m, SeenC l j x m z ∧ ∀ i', SeenC l j x i' z → m ≤ i' := by
    intro n
    induction n with
    | zero => exact fun i h0 hi => ⟨i, hi, fun i' _ => by omega⟩
    | succ n ih =>
      intro i hin hi
      rcases Classical.em (∃ k, k < i ∧ SeenC l j x k z) with ⟨k, hk, hs⟩ | hnk
      · exact ih k (by omega) hs
      · exact ⟨i, hi, fun i' h' => by
          rcases Nat.lt_or_ge i' i with h1 | h1
          · exact (hnk ⟨i', h1, h'⟩).elim
          · exact h1⟩
  obtain ⟨m, hm, hmin⟩ := this i i (Nat.le_refl _) hi
  exact ⟨m, h.vals z m hm hmin, hm, hmin⟩
/-- A cell that a robot had: a new pair, or an older one that comes first. -/
theorem CS.hit {l : List BodD} {j x : Nat} {D : DataW Unit} {p q : Int} {f : Bool} (h : CS l j x D p q f) (hj : j < l.length) (hx : x < (fpB l[j]).length) {m : Nat} (hm : SeenC l j x m (fpB l[j])[x]) (hmin : ∀ i', SeenC l j x i' (fpB l[j])[x] → m ≤ i') :
    ((f = false ∨ (m : Int) < p) → CS l j (x + 1) D m j true) ∧ (f = true → ¬ (m : Int) < p → CS l j (x + 1) D p q f) := by
  have e := seen_succ hj hx
  have hnew := seen_new hj hx
  have hmj : m < j := by
    have h1 := hm.le
    rcases Nat.lt_or_ge m j with h2 | h2
    · exact h2
    · have h3 : m = j := by omega
      exact (hnew (h3 ▸ hm)).elim
  obtain ⟨h1, h2, h3, h4⟩ := h
  generalize hz : (fpB l[j])[x] = c at *
  have k1 : ∀ z, Maps.has D (.int .i64 z) = true ↔ ∃ i, SeenC l j (x + 1) i z := fun z => by
    refine (h1 z).trans ⟨fun ⟨i, hi⟩ => ⟨i, (e i z).2 (.inl hi)⟩, fun ⟨i, hi⟩ => ?_⟩
    rcases (e i z).1 hi with hi | ⟨_, rfl⟩
    · exact ⟨i, hi⟩
    · exact ⟨m, hm⟩
  have k2 : ∀ z i, SeenC l j (x + 1) i z → (∀ i', SeenC l j (x + 1) i' z → i ≤ i') → D.atKey (.int .i64 z) (.lit (.int .i64 0)) = .lit (.int .i64 i) := fun z i hi hmn => by
    rcases (e i z).1 hi with h | ⟨rfl, rfl⟩
    · exact h2 z i h (fun i' h' => hmn i' ((e i' z).2 (.inl h')))
    · have := hmn m ((e m z).2 (.inl hm))
      omega
  have hpair : ∀ i k z, i < k → SeenC l j (x + 1) i z → SeenC l j (x + 1) k z → (SeenC l j x i z ∧ SeenC l j x k z) ∨ (m ≤ i ∧ k = j) := fun i k z hik u v => by
    rcases (e i z).1 u with u' | ⟨u1, u2⟩
    · rcases (e k z).1 v with v' | ⟨v1, v2⟩
      · exact .inl ⟨u', v'⟩
      · exact .inr ⟨hmin i (v2 ▸ u'), v1⟩
    · have := v.le
      omega
  refine ⟨fun hc => ⟨k1, k2, (fun hf => by cases hf), fun _ => ⟨m, j, rfl, rfl, hmj, ⟨c, (e m c).2 (.inl hm), (e j c).2 (.inr ⟨rfl, rfl⟩)⟩, fun i' k' z hik u v => ?_⟩⟩, fun hf hnp => ⟨k1, k2, (fun h => by rw [hf] at h; cases h), fun _ => ?_⟩⟩
  · rcases hpair i' k' z hik u v with ⟨u', v'⟩ | ⟨a, b⟩
    · cases hff : f with
      | false => exact ((h3 hff).2.2 i' k' z hik u' v').elim
      | true =>
        obtain ⟨i, k, a, b, c', _, g⟩ := h4 hff
        have hmp : (m : Int) < p := hc.elim (fun h => by rw [hff] at h; cases h) id
        rcases g i' k' z hik u' v' with g | ⟨g, _⟩
        · exact .inl (by omega)
        · exact .inl (by omega)
    · omega
  · obtain ⟨i, k, a, b, c', ⟨z, d1, d2⟩, g⟩ := h4 hf
    refine ⟨i, k, a, b, c', ⟨z, (e i z).2 (.inl d1), (e k z).2 (.inl d2)⟩, fun i' k' z' hik u v => ?_⟩
    rcases hpair i' k' z' hik u v with ⟨u', v'⟩ | ⟨r, s⟩
    · exact g i' k' z' hik u' v'
    · have := d2.le
      omega
theorem clash_run {l : List BodD} : ∀ i : Nat, i ≤ l.length → (∀ i' k (_ : i' < i) (hik : i' < k) (hk : k < l.length), meetB (l[i']'(by omega)) l[k] = false) → clashL l 0 = clashL (l.drop i) i
  | 0, _, _ => by simp
  | i + 1, hi, h => by
    rw [clash_run i (by omega) (fun i' k h1 h2 h3 => h i' k (by omega) h2 h3)]
    exact clash_step (by omega) (fun k h1 h2 => h i k (by omega) h1 h2)
theorem seen_all {l : List BodD} {i : Nat} {z : Int} : SeenC l l.length 0 i z ↔ ∃ h : i < l.length, z ∈ fpB l[i] := by
  constructor
  · rintro ⟨h, ⟨_, h2⟩ | ⟨_, h2⟩⟩
    · exact ⟨h, h2⟩
    · simp at h2
  · rintro ⟨h, h2⟩
    exact ⟨h, .inl ⟨h, h2⟩⟩
theorem CS.out {l : List BodD} {D : DataW Unit} {p q : Int} {f : Bool} (h : CS l l.length 0 D p q f) : clashV l = .tuple #[.int .i64 p, .int .i64 q, .bool f] := by
  have hs : ∀ i k (hik : i < k) (hk : k < l.length), meetB (l[i]'(by omega)) l[k] = true ↔ ∃ z, SeenC l l.length 0 i z ∧ SeenC l l.length 0 k z := fun i k hik hk => by
    rw [meet_iff]
    exact ⟨fun ⟨z, a, b⟩ => ⟨z, seen_all.2 ⟨by omega, a⟩, seen_all.2 ⟨hk, b⟩⟩, fun ⟨z, a, b⟩ => ⟨z, (seen_all.1 a).2, (seen_all.1 b).2⟩⟩
  cases f with
  | false =>
    obtain ⟨rfl, rfl, c⟩ := h.no rfl
    exact clashV_end (clash_run l.length (Nat.le_refl _) (fun i' k _ h2 h3 => by
      rw [Bool.eq_false_iff]
      intro ht
      obtain ⟨z, a, b⟩ := (hs i' k h2 h3).1 ht
      exact c i' k z h2 a b)) (Nat.le_refl _)
  | true =>
    obtain ⟨i, k, rfl, rfl, hik, ⟨z, d1, d2⟩, g⟩ := h.yes rfl
    have hk := d2.lt
    refine clashV_hit (clash_run i (by omega) (fun i' k' h1 h2 h3 => ?_)) (clash_hit hk hik ((hs i k hik hk).2 ⟨z, d1, d2⟩) (fun k' h1 h2 => ?_))
    · rw [Bool.eq_false_iff]
      intro ht
      obtain ⟨y, a, b⟩ := (hs i' k' h2 h3).1 ht
      rcases g i' k' y h2 a b with g | ⟨g, _⟩ <;> omega
    · rw [Bool.eq_false_iff]
      intro ht
      obtain ⟨y, a, b⟩ := (hs i k' h1 (by omega)).1 ht
      rcases g i k' y h1 a b with g | ⟨_, g⟩ <;> omega
end Go.Proofs.Ytjbhmeeebacnpaa
