/- Joined texts. -/
import Derived.Test.YtfgpenekmokdiaaMzAB
namespace Go.Proofs.Ytfgpenekmokdiaa.Fl

theorem atI_get {l : List Int} {i : Nat} (h : i < l.length) : atI l i = l[i] := by
  unfold atI
  rw [Int.toNat_natCast, List.getD_eq_getElem?_getD, List.getElem?_eq_getElem h]; rfl
/-- Token i of a position is in order. -/
def tokB (g : GraphD) (ts ws : List Int) (i : Nat) : Bool :=
  decide (0 ≤ atI ts i ∧ atI ts i < g.length ∧ atI ts i ∉ ts.take i ∧ (atI ws i = -1 ∨ atI ws i ∈ rowG g (atI ts i).toNat))
/-- A position is valid. -/
def posB (g : GraphD) (ts ws : List Int) : Bool := validG g && decide (ts.length = ws.length ∧ ts.length ≤ 24) && (List.range ts.length).all (tokB g ts ws)
structure PosOk (g : GraphD) (ts ws : List Int) : Prop where
  graph : validG g = true
  len : ts.length = ws.length
  few : ts.length ≤ 24
  place : ∀ i (h : i < ts.length), 0 ≤ ts[i] ∧ ts[i] < g.length
  apart : ts.Nodup
  want : ∀ i (h : i < ts.length) (h' : i < ws.length), ws[i] = -1 ∨ ws[i] ∈ rowG g ts[i].toNat
theorem posB_iff {g : GraphD} {ts ws : List Int} : posB g ts ws = true ↔ PosOk g ts ws := by
  unfold posB
  rw [Bool.and_eq_true, Bool.and_eq_true, decide_eq_true_iff, List.all_eq_true]
  constructor
  · rintro ⟨⟨h1, h2, h3⟩, h4⟩
    have key : ∀ i (h : i < ts.length), 0 ≤ ts[i] ∧ ts[i] < g.length ∧ ts[i] ∉ ts.take i ∧ (atI ws i = -1 ∨ atI ws i ∈ rowG g ts[i].toNat) := fun i h => by
      have h5 := of_decide_eq_true (h4 i (List.mem_range.2 h))
      rwa [atI_get h] at h5
    refine ⟨h1, h2, h3, fun i h => ⟨(key i h).1, (key i h).2.1⟩, ?_, fun i h h' => ?_⟩
    · show ts.Pairwise (· ≠ ·)
      rw [List.pairwise_iff_getElem]
      intro i j hi hj hij e
      apply (key j hj).2.2.1
      rw [← e]
      exact List.mem_iff_getElem.2 ⟨i, by rw [List.length_take]; omega, by rw [List.getElem_take]⟩
    · have h5 := (key i h).2.2.2
      rwa [atI_get h'] at h5
  · intro h
    refine ⟨⟨h.graph, h.len, h.few⟩, fun i hi => ?_⟩
    have hi := List.mem_range.1 hi
    have hp := h.place i hi
    have hw := h.want i hi (by rw [← h.len]; exact hi)
    refine decide_eq_true ?_
    rw [atI_get hi, atI_get (show i < ws.length by rw [← h.len]; exact hi)]
    refine ⟨hp.1, hp.2, fun hm => ?_, hw⟩
    obtain ⟨j, hj, e⟩ := List.mem_iff_getElem.1 hm
    rw [List.length_take] at hj
    rw [List.getElem_take] at e
    exact (List.pairwise_iff_getElem.1 h.apart j i (by omega) hi (by omega)) e
/-- The free tokens among the first k. -/
def freeL (ts ws : List Int) (k : Nat) : List Int := ((List.range k).filter (fun (i : Nat) => decide (0 ≤ atI ws (i : Int) ∧ atI ws (i : Int) ∉ ts))).map (fun (i : Nat) => (i : Int))
theorem freeL_succ (ts ws : List Int) (k : Nat) : freeL ts ws (k + 1) = freeL ts ws k ++ if 0 ≤ atI ws k ∧ atI ws k ∉ ts then [(k : Int)] else [] := by
  unfold freeL
  rw [List.range_succ, List.filter_append, List.map_append]
  congr 1
  by_cases h : 0 ≤ atI ws k ∧ atI ws k ∉ ts
  · rw [if_pos h]; simp [h]
  · rw [if_neg h]; simp [h]
theorem freeL_len (ts ws : List Int) (k : Nat) : (freeL ts ws k).length ≤ k := by
  unfold freeL
  rw [List.length_map]
  refine Nat.le_trans (List.length_filter_le _ _) ?_
  rw [List.length_range]; exact Nat.le_refl _
/-- Some token wants a vertex and no one is free. -/
def stuckB (g : GraphD) (ts ws : List Int) : Bool := posB g ts ws && decide ((freeL ts ws ts.length).length = 0) && ws.any (fun x => decide (0 ≤ x))
/-- The token on a vertex, among tokens that are numbered from k on, or -1. -/
def onA : List Int → Nat → Int → Int
  | [], _, _ => -1
  | x :: l, k, v => if x = v then (k : Int) else onA l (k + 1) v
def onF (ts : List Int) (v : Int) : Int := onA ts 0 v
theorem onA_drop {l : List Int} {k : Nat} {v : Int} (h : k < l.length) : onA (l.drop k) k v = if l[k] = v then (k : Int) else onA (l.drop (k + 1)) (k + 1) v := by
  rw [List.drop_eq_getElem_cons h]; rfl
theorem onA_cases : ∀ (l : List Int) (k : Nat) (v : Int), (onA l k v = -1 ∧ v ∉ l) ∨ ∃ i, ∃ h : i < l.length, l[i] = v ∧ onA l k v = ((k + i : Nat) : Int)
  | [], _, _ => .inl ⟨rfl, by simp⟩
  | x :: l, k, v => by
    unfold onA
    by_cases h : x = v
    · exact .inr ⟨0, by simp, by simpa using h, by rw [if_pos h]; simp⟩
    · rw [if_neg h]
      rcases onA_cases l (k + 1) v with ⟨h1, h2⟩ | ⟨i, hi, h1, h2⟩
      · exact .inl ⟨h1, by simp only [List.mem_cons, not_or]; exact ⟨fun e => h e.symm, h2⟩⟩
      · exact .inr ⟨i + 1, by simpa using hi, by simpa using h1, by rw [h2]; congr 1; omega⟩
theorem onF_cases (l : List Int) (v : Int) : (onF l v = -1 ∧ v ∉ l) ∨ ∃ i, ∃ h : i < l.length, l[i] = v ∧ onF l v = (i : Int) := by
  rcases onA_cases l 0 v with h | ⟨i, hi, h1, h2⟩
  · exact .inl h
  · exact .inr ⟨i, hi, h1, by unfold onF; rw [h2]; congr 1; omega⟩
/-- Following the wants until a token comes again. -/
def ringA (ts ws : List Int) : Nat → List Int → Int → Option (List Int × Int)
  | 0, _, _ => none
  | f + 1, way, t => if t ∈ way then some (way, t) else if atI ws t < 0 ∨ onF ts (atI ws t) < 0 then none else ringA ts ws f (way ++ [t]) (onF ts (atI ws t))
/-- What comes from t on. -/
def fromT : List Int → Int → List Int
  | [], _ => []
  | x :: l, t => if x = t then x :: l else fromT l t
theorem fromT_mem : ∀ {l : List Int} {t : Int}, t ∈ l → ∃ k, k < l.length ∧ fromT l t = l.drop k ∧ (l.drop k)[0]? = some t
  | x :: l, t, h => by
    unfold fromT
    by_cases e : x = t
    · exact ⟨0, by simp, by rw [if_pos e]; rfl, by simp [e]⟩
    · rw [if_neg e]
      have hm : t ∈ l := by
        rcases List.mem_cons.1 h with h | h
        · exact absurd h.symm e
        · exact h
      obtain ⟨k, hk, h1, h2⟩ := fromT_mem hm
      exact ⟨k + 1, by simpa using hk, by simpa using h1, by simpa using h2⟩
/-- The place of the smallest one among the first k. -/
def leastK (l : List Int) : Nat → Nat
  | 0 => 0
  | k + 1 => if atI l k < atI l (leastK l k : Nat) then k else leastK l k
theorem leastK_lt {l : List Int} : ∀ k, leastK l k ≤ k - 1
  | 0 => Nat.le_refl _
  | k + 1 => by
    have ih := leastK_lt (l := l) k
    unfold leastK
    split <;> omega
def turnL (l : List Int) : List Int := l.drop (leastK l l.length) ++ l.take (leastK l l.length)
theorem turnL_length (l : List Int) : (turnL l).length = l.length := by
  unfold turnL
  have := leastK_lt (l := l) l.length
  rw [List.length_append, List.length_drop, List.length_take]
  omega
/-- The ring that the wants lead to, and its error. -/
def ringR (ts ws : List Int) : Option (List Int) := if ts.length = 0 then none else (ringA ts ws (ts.length + 1) [] 0).map (fun p => turnL (fromT p.1 p.2))
def ringL (ts ws : List Int) : List Int := (ringR ts ws).getD []
def ringE (ts ws : List Int) : Int := if (ringR ts ws).isSome then 0 else 25
end Go.Proofs.Ytfgpenekmokdiaa.Fl
namespace Go.Proofs.Ytfgpenekmokdiaa.Fl

def stepT (ts ws : List Int) (t : Int) : Int := onF ts (atI ws t)
/-- A token wants a vertex, and a token is on it. -/
def canT (ts ws : List Int) (t : Int) : Prop := ¬ (atI ws t < 0 ∨ onF ts (atI ws t) < 0)
theorem canT.rng {ts ws : List Int} {t : Int} (h : canT ts ws t) : 0 ≤ stepT ts ws t ∧ stepT ts ws t < ts.length := by
  unfold canT at h
  unfold stepT
  rcases onF_cases ts (atI ws t) with ⟨h1, _⟩ | ⟨i, hi, _, h1⟩
  · omega
  · omega
/-- Where the next token stands. -/
theorem canT.on {ts ws : List Int} {t : Int} (h : canT ts ws t) : 0 ≤ atI ws t ∧ atI ts (stepT ts ws t) = atI ws t := by
  unfold canT at h
  refine ⟨by omega, ?_⟩
  unfold stepT
  rcases onF_cases ts (atI ws t) with ⟨h1, _⟩ | ⟨i, hi, h2, h1⟩
  · omega
  · rw [h1, atI_get hi, h2]
structure WayOk (ts ws way : List Int) (t : Int) : Prop where
  rng : ∀ x ∈ way, 0 ≤ x ∧ x < ts.length ∧ canT ts ws x
  nodup : way.Nodup
  next : ∀ (i : Nat) (x y : Int), way[i]? = some x → way[i + 1]? = some y → stepT ts ws x = y
  last : ∀ x : Int, way[way.length - 1]? = some x → stepT ts ws x = t
  tok : 0 ≤ t ∧ t < ts.length
theorem WayOk.begin {ts ws : List Int} (h : 0 < ts.length) : WayOk ts ws [] 0 := ⟨by simp, .nil, by simp, by simp, by omega⟩
theorem WayOk.more {ts ws way : List Int} {t : Int} (h : WayOk ts ws way t) (ht : t ∉ way) (hc : canT ts ws t) : WayOk ts ws (way ++ [t]) (stepT ts ws t) := by
  refine ⟨fun x hx => ?_, ?_, fun i x y hx hy => ?_, fun x hx => ?_, hc.rng⟩
  · rcases List.mem_append.1 hx with hx | hx
    · exact h.rng x hx
    · obtain rfl := List.mem_singleton.1 hx
      exact ⟨h.tok.1, h.tok.2, hc⟩
  · rw [List.nodup_append]
    refine ⟨h.nodup, by simp, fun a ha b hb => ?_⟩
    obtain rfl := List.mem_singleton.1 hb
    exact fun e => ht (e ▸ ha)
  · rcases Nat.lt_trichotomy (i + 1) way.length with h1 | h1 | h1
    · rw [List.getElem?_append_left (by omega)] at hx
      rw [List.getElem?_append_left h1] at hy
      exact h.next i x y hx hy
    · rw [List.getElem?_append_left (by omega)] at hx
      rw [List.getElem?_append_right (by omega), show i + 1 - way.length = 0 by omega] at hy
      simp only [List.getElem?_cons_zero, Option.some.injEq] at hy
      rw [← hy]
      exact h.last x (by rw [show way.length - 1 = i by omega]; exact hx)
    · rw [List.getElem?_append_right (by omega), List.getElem?_eq_none (by simp; omega)] at hy
      cases hy
  · rw [List.length_append, List.getElem?_append_right (by simp)] at hx
    simp at hx
    rw [hx]
theorem WayOk.len {ts ws way : List Int} {t : Int} (h : WayOk ts ws way t) : way.length ≤ ts.length := by
  have h1 := nodup_len ts.length (way.map Int.toNat) (by
    show (way.map Int.toNat).Pairwise (· ≠ ·)
    rw [List.pairwise_map, List.pairwise_iff_getElem]
    intro i j hi hj hij e
    have a := h.rng _ (List.getElem_mem hi)
    have b := h.rng _ (List.getElem_mem hj)
    exact (List.pairwise_iff_getElem.1 h.nodup i j hi hj hij) (by omega)) (fun z hz => by
    obtain ⟨x, hx, rfl⟩ := List.mem_map.1 hz
    have a := h.rng x hx
    omega)
  rwa [List.length_map] at h1
theorem ringA_ok {ts ws : List Int} (hc : ∀ x : Int, 0 ≤ x → x < ts.length → canT ts ws x) : ∀ (f : Nat) (way : List Int) (t : Int), WayOk ts ws way t → ts.length < f + way.length → ∃ way' t', ringA ts ws f way t = some (way', t')
  | 0, way, t, h, hf => by have := h.len; omega
  | f + 1, way, t, h, hf => by
    unfold ringA
    by_cases h1 : t ∈ way
    · exact ⟨way, t, by rw [if_pos h1]⟩
    · have h2 := hc t h.tok.1 h.tok.2
      obtain ⟨w2, t2, e⟩ := ringA_ok hc f (way ++ [t]) (stepT ts ws t) (h.more h1 h2) (by rw [List.length_append]; simp; omega)
      exact ⟨w2, t2, by rw [if_neg h1, if_neg h2]; exact e⟩
theorem ringA_some {ts ws : List Int} : ∀ (f : Nat) (way : List Int) (t : Int) (way' : List Int) (t' : Int), WayOk ts ws way t → ringA ts ws f way t = some (way', t') → WayOk ts ws way' t' ∧ t' ∈ way'
  | 0, _, _, _, _, _, e => by cases e
  | f + 1, way, t, way', t', h, e => by
    unfold ringA at e
    by_cases h1 : t ∈ way
    · rw [if_pos h1] at e
      injection e with e
      injection e with e1 e2
      subst e1 e2
      exact ⟨h, h1⟩
    · rw [if_neg h1] at e
      by_cases h2 : atI ws t < 0 ∨ onF ts (atI ws t) < 0
      · rw [if_pos h2] at e; cases e
      · rw [if_neg h2] at e
        exact ringA_some f _ _ _ _ (h.more h1 h2) e
structure RingOk (ts ws r : List Int) : Prop where
  ne : r ≠ []
  rng : ∀ x ∈ r, 0 ≤ x ∧ x < ts.length ∧ canT ts ws x
  nodup : r.Nodup
  next : ∀ (i : Nat) (x y : Int), r[i]? = some x → r[i + 1]? = some y → stepT ts ws x = y
  back : ∀ x y : Int, r[0]? = some x → r[r.length - 1]? = some y → stepT ts ws y = x
theorem WayOk.ring {ts ws way : List Int} {t : Int} (h : WayOk ts ws way t) (hm : t ∈ way) : RingOk ts ws (fromT way t) := by
  obtain ⟨k, hk, e, e0⟩ := fromT_mem hm
  rw [e]
  refine ⟨(fun hn => by rw [hn] at e0; cases e0), fun x hx => h.rng x (List.drop_subset _ _ hx), h.nodup.sublist (List.drop_sublist _ _), fun i x y hx hy => ?_, fun x y hx hy => ?_⟩
  · rw [List.getElem?_drop] at hx hy
    exact h.next _ x y hx (by rwa [Nat.add_assoc])
  · rw [e0] at hx
    injection hx with hx
    rw [← hx]
    rw [List.getElem?_drop, List.length_drop, show k + (way.length - k - 1) = way.length - 1 by omega] at hy
    exact h.last y hy
theorem turn_get (r : List Int) (k i : Nat) (hk : k ≤ r.length) : (r.drop k ++ r.take k)[i]? = if i < r.length - k then r[k + i]? else if i < r.length then r[i - (r.length - k)]? else none := by
  rw [List.getElem?_append, List.length_drop]
  by_cases h : i < r.length - k
  · rw [if_pos h, if_pos h, List.getElem?_drop]
  · rw [if_neg h, if_neg h, List.getElem?_take]
    by_cases h2 : i < r.length
    · rw [if_pos h2, if_pos (by omega)]
    · rw [if_neg h2, if_neg (by omega)]
theorem turn_len (r : List Int) (k : Nat) (hk : k ≤ r.length) : (r.drop k ++ r.take k).length = r.length := by
  rw [List.length_append, List.length_drop, List.length_take]; omega
theorem RingOk.turn {ts ws r : List Int} (h : RingOk ts ws r) (k : Nat) (hk : k ≤ r.length) : RingOk ts ws (r.drop k ++ r.take k) := by
  have hp : 0 < r.length := List.length_pos_iff.2 h.ne
  refine ⟨fun hn => ?_, fun x hx => ?_, ?_, fun i x y hx hy => ?_, fun x y hx hy => ?_⟩
  · have := turn_len r k hk
    rw [hn] at this
    simp at this
    omega
  · rcases List.mem_append.1 hx with hx | hx
    · exact h.rng x (List.drop_subset _ _ hx)
    · exact h.rng x (List.take_subset _ _ hx)
  · have h1 : (r.take k ++ r.drop k).Nodup := by rw [List.take_append_drop]; exact h.nodup
    rw [List.nodup_append] at h1 ⊢
    exact ⟨h1.2.1, h1.1, fun a ha b hb e => h1.2.2 b hb a ha e.symm⟩
  · rw [turn_get r k _ hk] at hx hy
    by_cases h1 : i + 1 < r.length - k
    · rw [if_pos (by omega)] at hx
      rw [if_pos h1] at hy
      exact h.next _ x y hx (by rwa [Nat.add_assoc])
    · rw [if_neg h1] at hy
      by_cases h2 : i + 1 < r.length
      · rw [if_pos h2] at hy
        by_cases h3 : i < r.length - k
        · rw [if_pos h3] at hx
          rw [show i + 1 - (r.length - k) = 0 by omega] at hy
          rw [show k + i = r.length - 1 by omega] at hx
          exact h.back y x hy hx
        · rw [if_neg h3, if_pos (by omega)] at hx
          rw [show i + 1 - (r.length - k) = i - (r.length - k) + 1 by omega] at hy
          exact h.next _ x y hx hy
      · rw [if_neg h2] at hy; cases hy
  · rw [turn_len r k hk] at hy
    rw [turn_get r k _ hk] at hx hy
    by_cases h1 : 0 < r.length - k
    · rw [if_pos h1, Nat.add_zero] at hx
      by_cases h2 : k = 0
      · rw [if_pos (by omega), h2, Nat.zero_add] at hy
        rw [h2] at hx
        exact h.back x y hx hy
      · rw [if_neg (by omega), if_pos (by omega), show r.length - 1 - (r.length - k) = k - 1 by omega] at hy
        exact h.next (k - 1) y x hy (by rw [show k - 1 + 1 = k by omega]; exact hx)
    · rw [if_neg h1, if_pos hp, show 0 - (r.length - k) = 0 by omega] at hx
      rw [if_neg (by omega), if_pos (by omega), show r.length - 1 - (r.length - k) = r.length - 1 by omega] at hy
      exact h.back x y hx hy
/-- Behind the turn the least one comes first. -/
theorem leastK_least {l : List Int} : ∀ k, k ≤ l.length → ∀ i, i < k → atI l (leastK l k : Nat) ≤ atI l i ∧ (i < leastK l k → atI l (leastK l k : Nat) < atI l i)
  | 0, _, i, hi => by omega
  | k + 1, hk, i, hi => by
    have ih := leastK_least (l := l) k (by omega)
    have hlt := leastK_lt (l := l) k
    unfold leastK
    by_cases h : atI l k < atI l (leastK l k : Nat)
    · rw [if_pos h]
      rcases Nat.lt_succ_iff_lt_or_eq.1 hi with h1 | rfl
      · have := (ih i h1).1
        exact ⟨by omega, fun _ => by omega⟩
      · exact ⟨Int.le_refl _, fun h2 => by omega⟩
    · rw [if_neg h]
      rcases Nat.lt_succ_iff_lt_or_eq.1 hi with h1 | rfl
      · exact ih i h1
      · refine ⟨by omega, fun h2 => by omega⟩
theorem turnL_first {l : List Int} (hn : l.Nodup) : ∀ i x y, 0 < i → (turnL l)[0]? = some x → (turnL l)[i]? = some y → x < y := by
  intro i x y hi hx hy
  have hlt := leastK_lt (l := l) l.length
  have hk : leastK l l.length ≤ l.length := by omega
  unfold turnL at hx hy
  rw [turn_get l _ _ hk] at hx hy
  have hp : 0 < l.length := by
    rcases Nat.eq_zero_or_pos l.length with h | h
    · rw [if_neg (by omega), if_neg (by omega)] at hx; cases hx
    · exact h
  rw [if_pos (by omega), Nat.add_zero] at hx
  obtain ⟨a1, a2⟩ := List.getElem?_eq_some_iff.1 hx
  have key : ∀ j (h : j < l.length), j ≠ leastK l l.length → x < l[j] := fun j h hne => by
    have h1 := (leastK_least (l := l) l.length (Nat.le_refl _) j h).1
    rw [atI_get a1, atI_get h, a2] at h1
    rcases Int.lt_or_eq_of_le h1 with h2 | h2
    · exact h2
    · exfalso
      rcases Nat.lt_or_gt_of_ne hne with h3 | h3
      · exact (List.pairwise_iff_getElem.1 hn j _ h a1 h3) (by rw [a2, h2])
      · exact (List.pairwise_iff_getElem.1 hn _ j a1 h h3) (by rw [a2, h2])
  by_cases h1 : i < l.length - leastK l l.length
  · rw [if_pos h1] at hy
    obtain ⟨b1, b2⟩ := List.getElem?_eq_some_iff.1 hy
    rw [← b2]
    exact key _ b1 (by omega)
  · rw [if_neg h1] at hy
    by_cases h2 : i < l.length
    · rw [if_pos h2] at hy
      obtain ⟨b1, b2⟩ := List.getElem?_eq_some_iff.1 hy
      rw [← b2]
      exact key _ b1 (by omega)
    · rw [if_neg h2] at hy; cases hy
/-- The ring of a position in which no token that may move is free. -/
theorem ring_ok {ts ws : List Int} (hp : 0 < ts.length) (hc : ∀ x : Int, 0 ≤ x → x < ts.length → canT ts ws x) : ringE ts ws = 0 ∧ RingOk ts ws (ringL ts ws) ∧ ∀ i x y, 0 < i → (ringL ts ws)[0]? = some x → (ringL ts ws)[i]? = some y → x < y := by
  obtain ⟨way, t, e⟩ := ringA_ok hc (ts.length + 1) [] 0 (WayOk.begin hp) (by simp)
  obtain ⟨h1, h2⟩ := ringA_some _ _ _ _ _ (WayOk.begin hp) e
  have hr : ringR ts ws = some (turnL (fromT way t)) := by unfold ringR; rw [if_neg (by omega), e]; rfl
  have h3 := h1.ring h2
  have hlt := leastK_lt (l := fromT way t) (fromT way t).length
  refine ⟨by unfold ringE; rw [hr]; rfl, ?_, ?_⟩
  · unfold ringL
    rw [hr]
    exact h3.turn _ (by omega)
  · unfold ringL
    rw [hr]
    exact turnL_first h3.nodup
theorem RingOk.len {ts ws r : List Int} (h : RingOk ts ws r) : r.length ≤ ts.length := by
  have h1 := nodup_len ts.length (r.map Int.toNat) (by
    show (r.map Int.toNat).Pairwise (· ≠ ·)
    rw [List.pairwise_map, List.pairwise_iff_getElem]
    intro i j hi hj hij e
    have a := h.rng _ (List.getElem_mem hi)
    have b := h.rng _ (List.getElem_mem hj)
    exact (List.pairwise_iff_getElem.1 h.nodup i j hi hj hij) (by omega)) (fun z hz => by
    obtain ⟨x, hx, rfl⟩ := List.mem_map.1 hz
    have a := h.rng x hx
    omega)
  rwa [List.length_map] at h1
/-- A ring's tokens stand on a closed walk. -/
theorem RingOk.closed {g : GraphD} {ts ws r : List Int} {sh : List Bool} (hpos : PosOk g ts ws) (hsh : ∀ v, atB sh v = false) (h : RingOk ts ws r) : ClosedL g sh (r.map (fun x => atI ts x)) := by
  have edge : ∀ x ∈ r, edgeI g (atI ts x) (atI ts (stepT ts ws x)) := fun x hx => by
    obtain ⟨h0, hl, hc⟩ := h.rng x hx
    obtain ⟨i, rfl⟩ := Int.eq_ofNat_of_zero_le h0
    have hi : i < ts.length := by omega
    have hi' : i < ws.length := by rw [← hpos.len]; exact hi
    obtain ⟨c1, c2⟩ := hc.on
    rw [c2]
    rw [atI_get hi'] at c1
    rw [atI_get hi, atI_get hi']
    rcases hpos.want i hi hi' with h1 | h1
    · omega
    · exact h1
  have mem : ∀ {i : Nat} {x : Int}, r[i]? = some x → x ∈ r := fun hx => by
    obtain ⟨a, b⟩ := List.getElem?_eq_some_iff.1 hx
    rw [← b]; exact List.getElem_mem a
  refine ⟨⟨by simpa using h.ne, fun y hy => ?_, fun i a b ha hb => ?_⟩, fun a b ha hb => ?_⟩
  · obtain ⟨x, hx, rfl⟩ := List.mem_map.1 hy
    obtain ⟨h0, hl, _⟩ := h.rng x hx
    obtain ⟨i, rfl⟩ := Int.eq_ofNat_of_zero_le h0
    have hi : i < ts.length := by omega
    rw [atI_get hi]
    exact ⟨(hpos.place i hi).1, (hpos.place i hi).2, hsh _⟩
  · rw [List.getElem?_map, Option.map_eq_some_iff] at ha hb
    obtain ⟨x, hx, rfl⟩ := ha
    obtain ⟨y, hy, rfl⟩ := hb
    rw [← h.next i x y hx hy]
    exact edge x (mem hx)
  · rw [List.length_map] at hb
    rw [List.getElem?_map, Option.map_eq_some_iff] at ha hb
    obtain ⟨x, hx, rfl⟩ := ha
    obtain ⟨y, hy, rfl⟩ := hb
    rw [← h.back x y hx hy]
    exact edge y (mem hy)
end Go.Proofs.Ytfgpenekmokdiaa.Fl
