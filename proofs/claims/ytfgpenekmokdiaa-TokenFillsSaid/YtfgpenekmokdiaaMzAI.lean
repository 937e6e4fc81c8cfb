/- Joined texts. -/
import Derived.Test.YtfgpenekmokdiaaMzAH
namespace Go.Proofs.Ytfgpenekmokdiaa.Fl

def stepT (ts ws : List Int) (t : Int) : Int := onF ts (atI ws t)
/-- A token wants a vertex, and a token is on it. -/
def canT (ts ws : List Int) (t : Int) : Prop := ¬ (atI ws t < 0 ∨ onF ts (atI ws t) < 0)
theorem canT.rng {ts ws : List Int} {t : Int} (h : canT ts ws t) : 0 ≤ stepT ts ws t ∧ stepT ts ws t < ts.length := by
  unfold canT at h
  unfold stepT
  rcases onF_cases ts (atI ws t) with ⟨h1, _⟩ | ⟨i, hi, _, h1⟩
  · omega
  · omega
/-- Where the next token stands. -/
theorem canT.on {ts ws : List Int} {t : Int} (h : canT ts ws t) : 0 ≤ atI ws t ∧ atI ts (stepT ts ws t) = atI ws t := by
  unfold canT at h
  refine ⟨by omega, ?_⟩
  unfold stepT
  rcases onF_cases ts (atI ws t) with ⟨h1, _⟩ | ⟨i, hi, h2, h1⟩
  · omega
  · rw [h1, atI_get hi, h2]
structure WayOk (ts ws way : List Int) (t : Int) : Prop where
  rng : ∀ x ∈ way, 0 ≤ x ∧ x < ts.length ∧ canT ts ws x
  nodup : way.Nodup
  next : ∀ (i : Nat) (x y : Int), way[i]? = some x → way[i + 1]? = some y → stepT ts ws x = y
  last : ∀ x : Int, way[way.length - 1]? = some x → stepT ts ws x = t
  tok : 0 ≤ t ∧ t < ts.length
theorem WayOk.begin {ts ws : List Int} (h : 0 < ts.length) : WayOk ts ws [] 0 := ⟨by simp, .nil, by simp, by simp, by omega⟩
theorem WayOk.more {ts ws way : List Int} {t : Int} (h : WayOk ts ws way t) (ht : t ∉ way) (hc : canT ts ws t) : WayOk ts ws (way ++ [t]) (stepT ts ws t) := by
  refine ⟨fun x hx => ?_, ?_, fun i x y hx hy => ?_, fun x hx => ?_, hc.rng⟩
  · rcases List.mem_append.1 hx with hx | hx
    · exact h.rng x hx
    · obtain rfl := List.mem_singleton.1 hx
      exact ⟨h.tok.1, h.tok.2, hc⟩
  · rw [List.nodup_append]
    refine ⟨h.nodup, by simp, fun a ha b hb => ?_⟩
    obtain rfl := List.mem_singleton.1 hb
    exact fun e => ht (e ▸ ha)
  · rcases Nat.lt_trichotomy (i + 1) way.length with h1 | h1 | h1
    · rw [List.getElem?_append_left (by omega)] at hx
      rw [List.getElem?_append_left h1] at hy
      exact h.next i x y hx hy
    · rw [List.getElem?_append_left (by omega)] at hx
      rw [List.getElem?_append_right (by omega), show i + 1 - way.length = 0 by omega] at hy
      simp only [List.getElem?_cons_zero, Option.some.injEq] at hy
      rw [← hy]
      exact h.last x (by rw [show way.length - 1 = i by omega]; exact hx)
    · rw [List.getElem?_append_right (by omega), List.getElem?_eq_none (by simp; omega)] at hy
      cases hy
  · rw [List.length_append, List.getElem?_append_right (by simp)] at hx
    simp at hx
    rw [hx]
theorem WayOk.len {ts ws way : List Int} {t : Int} (h : WayOk ts ws way t) : way.length ≤ ts.length := by
  have h1 := nodup_len ts.length (way.map Int.toNat) (by
    show (way.map Int.toNat).Pairwise (· ≠ ·)
    rw [List.pairwise_map, List.pairwise_iff_getElem]
    intro i j hi hj hij e
    have a := h.rng _ (List.getElem_mem hi)
    have b := h.rng _ (List.getElem_mem hj)
    exact (List.pairwise_iff_getElem.1 h.nodup i j hi hj hij) (by omega)) (fun z hz => by
    obtain ⟨x, hx, rfl⟩ := List.mem_map.1 hz
    have a := h.rng x hx
    omega)
  rwa [List.length_map] at h1
theorem ringA_ok {ts ws : List Int} (hc : ∀ x : Int, 0 ≤ x → x < ts.length → canT ts ws x) : ∀ (f : Nat) (way : List Int) (t : Int), WayOk ts ws way t → ts.length < f + way.length → ∃ way' t', ringA ts ws f way t = some (way', t')
  | 0, way, t, h, hf => by have := h.len; omega
  | f + 1, way, t, h, hf => by
    unfold ringA
    by_cases h1 : t ∈ way
    · exact ⟨way, t, by rw [if_pos h1]⟩
    · have h2 := hc t h.tok.1 h.tok.2
      obtain ⟨w2, t2, e⟩ := ringA_ok hc f (way ++ [t]) (stepT ts ws t) (h.more h1 h2) (by rw [List.length_append]; simp; omega)
      exact ⟨w2, t2, by rw [if_neg h1, if_neg h2]; exact e⟩
theorem ringA_some {ts ws : List Int} : ∀ (f : Nat) (way : List Int) (t : Int) (way' : List Int) (t' : Int), WayOk ts ws way t → ringA ts ws f way t = some (way', t') → WayOk ts ws way' t' ∧ t' ∈ way'
  | 0, _, _, _, _, _, e => by cases e
  | f + 1, way, t, way', t', h, e => by
    unfold ringA at e
    by_cases h1 : t ∈ way
    · rw [if_pos h1] at e
      injection e with e
      injection e with e1 e2
      subst e1 e2
      exact ⟨h, h1⟩
    · rw [if_neg h1] at e
      by_cases h2 : atI ws t < 0 ∨ onF ts (atI ws t) < 0
      · rw [if_pos h2] at e; cases e
      · rw [if_neg h2] at e
        exact ringA_some f _ _ _ _ (h.more h1 h2) e
structure RingOk (ts ws r : List Int) : Prop where
  ne : r ≠ []
  rng : ∀ x ∈ r, 0 ≤ x ∧ x < ts.length ∧ canT ts ws x
  nodup : r.Nodup
  next : ∀ (i : Nat) (x y : Int), r[i]? = some x → r[i + 1]? = some y → stepT ts ws x = y
  back : ∀ x y : Int, r[0]? = some x → r[r.length - 1]? = some y → stepT ts ws y = x
theorem WayOk.ring {ts ws way : List Int} {t : Int} (h : WayOk ts ws way t) (hm : t ∈ way) : RingOk ts ws (fromT way t) := by
  obtain ⟨k, hk, e, e0⟩ := fromT_mem hm
  rw [e]
  refine ⟨(fun hn => by rw [hn] at e0; cases e0), fun x hx => h.rng x (List.drop_subset _ _ hx), h.nodup.sublist (List.drop_sublist _ _), fun i x y hx hy => ?_, fun x y hx hy => ?_⟩
  · rw [List.getElem?_drop] at hx hy
    exact h.next _ x y hx (by rwa [Nat.add_assoc])
  · rw [e0] at hx
    injection hx with hx
    rw [← hx]
    rw [List.getElem?_drop, List.length_drop, show k + (way.length - k - 1) = way.length - 1 by omega] at hy
    exact h.last y hy
theorem turn_get (r : List Int) (k i : Nat) (hk : k ≤ r.length) : (r.drop k ++ r.take k)[i]? = if i < r.length - k then r[k + i]? else if i < r.length then r[i - (r.length - k)]? else none := by
  rw [List.getElem?_append, List.length_drop]
  by_cases h : i < r.length - k
  · rw [if_pos h, if_pos h, List.getElem?_drop]
  · rw [if_neg h, if_neg h, List.getElem?_take]
    by_cases h2 : i < r.length
    · rw [if_pos h2, if_pos (by omega)]
    · rw [if_neg h2, if_neg (by omega)]
theorem turn_len (r : List Int) (k : Nat) (hk : k ≤ r.length) : (r.drop k ++ r.take k).length = r.length := by
  rw [List.length_append, List.length_drop, List.length_take]; omega
theorem RingOk.turn {ts ws r : List Int} (h : RingOk ts ws r) (k : Nat) (hk : k ≤ r.length) : RingOk ts ws (r.drop k ++ r.take k) := by
  have hp : 0 < r.length := List.length_pos_iff.2 h.ne
  refine ⟨fun hn => ?_, fun x hx => ?_, ?_, fun i x y hx hy => ?_, fun x y hx hy => ?_⟩
  · have := turn_len r k hk
    rw [hn] at this
    simp at this
    omega
  · rcases List.mem_append.1 hx with hx | hx
    · exact h.rng x (List.drop_subset _ _ hx)
    · exact h.rng x (List.take_subset _ _ hx)
  · have h1 : (r.take k ++ r.drop k).Nodup := by rw [List.take_append_drop]; exact h.nodup
    rw [List.nodup_append] at h1 ⊢
    exact ⟨h1.2.1, h1.1, fun a ha b hb e => h1.2.2 b hb a ha e.symm⟩
  · rw [turn_get r k _ hk] at hx hy
    by_cases h1 : i + 1 < r.length - k
    · rw [if_pos (by omega)] at hx
      rw [if_pos h1] at hy
      exact h.next _ x y hx (by rwa [Nat.add_assoc])
    · rw [if_neg h1] at hy
      by_cases h2 : i + 1 < r.length
      · rw [if_pos h2] at hy
        by_cases h3 : i < r.length - k
        · rw [if_pos h3] at hx
          rw [show i + 1 - (r.length - k) = 0 by omega] at hy
          rw [show k + i = r.length - 1 by omega] at hx
          exact h.back y x hy hx
        · rw [if_neg h3, if_pos (by omega)] at hx
          rw [show i + 1 - (r.length - k) = i - (r.length - k) + 1 by omega] at hy
          exact h.next _ x y hx hy
      · rw [if_neg h2] at hy; cases hy
  · rw [turn_len r k hk] at hy
    rw [turn_get r k _ hk] at hx hy
    by_cases h1 : 0 < r.length - k
    · rw [if_pos h1, Nat.add_zero] at hx
      by_cases h2 : k = 0
      · rw [if_pos (by omega), h2, Nat.zero_add] at hy
        rw [h2] at hx
        exact h.back x y hx hy
      · rw [if_neg (by omega), if_pos (by omega), show r.length - 1 - (r.length - k) = k - 1 by omega] at hy
        exact h.next (k - 1) y x hy (by rw [show k - 1 + 1 = k by omega]; exact hx)
    · rw [if_neg h1, if_pos hp, show 0 - (r.length - k) = 0 by omega] at hx
      rw [if_neg (by omega), if_pos (by omega), show r.length - 1 - (r.length - k) = r.length - 1 by omega] at hy
      exact h.back x y hx hy
/-- Behind the turn the least one comes first. -/
theorem leastK_least {l : List Int} : ∀ k, k ≤ l.length → ∀ i, i < k → atI l (leastK l k : Nat) ≤ atI l i ∧ (i < leastK l k → atI l (leastK l k : Nat) < atI l i)
  | 0, _, i, hi => by omega
  | k + 1, hk, i, hi => by
    have ih := leastK_least (l := l) k (by omega)
    have hlt := leastK_lt (l := l) k
    unfold leastK
    by_cases h : atI l k < atI l (leastK l k : Nat)
    · rw [if_pos h]
      rcases Nat.lt_succ_iff_lt_or_eq.1 hi with h1 | rfl
      · have := (ih i h1).1
        exact ⟨by omega, fun _ => by omega⟩
      · exact ⟨Int.le_refl _, fun h2 => by omega⟩
    · rw [if_neg h]
      rcases Nat.lt_succ_iff_lt_or_eq.1 hi with h1 | rfl
      · exact ih i h1
      · refine ⟨by omega, fun h2 => by omega⟩
theorem turnL_first {l : List Int} (hn : l.Nodup) : ∀ i x y, 0 < i → (turnL l)[0]? = some x → (turnL l)[i]? = some y → x < y := by
  intro i x y hi hx hy
  have hlt := leastK_lt (l := l) l.length
  have hk : leastK l l.length ≤ l.length := by omega
  unfold turnL at hx hy
  rw [turn_get l _ _ hk] at hx hy
  have hp : 0 < l.length := by
    rcases Nat.eq_zero_or_pos l.length with h | h
    · rw [if_neg (by omega), if_neg (by omega)] at hx; cases hx
    · exact h
  rw [if_pos (by omega), Nat.add_zero] at hx
  obtain ⟨a1, a2⟩ := List.getElem?_eq_some_iff.1 hx
  have key : ∀ j (h : j < l.length), j ≠ leastK l l.length → x < l[j] := fun j h hne => by
    have h1 := (leastK_least (l := l) l.length (Nat.le_refl _) j h).1
    rw [atI_get a1, atI_get h, a2] at h1
    rcases Int.lt_or_eq_of_le h1 with h2 | h2
    · exact h2
    · exfalso
      rcases Nat.lt_or_gt_of_ne hne with h3 | h3
      · exact (List.pairwise_iff_getElem.1 hn j _ h a1 h3) (by rw [a2, h2])
      · exact (List.pairwise_iff_getElem.1 hn _ j a1 h h3) (by rw [a2, h2])
  by_cases h1 : i < l.length - leastK l l.length
  · rw [if_pos h1] at hy
    obtain ⟨b1, b2⟩ := List.getElem?_eq_some_iff.1 hy
    rw [← b2]
    exact key _ b1 (by omega)
  · rw [if_neg h1] at hy
    by_cases h2 : i < l.length
    · rw [if_pos h2] at hy
      obtain ⟨b1, b2⟩ := List.getElem?_eq_some_iff.1 hy
      rw [← b2]
      exact key _ b1 (by omega)
    · rw [if_neg h2] at hy; cases hy
/-- The ring of a position in which no token that may move is free. -/
theorem ring_ok {ts ws : List Int} (hp : 0 < ts.length) (hc : ∀ x : Int, 0 ≤ x → x < ts.length → canT ts ws x) : ringE ts ws = 0 ∧ RingOk ts ws (ringL ts ws) ∧ ∀ i x y, 0 < i → (ringL ts ws)[0]? = some x → (ringL ts ws)[i]? = some y → x < y := by
  obtain ⟨way, t, e⟩ := ringA_ok hc (ts.length + 1) [] 0 (WayOk.begin hp) (by simp)
  obtain ⟨h1, h2⟩ := ringA_some _ _ _ _ _ (WayOk.begin hp) e
  have hr : ringR ts ws = some (turnL (fromT way t)) := by unfold ringR; rw [if_neg (by omega), e]; rfl
  have h3 := h1.ring h2
  have hlt := leastK_lt (l := fromT way t) (fromT way t).length
  refine ⟨by unfold ringE; rw [hr]; rfl, ?_, ?_⟩
  · unfold ringL
    rw [hr]
    exact h3.turn _ (by omega)
  · unfold ringL
    rw [hr]
    exact turnL_first h3.nodup
theorem RingOk.len {ts ws r : List Int} (h : RingOk ts ws r) : r.length ≤ ts.length := by
  have h1 := nodup_len ts.length (r.map Int.toNat) (by
    show (r.map Int.toNat).Pairwise (· ≠ ·)
    rw [List.pairwise_map, List.pairwise_iff_getElem]
    intro i j hi hj hij e
    have a := h.rng _ (List.getElem_mem hi)
    have b := h.rng _ (List.getElem_mem hj)
    exact (List.pairwise_iff_getElem.1 h.nodup i j hi hj hij) (by omega)) (fun z hz => by
    obtain ⟨x, hx, rfl⟩ := List.mem_map.1 hz
    have a := h.rng x hx
    omega)
  rwa [List.length_map] at h1
/-- A ring's tokens stand on a closed walk. -/
theorem RingOk.closed {g : GraphD} {ts ws r : List Int} {sh : List Bool} (hpos : PosOk g ts ws) (hsh : ∀ v, atB sh v = false) (h : RingOk ts ws r) : ClosedL g sh (r.map (fun x => atI ts x)) := by
  have edge : ∀ x ∈ r, edgeI g (atI ts x) (atI ts (stepT ts ws x)) := fun x hx => by
    obtain ⟨h0, hl, hc⟩ := h.rng x hx
    obtain ⟨i, rfl⟩ := Int.eq_ofNat_of_zero_le h0
    have hi : i < ts.length := by omega
    have hi' : i < ws.length := by rw [← hpos.len]; exact hi
    obtain ⟨c1, c2⟩ := hc.on
    rw [c2]
    rw [atI_get hi'] at c1
    rw [atI_get hi, atI_get hi']
    rcases hpos.want i hi hi' with h1 | h1
    · omega
    · exact h1
  have mem : ∀ {i : Nat} {x : Int}, r[i]? = some x → x ∈ r := fun hx => by
    obtain ⟨a, b⟩ := List.getElem?_eq_some_iff.1 hx
    rw [← b]; exact List.getElem_mem a
  refine ⟨⟨by simpa using h.ne, fun y hy => ?_, fun i a b ha hb => ?_⟩, fun a b ha hb => ?_⟩
  · obtain ⟨x, hx, rfl⟩ := List.mem_map.1 hy
    obtain ⟨h0, hl, _⟩ := h.rng x hx
    obtain ⟨i, rfl⟩ := Int.eq_ofNat_of_zero_le h0
    have hi : i < ts.length := by omega
    rw [atI_get hi]
    exact ⟨(hpos.place i hi).1, (hpos.place i hi).2, hsh _⟩
  · rw [List.getElem?_map, Option.map_eq_some_iff] at ha hb
    obtain ⟨x, hx, rfl⟩ := ha
    obtain ⟨y, hy, rfl⟩ := hb
    rw [← h.next i x y hx hy]
    exact edge x (mem hx)
  · rw [List.length_map] at hb
    rw [List.getElem?_map, Option.map_eq_some_iff] at ha hb
    obtain ⟨x, hx, rfl⟩ := ha
    obtain ⟨y, hy, rfl⟩ := hb
    rw [← h.back x y hx hy]
    exact edge y (mem hy)
end Go.Proofs.Ytfgpenekmokdiaa.Fl
namespace Go.Proofs.Ytfgpenekmokdiaa.Fl

theorem freeL_mem {ts ws : List Int} {i k : Nat} (h : i < k) (h1 : 0 ≤ atI ws i) (h2 : atI ws i ∉ ts) : (i : Int) ∈ freeL ts ws k := by
  unfold freeL
  exact List.mem_map.2 ⟨i, List.mem_filter.2 ⟨List.mem_range.2 h, decide_eq_true ⟨h1, h2⟩⟩, rfl⟩
/-- If no token is free and all want something, every one waits for another one. -/
theorem can_all {ts ws : List Int} (hl : ts.length = ws.length) (hw : ∀ i (h : i < ws.length), 0 ≤ ws[i]) (hf : freeL ts ws ts.length = []) : ∀ x : Int, 0 ≤ x → x < ts.length → canT ts ws x := fun x h0 hx => by
  obtain ⟨i, rfl⟩ := Int.eq_ofNat_of_zero_le h0
  have hi : i < ws.length := by omega
  have h1 := hw i hi
  unfold canT
  rw [atI_get hi]
  intro h
  rcases h with h | h
  · omega
  · rcases onF_cases ts ws[i] with ⟨_, h2⟩ | ⟨j, _, _, h2⟩
    · have := freeL_mem (ts := ts) (ws := ws) (i := i) (k := ts.length) (by omega) (by rw [atI_get hi]; exact h1) (by rw [atI_get hi]; exact h2)
      rw [hf] at this
      cases this
    · omega
theorem free_below {g : GraphD} {ts ws : List Int} {sh : List Bool} (h : PosOk g ts ws) (hsh : ∀ v, atB sh v = false) (hw : ∀ i (h : i < ws.length), 0 ≤ ws[i]) (hp : 0 < ts.length) (hn : (girF g sh).length = 0 ∨ ts.length < (girF g sh).length) : freeL ts ws ts.length ≠ [] := fun hf => by
  obtain ⟨_, hr, _⟩ := ring_ok hp (can_all h.len hw hf)
  have h1 := gir_least h.graph (hr.closed h hsh)
  have h2 := hr.len
  have h3 : 0 < (girF g sh).length := List.length_pos_iff.2 h1.1
  have h4 := h1.2
  rw [List.length_map] at h4
  omega
/-- The ring of a stuck position whose tokens all want something. -/
theorem ring_stuck {g : GraphD} {ts ws : List Int} {sh : List Bool} (h : PosOk g ts ws) (hsh : ∀ v, atB sh v = false) (hw : ∀ i (h : i < ws.length), 0 ≤ ws[i]) (hs : stuckB g ts ws = true) : ringE ts ws = 0 ∧ RingOk ts ws (ringL ts ws) ∧ (∀ i x y, 0 < i → (ringL ts ws)[0]? = some x → (ringL ts ws)[i]? = some y → x < y) ∧ 0 < (girF g sh).length ∧ (girF g sh).length ≤ (ringL ts ws).length := by
  unfold stuckB at hs
  rw [Bool.and_eq_true, Bool.and_eq_true, decide_eq_true_iff, List.any_eq_true] at hs
  obtain ⟨⟨_, h1⟩, x, hx, _⟩ := hs
  have hp : 0 < ts.length := by
    rw [h.len]
    exact List.length_pos_of_mem hx
  obtain ⟨e, hr, hlt⟩ := ring_ok hp (can_all h.len hw (List.eq_nil_of_length_eq_zero h1))
  have h1 := gir_least h.graph (hr.closed h hsh)
  have h4 := h1.2
  rw [List.length_map] at h4
  exact ⟨e, hr, hlt, List.length_pos_iff.2 h1.1, h4⟩
theorem RingOk.two {ts ws r : List Int} (h : RingOk ts ws r) {i : Nat} (hi : i < r.length) : stepT ts ws r[i] = r[(i + 1) % r.length]'(Nat.mod_lt _ (by omega)) := by
  rcases Nat.lt_or_ge (i + 1) r.length with h1 | h1
  · have e : (i + 1) % r.length = i + 1 := Nat.mod_eq_of_lt h1
    exact h.next i _ _ (List.getElem?_eq_getElem hi) (by rw [← List.getElem?_eq_getElem, e])
  · have e : (i + 1) % r.length = 0 := by rw [show i + 1 = r.length by omega, Nat.mod_self]
    exact h.back _ _ (by rw [← List.getElem?_eq_getElem, e]) (by rw [show r.length - 1 = i by omega]; exact List.getElem?_eq_getElem hi)
/-- The position of Tight: a token on each vertex of a closed walk wants the next one. -/
def rotL (l : List Int) : List Int := l.drop 1 ++ l.take 1
theorem rotL_length (l : List Int) : (rotL l).length = l.length := by
  unfold rotL
  rw [List.length_append, List.length_drop, List.length_take]; omega
theorem rotL_get {l : List Int} {i : Nat} (hi : i < l.length) : (rotL l)[i]? = some (l[(i + 1) % l.length]'(Nat.mod_lt _ (by omega))) := by
  unfold rotL
  rw [turn_get l 1 i (by omega)]
  rcases Nat.lt_or_ge (i + 1) l.length with h1 | h1
  · rw [if_pos (by omega), List.getElem?_eq_getElem (by omega)]
    congr 1
    have e : (i + 1) % l.length = i + 1 := Nat.mod_eq_of_lt h1
    simp only [e, Nat.add_comm 1 i]
  · rw [if_neg (by omega), if_pos hi, List.getElem?_eq_getElem (by omega)]
    congr 1
    have e : (i + 1) % l.length = 0 := by rw [show i + 1 = l.length by omega, Nat.mod_self]
    simp only [e, show i - (l.length - 1) = 0 by omega]
theorem nodup_ix {l : List Int} (h : l.Nodup) {i j : Nat} (hi : i < l.length) (hj : j < l.length) (e : l[i] = l[j]) : i = j := by
  rcases Nat.lt_trichotomy i j with h1 | h1 | h1
  · exact absurd e (List.pairwise_iff_getElem.1 h i j hi hj h1)
  · exact h1
  · exact absurd e.symm (List.pairwise_iff_getElem.1 h j i hj hi h1)
theorem onF_at {l : List Int} (h : l.Nodup) {i : Nat} (hi : i < l.length) : onF l l[i] = (i : Int) := by
  rcases onF_cases l l[i] with ⟨_, h1⟩ | ⟨j, hj, h1, h2⟩
  · exact absurd (List.getElem_mem hi) h1
  · rw [h2, nodup_ix h hj hi h1]
/-- Each token of the tight position waits for the next one. -/
theorem tight_step {l : List Int} (h : l.Nodup) {i : Nat} (hi : i < l.length) : atI (rotL l) i = l[(i + 1) % l.length]'(Nat.mod_lt _ (by omega)) ∧ stepT l (rotL l) i = (((i + 1) % l.length : Nat) : Int) := by
  have h1 : (i + 1) % l.length < l.length := Nat.mod_lt _ (by omega)
  have e : atI (rotL l) i = l[(i + 1) % l.length] := by
    have hr : i < (rotL l).length := by rw [rotL_length]; exact hi
    rw [atI_get hr]
    have := rotL_get hi
    rw [List.getElem?_eq_getElem hr] at this
    injection this
  refine ⟨e, ?_⟩
  unfold stepT
  rw [e]
  exact onF_at h h1
theorem gir_edge {g : GraphD} {sh : List Bool} (hg : validG g = true) (h : girF g sh ≠ []) {i : Nat} (hi : i < (girF g sh).length) : edgeI g (girF g sh)[i] ((girF g sh)[(i + 1) % (girF g sh).length]'(Nat.mod_lt _ (by omega))) := by
  have hc := gir_closed hg h
  rcases Nat.lt_or_ge (i + 1) (girF g sh).length with h1 | h1
  · have e : (i + 1) % (girF g sh).length = i + 1 := Nat.mod_eq_of_lt h1
    exact hc.walk.edge i _ _ (List.getElem?_eq_getElem hi) (by rw [← List.getElem?_eq_getElem, e])
  · have e : (i + 1) % (girF g sh).length = 0 := by rw [show i + 1 = (girF g sh).length by omega, Nat.mod_self]
    exact hc.back _ _ (by rw [← List.getElem?_eq_getElem, e]) (by rw [show (girF g sh).length - 1 = i by omega]; exact List.getElem?_eq_getElem hi)
theorem gir_few {g : GraphD} {sh : List Bool} (hg : validG g = true) : (girF g sh).length ≤ 24 := by
  by_cases h : girF g sh = []
  · rw [h]; simp
  · have hc := gir_closed hg h
    have h1 := nodup_len g.length ((girF g sh).map Int.toNat) (by
      show ((girF g sh).map Int.toNat).Pairwise (· ≠ ·)
      rw [List.pairwise_map, List.pairwise_iff_getElem]
      intro i j hi hj hij e
      have a := hc.walk.ok _ (List.getElem_mem hi)
      have b := hc.walk.ok _ (List.getElem_mem hj)
      exact (List.pairwise_iff_getElem.1 (gir_nodup hg) i j hi hj hij) (by have := a.1; have := b.1; omega)) (fun z hz => by
      obtain ⟨x, hx, rfl⟩ := List.mem_map.1 hz
      have a := hc.walk.ok x hx
      have := a.1; have := a.2.1; omega)
    rw [List.length_map] at h1
    have := validG_len hg
    omega
theorem tight_pos {g : GraphD} {sh : List Bool} (hg : validG g = true) (h : girF g sh ≠ []) : PosOk g (girF g sh) (rotL (girF g sh)) := by
  have hc := gir_closed hg h
  refine ⟨hg, (rotL_length _).symm, gir_few hg, fun i hi => ?_, gir_nodup hg, fun i hi hi' => ?_⟩
  · have a := hc.walk.ok _ (List.getElem_mem hi)
    exact ⟨a.1, a.2.1⟩
  · have e := (tight_step (gir_nodup (s := sh) hg) hi).1
    rw [atI_get hi'] at e
    rw [e]
    exact .inr (gir_edge hg h hi)
theorem tight_can {l : List Int} (h : l.Nodup) (h0 : ∀ x ∈ l, 0 ≤ x) : ∀ x : Int, 0 ≤ x → x < l.length → canT l (rotL l) x := fun x hx0 hx => by
  obtain ⟨i, rfl⟩ := Int.eq_ofNat_of_zero_le hx0
  have hi : i < l.length := by omega
  obtain ⟨e1, e2⟩ := tight_step h hi
  have hm := h0 _ (List.getElem_mem (show (i + 1) % l.length < l.length from Nat.mod_lt _ (by omega)))
  unfold canT
  unfold stepT at e2
  rw [e2, e1]
  omega
theorem tight_stuck {g : GraphD} {sh : List Bool} (hg : validG g = true) (h : girF g sh ≠ []) : stuckB g (girF g sh) (rotL (girF g sh)) = true := by
  have hp := tight_pos hg h
  have hc := gir_closed hg h
  have hl : 0 < (girF g sh).length := List.length_pos_iff.2 h
  unfold stuckB
  rw [posB_iff.2 hp, Bool.true_and, Bool.and_eq_true, decide_eq_true_iff, List.any_eq_true]
  constructor
  · have : freeL (girF g sh) (rotL (girF g sh)) (girF g sh).length = [] := by
      unfold freeL
      rw [List.map_eq_nil_iff, List.filter_eq_nil_iff]
      intro i hi
      have hi := List.mem_range.1 hi
      rw [(tight_step (gir_nodup (s := sh) hg) hi).1]
      simp only [decide_eq_true_eq, not_and, Decidable.not_not]
      exact fun _ => List.getElem_mem _
    rw [this]; rfl
  · have hr : 0 < (rotL (girF g sh)).length := by rw [rotL_length]; exact hl
    refine ⟨_, List.getElem_mem hr, decide_eq_true ?_⟩
    have e := (tight_step (gir_nodup (s := sh) hg) hl).1
    rw [atI_get hr] at e
    rw [e]
    exact (hc.walk.ok _ (List.getElem_mem _)).1
theorem tight_ring {l : List Int} (h : l.Nodup) (h0 : ∀ x ∈ l, 0 ≤ x) (hl : 0 < l.length) : ringE l (rotL l) = 0 ∧ (ringL l (rotL l)).length = l.length := by
  obtain ⟨e, hr, _⟩ := ring_ok hl (tight_can h h0)
  refine ⟨e, ?_⟩
  have hle := hr.len
  generalize ringL l (rotL l) = r at *
  have hp : 0 < r.length := List.length_pos_iff.2 hr.ne
  obtain ⟨a, ha⟩ := Int.eq_ofNat_of_zero_le (hr.rng _ (List.getElem_mem hp)).1
  have hal : a < l.length := by have := (hr.rng _ (List.getElem_mem hp)).2.1; omega
  have key : ∀ k (hk : k < r.length), r[k] = (((a + k) % l.length : Nat) : Int) := by
    intro k
    induction k with
    | zero => intro hk; rw [ha, Nat.add_zero, Nat.mod_eq_of_lt hal]
    | succ k ih =>
      intro hk
      have h1 := hr.next k _ _ (List.getElem?_eq_getElem (show k < r.length by omega)) (List.getElem?_eq_getElem hk)
      rw [← h1, ih (by omega), (tight_step h (Nat.mod_lt _ hl)).2]
      congr 1
      rw [Nat.mod_add_mod, Nat.add_assoc]
  have hb := hr.back _ _ (List.getElem?_eq_getElem hp) (List.getElem?_eq_getElem (show r.length - 1 < r.length by omega))
  rw [key _ (by omega), ha, (tight_step h (Nat.mod_lt _ hl)).2, Nat.mod_add_mod, show a + (r.length - 1) + 1 = a + r.length by omega] at hb
  have hb' : (a + r.length) % l.length = a := by omega
  rcases Nat.lt_or_ge r.length l.length with h1 | h1
  · exfalso
    rcases Nat.lt_or_ge (a + r.length) l.length with h2 | h2
    · rw [Nat.mod_eq_of_lt h2] at hb'; omega
    · rw [Nat.mod_eq_sub_mod h2, Nat.mod_eq_of_lt (by omega)] at hb'; omega
  · omega
end Go.Proofs.Ytfgpenekmokdiaa.Fl
