/- Joined texts. -/
import Derived.Test.YtfgpenekmokdiaaMzAC
import Derived.Test.YtfgpenekmokdiaaMzAB
namespace Go.Proofs.Ytfgpenekmokdiaa.Fl

theorem freeL_mem {ts ws : List Int} {i k : Nat} (h : i < k) (h1 : 0 ≤ atI ws i) (h2 : atI ws i ∉ ts) : (i : Int) ∈ freeL ts ws k := by
  unfold freeL
  exact List.mem_map.2 ⟨i, List.mem_filter.2 ⟨List.mem_range.2 h, decide_eq_true ⟨h1, h2⟩⟩, rfl⟩
/-- If no token is free and all want something, every one waits for another one. -/
theorem can_all {ts ws : List Int} (hl : ts.length = ws.length) (hw : ∀ i (h : i < ws.length), 0 ≤ ws[i]) (hf : freeL ts ws ts.length = []) : ∀ x : Int, 0 ≤ x → x < ts.length → canT ts ws x := fun x h0 hx => by
  obtain ⟨i, rfl⟩ := Int.eq_ofNat_of_zero_le h0
  have hi : i < ws.length := by omega
  have h1 := hw i hi
  unfold canT
  rw [atI_get hi]
  intro h
  rcases h with h | h
  · omega
  · rcases onF_cases ts ws[i] with ⟨_, h2⟩ | ⟨j, _, _, h2⟩
    · have := freeL_mem (ts := ts) (ws := ws) (i := i) (k := ts.length) (by omega) (by rw [atI_get hi]; exact h1) (by rw [atI_get hi]; exact h2)
      rw [hf] at this
      cases this
    · omega
theorem free_below {g : GraphD} {ts ws : List Int} {sh : List Bool} (h : PosOk g ts ws) (hsh : ∀ v, atB sh v = false) (hw : ∀ i (h : i < ws.length), 0 ≤ ws[i]) (hp : 0 < ts.length) (hn : (girF g sh).length = 0 ∨ ts.length < (girF g sh).length) : freeL ts ws ts.length ≠ [] := fun hf => by
  obtain ⟨_, hr, _⟩ := ring_ok hp (can_all h.len hw hf)
  have h1 := gir_least h.graph (hr.closed h hsh)
  have h2 := hr.len
  have h3 : 0 < (girF g sh).length := List.length_pos_iff.2 h1.1
  have h4 := h1.2
  rw [List.length_map] at h4
  omega
/-- The ring of a stuck position whose tokens all want something. -/
theorem ring_stuck {g : GraphD} {ts ws : List Int} {sh : List Bool} (h : PosOk g ts ws) (hsh : ∀ v, atB sh v = false) (hw : ∀ i (h : i < ws.length), 0 ≤ ws[i]) (hs : stuckB g ts ws = true) : ringE ts ws = 0 ∧ RingOk ts ws (ringL ts ws) ∧ (∀ i x y, 0 < i → (ringL ts ws)[0]? = some x → (ringL ts ws)[i]? = some y → x < y) ∧ 0 < (girF g sh).length ∧ (girF g sh).length ≤ (ringL ts ws).length := by
  unfold stuckB at hs
  rw [Bool.and_eq_true, Bool.and_eq_true, decide_eq_true_iff, List.any_eq_true] at hs
  obtain ⟨⟨_, h1⟩, x, hx, _⟩ := hs
  have hp : 0 < ts.length := by
    rw [h.len]
    exact List.length_pos_of_mem hx
  obtain ⟨e, hr, hlt⟩ := ring_ok hp (can_all h.len hw (List.eq_nil_of_length_eq_zero h1))
  have h1 := gir_least h.graph (hr.closed h hsh)
  have h4 := h1.2
  rw [List.length_map] at h4
  exact ⟨e, hr, hlt, List.length_pos_iff.2 h1.1, h4⟩
theorem RingOk.two {ts ws r : List Int} (h : RingOk ts ws r) {i : Nat} (hi : i < r.length) : stepT ts ws r[i] = r[(i + 1) % r.length]'(Nat.mod_lt _ (by omega)) := by
  rcases Nat.lt_or_ge (i + 1) r.length with h1 | h1
  · have e : (i + 1) % r.length = i + 1 := Nat.mod_eq_of_lt h1
    exact h.next i _ _ (List.getElem?_eq_getElem hi) (by rw [← List.getElem?_eq_getElem, e])
  · have e : (i + 1) % r.length = 0 := by rw [show i + 1 = r.length by omega, Nat.mod_self]
    exact h.back _ _ (by rw [← List.getElem?_eq_getElem, e]) (by rw [show r.length - 1 = i by omega]; exact List.getElem?_eq_getElem hi)
/-- The position of Tight: a token on each vertex of a closed walk wants the next one. -/
def rotL (l : List Int) : List Int := l.drop 1 ++ l.take 1
theorem rotL_length (l : List Int) : (rotL l).length = l.length := by
  unfold rotL
  rw [List.length_append, List.length_drop, List.length_take]; omega
theorem rotL_get {l : List Int} {i : Nat} (hi : i < l.length) : (rotL l)[i]? = some (l[(i + 1) % l.length]'(Nat.mod_lt _ (by omega))) := by
  unfold rotL
  rw [turn_get l 1 i (by omega)]
  rcases Nat.lt_or_ge (i + 1) l.length with h1 | h1
  · rw [if_pos (by omega), List.getElem?_eq_getElem (by omega)]
    congr 1
    have e : (i + 1) % l.length = i + 1 := Nat.mod_eq_of_lt h1
    simp only [e, Nat.add_comm 1 i]
  · rw [if_neg (by omega), if_pos hi, List.getElem?_eq_getElem (by omega)]
    congr 1
    have e : (i + 1) % l.length = 0 := by rw [show i + 1 = l.length by omega, Nat.mod_self]
    simp only [e, show i - (l.length - 1) = 0 by omega]
theorem nodup_ix {l : List Int} (h : l.Nodup) {i j : Nat} (hi : i < l.length) (hj : j < l.length) (e : l[i] = l[j]) : i = j := by
  rcases Nat.lt_trichotomy i j with h1 | h1 | h1
  · exact absurd e (List.pairwise_iff_getElem.1 h i j hi hj h1)
  · exact h1
  · exact absurd e.symm (List.pairwise_iff_getElem.1 h j i hj hi h1)
theorem onF_at {l : List Int} (h : l.Nodup) {i : Nat} (hi : i < l.length) : onF l l[i] = (i : Int) := by
  rcases onF_cases l l[i] with ⟨_, h1⟩ | ⟨j, hj, h1, h2⟩
  · exact absurd (List.getElem_mem hi) h1
  · rw [h2, nodup_ix h hj hi h1]
/-- Each token of the tight position waits for the next one. -/
theorem tight_step {l : List Int} (h : l.Nodup) {i : Nat} (hi : i < l.length) : atI (rotL l) i = l[(i + 1) % l.length]'(Nat.mod_lt _ (by omega)) ∧ stepT l (rotL l) i = (((i + 1) % l.length : Nat) : Int) := by
  have h1 : (i + 1) % l.length < l.length := Nat.mod_lt _ (by omega)
  have e : atI (rotL l) i = l[(i + 1) % l.length] := by
    have hr : i < (rotL l).length := by rw [rotL_length]; exact hi
    rw [atI_get hr]
    have := rotL_get hi
    rw [List.getElem?_eq_getElem hr] at this
    injection this
  refine ⟨e, ?_⟩
  unfold stepT
  rw [e]
  exact onF_at h h1
theorem gir_edge {g : GraphD} {sh : List Bool} (hg : validG g = true) (h : girF g sh ≠ []) {i : Nat} (hi : i < (girF g sh).length) : edgeI g (girF g sh)[i] ((girF g sh)[(i + 1) % (girF g sh).length]'(Nat.mod_lt _ (by omega))) := by
  have hc := gir_closed hg h
  rcases Nat.lt_or_ge (i + 1) (girF g sh).length with h1 | h1
  · have e : (i + 1) % (girF g sh).length = i + 1 := Nat.mod_eq_of_lt h1
    exact hc.walk.edge i _ _ (List.getElem?_eq_getElem hi) (by rw [← List.getElem?_eq_getElem, e])
  · have e : (i + 1) % (girF g sh).length = 0 := by rw [show i + 1 = (girF g sh).length by omega, Nat.mod_self]
    exact hc.back _ _ (by rw [← List.getElem?_eq_getElem, e]) (by rw [show (girF g sh).length - 1 = i by omega]; exact List.getElem?_eq_getElem hi)
theorem gir_few {g : GraphD} {sh : List Bool} (hg : validG g = true) : (girF g sh).length ≤ 24 := by
  by_cases h : girF g sh = []
  · rw [h]; simp
  · have hc := gir_closed hg h
    have h1 := nodup_len g.length ((girF g sh).map Int.toNat) (by
      show ((girF g sh).map Int.toNat).Pairwise (· ≠ ·)
      rw [List.pairwise_map, List.pairwise_iff_getElem]
      intro i j hi hj hij e
      have a := hc.walk.ok _ (List.getElem_mem hi)
      have b := hc.walk.ok _ (List.getElem_mem hj)
      exact (List.pairwise_iff_getElem.1 (gir_nodup hg) i j hi hj hij) (by have := a.1; have := b.1; omega)) (fun z hz => by
      obtain ⟨x, hx, rfl⟩ := List.mem_map.1 hz
      have a := hc.walk.ok x hx
      have := a.1; have := a.2.1; omega)
    rw [List.length_map] at h1
    have := validG_len hg
    omega
theorem tight_pos {g : GraphD} {sh : List Bool} (hg : validG g = true) (h : girF g sh ≠ []) : PosOk g (girF g sh) (rotL (girF g sh)) := by
  have hc := gir_closed hg h
  refine ⟨hg, (rotL_length _).symm, gir_few hg, fun i hi => ?_, gir_nodup hg, fun i hi hi' => ?_⟩
  · have a := hc.walk.ok _ (List.getElem_mem hi)
    exact ⟨a.1, a.2.1⟩
  · have e := (tight_step (gir_nodup (s := sh) hg) hi).1
    rw [atI_get hi'] at e
    rw [e]
    exact .inr (gir_edge hg h hi)
theorem tight_can {l : List Int} (h : l.Nodup) (h0 : ∀ x ∈ l, 0 ≤ x) : ∀ x : Int, 0 ≤ x → x < l.length → canT l (rotL l) x := fun x hx0 hx => by
  obtain ⟨i, rfl⟩ := Int.eq_ofNat_of_zero_le hx0
  have hi : i < l.length := by omega
  obtain ⟨e1, e2⟩ := tight_step h hi
  have hm := h0 _ (List.getElem_mem (show (i + 1) % l.length < l.length from Nat.mod_lt _ (by omega)))
  unfold canT
  unfold stepT at e2
  rw [e2, e1]
  omega
theorem tight_stuck {g : GraphD} {sh : List Bool} (hg : validG g = true) (h : girF g sh ≠ []) : stuckB g (girF g sh) (rotL (girF g sh)) = true := by
  have hp := tight_pos hg h
  have hc := gir_closed hg h
  have hl : 0 < (girF g sh).length := List.length_pos_iff.2 h
  unfold stuckB
  rw [posB_iff.2 hp, Bool.true_and, Bool.and_eq_true, decide_eq_true_iff, List.any_eq_true]
  constructor
  · have : freeL (girF g sh) (rotL (girF g sh)) (girF g sh).length = [] := by
      unfold freeL
      rw [List.map_eq_nil_iff, List.filter_eq_nil_iff]
      intro i hi
      have hi := List.mem_range.1 hi
      rw [(tight_step (gir_nodup (s := sh) hg) hi).1]
      simp only [decide_eq_true_eq, not_and, Decidable.not_not]
      exact fun _ => List.getElem_mem _
    rw [this]; rfl
  · have hr : 0 < (rotL (girF g sh)).length := by rw [rotL_length]; exact hl
    refine ⟨_, List.getElem_mem hr, decide_eq_true ?_⟩
    have e := (tight_step (gir_nodup (s := sh) hg) hl).1
    rw [atI_get hr] at e
    rw [e]
    exact (hc.walk.ok _ (List.getElem_mem _)).1
theorem tight_ring {l : List Int} (h : l.Nodup) (h0 : ∀ x ∈ l, 0 ≤ x) (hl : 0 < l.length) : ringE l (rotL l) = 0 ∧ (ringL l (rotL l)).length = l.length := by
  obtain ⟨e, hr, _⟩ := ring_ok hl (tight_can h h0)
  refine ⟨e, ?_⟩
  have hle := hr.len
  generalize ringL l (rotL l) = r at *
  have hp : 0 < r.length := List.length_pos_iff.2 hr.ne
  obtain ⟨a, ha⟩ := Int.eq_ofNat_of_zero_le (hr.rng _ (List.getElem_mem hp)).1
  have hal : a < l.length := by have := (hr.rng _ (List.getElem_mem hp)).2.1; omega
  have key : ∀ k (hk : k < r.length), r[k] = (((a + k) % l.length : Nat) : Int) := by
    intro k
    induction k with
    | zero => intro hk; rw [ha, Nat.add_zero, Nat.mod_eq_of_lt hal]
    | succ k ih =>
      intro hk
      have h1 := hr.next k _ _ (List.getElem?_eq_getElem (show k < r.length by omega)) (List.getElem?_eq_getElem hk)
      rw [← h1, ih (by omega), (tight_step h (Nat.mod_lt _ hl)).2]
      congr 1
      rw [Nat.mod_add_mod, Nat.add_assoc]
  have hb := hr.back _ _ (List.getElem?_eq_getElem hp) (List.getElem?_eq_getElem (show r.length - 1 < r.length by omega))
  rw [key _ (by omega), ha, (tight_step h (Nat.mod_lt _ hl)).2, Nat.mod_add_mod, show a + (r.length - 1) + 1 = a + r.length by omega] at hb
  have hb' : (a + r.length) % l.length = a := by omega
  rcases Nat.lt_or_ge r.length l.length with h1 | h1
  · exfalso
    rcases Nat.lt_or_ge (a + r.length) l.length with h2 | h2
    · rw [Nat.mod_eq_of_lt h2] at hb'; omega
    · rw [Nat.mod_eq_sub_mod h2, Nat.mod_eq_of_lt (by omega)] at hb'; omega
  · omega
end Go.Proofs.Ytfgpenekmokdiaa.Fl
namespace Go.Proofs.Ytfgpenekmokdiaa.Fl

/-- Each one's hop is the next one. -/
theorem pathF_hop {h : List Int} : ∀ (f : Nat) (v : Int) (k : Nat) (x y : Int), (pathF h f v)[k]? = some x → (pathF h f v)[k + 1]? = some y → atI h x = y
  | 0, v, k, x, y, _, hy => by simp [pathF] at hy
  | f + 1, v, 0, x, y, hx, hy => by
    simp only [pathF, List.getElem?_cons_zero, Option.some.injEq] at hx
    subst hx
    simp only [pathF, List.getElem?_cons_succ] at hy
    cases f with
    | zero => simpa [pathF] using hy
    | succ f => simpa [pathF] using hy
  | f + 1, v, k + 1, x, y, hx, hy => by
    simp only [pathF, List.getElem?_cons_succ] at hx hy
    exact pathF_hop f (atI h v) k x y hx hy
theorem reach_dist {g : GraphD} {s : List Bool} {a goal : Nat} (hg : validG g = true) (ha : a < g.length) (hgo : goal < g.length) : atB (reachL g s a) goal = true ↔ 0 ≤ dAt (distF g s goal) a := by
  rw [reachL_at hgo]
  constructor
  · intro h
    obtain ⟨k, hk⟩ := rn_of_path h
    exact (dist_le hg hk).1
  · intro h
    obtain ⟨k, hk⟩ := Int.eq_ofNat_of_zero_le h
    exact (dist_is hg hgo ha hk).path
/-- What is known of a path that is not empty. -/
structure PathOk (g : GraphD) (s : List Bool) (a goal : Nat) (p : List Int) : Prop where
  pos : 0 < p.length
  first : p[0]? = some (a : Int)
  last : p[p.length - 1]? = some (goal : Int)
  dist : dAt (distF g s goal) a = ((p.length - 1 : Nat) : Int)
  ok : ∀ (k : Nat) (x : Int), p[k]? = some x → okV g s x
  next : ∀ (k : Nat) (x y : Int), p[k]? = some x → p[k + 1]? = some y → atI (hopsL g (distF g s goal)) x = y ∧ y ∈ rowG g x.toNat
theorem first_cases {g : GraphD} {s : List Bool} {a goal : Nat} (hg : validG g = true) (ha : a < g.length) (hgo : goal < g.length) : (firstF g s a goal = [] ∧ dAt (distF g s goal) a < 0) ∨ PathOk g s a goal (firstF g s a goal) := by
  by_cases hd : dAt (distF g s goal) a < 0
  · left
    refine ⟨?_, hd⟩
    unfold firstF
    exact if_pos hd
  · right
    obtain ⟨f, hf⟩ := Int.eq_ofNat_of_zero_le (show 0 ≤ dAt (distF g s goal) a by omega)
    have e : firstF g s a goal = pathF (hopsL g (distF g s goal)) f a := by
      unfold firstF
      rw [show (distF g s goal).getD a (-1) = (f : Int) from hf, if_neg (by omega)]
      rfl
    obtain ⟨w1, w2, w3⟩ := pathF_walk (s := s) hg hgo f a ha hf
    rw [e]
    have hl := pathF_length (hopsL g (distF g s goal)) f (a : Int)
    refine ⟨by omega, w2, by rw [hl]; exact w3, by rw [hl, hf]; rfl, fun k x hx => w1.ok x (get_mem hx), fun k x y hx hy => ⟨pathF_hop f _ k x y hx hy, w1.edge k x y hx hy⟩⟩
theorem first_reach {g : GraphD} {s : List Bool} {a goal : Nat} (hg : validG g = true) (ha : a < g.length) (hgo : goal < g.length) : atB (reachL g s a) goal = true ↔ 0 < (firstF g s a goal).length := by
  rw [reach_dist hg ha hgo]
  rcases first_cases (s := s) hg ha hgo with ⟨h1, h2⟩ | h
  · rw [h1]
    constructor
    · intro h3; omega
    · intro h3; simp at h3
  · constructor
    · intro _; exact h.pos
    · intro _; rw [h.dist]; omega
end Go.Proofs.Ytfgpenekmokdiaa.Fl
namespace Go.Proofs.Ytfgpenekmokdiaa.Fl

structure MoveD where
  tok : Int
  frm : Int
  dst : Int
/-- One move; none if it is not legal. -/
def play1 (g : GraphD) (ts : List Int) (m : MoveD) : Option (List Int) :=
  if m.dst < 0 ∨ g.length ≤ m.dst ∨ m.dst ∈ ts then none
  else if m.frm = -1 ∧ m.tok = ts.length then some (ts ++ [m.dst])
  else if 0 ≤ m.tok ∧ m.tok < ts.length ∧ m.frm = atI ts m.tok ∧ m.dst ∈ rowG g m.frm.toNat then some (ts.set m.tok.toNat m.dst)
  else none
def playL (g : GraphD) : List Int → List MoveD → Option (List Int)
  | ts, [] => some ts
  | ts, m :: l => (play1 g ts m).bind (fun t => playL g t l)
theorem playL_append (g : GraphD) : ∀ (a b : List MoveD) (ts : List Int), playL g ts (a ++ b) = (playL g ts a).bind (fun t => playL g t b)
  | [], b, ts => rfl
  | m :: a, b, ts => by
    simp only [List.cons_append, playL]
    rcases play1 g ts m with _ | t
    · rfl
    · exact playL_append g a b t
theorem play_prefix {g : GraphD} : ∀ (l : List MoveD) (ts r : List Int) (q : Nat), playL g ts l = some r → ∃ r', playL g ts (l.take q) = some r'
  | _, ts, _, 0, _ => ⟨ts, rfl⟩
  | [], ts, _, q + 1, _ => ⟨ts, rfl⟩
  | m :: l, ts, r, q + 1, h => by
    simp only [playL] at h
    simp only [List.take_succ_cons, playL]
    rcases hp : play1 g ts m with _ | t
    · rw [hp] at h; cases h
    · rw [hp] at h
      exact play_prefix l t r q h
theorem play_enter {g : GraphD} {ts : List Int} {x : Int} (h0 : 0 ≤ x) (h1 : x < g.length) (hn : x ∉ ts) : play1 g ts ⟨ts.length, -1, x⟩ = some (ts ++ [x]) := by
  unfold play1
  rw [if_neg (by
    rintro (h | h | h)
    · simp only at h; omega
    · simp only at h; omega
    · exact hn h), if_pos ⟨rfl, rfl⟩]
theorem play_go {g : GraphD} {ts : List Int} {x y : Int} (hg : validG g = true) (hx0 : 0 ≤ x) (hx1 : x < g.length) (hy0 : 0 ≤ y) (hy1 : y < g.length) (he : y ∈ rowG g x.toNat) (hn : y ∉ ts) : play1 g (ts ++ [x]) ⟨ts.length, x, y⟩ = some (ts ++ [y]) := by
  obtain ⟨xn, rfl⟩ := Int.eq_ofNat_of_zero_le hx0
  have hxn : xn < g.length := by omega
  rw [Int.toNat_natCast] at he
  have hne := (rowOk_row hg hxn y he).2.2
  have hl : (ts ++ [(xn : Int)]).length = ts.length + 1 := by simp
  have hat : atI (ts ++ [(xn : Int)]) ts.length = xn := by
    rw [atI_get (by rw [hl]; omega)]
    simp
  unfold play1
  rw [if_neg (by
    rintro (h | h | h)
    · simp only at h; omega
    · simp only at h; omega
    · rcases List.mem_append.1 h with h | h
      · exact hn h
      · exact hne (List.mem_singleton.1 h)), if_neg (by intro h; have := h.1; simp only at this; omega), if_pos ⟨by simp only; omega, by simp only; rw [hl]; omega, by simp only; exact hat.symm, by simp only [Int.toNat_natCast]; exact he⟩]
  simp only [Int.toNat_natCast]
  rw [List.set_append_right _ _ (Nat.le_refl _), Nat.sub_self]
  rfl
/-- A token goes along a list of vertices. -/
theorem play_along {g : GraphD} {ts : List Int} {f : Nat → Int} (hg : validG g = true) : ∀ m : Nat, (∀ i, i ≤ m → 0 ≤ f i ∧ f i < g.length) → (∀ i, i < m → f (i + 1) ∈ rowG g (f i).toNat ∧ f (i + 1) ∉ ts) →
    playL g (ts ++ [f 0]) ((List.range m).map (fun i => (⟨ts.length, f i, f (i + 1)⟩ : MoveD))) = some (ts ++ [f m])
  | 0, _, _ => rfl
  | m + 1, h1, h2 => by
    rw [List.range_succ, List.map_append, playL_append, play_along hg m (fun i hi => h1 i (by omega)) (fun i hi => h2 i (by omega))]
    simp only [Option.bind_some, List.map_cons, List.map_nil, playL]
    rw [play_go hg (h1 m (by omega)).1 (h1 m (by omega)).2 (h1 (m + 1) (by omega)).1 (h1 (m + 1) (by omega)).2 (h2 m (by omega)).1 (h2 m (by omega)).2]
    rfl
/-- The vertex i steps behind the first one of a closed walk. -/
def wv (w : List Int) (i : Nat) : Int := atI w ((i % w.length : Nat) : Int)
theorem md {x n : Nat} (h : x < 2 * n) : x % n = if x < n then x else x - n := by
  split
  · rename_i h1; exact Nat.mod_eq_of_lt h1
  · rename_i h1
    rw [Nat.mod_eq_sub_mod (by omega), Nat.mod_eq_of_lt (by omega)]
theorem wv_get {w : List Int} (h : 0 < w.length) (i : Nat) : wv w i = w[i % w.length]'(Nat.mod_lt _ h) := atI_get (Nat.mod_lt _ h)
theorem wv_mem {w : List Int} (h : 0 < w.length) (i : Nat) : wv w i ∈ w := by rw [wv_get h]; exact List.getElem_mem _
theorem wv_inj {w : List Int} (hn : w.Nodup) {p a b : Nat} (hp : p < w.length) (ha : a < w.length) (hb : b < w.length) (e : wv w (p + a) = wv w (p + b)) : a = b := by
  have h0 : 0 < w.length := by omega
  rw [wv_get h0, wv_get h0] at e
  have h1 := nodup_ix hn (Nat.mod_lt _ h0) (Nat.mod_lt _ h0) e
  rw [md (by omega), md (by omega)] at h1
  split at h1 <;> split at h1 <;> omega
/-- The moves of token k. -/
def tokMoves (way w : List Int) (p k : Nat) : List MoveD :=
  ⟨k, -1, atI way 0⟩ :: ((List.range (way.length - 1)).map (fun (i : Nat) => (⟨k, atI way i, atI way ((i + 1 : Nat) : Int)⟩ : MoveD)) ++ (List.range (w.length - 1 - k)).map (fun (i : Nat) => (⟨k, wv w (p + i), wv w (p + (i + 1))⟩ : MoveD)))
def fillK (way w : List Int) (p : Nat) : Nat → List MoveD
  | 0 => []
  | k + 1 => fillK way w p k ++ tokMoves way w p k
def fillT (w : List Int) (p : Nat) (k : Nat) : List Int := (List.range k).map (fun j => wv w (p + (w.length - 1 - j)))
theorem fillT_len (w : List Int) (p k : Nat) : (fillT w p k).length = k := by simp [fillT]
theorem fillT_succ (w : List Int) (p k : Nat) : fillT w p (k + 1) = fillT w p k ++ [wv w (p + (w.length - 1 - k))] := by
  unfold fillT
  rw [List.range_succ, List.map_append]; rfl
/-- What the moves of Fill rest on: a closed walk of different vertices, and a path to its vertex p that meets it there only. -/
structure FillOk (g : GraphD) (way w : List Int) (p : Nat) : Prop where
  graph : validG g = true
  pl : p < w.length
  nodup : w.Nodup
  rng : ∀ x ∈ w, 0 ≤ x ∧ x < g.length
  edge : ∀ i : Nat, wv w (i + 1) ∈ rowG g (wv w i).toNat
  pos : 0 < way.length
  last : atI way ((way.length - 1 : Nat) : Int) = wv w p
  wrng : ∀ i : Nat, i < way.length → 0 ≤ atI way i ∧ atI way i < g.length
  wedge : ∀ i : Nat, i + 1 < way.length → atI way ((i + 1 : Nat) : Int) ∈ rowG g (atI way i).toNat
  off : ∀ i : Nat, i + 1 < way.length → atI way i ∉ w
theorem fill_token {g : GraphD} {way w : List Int} {p k : Nat} (h : FillOk g way w p) (hk : k < w.length) : playL g (fillT w p k) (tokMoves way w p k) = some (fillT w p (k + 1)) := by
  have h0 : 0 < w.length := by omega
  have hsub : ∀ x ∈ fillT w p k, ∃ j, j < k ∧ x = wv w (p + (w.length - 1 - j)) := fun x hx => by
    obtain ⟨j, hj, rfl⟩ := List.mem_map.1 hx
    exact ⟨j, List.mem_range.1 hj, rfl⟩
  have hin : ∀ x ∈ fillT w p k, x ∈ w := fun x hx => by
    obtain ⟨j, _, rfl⟩ := hsub x hx
    exact wv_mem h0 _
  have hout : ∀ i, i ≤ w.length - 1 - k → wv w (p + i) ∉ fillT w p k := fun i hi hx => by
    obtain ⟨j, hj, e⟩ := hsub _ hx
    have := wv_inj h.nodup h.pl (by omega) (by omega) e
    omega
  have hway : ∀ i, i < way.length → atI way i ∉ fillT w p k := fun i hi hx => by
    rcases Nat.lt_or_ge (i + 1) way.length with h1 | h1
    · exact h.off i h1 (hin _ hx)
    · have e := h.last
      rw [show way.length - 1 = i by omega] at e
      rw [e] at hx
      exact hout 0 (by omega) hx
  have e1 : play1 g (fillT w p k) ⟨k, -1, atI way 0⟩ = some (fillT w p k ++ [atI way 0]) := by
    have := play_enter (g := g) (ts := fillT w p k) (x := atI way 0) (h.wrng 0 h.pos).1 (h.wrng 0 h.pos).2 (hway 0 h.pos)
    rwa [fillT_len] at this
  have e2 := play_along (g := g) (ts := fillT w p k) (f := fun i => atI way (i : Int)) h.graph (way.length - 1) (fun i hi => h.wrng i (by have := h.pos; omega)) (fun i hi => ⟨h.wedge i (by omega), hway (i + 1) (by omega)⟩)
  have e3 := play_along (g := g) (ts := fillT w p k) (f := fun i => wv w (p + i)) h.graph (w.length - 1 - k) (fun i _ => h.rng _ (wv_mem h0 _)) (fun i hi => ⟨h.edge (p + i), hout (i + 1) (by omega)⟩)
  rw [fillT_len] at e2 e3
  simp only [Nat.add_zero] at e3
  unfold tokMoves
  simp only [playL]
  rw [e1]
  simp only [Option.bind_some]
  rw [playL_append]
  have e2' : playL g (fillT w p k ++ [atI way 0]) ((List.range (way.length - 1)).map (fun (i : Nat) => (⟨k, atI way i, atI way ((i + 1 : Nat) : Int)⟩ : MoveD))) = some (fillT w p k ++ [atI way ((way.length - 1 : Nat) : Int)]) := e2
  rw [e2', Option.bind_some, h.last, fillT_succ]
  exact e3
theorem fill_play {g : GraphD} {way w : List Int} {p : Nat} (h : FillOk g way w p) : ∀ k, k ≤ w.length → playL g [] (fillK way w p k) = some (fillT w p k)
  | 0, _ => rfl
  | k + 1, hk => by
    unfold fillK
    rw [playL_append, fill_play h k (by omega), Option.bind_some]
    exact fill_token h (by omega)
end Go.Proofs.Ytfgpenekmokdiaa.Fl
