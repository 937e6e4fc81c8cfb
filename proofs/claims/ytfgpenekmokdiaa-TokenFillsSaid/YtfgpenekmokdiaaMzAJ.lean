/- Joined texts. -/
import Derived.Test.YtfgpenekmokdiaaMzAH
import Derived.Test.YtfgpenekmokdiaaMzAI
namespace Go.Proofs.Ytfgpenekmokdiaa.Fl

/-- Each one's hop is the next one. -/
theorem pathF_hop {h : List Int} : ∀ (f : Nat) (v : Int) (k : Nat) (x y : Int), (pathF h f v)[k]? = some x → (pathF h f v)[k + 1]? = some y → atI h x = y
  | 0, v, k, x, y, _, hy => by simp [pathF] at hy
  | f + 1, v, 0, x, y, hx, hy => by
    simp only [pathF, List.getElem?_cons_zero, Option.some.injEq] at hx
    subst hx
    simp only [pathF, List.getElem?_cons_succ] at hy
    cases f with
    | zero => simpa [pathF] using hy
    | succ f => simpa [pathF] using hy
  | f + 1, v, k + 1, x, y, hx, hy => by
    simp only [pathF, List.getElem?_cons_succ] at hx hy
    exact pathF_hop f (atI h v) k x y hx hy
theorem reach_dist {g : GraphD} {s : List Bool} {a goal : Nat} (hg : validG g = true) (ha : a < g.length) (hgo : goal < g.length) : atB (reachL g s a) goal = true ↔ 0 ≤ dAt (distF g s goal) a := by
  rw [reachL_at hgo]
  constructor
  · intro h
    obtain ⟨k, hk⟩ := rn_of_path h
    exact (dist_le hg hk).1
  · intro h
    obtain ⟨k, hk⟩ := Int.eq_ofNat_of_zero_le h
    exact (dist_is hg hgo ha hk).path
/-- What is known of a path that is not empty. -/
structure PathOk (g : GraphD) (s : List Bool) (a goal : Nat) (p : List Int) : Prop where
  pos : 0 < p.length
  first : p[0]? = some (a : Int)
  last : p[p.length - 1]? = some (goal : Int)
  dist : dAt (distF g s goal) a = ((p.length - 1 : Nat) : Int)
  ok : ∀ (k : Nat) (x : Int), p[k]? = some x → okV g s x
  next : ∀ (k : Nat) (x y : Int), p[k]? = some x → p[k + 1]? = some y → atI (hopsL g (distF g s goal)) x = y ∧ y ∈ rowG g x.toNat
theorem first_cases {g : GraphD} {s : List Bool} {a goal : Nat} (hg : validG g = true) (ha : a < g.length) (hgo : goal < g.length) : (firstF g s a goal = [] ∧ dAt (distF g s goal) a < 0) ∨ PathOk g s a goal (firstF g s a goal) := by
  by_cases hd : dAt (distF g s goal) a < 0
  · left
    refine ⟨?_, hd⟩
    unfold firstF
    exact if_pos hd
  · right
    obtain ⟨f, hf⟩ := Int.eq_ofNat_of_zero_le (show 0 ≤ dAt (distF g s goal) a by omega)
    have e : firstF g s a goal = pathF (hopsL g (distF g s goal)) f a := by
      unfold firstF
      rw [show (distF g s goal).getD a (-1) = (f : Int) from hf, if_neg (by omega)]
      rfl
    obtain ⟨w1, w2, w3⟩ := pathF_walk (s := s) hg hgo f a ha hf
    rw [e]
    have hl := pathF_length (hopsL g (distF g s goal)) f (a : Int)
    refine ⟨by omega, w2, by rw [hl]; exact w3, by rw [hl, hf]; rfl, fun k x hx => w1.ok x (get_mem hx), fun k x y hx hy => ⟨pathF_hop f _ k x y hx hy, w1.edge k x y hx hy⟩⟩
theorem first_reach {g : GraphD} {s : List Bool} {a goal : Nat} (hg : validG g = true) (ha : a < g.length) (hgo : goal < g.length) : atB (reachL g s a) goal = true ↔ 0 < (firstF g s a goal).length := by
  rw [reach_dist hg ha hgo]
  rcases first_cases (s := s) hg ha hgo with ⟨h1, h2⟩ | h
  · rw [h1]
    constructor
    · intro h3; omega
    · intro h3; simp at h3
  · constructor
    · intro _; exact h.pos
    · intro _; rw [h.dist]; omega
end Go.Proofs.Ytfgpenekmokdiaa.Fl
namespace Go.Proofs.Ytfgpenekmokdiaa.Fl

structure MoveD where
  tok : Int
  frm : Int
  dst : Int
/-- One move; none if it is not legal. -/
def play1 (g : GraphD) (ts : List Int) (m : MoveD) : Option (List Int) :=
  if m.dst < 0 ∨ g.length ≤ m.dst ∨ m.dst ∈ ts then none
  else if m.frm = -1 ∧ m.tok = ts.length then some (ts ++ [m.dst])
  else if 0 ≤ m.tok ∧ m.tok < ts.length ∧ m.frm = atI ts m.tok ∧ m.dst ∈ rowG g m.frm.toNat then some (ts.set m.tok.toNat m.dst)
  else none
def playL (g : GraphD) : List Int → List MoveD → Option (List Int)
  | ts, [] => some ts
  | ts, m :: l => (play1 g ts m).bind (fun t => playL g t l)
theorem playL_append (g : GraphD) : ∀ (a b : List MoveD) (ts : List Int), playL g ts (a ++ b) = (playL g ts a).bind (fun t => playL g t b)
  | [], b, ts => rfl
  | m :: a, b, ts => by
    simp only [List.cons_append, playL]
    rcases play1 g ts m with _ | t
    · rfl
    · exact playL_append g a b t
theorem play_prefix {g : GraphD} : ∀ (l : List MoveD) (ts r : List Int) (q : Nat), playL g ts l = some r → ∃ r', playL g ts (l.take q) = some r'
  | _, ts, _, 0, _ => ⟨ts, rfl⟩
  | [], ts, _, q + 1, _ => ⟨ts, rfl⟩
  | m :: l, ts, r, q + 1, h => by
    simp only [playL] at h
    simp only [List.take_succ_cons, playL]
    rcases hp : play1 g ts m with _ | t
    · rw [hp] at h; cases h
    · rw [hp] at h
      exact play_prefix l t r q h
theorem play_enter {g : GraphD} {ts : List Int} {x : Int} (h0 : 0 ≤ x) (h1 : x < g.length) (hn : x ∉ ts) : play1 g ts ⟨ts.length, -1, x⟩ = some (ts ++ [x]) := by
  unfold play1
  rw [if_neg (by
    rintro (h | h | h)
    · simp only at h; omega
    · simp only at h; omega
    · exact hn h), if_pos ⟨rfl, rfl⟩]
theorem play_go {g : GraphD} {ts : List Int} {x y : Int} (hg : validG g = true) (hx0 : 0 ≤ x) (hx1 : x < g.length) (hy0 : 0 ≤ y) (hy1 : y < g.length) (he : y ∈ rowG g x.toNat) (hn : y ∉ ts) : play1 g (ts ++ [x]) ⟨ts.length, x, y⟩ = some (ts ++ [y]) := by
  obtain ⟨xn, rfl⟩ := Int.eq_ofNat_of_zero_le hx0
  have hxn : xn < g.length := by omega
  rw [Int.toNat_natCast] at he
  have hne := (rowOk_row hg hxn y he).2.2
  have hl : (ts ++ [(xn : Int)]).length = ts.length + 1 := by simp
  have hat : atI (ts ++ [(xn : Int)]) ts.length = xn := by
    rw [atI_get (by rw [hl]; omega)]
    simp
  unfold play1
  rw [if_neg (by
    rintro (h | h | h)
    · simp only at h; omega
    · simp only at h; omega
    · rcases List.mem_append.1 h with h | h
      · exact hn h
      · exact hne (List.mem_singleton.1 h)), if_neg (by intro h; have := h.1; simp only at this; omega), if_pos ⟨by simp only; omega, by simp only; rw [hl]; omega, by simp only; exact hat.symm, by simp only [Int.toNat_natCast]; exact he⟩]
  simp only [Int.toNat_natCast]
  rw [List.set_append_right _ _ (Nat.le_refl _), Nat.sub_self]
  rfl
/-- A token goes along a list of vertices. -/
theorem play_along {g : GraphD} {ts : List Int} {f : Nat → Int} (hg : validG g = true) : ∀ m : Nat, (∀ i, i ≤ m → 0 ≤ f i ∧ f i < g.length) → (∀ i, i < m → f (i + 1) ∈ rowG g (f i).toNat ∧ f (i + 1) ∉ ts) →
    playL g (ts ++ [f 0]) ((List.range m).map (fun i => (⟨ts.length, f i, f (i + 1)⟩ : MoveD))) = some (ts ++ [f m])
  | 0, _, _ => rfl
  | m + 1, h1, h2 => by
    rw [List.range_succ, List.map_append, playL_append, play_along hg m (fun i hi => h1 i (by omega)) (fun i hi => h2 i (by omega))]
    simp only [Option.bind_some, List.map_cons, List.map_nil, playL]
    rw [play_go hg (h1 m (by omega)).1 (h1 m (by omega)).2 (h1 (m + 1) (by omega)).1 (h1 (m + 1) (by omega)).2 (h2 m (by omega)).1 (h2 m (by omega)).2]
    rfl
/-- The vertex i steps behind the first one of a closed walk. -/
def wv (w : List Int) (i : Nat) : Int := atI w ((i % w.length : Nat) : Int)
theorem md {x n : Nat} (h : x < 2 * n) : x % n = if x < n then x else x - n := by
  split
  · rename_i h1; exact Nat.mod_eq_of_lt h1
  · rename_i h1
    rw [Nat.mod_eq_sub_mod (by omega), Nat.mod_eq_of_lt (by omega)]
theorem wv_get {w : List Int} (h : 0 < w.length) (i : Nat) : wv w i = w[i % w.length]'(Nat.mod_lt _ h) := atI_get (Nat.mod_lt _ h)
theorem wv_mem {w : List Int} (h : 0 < w.length) (i : Nat) : wv w i ∈ w := by rw [wv_get h]; exact List.getElem_mem _
theorem wv_inj {w : List Int} (hn : w.Nodup) {p a b : Nat} (hp : p < w.length) (ha : a < w.length) (hb : b < w.length) (e : wv w (p + a) = wv w (p + b)) : a = b := by
  have h0 : 0 < w.length := by omega
  rw [wv_get h0, wv_get h0] at e
  have h1 := nodup_ix hn (Nat.mod_lt _ h0) (Nat.mod_lt _ h0) e
  rw [md (by omega), md (by omega)] at h1
  split at h1 <;> split at h1 <;> omega
/-- The moves of token k. -/
def tokMoves (way w : List Int) (p k : Nat) : List MoveD :=
  ⟨k, -1, atI way 0⟩ :: ((List.range (way.length - 1)).map (fun (i : Nat) => (⟨k, atI way i, atI way ((i + 1 : Nat) : Int)⟩ : MoveD)) ++ (List.range (w.length - 1 - k)).map (fun (i : Nat) => (⟨k, wv w (p + i), wv w (p + (i + 1))⟩ : MoveD)))
def fillK (way w : List Int) (p : Nat) : Nat → List MoveD
  | 0 => []
  | k + 1 => fillK way w p k ++ tokMoves way w p k
def fillT (w : List Int) (p : Nat) (k : Nat) : List Int := (List.range k).map (fun j => wv w (p + (w.length - 1 - j)))
theorem fillT_len (w : List Int) (p k : Nat) : (fillT w p k).length = k := by simp [fillT]
theorem fillT_succ (w : List Int) (p k : Nat) : fillT w p (k + 1) = fillT w p k ++ [wv w (p + (w.length - 1 - k))] := by
  unfold fillT
  rw [List.range_succ, List.map_append]; rfl
/-- What the moves of Fill rest on: a closed walk of different vertices, and a path to its vertex p that meets it there only. -/
structure FillOk (g : GraphD) (way w : List Int) (p : Nat) : Prop where
  graph : validG g = true
  pl : p < w.length
  nodup : w.Nodup
  rng : ∀ x ∈ w, 0 ≤ x ∧ x < g.length
  edge : ∀ i : Nat, wv w (i + 1) ∈ rowG g (wv w i).toNat
  pos : 0 < way.length
  last : atI way ((way.length - 1 : Nat) : Int) = wv w p
  wrng : ∀ i : Nat, i < way.length → 0 ≤ atI way i ∧ atI way i < g.length
  wedge : ∀ i : Nat, i + 1 < way.length → atI way ((i + 1 : Nat) : Int) ∈ rowG g (atI way i).toNat
  off : ∀ i : Nat, i + 1 < way.length → atI way i ∉ w
theorem fill_token {g : GraphD} {way w : List Int} {p k : Nat} (h : FillOk g way w p) (hk : k < w.length) : playL g (fillT w p k) (tokMoves way w p k) = some (fillT w p (k + 1)) := by
  have h0 : 0 < w.length := by omega
  have hsub : ∀ x ∈ fillT w p k, ∃ j, j < k ∧ x = wv w (p + (w.length - 1 - j)) := fun x hx => by
    obtain ⟨j, hj, rfl⟩ := List.mem_map.1 hx
    exact ⟨j, List.mem_range.1 hj, rfl⟩
  have hin : ∀ x ∈ fillT w p k, x ∈ w := fun x hx => by
    obtain ⟨j, _, rfl⟩ := hsub x hx
    exact wv_mem h0 _
  have hout : ∀ i, i ≤ w.length - 1 - k → wv w (p + i) ∉ fillT w p k := fun i hi hx => by
    obtain ⟨j, hj, e⟩ := hsub _ hx
    have := wv_inj h.nodup h.pl (by omega) (by omega) e
    omega
  have hway : ∀ i, i < way.length → atI way i ∉ fillT w p k := fun i hi hx => by
    rcases Nat.lt_or_ge (i + 1) way.length with h1 | h1
    · exact h.off i h1 (hin _ hx)
    · have e := h.last
      rw [show way.length - 1 = i by omega] at e
      rw [e] at hx
      exact hout 0 (by omega) hx
  have e1 : play1 g (fillT w p k) ⟨k, -1, atI way 0⟩ = some (fillT w p k ++ [atI way 0]) := by
    have := play_enter (g := g) (ts := fillT w p k) (x := atI way 0) (h.wrng 0 h.pos).1 (h.wrng 0 h.pos).2 (hway 0 h.pos)
    rwa [fillT_len] at this
  have e2 := play_along (g := g) (ts := fillT w p k) (f := fun i => atI way (i : Int)) h.graph (way.length - 1) (fun i hi => h.wrng i (by have := h.pos; omega)) (fun i hi => ⟨h.wedge i (by omega), hway (i + 1) (by omega)⟩)
  have e3 := play_along (g := g) (ts := fillT w p k) (f := fun i => wv w (p + i)) h.graph (w.length - 1 - k) (fun i _ => h.rng _ (wv_mem h0 _)) (fun i hi => ⟨h.edge (p + i), hout (i + 1) (by omega)⟩)
  rw [fillT_len] at e2 e3
  simp only [Nat.add_zero] at e3
  unfold tokMoves
  simp only [playL]
  rw [e1]
  simp only [Option.bind_some]
  rw [playL_append]
  have e2' : playL g (fillT w p k ++ [atI way 0]) ((List.range (way.length - 1)).map (fun (i : Nat) => (⟨k, atI way i, atI way ((i + 1 : Nat) : Int)⟩ : MoveD))) = some (fillT w p k ++ [atI way ((way.length - 1 : Nat) : Int)]) := e2
  rw [e2', Option.bind_some, h.last, fillT_succ]
  exact e3
theorem fill_play {g : GraphD} {way w : List Int} {p : Nat} (h : FillOk g way w p) : ∀ k, k ≤ w.length → playL g [] (fillK way w p k) = some (fillT w p k)
  | 0, _ => rfl
  | k + 1, hk => by
    unfold fillK
    rw [playL_append, fill_play h k (by omega), Option.bind_some]
    exact fill_token h (by omega)
end Go.Proofs.Ytfgpenekmokdiaa.Fl
namespace Go.Proofs.Ytfgpenekmokdiaa.Fl

theorem path_at {p : List Int} {i : Nat} {x : Int} (h : p[i]? = some x) : atI p i = x := by
  obtain ⟨hi, e⟩ := List.getElem?_eq_some_iff.1 h
  rw [atI_get hi, e]
theorem path_some {p : List Int} {i : Nat} (h : i < p.length) : p[i]? = some (atI p i) := by
  rw [atI_get h, List.getElem?_eq_getElem h]
theorem fill_ok {g : GraphD} {sh : List Bool} {e p : Nat} (hg : validG g = true) (hw : girF g sh ≠ []) (he : e < g.length) (hp : p < (girF g sh).length)
    (hd : 0 ≤ dAt (distF g sh (atI (girF g sh) p).toNat) e) (hmin : ∀ q : Nat, q < (girF g sh).length → dAt (distF g sh (atI (girF g sh) q).toNat) e < 0 ∨ dAt (distF g sh (atI (girF g sh) p).toNat) e ≤ dAt (distF g sh (atI (girF g sh) q).toNat) e) :
    FillOk g (firstF g sh e (atI (girF g sh) p).toNat) (girF g sh) p := by
  have hc := gir_closed hg hw
  have hn := gir_nodup (s := sh) hg
  have hed : ∀ i : Nat, wv (girF g sh) (i + 1) ∈ rowG g (wv (girF g sh) i).toNat := fun i => by
    have h0 : 0 < (girF g sh).length := List.length_pos_iff.2 hw
    rw [wv_get h0, wv_get h0]
    have h1 := gir_edge hg hw (Nat.mod_lt i h0)
    simp only [Nat.mod_add_mod] at h1
    exact h1
  have hok : ∀ x ∈ girF g sh, okV g sh x := hc.walk.ok
  generalize girF g sh = w at *
  have h0 : 0 < w.length := by omega
  have hgo := hok _ (List.getElem_mem hp)
  have hgl : (atI w p).toNat < g.length := by rw [atI_get hp]; have := hgo.1; have := hgo.2.1; omega
  rcases first_cases (s := sh) hg he hgl with ⟨_, h1⟩ | hpath
  · omega
  · have hdist := hpath.dist
    have hlast := hpath.last
    rw [Int.toNat_of_nonneg (by rw [atI_get hp]; exact hgo.1)] at hlast
    have hwalk : WalkL g sh (firstF g sh e (atI w p).toNat) := ⟨fun hn0 => by have := hpath.pos; rw [hn0] at this; simp at this, fun x hx => by
      obtain ⟨k, hk, e⟩ := List.mem_iff_getElem.1 hx
      exact hpath.ok k x (by rw [← e]; exact List.getElem?_eq_getElem hk), fun i x y hx hy => (hpath.next i x y hx hy).2⟩
    have hfirst := hpath.first
    have hpos := hpath.pos
    have hnext := hpath.next
    have hpok := hpath.ok
    clear hpath
    generalize firstF g sh e (atI w p).toNat = way at *
    refine ⟨hg, hp, hn, fun x hx => ⟨(hok x hx).1, (hok x hx).2.1⟩, fun i => ?_, hpos, ?_, fun i hi => ?_, fun i hi => ?_, fun i hi hm => ?_⟩
    · exact hed i
    · rw [path_at hlast, wv, Nat.mod_eq_of_lt hp]
    · have h1 := hpok i _ (path_some hi)
      exact ⟨h1.1, h1.2.1⟩
    · exact (hnext i _ _ (path_some (by omega)) (path_some hi)).2
    · obtain ⟨q, hq, e1⟩ := List.mem_iff_getElem.1 hm
      have h1 := hwalk.rn i 0 _ _ hfirst (by rw [Nat.zero_add]; exact path_some (show i < way.length by omega))
      rw [Int.toNat_natCast] at h1
      have h2 := dist_le hg h1
      rw [← e1, ← atI_get hq] at h2
      have h3 := hmin q hq
      omega
/-- The nearest vertex of a walk among the first k: its distance and its place, or -1. -/
def nearK (g : GraphD) (sh : List Bool) (w : List Int) (e : Nat) : Nat → Int × Int
  | 0 => (-1, -1)
  | k + 1 =>
    let r := nearK g sh w e k
    let d := dAt (distF g sh (atI w k).toNat) e
    if 0 ≤ d ∧ (r.1 < 0 ∨ d < r.1 ∨ d = r.1 ∧ atI w k < atI w r.2) then (d, (k : Int)) else r
theorem nearK_ok (g : GraphD) (sh : List Bool) (w : List Int) (e : Nat) : ∀ k, (nearK g sh w e k = (-1, -1) ∧ ∀ j, j < k → dAt (distF g sh (atI w j).toNat) e < 0) ∨
    ∃ p, p < k ∧ nearK g sh w e k = (dAt (distF g sh (atI w p).toNat) e, (p : Int)) ∧ 0 ≤ dAt (distF g sh (atI w p).toNat) e ∧ ∀ j, j < k → dAt (distF g sh (atI w j).toNat) e < 0 ∨ dAt (distF g sh (atI w p).toNat) e ≤ dAt (distF g sh (atI w j).toNat) e
  | 0 => .inl ⟨rfl, fun j h => by omega⟩
  | k + 1 => by
    have ih := nearK_ok g sh w e k
    unfold nearK
    simp only
    generalize hdd : (fun j : Nat => dAt (distF g sh (atI w j).toNat) e) = D at *
    have hD : ∀ j : Nat, dAt (distF g sh (atI w j).toNat) e = D j := fun j => by rw [← hdd]
    simp only [hD] at ih ⊢
    rcases ih with ⟨h1, h2⟩ | ⟨p, hp, h1, h2, h3⟩
    · rw [h1]
      simp only
      by_cases h : 0 ≤ D k
      · rw [if_pos ⟨h, .inl (by omega)⟩]
        refine .inr ⟨k, by omega, rfl, h, fun j hj => ?_⟩
        rcases Nat.lt_succ_iff_lt_or_eq.1 hj with h3 | rfl
        · exact .inl (h2 j h3)
        · exact .inr (Int.le_refl _)
      · rw [if_neg (fun h' => h h'.1)]
        refine .inl ⟨rfl, fun j hj => ?_⟩
        rcases Nat.lt_succ_iff_lt_or_eq.1 hj with h3 | rfl
        · exact h2 j h3
        · omega
    · rw [h1]
      simp only
      by_cases h : 0 ≤ D k ∧ (D p < 0 ∨ D k < D p ∨ D k = D p ∧ atI w k < atI w p)
      · rw [if_pos h]
        refine .inr ⟨k, by omega, rfl, h.1, fun j hj => ?_⟩
        rcases Nat.lt_succ_iff_lt_or_eq.1 hj with h4 | rfl
        · rcases h3 j h4 with h5 | h5
          · exact .inl h5
          · right; omega
        · exact .inr (Int.le_refl _)
      · rw [if_neg h]
        refine .inr ⟨p, by omega, rfl, h2, fun j hj => ?_⟩
        rcases Nat.lt_succ_iff_lt_or_eq.1 hj with h4 | rfl
        · exact h3 j h4
        · by_cases h5 : 0 ≤ D j
          · right
            rcases Int.lt_or_le (D j) (D p) with h6 | h6
            · exact absurd ⟨h5, .inr (.inl h6)⟩ h
            · exact h6
          · left; omega
/-- The moves of Fill, and its error, at an entrance. -/
def nearP (g : GraphD) (e : Nat) : Int := (nearK g (List.replicate g.length false) (girF g (List.replicate g.length false)) e (girF g (List.replicate g.length false)).length).2
def fillM (g : GraphD) (e : Nat) : List MoveD := fillK (firstF g (List.replicate g.length false) e (atI (girF g (List.replicate g.length false)) (nearP g e)).toNat) (girF g (List.replicate g.length false)) (nearP g e).toNat (girF g (List.replicate g.length false)).length
/-- A vertex of the walk is reached if and only if Fill finds the nearest one; its moves are legal, and the tokens end on the walk. -/
theorem fill_all {g : GraphD} {e : Nat} (hg : validG g = true) (he : e < g.length) : (nearP g e < 0 ∧ ∀ x ∈ girF g (List.replicate g.length false), atB (reachL g (List.replicate g.length false) e) x.toNat = false) ∨
    (0 ≤ nearP g e ∧ nearP g e < (girF g (List.replicate g.length false)).length ∧ (∃ x ∈ girF g (List.replicate g.length false), atB (reachL g (List.replicate g.length false) e) x.toNat = true) ∧ ∃ ts, playL g [] (fillM g e) = some ts ∧ ts.length = (girF g (List.replicate g.length false)).length ∧ ∀ x ∈ ts, x ∈ girF g (List.replicate g.length false)) := by
  have hk := nearK_ok g (List.replicate g.length false) (girF g (List.replicate g.length false)) e (girF g (List.replicate g.length false)).length
  have hrd : ∀ j (hj : j < (girF g (List.replicate g.length false)).length), atB (reachL g (List.replicate g.length false) e) ((girF g (List.replicate g.length false))[j]).toNat = true ↔ 0 ≤ dAt (distF g (List.replicate g.length false) (atI (girF g (List.replicate g.length false)) j).toNat) e := fun j hj => by
    have hw : girF g (List.replicate g.length false) ≠ [] := fun h => by rw [h] at hj; simp at hj
    have hx := (gir_closed hg hw).walk.ok _ (List.getElem_mem hj)
    rw [atI_get hj]
    exact reach_dist hg he (by have := hx.1; have := hx.2.1; omega)
  rcases hk with ⟨h1, h2⟩ | ⟨p, hp, h1, h2, h3⟩
  · left
    refine ⟨by unfold nearP; rw [h1]; decide, fun x hx => ?_⟩
    obtain ⟨j, hj, rfl⟩ := List.mem_iff_getElem.1 hx
    have h4 := hrd j hj
    have h5 := h2 j hj
    rcases hb : atB (reachL g (List.replicate g.length false) e) ((girF g (List.replicate g.length false))[j]).toNat with _ | _
    · rfl
    · exact absurd (h4.1 hb) (by omega)
  · right
    have hw : girF g (List.replicate g.length false) ≠ [] := fun h => by rw [h] at hp; simp at hp
    have hnp : nearP g e = (p : Int) := by unfold nearP; rw [h1]
    refine ⟨by omega, by omega, ⟨_, List.getElem_mem hp, (hrd p hp).2 h2⟩, fillT (girF g (List.replicate g.length false)) p (girF g (List.replicate g.length false)).length, ?_, fillT_len _ _ _, fun x hx => ?_⟩
    · unfold fillM
      rw [hnp, Int.toNat_natCast]
      exact fill_play (fill_ok hg hw he hp h2 h3) _ (Nat.le_refl _)
    · obtain ⟨j, _, rfl⟩ := List.mem_map.1 hx
      exact wv_mem (by omega) _
end Go.Proofs.Ytfgpenekmokdiaa.Fl
namespace Go.Proofs.Ytfgpenekmokdiaa.Fl

/-- For each of 24 vertices the token on it, or -1. -/
def bdL (ts : List Int) : List Int := (List.range 24).map fun v : Nat => onF ts v
theorem bdL_length (ts : List Int) : (bdL ts).length = 24 := by simp [bdL]
theorem bdL_at {ts : List Int} {v : Nat} (h : v < 24) : (bdL ts)[v]? = some (onF ts v) := by simp [bdL, h]
theorem bdL_nil : bdL [] = List.replicate 24 (-1) := by decide
theorem onF_no {ts : List Int} {x : Int} (h : x ∉ ts) : onF ts x = -1 := by
  rcases onF_cases ts x with h1 | ⟨i, hi, h1, _⟩
  · exact h1.1
  · exact absurd (h1 ▸ List.getElem_mem hi) h
theorem onF_iff {ts : List Int} {x : Int} : onF ts x = -1 ↔ x ∉ ts := by
  refine ⟨fun h hm => ?_, onF_no⟩
  rcases onF_cases ts x with h1 | ⟨i, hi, _, h2⟩
  · exact h1.2 hm
  · omega
theorem onA_snoc : ∀ (l : List Int) (k : Nat) (v x : Int), v ∉ l → onA (l ++ [v]) k x = if x = v then ((k + l.length : Nat) : Int) else onA l k x
  | [], k, v, x, _ => by
    simp only [List.nil_append, onA, List.length_nil, Nat.add_zero]
    by_cases h : v = x
    · subst h; simp
    · rw [if_neg h, if_neg (fun e => h e.symm)]
  | y :: l, k, v, x, h => by
    have hy : ¬ y = v := fun e => h (by simp [e])
    simp only [List.cons_append, onA]
    by_cases h1 : y = x
    · rw [if_pos h1, if_pos h1, if_neg (fun e => hy (h1.trans e))]
    · rw [if_neg h1, if_neg h1, onA_snoc l (k + 1) v x (fun hm => h (List.mem_cons_of_mem _ hm)), List.length_cons]
      by_cases h2 : x = v
      · rw [if_pos h2, if_pos h2]; congr 1; omega
      · rw [if_neg h2, if_neg h2]
theorem onF_add {ts : List Int} {v x : Int} (h : v ∉ ts) : onF (ts ++ [v]) x = if x = v then (ts.length : Int) else onF ts x := by
  unfold onF
  rw [onA_snoc ts 0 v x h, Nat.zero_add]
theorem bdL_add {ts : List Int} {v : Nat} (h : (v : Int) ∉ ts) : (bdL ts).set v (ts.length : Int) = bdL (ts ++ [(v : Int)]) := by
  refine List.ext_getElem (by simp [bdL]) fun i h1 h2 => ?_
  rw [List.getElem_set]
  by_cases e : v = i
  · subst e; rw [if_pos rfl]; simp only [bdL, List.getElem_map, List.getElem_range]; rw [onF_add h, if_pos rfl]
  · rw [if_neg e]; simp only [bdL, List.getElem_map, List.getElem_range]; rw [onF_add h, if_neg (by omega)]
theorem set_nodup {ts : List Int} {t : Nat} {y : Int} (hn : ts.Nodup) (hy : y ∉ ts) : (ts.set t y).Nodup := by
  show (ts.set t y).Pairwise (· ≠ ·)
  rw [List.pairwise_iff_getElem]
  intro i j hi hj hij e
  rw [List.length_set] at hi hj
  rw [List.getElem_set, List.getElem_set] at e
  by_cases h1 : t = i
  · rw [if_pos h1, if_neg (by omega)] at e
    exact hy (e ▸ List.getElem_mem hj)
  · rw [if_neg h1] at e
    by_cases h2 : t = j
    · rw [if_pos h2] at e
      exact hy (e ▸ List.getElem_mem hi)
    · rw [if_neg h2] at e
      exact (List.pairwise_iff_getElem.1 hn i j hi hj hij) e
theorem onF_set {ts : List Int} {t : Nat} {y x : Int} (hn : ts.Nodup) (ht : t < ts.length) (hy : y ∉ ts) : onF (ts.set t y) x = if x = y then (t : Int) else if x = ts[t] then -1 else onF ts x := by
  have hn2 := set_nodup (t := t) hn hy
  have hl : (ts.set t y).length = ts.length := List.length_set
  by_cases h1 : x = y
  · rw [if_pos h1, h1]
    have e : (ts.set t y)[t]'(by rw [hl]; exact ht) = y := by rw [List.getElem_set, if_pos rfl]
    have := onF_at hn2 (i := t) (by rw [hl]; exact ht)
    rwa [e] at this
  · rw [if_neg h1]
    by_cases h2 : x = ts[t]
    · rw [if_pos h2]
      refine onF_no fun hm => ?_
      obtain ⟨i, hi, e⟩ := List.mem_iff_getElem.1 hm
      rw [hl] at hi
      rw [List.getElem_set] at e
      by_cases h3 : t = i
      · rw [if_pos h3] at e; exact h1 e.symm
      · rw [if_neg h3] at e
        exact h3 (nodup_ix hn ht hi (by rw [e, h2]))
    · rw [if_neg h2]
      rcases onF_cases ts x with ⟨e, hm⟩ | ⟨i, hi, e1, e2⟩
      · rw [e]
        refine onF_no fun hm2 => ?_
        obtain ⟨i, hi, e⟩ := List.mem_iff_getElem.1 hm2
        rw [hl] at hi
        rw [List.getElem_set] at e
        by_cases h3 : t = i
        · rw [if_pos h3] at e; exact h1 e.symm
        · rw [if_neg h3] at e; exact hm (e ▸ List.getElem_mem hi)
      · rw [e2]
        have h3 : ¬ t = i := fun h3 => h2 (by subst h3; exact e1.symm)
        have e : (ts.set t y)[i]'(by rw [hl]; exact hi) = x := by rw [List.getElem_set, if_neg h3, e1]
        have := onF_at hn2 (i := i) (by rw [hl]; exact hi)
        rwa [e] at this
/-- A token moves from its vertex f to the vertex y. -/
theorem bdL_move {ts : List Int} {t f y : Nat} (hn : ts.Nodup) (ht : t < ts.length) (hf : ts[t] = (f : Int)) (hy : (y : Int) ∉ ts) : ((bdL ts).set f (-1)).set y (t : Int) = bdL (ts.set t (y : Int)) := by
  refine List.ext_getElem (by simp [bdL]) fun i h1 h2 => ?_
  rw [List.getElem_set, List.getElem_set]
  have e : (bdL (ts.set t (y : Int)))[i] = onF (ts.set t (y : Int)) (i : Int) := by simp [bdL]
  rw [e, onF_set hn ht hy, hf]
  by_cases h3 : y = i
  · rw [if_pos h3, if_pos (show (i : Int) = (y : Int) by omega)]
  · rw [if_neg h3, if_neg (show ¬ (i : Int) = (y : Int) by omega)]
    by_cases h4 : f = i
    · rw [if_pos h4, if_pos (show (i : Int) = (f : Int) by omega)]
    · rw [if_neg h4, if_neg (show ¬ (i : Int) = (f : Int) by omega)]; simp [bdL]
/-- The first k tokens are in order. -/
def okK (g : GraphD) (ts ws : List Int) (k : Nat) : Prop := ∀ i, i < k → tokB g ts ws i = true
theorem tok_at {g : GraphD} {ts ws : List Int} {k : Nat} (h : k < ts.length) (h' : k < ws.length) : tokB g ts ws k = true ↔ (0 ≤ ts[k] ∧ ts[k] < g.length) ∧ onF (ts.take k) ts[k] = -1 ∧ (ws[k] = -1 ∨ ws[k] ∈ rowG g ts[k].toNat) := by
  unfold tokB
  rw [decide_eq_true_iff, atI_get h, atI_get h', onF_iff]
  constructor
  · rintro ⟨a, b, c, d⟩; exact ⟨⟨a, b⟩, c, d⟩
  · rintro ⟨⟨a, b⟩, c, d⟩; exact ⟨a, b, c, d⟩
theorem okK.more {g : GraphD} {ts ws : List Int} {k : Nat} (h : okK g ts ws k) (ht : tokB g ts ws k = true) : okK g ts ws (k + 1) := fun i hi => by
  rcases Nat.lt_succ_iff_lt_or_eq.1 hi with h1 | rfl
  · exact h i h1
  · exact ht
theorem okK.facts {g : GraphD} {ts ws : List Int} {k : Nat} (hg : validG g = true) (h : okK g ts ws k) (hk : k ≤ ts.length) : (ts.take k).Nodup ∧ (∀ x ∈ ts.take k, 0 ≤ x ∧ x < g.length) ∧ k ≤ 24 := by
  have key : ∀ i (hi : i < ts.length), i < k → 0 ≤ ts[i] ∧ ts[i] < g.length ∧ ts[i] ∉ ts.take i := fun i hi hik => by
    have h1 := of_decide_eq_true (h i hik)
    rw [atI_get hi] at h1
    exact ⟨h1.1, h1.2.1, h1.2.2.1⟩
  have hl : (ts.take k).length = k := by rw [List.length_take]; omega
  have hn : (ts.take k).Nodup := by
    show (ts.take k).Pairwise (· ≠ ·)
    rw [List.pairwise_iff_getElem]
    intro i j hi hj hij e
    rw [hl] at hi hj
    rw [List.getElem_take, List.getElem_take] at e
    apply (key j (by omega) hj).2.2
    rw [← e]
    exact List.mem_iff_getElem.2 ⟨i, by rw [List.length_take]; omega, by rw [List.getElem_take]⟩
  have hr : ∀ x ∈ ts.take k, 0 ≤ x ∧ x < g.length := fun x hx => by
    obtain ⟨i, hi, e⟩ := List.mem_iff_getElem.1 hx
    rw [hl] at hi
    rw [List.getElem_take] at e
    have := key i (by omega) hi
    rw [← e]; exact ⟨this.1, this.2.1⟩
  refine ⟨hn, hr, ?_⟩
  have h1 := nodup_len g.length ((ts.take k).map Int.toNat) (by
    show ((ts.take k).map Int.toNat).Pairwise (· ≠ ·)
    rw [List.pairwise_map, List.pairwise_iff_getElem]
    intro i j hi hj hij e
    have a := hr _ (List.getElem_mem hi)
    have b := hr _ (List.getElem_mem hj)
    exact (List.pairwise_iff_getElem.1 hn i j hi hj hij) (by omega)) (fun z hz => by
    obtain ⟨x, hx, rfl⟩ := List.mem_map.1 hz
    have a := hr x hx
    omega)
  rw [List.length_map, hl] at h1
  have := validG_len hg
  omega
theorem posB_ok {g : GraphD} {ts ws : List Int} (hg : validG g = true) (hl : ts.length = ws.length) (h : okK g ts ws ts.length) : posB g ts ws = true := by
  have h24 := (h.facts hg (Nat.le_refl _)).2.2
  unfold posB
  rw [hg, Bool.true_and, Bool.and_eq_true, decide_eq_true_iff, List.all_eq_true]
  exact ⟨⟨hl, h24⟩, fun i hi => h i (List.mem_range.1 hi)⟩
theorem posB_bad {g : GraphD} {ts ws : List Int} {k : Nat} (hk : k < ts.length) (h : tokB g ts ws k ≠ true) : posB g ts ws = false := by
  rcases hp : posB g ts ws with _ | _
  · rfl
  · exfalso
    unfold posB at hp
    rw [Bool.and_eq_true, List.all_eq_true] at hp
    exact h (hp.2 k (List.mem_range.2 hk))
theorem posB_graph {g : GraphD} {ts ws : List Int} (h : validG g = false) : posB g ts ws = false := by unfold posB; rw [h]; rfl
theorem posB_len {g : GraphD} {ts ws : List Int} (h : ts.length ≠ ws.length) : posB g ts ws = false := by
  rcases hp : posB g ts ws with _ | _
  · rfl
  · exact absurd (posB_iff.1 hp).len h
/-- What a valid position's token wants. -/
theorem PosOk.wantAt {g : GraphD} {ts ws : List Int} (h : PosOk g ts ws) {k : Nat} (hk : k < ws.length) : ws[k] = -1 ∨ ∃ v : Nat, ws[k] = (v : Int) ∧ v < g.length := by
  have hk' : k < ts.length := by rw [h.len]; exact hk
  rcases h.want k hk' hk with h1 | h1
  · exact .inl h1
  · right
    have hp := h.place k hk'
    have hr := rowOk_row h.graph (show ts[k].toNat < g.length by omega) _ h1
    exact ⟨ws[k].toNat, by omega, by omega⟩
theorem PosOk.minus {g : GraphD} {ts ws : List Int} (h : PosOk g ts ws) : onF ts (-1) = -1 := onF_no fun hm => by
  obtain ⟨i, hi, e⟩ := List.mem_iff_getElem.1 hm
  have := (h.place i hi).1
  omega
theorem any_want {g : GraphD} {ts ws : List Int} (h : PosOk g ts ws) : ws.any (fun x => decide (0 ≤ x)) = ws.any (fun x => x != -1) := by
  rw [Bool.eq_iff_iff, List.any_eq_true, List.any_eq_true]
  constructor
  · rintro ⟨x, hx, h1⟩
    exact ⟨x, hx, by simp at h1 ⊢; omega⟩
  · rintro ⟨x, hx, h1⟩
    obtain ⟨k, hk, rfl⟩ := List.mem_iff_getElem.1 hx
    refine ⟨_, hx, ?_⟩
    rcases h.wantAt hk with h2 | ⟨v, h2, _⟩
    · simp [h2] at h1
    · simp [h2]
end Go.Proofs.Ytfgpenekmokdiaa.Fl
