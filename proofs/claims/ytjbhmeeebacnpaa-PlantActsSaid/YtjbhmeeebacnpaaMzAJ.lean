/- Joined texts. -/
import Derived.Test.YtjbhmeeebacnpaaMzAA
import Derived.Test.YtjbhmeeebacnpaaChecked
import Derived.Test.YtjbhmeeebacnpaaMzAB
import Derived.WalkKit
import Derived.ProofKit
import Derived.BigQuiet
import Derived.Lib.Hide
import Derived.Deep.QuietTactic
import Derived.Test.YtjbhmeeebacnpaaMzAD
namespace Go.Proofs.Ytjbhmeeebacnpaa.Fl

/-- An edge from u to v. -/
def EdgeG (g : GraphD) (u v : Nat) : Prop := (v : Int) ∈ rowG g u
/-- u reaches v over open vertices. -/
inductive PathG (g : GraphD) (s : List Bool) : Nat → Nat → Prop
  | refl {u : Nat} : u < g.length → atB s u = false → PathG g s u u
  | step {u v x : Nat} : PathG g s u v → EdgeG g v x → x < g.length → atB s x = false → PathG g s u x
theorem PathG.right {g : GraphD} {s : List Bool} {u v : Nat} (h : PathG g s u v) : v < g.length ∧ atB s v = false := by
  cases h with
  | refl h1 h2 => exact ⟨h1, h2⟩
  | step _ _ h1 h2 => exact ⟨h1, h2⟩
theorem PathG.left {g : GraphD} {s : List Bool} {u v : Nat} (h : PathG g s u v) : u < g.length ∧ atB s u = false := by
  induction h with
  | refl h1 h2 => exact ⟨h1, h2⟩
  | step _ _ _ _ ih => exact ih
theorem PathG.trans {g : GraphD} {s : List Bool} {u v x : Nat} (h : PathG g s u v) (k : PathG g s v x) : PathG g s u x := by
  induction k with
  | refl _ _ => exact h
  | step _ e h1 h2 ih => exact .step ih e h1 h2
theorem PathG.head {g : GraphD} {s : List Bool} {u v x : Nat} (h1 : u < g.length) (h2 : atB s u = false) (e : EdgeG g u v) (k : PathG g s v x) : PathG g s u x :=
  (PathG.step (.refl h1 h2) e k.left.1 k.left.2).trans k
/-- With less shut, no less is reached. -/
theorem PathG.mono {g : GraphD} {s m : List Bool} (hs : ∀ v, atB s v = true → atB m v = true) {u v : Nat} (h : PathG g m u v) : PathG g s u v := by
  have key : ∀ v, atB m v = false → atB s v = false := fun v hv => by
    rcases h : atB s v with _ | _
    · rfl
    · rw [hs v h] at hv; cases hv
  induction h with
  | refl h1 h2 => exact .refl h1 (key _ h2)
  | step _ e h1 h2 ih => exact .step ih e h1 (key _ h2)
/-- A set that holds u and is closed under edges to open vertices holds all that u reaches. -/
theorem PathG.closed {g : GraphD} {s : List Bool} {P : Nat → Prop} {u v : Nat} (hu : P u) (hc : ∀ a b, P a → EdgeG g a b → b < g.length → atB s b = false → P b) (h : PathG g s u v) : P v := by
  induction h with
  | refl _ _ => exact hu
  | step _ e h1 h2 ih => exact hc _ _ ih e h1 h2
open Classical in
/-- Which vertices v reaches. -/
noncomputable def reachL (g : GraphD) (s : List Bool) (v : Nat) : List Bool := (List.range g.length).map (fun x => decide (PathG g s v x))
theorem reachL_length (g : GraphD) (s : List Bool) (v : Nat) : (reachL g s v).length = g.length := by simp [reachL]
theorem reachL_at {g : GraphD} {s : List Bool} {v x : Nat} (hx : x < g.length) : atB (reachL g s v) x = true ↔ PathG g s v x := by
  unfold atB reachL
  rw [List.getD_eq_getElem?_getD]
  simp [hx]
theorem reachL_eq {g : GraphD} {s l : List Bool} {v : Nat} (hl : l.length = g.length) (h : ∀ x, x < g.length → (atB l x = true ↔ PathG g s v x)) : l = reachL g s v := by
  apply List.ext_getElem?
  intro x
  rcases Nat.lt_or_ge x g.length with hx | hx
  · have h1 := h x hx
    have h2 := reachL_at (s := s) (v := v) hx
    have e : atB l x = atB (reachL g s v) x := by rw [Bool.eq_iff_iff, h1, h2]
    unfold atB at e
    rw [List.getD_eq_getElem?_getD, List.getD_eq_getElem?_getD, List.getElem?_eq_getElem (by omega), List.getElem?_eq_getElem (by rw [reachL_length]; omega)] at e
    rw [List.getElem?_eq_getElem (by omega), List.getElem?_eq_getElem (by rw [reachL_length]; omega)]
    simpa using e
  · rw [List.getElem?_eq_none (by omega), List.getElem?_eq_none (by rw [reachL_length]; omega)]

/-- Two strictly ascending lists with the same elements are the same. -/
theorem sorted_ext : ∀ {a b : List Int}, a.Pairwise (· < ·) → b.Pairwise (· < ·) → (∀ x, x ∈ a ↔ x ∈ b) → a = b
  | [], [], _, _, _ => rfl
  | [], y :: b, _, _, h => by have := (h y).2 (by simp); simp at this
  | x :: a, [], _, _, h => by have := (h x).1 (by simp); simp at this
  | x :: a, y :: b, ha, hb, h => by
    have h1 := List.pairwise_cons.1 ha
    have h2 := List.pairwise_cons.1 hb
    have e : x = y := by
      rcases List.mem_cons.1 ((h x).1 (by simp)) with e | hx
      · exact e
      · rcases List.mem_cons.1 ((h y).2 (by simp)) with e | hy
        · exact e.symm
        · have := h2.1 x hx; have := h1.1 y hy; omega
    subst e
    congr 1
    refine sorted_ext h1.2 h2.2 fun z => ?_
    have hz := h z
    rw [List.mem_cons, List.mem_cons] at hz
    constructor
    · intro hza
      rcases hz.1 (.inr hza) with e | hzb
      · have := h1.1 z hza; omega
      · exact hzb
    · intro hzb
      rcases hz.2 (.inr hzb) with e | hza
      · have := h2.1 z hzb; omega
      · exact hza
theorem validG_sorted {g : GraphD} (h : validG g = true) {k : Nat} (hk : k < g.length) : g[k].Pairwise (· < ·) := by
  unfold validG at h
  simp only [Bool.and_eq_true] at h
  exact (rowOk_sorted (rowsOk_at h.2 k hk)).1
theorem rowOk_mk {n v : Int} : ∀ {l : List Int} {p : Option Int}, l.Pairwise (· < ·) → (∀ x ∈ l, 0 ≤ x ∧ x < n ∧ x ≠ v) → (∀ y, p = some y → ∀ x ∈ l, y < x) → rowOk n v p l = true
  | [], _, _, _, _ => by simp [rowOk]
  | x :: l, p, hp, hm, hb => by
    have h1 := List.pairwise_cons.1 hp
    simp only [rowOk, Bool.and_eq_true, decide_eq_true_eq]
    refine ⟨⟨hm x (by simp), ?_⟩, rowOk_mk h1.2 (fun z hz => hm z (by simp [hz])) (fun y hy z hz => by injection hy with hy; subst hy; exact h1.1 z hz)⟩
    cases p with
    | none => rfl
    | some y => simpa [overP] using hb y rfl x (by simp)
theorem rowsOk_mk {n : Int} : ∀ {g : GraphD} {v : Int}, (∀ (k : Nat) (hk : k < g.length), rowOk n (v + k) none g[k] = true) → rowsOk n v g = true
  | [], _, _ => rfl
  | r :: g, v, h => by
    simp only [rowsOk, Bool.and_eq_true]
    refine ⟨by have := h 0 (by simp); rwa [show v + ((0 : Nat) : Int) = v by omega] at this, rowsOk_mk fun k hk => ?_⟩
    have := h (k + 1) (by simpa using hk)
    rw [show v + 1 + (k : Int) = v + ((k + 1 : Nat) : Int) by omega]
    simpa using this
theorem validG_mk {g : GraphD} (hl : g.length ≤ 24) (hs : ∀ (k : Nat) (hk : k < g.length), g[k].Pairwise (· < ·)) (hm : ∀ (k : Nat) (hk : k < g.length), ∀ x ∈ g[k], 0 ≤ x ∧ x < g.length ∧ x ≠ k) : validG g = true := by
  unfold validG
  rw [decide_eq_true hl, Bool.true_and]
  refine rowsOk_mk fun k hk => ?_
  rw [Int.zero_add]
  exact rowOk_mk (hs k hk) (hm k hk) (by simp)
theorem rowG_get {g : GraphD} {v : Nat} (hv : v < g.length) : rowG g v = g[v] := by unfold rowG; rw [List.getD_eq_getElem?_getD, List.getElem?_eq_getElem hv]; rfl
theorem rowG_out {g : GraphD} {v : Nat} (hv : g.length ≤ v) : rowG g v = [] := by unfold rowG; rw [List.getD_eq_getElem?_getD, List.getElem?_eq_none hv]; rfl
theorem EdgeG.range {g : GraphD} (hg : validG g = true) {u v : Nat} (h : EdgeG g u v) : u < g.length ∧ v < g.length ∧ v ≠ u := by
  rcases Nat.lt_or_ge u g.length with hu | hu
  · unfold EdgeG at h
    rw [rowG_get hu] at h
    have := validG_row hg hu _ h
    omega
  · unfold EdgeG at h
    rw [rowG_out hu] at h
    simp at h
/-- The vertices before k with an edge to x, ascending. -/
def intoK (g : GraphD) (k x : Nat) : List Int := ((List.range k).filter (fun (v : Nat) => decide ((x : Int) ∈ rowG g v))).map (fun v : Nat => (v : Int))
/-- The reversed graph. -/
def revG (g : GraphD) : GraphD := (List.range g.length).map (intoK g g.length)
theorem revG_length (g : GraphD) : (revG g).length = g.length := by simp [revG]
theorem intoK_sorted (g : GraphD) (k x : Nat) : (intoK g k x).Pairwise (· < ·) := by
  unfold intoK
  rw [List.pairwise_map]
  refine (List.Pairwise.filter _ (List.pairwise_lt_range (n := k))).imp fun h => ?_
  omega
theorem intoK_mem {g : GraphD} {k x : Nat} {z : Int} : z ∈ intoK g k x ↔ ∃ v : Nat, v < k ∧ (x : Int) ∈ rowG g v ∧ z = v := by
  unfold intoK
  simp only [List.mem_map, List.mem_filter, List.mem_range, decide_eq_true_eq]
  constructor
  · rintro ⟨v, ⟨h1, h2⟩, rfl⟩; exact ⟨v, h1, h2, rfl⟩
  · rintro ⟨v, h1, h2, rfl⟩; exact ⟨v, ⟨h1, h2⟩, rfl⟩
theorem revG_row {g : GraphD} {x : Nat} (hx : x < g.length) : rowG (revG g) x = intoK g g.length x := by
  unfold rowG revG
  rw [List.getD_eq_getElem?_getD]
  simp [hx]
theorem revG_edge {g : GraphD} {u v : Nat} (hu : u < g.length) : EdgeG (revG g) u v ↔ v < g.length ∧ EdgeG g v u := by
  unfold EdgeG
  rw [revG_row hu, intoK_mem]
  constructor
  · rintro ⟨a, h1, h2, h3⟩
    obtain rfl : v = a := by omega
    exact ⟨h1, h2⟩
  · rintro ⟨h1, h2⟩
    exact ⟨v, h1, h2, rfl⟩
theorem revG_valid {g : GraphD} (hg : validG g = true) : validG (revG g) = true := by
  refine validG_mk (by rw [revG_length]; exact validG_len hg) (fun k hk => ?_) (fun k hk x hx => ?_)
  · rw [revG_length] at hk
    rw [← rowG_get, revG_row hk]
    exact intoK_sorted _ _ _
  · have hk' := hk
    rw [revG_length] at hk'
    rw [← rowG_get, revG_row hk', intoK_mem] at hx
    obtain ⟨v, h1, h2, rfl⟩ := hx
    have h3 : EdgeG g v k := h2
    have := h3.range hg
    rw [revG_length]
    omega
theorem revG_rev {g : GraphD} (hg : validG g = true) : revG (revG g) = g := by
  apply List.ext_getElem (by rw [revG_length, revG_length])
  intro x h1 h2
  rw [← rowG_get, revG_row (by rw [revG_length]; exact h2)]
  refine sorted_ext (intoK_sorted _ _ _) (validG_sorted hg h2) fun z => ?_
  rw [intoK_mem, ← rowG_get h2]
  constructor
  · rintro ⟨v, h3, h4, rfl⟩
    rw [revG_length] at h3
    have h5 : EdgeG (revG g) v x := h4
    exact ((revG_edge h3).1 h5).2
  · intro hz
    rw [rowG_get h2] at hz
    have hr := validG_row hg h2 z hz
    refine ⟨z.toNat, by rw [revG_length]; omega, ?_, by omega⟩
    have : EdgeG (revG g) z.toNat x := (revG_edge (by omega)).2 ⟨h2, by unfold EdgeG; rw [rowG_get h2, show ((z.toNat : Nat) : Int) = z by omega]; exact hz⟩
    exact this
/-- Paths turn round with the edges. -/
theorem PathG.rev {g : GraphD} {s : List Bool} {u v : Nat} (h : PathG g s u v) : PathG (revG g) s v u := by
  induction h with
  | refl h1 h2 => exact .refl (by rwa [revG_length]) h2
  | step p e h1 h2 ih => exact .head (by rwa [revG_length]) h2 ((revG_edge h1).2 ⟨p.right.1, e⟩) ih
theorem path_rev {g : GraphD} {s : List Bool} (hg : validG g = true) {u v : Nat} : PathG g s u v ↔ PathG (revG g) s v u :=
  ⟨fun h => h.rev, fun h => by have := h.rev; rwa [revG_rev hg] at this⟩
/-- The graph without the edges from and to shut vertices. -/
def woRow (s : List Bool) (row : List Int) : List Int := row.filter (fun x => !atB s x.toNat)
def woG (g : GraphD) (s : List Bool) : GraphD := (List.range g.length).map (fun v => if atB s v then [] else woRow s (rowG g v))
theorem woG_length (g : GraphD) (s : List Bool) : (woG g s).length = g.length := by simp [woG]
theorem woG_row {g : GraphD} {s : List Bool} {x : Nat} (hx : x < g.length) : rowG (woG g s) x = if atB s x then [] else woRow s (rowG g x) := by
  rw [rowG_get (by rwa [woG_length])]
  simp [woG]
theorem woG_edge {g : GraphD} {s : List Bool} {u v : Nat} (hu : u < g.length) : EdgeG (woG g s) u v ↔ EdgeG g u v ∧ atB s u = false ∧ atB s v = false := by
  unfold EdgeG
  rw [woG_row hu]
  rcases h : atB s u with _ | _
  · simp [woRow]
  · simp
theorem woG_valid {g : GraphD} {s : List Bool} (hg : validG g = true) : validG (woG g s) = true := by
  refine validG_mk (by rw [woG_length]; exact validG_len hg) (fun k hk => ?_) (fun k hk x hx => ?_)
  · rw [woG_length] at hk
    rw [← rowG_get, woG_row hk]
    split
    · exact .nil
    · rw [rowG_get hk]
      exact (validG_sorted hg hk).filter _
  · have hk' := hk
    rw [woG_length] at hk'
    rw [← rowG_get, woG_row hk'] at hx
    rw [woG_length]
    split at hx
    · simp at hx
    · rw [rowG_get hk'] at hx
      exact validG_row hg hk' x (List.mem_filter.1 hx).1
/-- Between open vertices nothing changes without the edges at shut ones. -/
theorem path_wo {g : GraphD} {s z : List Bool} (hz : ∀ v, atB z v = false) {u v : Nat} (hu : atB s u = false) (hul : u < g.length) : PathG g s u v ↔ PathG (woG g s) z u v := by
  constructor
  · intro h
    induction h with
    | refl h1 h2 => exact .refl (by rwa [woG_length]) (hz _)
    | step p e h1 h2 ih => exact .step ih ((woG_edge p.right.1).2 ⟨e, p.right.2, h2⟩) (by rwa [woG_length]) (hz _)
  · intro h
    induction h with
    | refl h1 h2 => exact .refl hul hu
    | step p e h1 h2 ih =>
      have h3 := ih
      have h4 := (woG_edge h3.right.1).1 e
      exact .step h3 h4.1 (by rwa [woG_length] at h1) h4.2.2
/-- All open vertices reach each other if and only if one of them reaches all, in the graph and in the reversed one. -/
theorem mutual_one {g : GraphD} {s : List Bool} (hg : validG g = true) {a : Nat} (ha : a < g.length) (hs : atB s a = false) :
    (∀ u v, u < g.length → v < g.length → atB s u = false → atB s v = false → PathG g s u v) ↔ ∀ v, v < g.length → atB s v = false → PathG g s a v ∧ PathG (revG g) s a v := by
  constructor
  · intro h v hv hv2
    exact ⟨h a v ha hv hs hv2, (path_rev hg).1 (h v a hv ha hv2 hs)⟩
  · intro h u v hu hv hu2 hv2
    exact ((path_rev hg).2 (h u hu hu2).2).trans (h v hv hv2).1
end Go.Proofs.Ytjbhmeeebacnpaa.Fl
namespace Go.Proofs.Ytjbhmeeebacnpaa
open Go.RowKit

def CutPost (n : Int) (e : Ending) (w w' : World) : Prop := ∃ r : Nat, (r : Int) < n ∧ e = .returned (.int .i64 r) ∧ w = w'
theorem cut_c (v n : Int) (w : World) (h1 : 1 ≤ n) (hn : n ≤ 1000000) (hv1 : -9223372036854775808 ≤ v) (hv2 : v ≤ 9223372036854775807) : Calls Try.prog 12 #[.int .i64 v, .int .i64 n] w fun e w' => CutPost n e w w' := by
  by_cases h : n ≤ 1
  · go_enter Try.func12, Try.ntmps12
    go_wp2
    go_ret
    exact ⟨0, by omega, rfl, rfl⟩
  · have hlo : -n < v.tmod n := by have := Int.lt_tmod_of_pos v (show (0 : Int) < n by omega); omega
    have hhi : v.tmod n < n := Int.tmod_lt_of_pos v (by omega)
    by_cases h0 : 0 ≤ v
    · have e0 : v.tmod n = v % n := Int.tmod_eq_emod_of_nonneg h0
      rw [e0] at hlo hhi
      have hnn : 0 ≤ v % n := Int.emod_nonneg v (by omega)
      clear e0
      go_enter Try.func12, Try.ntmps12
      go_wp2
      go_ret
      exact ⟨(v % n).toNat, by omega, by rw [Int.toNat_of_nonneg hnn]; rfl, rfl⟩
    · have h0' : v < 0 := by omega
      clear h0
      by_cases hm : v.tmod n < 0
      · have hs1 : 0 ≤ v.tmod n + n := by omega
        go_enter Try.func12, Try.ntmps12
        go_wp2
        go_ret
        exact ⟨(v.tmod n + n).toNat, by omega, by rw [Int.toNat_of_nonneg hs1]; rfl, rfl⟩
      · have hs1 : 0 ≤ v.tmod n := by omega
        go_enter Try.func12, Try.ntmps12
        go_wp2
        go_ret
        exact ⟨(v.tmod n).toNat, by omega, by rw [Int.toNat_of_nonneg hs1]; rfl, rfl⟩

/-- Block g is a tape whose list lies below block B, and whose place is at most T. -/
def TapeOk (w : World) (B g T : Nat) : Prop := ∃ (A : Option Addr) (n c at_ : Nat) (zs : List Int),
  w.heap[g]? = some (.cells #[.slice A n c, .int .i64 at_] 35 (0, 0)) ∧ zs.length = n ∧ at_ ≤ T ∧ B ≤ g ∧ n ≤ maxLen ∧
  (0 < n → ∃ b o, A = some ⟨b, o, none⟩ ∧ b < B ∧ ∀ j (h : j < zs.length), w.cell? ⟨b, o + j, none⟩ = some (.int .i64 zs[j]) ∧ -9223372036854775808 ≤ zs[j] ∧ zs[j] ≤ 9223372036854775807)
theorem TapeOk.more {w : World} {B g T T' : Nat} (h : TapeOk w B g T) (hT : T ≤ T') : TapeOk w B g T' := by
  obtain ⟨A, n, c, at_, zs, h1, h2, h3, h4⟩ := h
  exact ⟨A, n, c, at_, zs, h1, h2, Nat.le_trans h3 hT, h4⟩
/-- A tape stays where nothing below the heap's end is written. -/
theorem TapeOk.keep {w w' : World} {B g T : Nat} (h : TapeOk w B g T) (hb : Below w.heap.size w w') : TapeOk w' B g T := by
  obtain ⟨A, n, c, at_, zs, h1, h2, h3, h4, h5, h6⟩ := h
  refine ⟨A, n, c, at_, zs, (hb.block g (block_lt h1)).trans h1, h2, h3, h4, h5, fun hn => ?_⟩
  obtain ⟨b, o, hA, hlt, hc⟩ := h6 hn
  exact ⟨b, o, hA, hlt, fun j hj => ⟨(hb.cell (p := ⟨b, o + j, none⟩) (by have := block_lt h1; show b < _; omega)).trans (hc j hj).1, (hc j hj).2⟩⟩
/-- .. and where a row of the call's own, of another type, may be written. -/
theorem TapeOk.grown {w w' : World} {B g T : Nat} {row : Option Nat} (h : TapeOk w B g T) (hg : w.grownBy w' row) (hr : row ≠ some g) (hB : ∀ k, row = some k → B ≤ k) : TapeOk w' B g T := by
  obtain ⟨A, n, c, at_, zs, h1, h2, h3, h4, h5, h6⟩ := h
  refine ⟨A, n, c, at_, zs, (hg.block g (block_lt h1) (fun e => hr e.symm)).trans h1, h2, h3, h4, h5, fun hn => ?_⟩
  obtain ⟨b, o, hA, hlt, hc⟩ := h6 hn
  refine ⟨b, o, hA, hlt, fun j hj => ⟨?_, (hc j hj).2⟩⟩
  have := World.cell?_of_block (w := w) (a := ⟨b, o + j, none⟩) (hg.block b (by have := block_lt h1; omega) (fun e => by have := hB b e.symm; omega))
  rw [this]; exact (hc j hj).1
def NextPost (B g T : Nat) (n : Int) (w : World) (e : Ending) (w' : World) : Prop := ∃ r : Nat, (r : Int) < n ∧ e = .returned (.int .i64 r) ∧ TapeOk w' B g (T + 1) ∧ w.grownBy w' (some g)
theorem tape_step {w : World} {B g T len c at_ nq : Nat} {A : Option Addr} {zs : List Int} (hh : w.heap[g]? = some (.cells #[.slice A len c, .int .i64 at_] 35 (0, 0))) (hlen : zs.length = len) (hat : at_ ≤ T) (hBg : B ≤ g) (hmax : len ≤ maxLen)
    (hcells : 0 < len → ∃ b o, A = some ⟨b, o, none⟩ ∧ b < B ∧ ∀ j (h : j < zs.length), w.cell? ⟨b, o + j, none⟩ = some (.int .i64 zs[j]) ∧ -9223372036854775808 ≤ zs[j] ∧ zs[j] ≤ 9223372036854775807) :
    TapeOk ((w.drewN nq).setCell ⟨g, 1, none⟩ (.int .i64 ((at_ : Int) + 1))) B g (T + 1) ∧ w.grownBy ((w.drewN nq).setCell ⟨g, 1, none⟩ (.int .i64 ((at_ : Int) + 1))) (some g) := by
  have hg : w.grownBy ((w.drewN nq).setCell ⟨g, 1, none⟩ (.int .i64 ((at_ : Int) + 1))) (some g) := by
    refine ⟨rfl, rfl, rfl, by simp [World.setCell, World.drewN], fun i hi hne => ?_⟩
    exact Below.heap_setCell (w.drewN nq) ⟨g, 1, none⟩ _ i (fun e => hne (by rw [e]))
  refine ⟨⟨A, len, c, at_ + 1, zs, ?_, hlen, by omega, hBg, hmax, fun hn => ?_⟩, hg⟩
  · simp [World.setCell, Array.getElem?_modify]
    exact ⟨_, hh, by simp⟩
  · obtain ⟨b, o, hA, hlt, hc⟩ := hcells hn
    refine ⟨b, o, hA, hlt, fun j hj => ⟨?_, (hc j hj).2⟩⟩
    have := World.cell?_of_block (w := w) (a := ⟨b, o + j, none⟩) (hg.block b (by have := block_lt hh; omega) (fun e => by injection e with e; omega))
    rw [this]; exact (hc j hj).1
set_option maxHeartbeats 1000000 in
theorem next_c (B g T : Nat) (n : Int) (w : World) (ht : TapeOk w B g T) (hT : T ≤ 1000000000) (h1 : 1 ≤ n) (hn : n ≤ 1000000) : Calls Try.prog 10 #[.pointer (some ⟨g, 0, none⟩), .int .i64 n] w (NextPost B g T n w) := by
  obtain ⟨A, len, c, at_, zs, hh, hlen, hat, hBg, hmax, hcells⟩ := ht
  unfold maxLen at hmax
  have hHH := Lib.hid hh
  have hlt := block_lt hh
  have c0 : w.cell? ⟨g, 0, none⟩ = some (.slice A len c) := by rw [cell_of_row w g 0 _ _ (0, 0) hh]; rfl
  have c1 : w.cell? ⟨g, 1, none⟩ = some (.int .i64 at_) := by rw [cell_of_row w g 1 _ _ (0, 0) hh]; rfl
  have hfz : w.frozen? ⟨g, 1, none⟩ = false := by simp [World.frozen?, hh]
  clear hh
  have HC := Lib.hid hcells
  by_cases hin : at_ < len
  · obtain ⟨b, o, rfl, _, hc⟩ := hcells (by omega)
    obtain ⟨e1, e2, e3⟩ := hc at_ (by omega)
    have HL := Lib.hid hlen
    clear hc hcells
    generalize zs[at_] = z at *
    clear hlen
    go_enter Try.func10, Try.ntmps10
    go_wp2
    go_quiet (fail)
    go_wp2
    go_quiet (fail)
    go_wp2_with fail
    refine (cut_c _ _ _ h1 hn e2 e3).mono ?_
    rintro e w1 ⟨r, hr, rfl, rfl⟩
    go_wp2_with fail
    go_ret
    have hts := fun q => tape_step (nq := q) hHH.out HL.out hat hBg hmax HC.out
    exact ⟨r, hr, rfl, (hts _).1, (hts _).2⟩
  · clear hcells
    go_enter Try.func10, Try.ntmps10
    go_wp2
    go_quiet (fail)
    go_wp2_with fail
    refine (cut_c _ _ _ h1 hn (by omega) (by omega)).mono ?_
    rintro e w1 ⟨r, hr, rfl, rfl⟩
    go_wp2_with fail
    go_ret
    obtain ⟨h2, h3⟩ := tape_step (nq := nq) hHH.out hlen hat hBg hmax HC.out
    exact ⟨r, hr, rfl, h2, h3⟩
end Go.Proofs.Ytjbhmeeebacnpaa
namespace Go.Proofs.Ytjbhmeeebacnpaa
open Go Go.RowKit Fl

theorem insL_sorted : ∀ {l : List Int} {x : Int}, l.Pairwise (· < ·) → x ∉ l → (insL l x).Pairwise (· < ·)
  | [], x, _, _ => by simp [insL]
  | y :: l, x, h, hx => by
    have h1 := List.pairwise_cons.1 h
    have hxy : x ≠ y := fun e => hx (by simp [e])
    have hxl : x ∉ l := fun e => hx (by simp [e])
    unfold insL
    split
    · refine .cons (fun z hz => ?_) h
      rcases List.mem_cons.1 hz with rfl | hz
      · assumption
      · have := h1.1 z hz; omega
    · refine .cons (fun z hz => ?_) (insL_sorted h1.2 hxl)
      rcases (insL_mem l x z).1 hz with rfl | hz
      · omega
      · exact h1.1 z hz
/-- Graphs as they are made: n vertices, rows ascending, to other vertices. -/
structure GrOk (n : Nat) (g : GraphD) : Prop where
  len : g.length = n
  sorted : ∀ r ∈ g, r.Pairwise (· < ·)
  range : ∀ (k : Nat) (hk : k < g.length), ∀ x ∈ g[k], 0 ≤ x ∧ x < n ∧ x ≠ k
theorem GrOk.valid {n : Nat} {g : GraphD} (h : GrOk n g) (hn : n ≤ 24) : validG g = true :=
  validG_mk (by rw [h.len]; exact hn) (fun k hk => h.sorted _ (List.getElem_mem hk)) (fun k hk x hx => by have := h.range k hk x hx; rw [h.len]; exact this)
theorem grOk_empty (n : Nat) : GrOk n (List.replicate n []) :=
  ⟨by simp, fun r hr => by rw [List.eq_of_mem_replicate hr]; exact .nil, fun k hk x hx => by simp at hx⟩
theorem GrOk.put {n : Nat} {g : GraphD} (h : GrOk n g) {v : Nat} {x : Int} (hv : v < g.length) (hx : 0 ≤ x ∧ x < n ∧ x ≠ v) (hn : x ∉ g[v]) : GrOk n (g.set v (insL g[v] x)) := by
  refine ⟨by simpa using h.len, fun r hr => ?_, fun k hk y hy => ?_⟩
  · rcases List.mem_or_eq_of_mem_set hr with hr | rfl
    · exact h.sorted r hr
    · exact insL_sorted (h.sorted _ (List.getElem_mem hv)) hn
  · rw [List.getElem_set] at hy
    split at hy
    · rename_i e
      subst e
      rcases (insL_mem _ _ _).1 hy with rfl | hy
      · exact hx
      · exact h.range v hv y hy
    · exact h.range k (by simpa using hk) y hy
/-- Rows of the call's own: the slice v holds slices that hold the rows of g, all of them in memory from block base on. -/
def RowsOwn (w : World) (base : Nat) (v : Value) (g : GraphD) : Prop :=
  ∃ vs : List Value, vs.length = g.length ∧ w.ownsRow base 25 1 v g.length vs ∧ ∀ (k : Nat) (u : Value) (r : List Int), vs[k]? = some u → g[k]? = some r → w.ownsRow base 3 1 u r.length (r.map Iv)
theorem RowsOwn.keep {w w' : World} {base : Nat} {v : Value} {g : GraphD} (h : RowsOwn w base v g) (hb : Below w.heap.size w w') : RowsOwn w' base v g := by
  obtain ⟨vs, h1, h2, h3⟩ := h
  exact ⟨vs, h1, ownsRow_below h2 hb, fun k u r hk hr => ownsRow_below (h3 k u r hk hr) hb⟩
theorem RowsOwn.but {w w' : World} {base q : Nat} {v : Value} {g : GraphD} (h : RowsOwn w base v g) (hw : w.grownBy w' (some q)) (hq : q < base) : RowsOwn w' base v g := by
  have key : ∀ {e : TypeId} {n : Nat} {u : Value} {xs : List Value}, w.ownsRow base e 1 u n xs → w'.ownsRow base e 1 u n xs := fun h => by
    obtain ⟨h1, hr⟩ := h
    refine ⟨h1, ?_⟩
    rcases hr with hr | ⟨b, cap, cur, hv, hgb, hh, hrest⟩
    · exact .inl hr
    · exact .inr ⟨b, cap, cur, hv, hgb, (hw.block b (block_lt hh) (fun e => by injection e with e; omega)).trans hh, hrest⟩
  obtain ⟨vs, h1, h2, h3⟩ := h
  exact ⟨vs, h1, key h2, fun k u r hk hr => key (h3 k u r hk hr)⟩
theorem RowsOwn.at_ {w : World} {base : Nat} {v : Value} {g : GraphD} (h : RowsOwn w base v g) : ∃ A c, v = .slice A g.length c ∧ RowsAt w A g := by
  obtain ⟨vs, h1, h2, h3⟩ := h
  obtain ⟨A, c, rfl, hh⟩ := own_is h2
  refine ⟨A, c, rfl, ?_⟩
  rcases Nat.eq_zero_or_pos g.length with h0 | h0
  · exact .inl (List.eq_nil_of_length_eq_zero h0)
  · obtain ⟨b, o, rfl, hlt, hc⟩ := hh.at_ (by omega)
    refine .inr ⟨b, o, rfl, hlt, fun k hk => ?_⟩
    have e1 := List.getElem?_eq_getElem (l := vs) (i := k) (by omega)
    have e2 := List.getElem?_eq_getElem hk
    have h4 := h3 k _ _ e1 e2
    obtain ⟨A1, c1, hv, h5⟩ := own_is h4
    refine ⟨A1, c1, ?_, h5⟩
    rw [hc k (by omega), hv]
/-- A row is put into the place of another one. -/
theorem RowsOwn.put {w w' : World} {base q cap k : Nat} {g : GraphD} {u : Value} {r : List Int} (h : RowsOwn w base (.slice (some ⟨q, 0, none⟩) g.length cap) g) (hr : w.ownsRow base 3 1 u r.length (r.map Iv)) (hw : w' = w.setCell ⟨q, k, none⟩ u) : RowsOwn w' base (.slice (some ⟨q, 0, none⟩) g.length cap) (g.set k r) := by
  subst hw
  obtain ⟨vs, h1, h2, h3⟩ := h
  have hq : ∃ cs, w.heap[q]? = some (.cells cs 25 (0, 0)) := by
    obtain ⟨_, h⟩ := h2
    rcases h with ⟨hv, _⟩ | ⟨g', cap', cur, hv, _, hh, _⟩
    · cases hv
    · injection hv with hA _ _
      injection hA with hA
      injection hA with hA
      subst hA
      exact ⟨cur, hh⟩
  obtain ⟨cs, hq⟩ := hq
  have key : ∀ {n : Nat} {u' : Value} {xs : List Value}, w.ownsRow base 3 1 u' n xs → (w.setCell ⟨q, k, none⟩ u).ownsRow base 3 1 u' n xs := fun h => by
    obtain ⟨h1, hr⟩ := h
    refine ⟨h1, ?_⟩
    rcases hr with hr | ⟨b, cap, cur, hv, hgb, hh, hrest⟩
    · exact .inl hr
    · refine .inr ⟨b, cap, cur, hv, hgb, (Below.heap_setCell _ _ _ _ (fun e => ?_)).trans hh, hrest⟩
      simp only at e
      subst e
      rw [hh] at hq
      injection hq with hq
      injection hq with _ h2
      exact absurd h2 (by decide)
  refine ⟨vs.set k u, by simpa using h1, by rw [List.length_set]; exact own_put h2, fun i u' r' hi hr' => ?_⟩
  rw [List.getElem?_set] at hi hr'
  by_cases e : k = i
  · subst e
    rw [if_pos rfl] at hi hr'
    split at hi
    · split at hr'
      · injection hi with hi
        injection hr' with hr'
        subst hi hr'
        exact key hr
      · cases hr'
    · cases hi
  · rw [if_neg e] at hi hr'
    exact key (h3 i u' r' hi hr')
theorem RowsOwn.cell {w : World} {base q n cap k : Nat} {g : GraphD} (h : RowsOwn w base (.slice (some ⟨q, 0, none⟩) n cap) g) (hk : k < g.length) : ∃ A1 c1, w.cell? ⟨q, k, none⟩ = some (.slice A1 g[k].length c1) ∧ w.frozen? ⟨q, k, none⟩ = false ∧ Holds w A1 (g[k].map Iv) := by
  obtain ⟨vs, h1, h2, h3⟩ := h
  have e1 := List.getElem?_eq_getElem (l := vs) (i := k) (by omega)
  obtain ⟨A1, c1, hv, h5⟩ := own_is (h3 k _ _ e1 (List.getElem?_eq_getElem hk))
  have hn : n = g.length := by
    obtain ⟨A, c, hv2, _⟩ := own_is h2
    injection hv2 with _ hn _
  subst hn
  obtain ⟨c2, c3⟩ := own_get h2 e1
  exact ⟨A1, c1, by rw [c2, hv], c3, h5⟩
/-- Below block U, but for block g, the world is as it was. -/
structure Still (g U : Nat) (w w' : World) : Prop where
  os : w'.os = w.os
  tape : w'.tape = w.tape
  output : w'.output = w.output
  size : w.heap.size ≤ w'.heap.size
  block : ∀ k, k < U → k ≠ g → w'.heap[k]? = w.heap[k]?
theorem Still.refl (g U : Nat) (w : World) : Still g U w w := ⟨rfl, rfl, rfl, Nat.le_refl _, fun _ _ _ => rfl⟩
theorem Still.trans {g U : Nat} {a b c : World} (h : Still g U a b) (k : Still g U b c) : Still g U a c :=
  ⟨k.os.trans h.os, k.tape.trans h.tape, k.output.trans h.output, Nat.le_trans h.size k.size, fun i hi hg => (k.block i hi hg).trans (h.block i hi hg)⟩
theorem Still.of_below {g U : Nat} {a b : World} (h : Below U a b) : Still g U a b := ⟨h.os, h.tape, h.output, h.size, fun k hk _ => h.block k hk⟩
theorem Still.of_grown {g U : Nat} {a b : World} (hg : a.grownBy b (some g)) (hU : U ≤ a.heap.size) : Still g U a b :=
  ⟨hg.os, hg.tape, hg.output, hg.size, fun k hk hne => hg.block k (by omega) (fun e => by injection e with e; omega)⟩
theorem Still.below {g U B : Nat} {a b : World} (h : Still g U a b) (hB : B ≤ U) (hg : B ≤ g) : Below B a b := ⟨h.os, h.tape, h.output, h.size, fun k hk => h.block k (by omega) (by omega)⟩
theorem Try.infoRowG : (Try.prog.info? 25).map (fun i => (i.zero, i.size, i.bytes)) = some (some (.slice none 0 0), 1, 24) := by kernel_rfl
theorem rowsOwn_new {w : World} {base q n : Nat} (h : w.ownsRow base 25 1 (.slice (some ⟨q, 0, none⟩) n n) n (List.replicate n (.slice none 0 0))) : RowsOwn w base (.slice (some ⟨q, 0, none⟩) n n) (List.replicate n []) := by
  refine ⟨List.replicate n (.slice none 0 0), by simp, by simpa using h, fun k u r hk hr => ?_⟩
  rw [List.getElem?_replicate] at hk hr
  by_cases hkn : k < n
  · rw [if_pos hkn] at hk hr
    injection hk with hk
    injection hr with hr
    subst hk hr
    exact World.ownsRow_nil _ _ _ _
  · rw [if_neg hkn] at hk
    cases hk
/-- What Graph returns. -/
def GraphPost (w : World) (B gt T most : Nat) (e : Ending) (w' : World) : Prop := ∃ (v : Value) (g : GraphD), e = .returned v ∧ g.length ≤ most ∧ GrOk g.length g ∧ RowsOwn w' w.heap.size v g ∧ TapeOk w' B gt (T + 1000) ∧ Still gt w.heap.size w w'
end Go.Proofs.Ytjbhmeeebacnpaa
