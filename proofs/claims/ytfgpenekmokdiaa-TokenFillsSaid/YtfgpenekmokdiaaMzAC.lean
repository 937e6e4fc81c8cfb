/- Joined texts. -/
import Derived.Test.YtfgpenekmokdiaaMzAB
import Derived.Test.YtfgpenekmokdiaaMzAA
import Derived.Test.YtfgpenekmokdiaaChecked
import Derived.WalkKit
import Derived.ProofKit
import Derived.BigQuiet
import Derived.OwnWalk
import Derived.Lib.Hide
import Derived.Deep.QuietTactic
import Derived.Deep.DeepCutAuto
import Derived.Deep.RegionHeld3
import Derived.Deep.RegionWith
import Derived.Deep.DrawnRows
namespace Go.Proofs.Ytfgpenekmokdiaa.Fl

theorem path_own {g : GraphD} {s : List Bool} {u v : Nat} : PathG (woG g s) s u v ↔ PathG g s u v := by
  constructor
  · intro h
    induction h with
    | refl h1 h2 => exact .refl (by rwa [woG_length] at h1) h2
    | step p e h1 h2 ih => exact .step ih ((woG_edge (by have := p.right.1; rwa [woG_length] at this)).1 e).1 (by rwa [woG_length] at h1) h2
  · intro h
    induction h with
    | refl h1 h2 => exact .refl (by rwa [woG_length]) h2
    | step p e h1 h2 ih => exact .step ih ((woG_edge p.right.1).2 ⟨e, p.right.2, h2⟩) (by rwa [woG_length]) h2
theorem both_own {g : GraphD} {s : List Bool} {u v : Nat} : both (woG g s) s u v ↔ both g s u v := by
  unfold both
  rw [path_own, path_own]

/-- Vertices that were left, A, and those of the way to the last one, S; z: those that no search enters. -/
structure Dfs (g : GraphD) (z : List Bool) (A S : List Nat) : Prop where
  nodup : (A ++ S).Nodup
  fresh : ∀ x ∈ A ++ S, x < g.length ∧ atB z x = false
  done : ∀ x ∈ A, ∀ y, EdgeG g x y → atB z y = true ∨ y ∈ A ++ S
  up : S.Pairwise (PathG g z)
  kos : ∀ x ∈ A, (∃ t ∈ S, both g z x t) ∨ ∀ y, PathG g z x y → ∃ x' A1 A2, A = A1 ++ x' :: A2 ∧ both g z x x' ∧ y ∈ A1 ++ [x']
theorem Dfs.nil (g : GraphD) (z : List Bool) : Dfs g z [] [] := ⟨by simp, by simp, by simp, .nil, by simp⟩
theorem Dfs.start {g : GraphD} {z : List Bool} {A : List Nat} {v : Nat} (h : Dfs g z A []) (hv : v < g.length) (hz : atB z v = false) (hn : v ∉ A) : Dfs g z A [v] := by
  have h1 := h.nodup
  have h2 := h.fresh
  have h3 := h.done
  have h4 := h.kos
  simp only [List.append_nil] at h1 h2 h3
  refine ⟨?_, ?_, fun x hx y he => ?_, List.pairwise_singleton _ _, fun x hx => ?_⟩
  · rw [List.nodup_append]
    exact ⟨h1, by simp, fun a ha b hb => by simp at hb; subst hb; exact fun e => hn (e ▸ ha)⟩
  · intro x hx
    rcases List.mem_append.1 hx with hx | hx
    · exact h2 x hx
    · simp at hx; subst hx; exact ⟨hv, hz⟩
  · rcases h3 x hx y he with h | h
    · exact .inl h
    · exact .inr (by simp [h])
  · rcases h4 x hx with ⟨t, ht, _⟩ | h
    · simp at ht
    · exact .inr h
theorem Dfs.push {g : GraphD} {z : List Bool} {A C : List Nat} {v y : Nat} (h : Dfs g z A (C ++ [v])) (he : EdgeG g v y) (hy : y < g.length) (hz : atB z y = false) (hn : y ∉ A ++ (C ++ [v])) : Dfs g z A (C ++ [v] ++ [y]) := by
  have hv := h.fresh v (by simp)
  refine ⟨?_, ?_, fun x hx u hu => ?_, ?_, fun x hx => ?_⟩
  · rw [← List.append_assoc, List.nodup_append]
    exact ⟨h.nodup, by simp, fun a ha b hb => by simp at hb; subst hb; exact fun e => hn (e ▸ ha)⟩
  · intro x hx
    rw [← List.append_assoc] at hx
    rcases List.mem_append.1 hx with hx | hx
    · exact h.fresh x hx
    · simp at hx; subst hx; exact ⟨hy, hz⟩
  · rcases h.done x hx u hu with h | h
    · exact .inl h
    · right; rw [← List.append_assoc]; exact List.mem_append_left _ h
  · rw [List.pairwise_append]
    refine ⟨h.up, List.pairwise_singleton _ _, fun a ha b hb => ?_⟩
    simp at hb
    subst hb
    have hav : PathG g z a v := by
      rcases List.mem_append.1 ha with ha | ha
      · exact (List.pairwise_append.1 h.up).2.2 a ha v (by simp)
      · simp at ha; subst ha; exact .refl hv.1 hv.2
    exact hav.step he hy hz
  · rcases h.kos x hx with ⟨t, ht, hb⟩ | h
    · exact .inl ⟨t, List.mem_append_left _ ht, hb⟩
    · exact .inr h
theorem Dfs.leave {g : GraphD} {z : List Bool} {A C : List Nat} {v : Nat} (h : Dfs g z A (C ++ [v])) (hd : ∀ y, EdgeG g v y → atB z y = true ∨ y ∈ A ++ (C ++ [v])) : Dfs g z (A ++ [v]) C := by
  have hv := h.fresh v (by simp)
  have hmem : ∀ x, x ∈ A ++ [v] ++ C ↔ x ∈ A ++ (C ++ [v]) := fun x => by
    simp only [List.mem_append, List.mem_singleton]
    constructor
    · rintro ((h | h) | h)
      · exact .inl h
      · exact .inr (.inr h)
      · exact .inr (.inl h)
    · rintro (h | h | h)
      · exact .inl (.inl h)
      · exact .inr h
      · exact .inl (.inr h)
  have hdone : ∀ x ∈ A ++ [v], ∀ y, EdgeG g x y → atB z y = true ∨ y ∈ A ++ [v] ++ C := fun x hx y he => by
    rcases List.mem_append.1 hx with hx | hx
    · rcases h.done x hx y he with h | h
      · exact .inl h
      · exact .inr ((hmem y).2 h)
    · simp at hx
      subst hx
      rcases hd y he with h | h
      · exact .inl h
      · exact .inr ((hmem y).2 h)
  have hup := List.pairwise_append.1 h.up
  refine ⟨?_, fun x hx => h.fresh x ((hmem x).1 hx), hdone, hup.1, fun x hx => ?_⟩
  · have h1 := h.nodup
    have hp : (A ++ [v] ++ C).Perm (A ++ (C ++ [v])) := by
      rw [List.append_assoc]
      exact List.Perm.append_left A List.perm_append_comm
    exact hp.nodup_iff.2 h1
  · by_cases hc : ∃ t ∈ C, both g z x t
    · exact .inl hc
    · right
      have key : both g z x v → ∀ y, PathG g z x y → ∃ x' A1 A2, A ++ [v] = A1 ++ x' :: A2 ∧ both g z x x' ∧ y ∈ A1 ++ [x'] := fun hxv y hy => by
        have hvy : PathG g z v y := hxv.2.trans hy
        have hP : y ∈ A ++ [v] ∧ PathG g z v y := by
          refine PathG.closed (P := fun a => a ∈ A ++ [v] ∧ PathG g z v a) ⟨by simp, .refl hv.1 hv.2⟩ (fun a b ⟨ha, hva⟩ e hb hbz => ?_) hvy
          have hvb := hva.step e hb hbz
          refine ⟨?_, hvb⟩
          rcases hdone a ha b e with h5 | h5
          · rw [hbz] at h5; cases h5
          · rcases List.mem_append.1 h5 with h5 | h5
            · exact h5
            · exact absurd ⟨b, h5, hxv.1.trans hvb, (hup.2.2 b h5 v (by simp)).trans hxv.2⟩ hc
        exact ⟨v, A, [], rfl, hxv, hP.1⟩
      rcases List.mem_append.1 hx with hx | hx
      · rcases h.kos x hx with ⟨t, ht, hb⟩ | h5
        · rcases List.mem_append.1 ht with ht | ht
          · exact absurd ⟨t, ht, hb⟩ hc
          · simp at ht; subst ht; exact key hb
        · intro y hy
          obtain ⟨x', A1, A2, h6, h7, h8⟩ := h5 y hy
          exact ⟨x', A1, A2 ++ [v], by rw [h6]; simp, h7, h8⟩
      · simp at hx
        subst hx
        exact key (.self hv.1 hv.2)
/-- Nothing leads out of what was left when no way is open. -/
theorem Dfs.closed {g : GraphD} {z : List Bool} {A : List Nat} (h : Dfs g z A []) {x y : Nat} (hx : x ∈ A) (he : EdgeG g x y) (hz : atB z y = false) : y ∈ A := by
  rcases h.done x hx y he with h | h
  · rw [hz] at h; cases h
  · simpa using h
theorem nodup_after {A1 A2 B1 B2 : List Nat} {v x : Nat} (hn : (A1 ++ x :: A2).Nodup) (he : A1 ++ x :: A2 = B1 ++ v :: B2) (hv : v ∈ A1) : x ∈ B2 := by
  obtain ⟨C1, C2, rfl⟩ := List.append_of_mem hv
  have e : C1 ++ v :: (C2 ++ x :: A2) = B1 ++ v :: B2 := by rw [← he]; simp
  rw [he] at hn
  have h1 : v ∉ B1 := fun h => by
    have := (List.nodup_append.1 hn).2.2 v h v (by simp)
    exact this rfl
  have h2 : v ∉ C1 := fun h => by
    rw [← e] at hn
    have := (List.nodup_append.1 hn).2.2 v h v (by simp)
    exact this rfl
  have h3 : ∀ (P Q R T : List Nat), v ∉ P → v ∉ Q → P ++ v :: R = Q ++ v :: T → R = T := by
    intro P
    induction P with
    | nil =>
      intro Q R T _ hQ h
      cases Q with
      | nil => simpa using h
      | cons q Q => simp at h; exact absurd h.1.symm (by intro h; subst h; simp at hQ)
    | cons p P ih =>
      intro Q R T hP hQ h
      cases Q with
      | nil => simp at h; exact absurd h.1 (by intro h; subst h; simp at hP)
      | cons q Q =>
        simp at h
        exact ih Q R T (fun h => hP (by simp [h])) (fun h => hQ (by simp [h])) h.2
  rw [← h3 C1 B1 _ _ h2 h1 e]
  simp
/-- What a search against the edges finds from the last vertex without a name: its component. -/
theorem kos_comp {g : GraphD} {s M : List Bool} {L L1 L2 l : List Nat} {v : Nat} (hg : validG g = true) (hL : Dfs g s L []) (hall : ∀ x, x < g.length → atB s x = false → x ∈ L) (hsp : L = L1 ++ v :: L2) (hM : ∀ x, atB s x = true → atB M x = true)
    (hu : ∀ x y, both g s x y → atB M x = true → atB M y = true) (h2 : ∀ x ∈ L2, atB M x = true) (hv : atB M v = false) (hl : Dfs (revG g) M l []) (hlv : v ∈ l) (hp : ∀ x ∈ l, PathG (revG g) M v x) (x : Nat) : x ∈ l ↔ both g s v x := by
  constructor
  · intro hx
    have h3 : PathG g s x v := (path_rev hg).2 (PathG.mono hM (hp x hx))
    have hxM := (hl.fresh x (by simpa using hx)).2
    have hxL := hall x h3.left.1 h3.left.2
    rcases hL.kos x hxL with ⟨t, ht, _⟩ | h4
    · simp at ht
    · obtain ⟨x', A1, A2, h5, h6, h7⟩ := h4 v h3
      have hx' : atB M x' = false := by
        rcases e : atB M x' with _ | _
        · rfl
        · rw [hu x' x h6.symm e] at hxM; cases hxM
      rcases List.mem_append.1 h7 with h7 | h7
      · have hn := hL.nodup
        rw [List.append_nil, h5] at hn
        have := nodup_after hn (h5.symm.trans hsp) h7
        rw [h2 x' this] at hx'
        cases hx'
      · simp at h7
        subst h7
        exact h6.symm
  · intro hb
    have key : ∀ a, PathG (revG g) s v a → PathG g s v a → a ∈ l := by
      intro a h
      induction h with
      | refl _ _ => exact fun _ => hlv
      | step p e h5 h6 ih =>
        rename_i b a
        intro hva
        have hbr := p.right
        rw [revG_length] at hbr h5
        have eab : EdgeG g a b := ((revG_edge hbr.1).1 e).2
        have hvb : PathG g s v b := hva.step eab hbr.1 hbr.2
        have haM : atB M a = false := by
          have hba : both g s a v := ⟨(path_rev hg).2 (p.step e (by rwa [revG_length]) h6), hva⟩
          rcases e2 : atB M a with _ | _
          · rfl
          · rw [hu a v hba e2] at hv; cases hv
        exact hl.closed (ih hvb) e haM
    exact key x ((path_rev hg).1 hb.2) hb.1
end Go.Proofs.Ytfgpenekmokdiaa.Fl
namespace Go.Proofs.Ytfgpenekmokdiaa
open Go Go.RowKit Fl

abbrev Iv (z : Int) : Value := .int .i64 z
abbrev Bo (b : Bool) : Value := .bool b
theorem gr_bool {a b : Bool} (h : a = b) : Ending.returned (.bool a) = .returned (.bool b) := by rw [h]
theorem gr_int {a b : Int} (h : a = b) : Ending.returned (.int .i64 a) = .returned (.int .i64 b) := by rw [h]
theorem Holds.iv {w : World} {A : Option Addr} {zs : List Int} (h : Holds w A (zs.map Iv)) {k : Nat} (hk : k < zs.length) : ∃ b o, A = some ⟨b, o, none⟩ ∧ w.cell? ⟨b, o + k, none⟩ = some (.int .i64 zs[k]) := by
  obtain ⟨b, o, hA, _, hc⟩ := h.at_ (by simp; omega)
  exact ⟨b, o, hA, by rw [hc k (by simpa using hk)]; simp⟩
theorem Holds.bo {w : World} {A : Option Addr} {zs : List Bool} (h : Holds w A (zs.map Bo)) {k : Nat} (hk : k < zs.length) : ∃ b o, A = some ⟨b, o, none⟩ ∧ w.cell? ⟨b, o + k, none⟩ = some (.bool zs[k]) := by
  obtain ⟨b, o, hA, _, hc⟩ := h.at_ (by simp; omega)
  exact ⟨b, o, hA, by rw [hc k (by simpa using hk)]; simp⟩
/-- From address A on, the cells hold slices that hold the rows of g. -/
def RowsAt (w : World) (A : Option Addr) (g : GraphD) : Prop := g = [] ∨ ∃ b o, A = some ⟨b, o, none⟩ ∧ b < w.heap.size ∧
  ∀ k (h : k < g.length), ∃ A1 c1, w.cell? ⟨b, o + k, none⟩ = some (.slice A1 g[k].length c1) ∧ Holds w A1 (g[k].map Iv)
theorem RowsAt.keep {w w' : World} {A : Option Addr} {g : GraphD} (h : RowsAt w A g) (hb : Below w.heap.size w w') : RowsAt w' A g := by
  rcases h with h | ⟨b, o, hA, hlt, hc⟩
  · exact .inl h
  · refine .inr ⟨b, o, hA, Nat.lt_of_lt_of_le hlt hb.size, fun k hk => ?_⟩
    obtain ⟨A1, c1, h1, h2⟩ := hc k hk
    exact ⟨A1, c1, (hb.cell (p := ⟨b, _, none⟩) hlt).trans h1, h2.keep hb⟩
theorem RowsAt.one {w : World} {A : Option Addr} {g : GraphD} (h : RowsAt w A g) {k : Nat} (hk : k < g.length) : ∃ b o A1 c1, A = some ⟨b, o, none⟩ ∧ w.cell? ⟨b, o + k, none⟩ = some (.slice A1 g[k].length c1) ∧ Holds w A1 (g[k].map Iv) := by
  rcases h with rfl | ⟨b, o, hA, _, hc⟩
  · simp at hk
  · obtain ⟨A1, c1, h⟩ := hc k hk
    exact ⟨b, o, A1, c1, hA, h⟩
theorem Try.infoIntG : (Try.prog.info? 3).map (fun i => (i.zero, i.size, i.bytes)) = some (some (.int .i64 0), 1, 8) := by kernel_rfl
/-- A row of the call's own: its slice. -/
theorem own_at {w : World} {base n : Nat} {e : TypeId} {v : Value} {xs : List Value} (h : w.ownsRow base e 1 v n xs) (hn : 0 < n) : ∃ g cap, v = .slice (some ⟨g, 0, none⟩) n cap ∧ base ≤ g ∧ n ≤ cap := by
  obtain ⟨h1, h2⟩ := h
  rcases h2 with ⟨_, h0⟩ | ⟨g, cap, cur, hv, hg, hh, hnc, _⟩
  · omega
  · exact ⟨g, cap, hv, hg, hnc⟩
theorem own_put {w : World} {base g n cap i : Nat} {e : TypeId} {xs : List Value} {v : Value} (h : w.ownsRow base e 1 (.slice (some ⟨g, 0, none⟩) n cap) n xs) : (w.setCell ⟨g, i, none⟩ v).ownsRow base e 1 (.slice (some ⟨g, 0, none⟩) n cap) n (xs.set i v) := by
  obtain ⟨h1, h2⟩ := h
  rcases h2 with ⟨hv, _⟩ | ⟨g', cap', cur, hv, hg, hh, hnc, hcm, hcs, hx⟩
  · cases hv
  · injection hv with hA _ hc
    injection hA with hA
    injection hA with hA
    subst hA hc
    refine ⟨by simpa using h1, .inr ⟨g, cap, cur.setIfInBounds i v, rfl, hg, ?_, hnc, hcm, by simpa using hcs, ?_⟩⟩
    · simp [World.setCell, Array.getElem?_modify]
      exact ⟨_, hh, by simp⟩
    · rw [← hx]; simp [List.take_set]
theorem own_get {w : World} {base n g cap i : Nat} {e : TypeId} {xs : List Value} (h : w.ownsRow base e 1 (.slice (some ⟨g, 0, none⟩) n cap) n xs) {u : Value} (hu : xs[i]? = some u) : w.cell? ⟨g, i, none⟩ = some u ∧ w.frozen? ⟨g, i, none⟩ = false := by
  obtain ⟨h1, h2⟩ := h
  rcases h2 with ⟨hv, _⟩ | ⟨g', cap', cur, hv, hg, hh, hnc, hcm, hcs, hx⟩
  · cases hv
  · injection hv with hA _ hc
    injection hA with hA
    injection hA with hA
    subst hA hc
    refine ⟨?_, by simp [World.frozen?, hh]⟩
    rw [cell_of_row w g i cur e (0, 0) hh]
    subst hx
    rw [List.getElem?_take] at hu
    split at hu
    · simpa using hu
    · cases hu
theorem own_blk {w : World} {base n g cap : Nat} {e : TypeId} {xs : List Value} (h : w.ownsRow base e 1 (.slice (some ⟨g, 0, none⟩) n cap) n xs) : g < w.heap.size := by
  obtain ⟨h1, h2⟩ := h
  rcases h2 with ⟨hv, _⟩ | ⟨g', cap', cur, hv, hg, hh, hnc, hcm, hcs, hx⟩
  · cases hv
  · injection hv with hA _ hc
    injection hA with hA
    injection hA with hA
    subst hA
    exact block_lt hh
theorem below_put {B : Nat} {w w' : World} {g i : Nat} {v : Value} (h : Below B w w') (hg : B ≤ g) : Below B w (w'.setCell ⟨g, i, none⟩ v) :=
  h.setCell (by simpa using hg) _
theorem own_is {w : World} {base n : Nat} {e : TypeId} {v : Value} {xs : List Value} (h : w.ownsRow base e 1 v n xs) : ∃ A c, v = .slice A n c ∧ Holds w A xs := by
  have h0 := h
  obtain ⟨h1, h2⟩ := h
  rcases h2 with ⟨rfl, rfl⟩ | ⟨g, cap, cur, rfl, _⟩
  · exact ⟨none, 0, rfl, ownsRow_holds h0⟩
  · exact ⟨_, cap, rfl, ownsRow_holds h0⟩
end Go.Proofs.Ytfgpenekmokdiaa
namespace Go.Proofs.Ytfgpenekmokdiaa
open Go Go.RowKit Fl

section
variable {ops : Array Oper} {rest : List Oper} {o : Oper} {a : Act} {Q : Exit → Act → World → Prop}
theorem app_any (w : World) (hgd : o.guard = none) (s x : Operand) (t e : TypeId) (z : Value) (bytes : Nat) (ht : Try.prog.underlying t = some (.slice e)) (hi : (Try.prog.info? e).map (fun i => (i.zero, i.size, i.bytes)) = some (some z, 1, bytes)) (hz : z.cells.size = 1) (hby : bytes ≤ 64)
    (ho : o.op = .call { callee := .builtin .append, args := #[s, x], argTypes := #[t, t] }) (base : Nat) (v : Value) (n : Nat) (xs : List Value) (hs : a.eval s = v) (hown : w.ownsRow base e 1 v n xs)
    (B : Nat) (u : Value) (hx : a.eval x = .slice (some ⟨B, 0, none⟩) 1 1) (hc : w.cell? ⟨B, 0, none⟩ = some u) (hu : u.oneCell' = true) (hn : n ≤ 1000000000) (hbase : base ≤ w.heap.size)
    (h : ∀ v' w', w'.ownsRow base e 1 v' (n + 1) (xs ++ [u]) → w.grownBy w' v.ownBlock → wpList Try.prog ops Q rest (a.put o.dst v') w') : wpList Try.prog ops Q (o :: rest) a w := by
  obtain ⟨i, h1, h2, h3, h4⟩ := info_parts hi
  refine wpList_append_own w hgd s x t ho base e i z 1 bytes ht h1 h2 h3 h4 hz (by decide) v n xs hs hown ⟨B, 0, none⟩ 1 1 [u] hx rfl ?_ ?_ ?_ ?_ hbase (fun v' w' g1 g2 _ => h v' w' g1 g2)
  · intro j y hy
    rcases j with _ | j
    · simp at hy; subst hy; simpa [Addr.add] using hc
    · simp at hy
  · intro y hy; simp at hy; subst hy; exact hu
  · unfold maxLen; omega
  · have : (n + 1) * bytes ≤ (n + 1) * 64 := Nat.mul_le_mul_left _ hby
    omega
theorem app_int (w : World) (hgd : o.guard = none) (s x : Operand) (ho : o.op = .call { callee := .builtin .append, args := #[s, x], argTypes := #[23, 23] }) (base : Nat) (v : Value) (n : Nat) (xs : List Value) (hs : a.eval s = v) (hown : w.ownsRow base 3 1 v n xs)
    (B : Nat) (z : Int) (hx : a.eval x = .slice (some ⟨B, 0, none⟩) 1 1) (hc : w.cell? ⟨B, 0, none⟩ = some (Iv z)) (hn : n ≤ 1000000000) (hbase : base ≤ w.heap.size)
    (h : ∀ v' w', w'.ownsRow base 3 1 v' (n + 1) (xs ++ [Iv z]) → w.grownBy w' v.ownBlock → wpList Try.prog ops Q rest (a.put o.dst v') w') : wpList Try.prog ops Q (o :: rest) a w :=
  app_any w hgd s x 23 3 (.int .i64 0) 8 Try.underlying23 Try.infoIntG rfl (by decide) ho base v n xs hs hown B (Iv z) hx hc rfl hn hbase h
theorem make_any (w : World) (hgd : o.guard = none) (l c : Operand) (t e : TypeId) (z : Value) (bytes : Nat) (ht : Try.prog.underlying t = some (.slice e)) (hi : (Try.prog.info? e).map (fun i => (i.zero, i.size, i.bytes)) = some (some z, 1, bytes)) (hzc : z.cells = #[z]) (hby : bytes ≤ 64)
    (hop : o.op = Op.makeSlice t l c) (kl kc : IntKind) (L C : Int) (n : Nat) (hl : a.eval l = .int kl L) (hc : a.eval c = .int kc C) (hL : L = (n : Int)) (hC : C = (n : Int)) (hn : n ≤ 1000000000)
    (h : ∀ w', w'.ownsRow w.heap.size e 1 (.slice (some ⟨w.heap.size, 0, none⟩) n n) n (List.replicate n z) → Below w.heap.size w w' → wpList Try.prog ops Q rest (a.put o.dst (.slice (some ⟨w.heap.size, 0, none⟩) n n)) w') : wpList Try.prog ops Q (o :: rest) a w := by
  obtain ⟨i, h1, h2, h3, h4⟩ := info_parts hi
  refine wpList_make_full w hgd l c t hop w.heap.size e i z 1 ht h1 h2 h3 kl kc L C n hl hc hL hC ?_ ?_ (Nat.le_refl _) (fun w' g1 g2 => h w' ?_ ((Below.refl _ _).grown g2 (Nat.le_refl _) (fun k hk => by cases hk)))
  · rw [h4]
    have : bytes * n ≤ 64 * n := Nat.mul_le_mul_right _ hby
    omega
  · unfold maxLen; omega
  · have e1 : (madeCells z.cells (n * 1)).toList = List.replicate n z := by
      rw [hzc, Nat.mul_one]
      simp [madeCells, Nat.mod_one, List.map_const']
    rwa [e1] at g1
end
end Go.Proofs.Ytfgpenekmokdiaa
namespace Go.Proofs.Ytfgpenekmokdiaa.Fl

def closedAt (g : GraphD) (s M : List Bool) (u : Nat) : Prop := ∀ y, EdgeG g u y → y < g.length → atB s y = false → atB M y = true
structure BfsInv (g : GraphD) (s : List Bool) (v : Nat) (M : List Bool) (Q : List Int) : Prop where
  len : M.length = g.length
  start : atB M v = true
  sound : ∀ u, atB M u = true → PathG g s v u
  queue : ∀ q ∈ Q, ∃ u : Nat, q = u ∧ u < g.length ∧ atB M u = true
  done : ∀ u, atB M u = true → (u : Int) ∈ Q ∨ closedAt g s M u
/-- In the midst of vertex x: m elements of its row are through. -/
structure BfsMid (g : GraphD) (s : List Bool) (v : Nat) (M : List Bool) (Q : List Int) (x m : Nat) : Prop where
  len : M.length = g.length
  start : atB M v = true
  sound : ∀ u, atB M u = true → PathG g s v u
  queue : ∀ q ∈ Q, ∃ u : Nat, q = u ∧ u < g.length ∧ atB M u = true
  here : atB M x = true
  done : ∀ u, atB M u = true → (u : Int) ∈ Q ∨ u = x ∨ closedAt g s M u
  part : ∀ j (h : j < (rowG g x).length), j < m → ∀ y : Nat, (rowG g x)[j] = y → y < g.length → atB s y = false → atB M y = true
def unm (M : List Bool) : Nat := M.count false
theorem atB_set {M : List Bool} {u y : Nat} (hy : y < M.length) : atB (M.set y true) u = if u = y then true else atB M u := by
  unfold atB
  rw [List.getD_eq_getElem?_getD, List.getElem?_set, List.getD_eq_getElem?_getD]
  by_cases e : u = y
  · subst e; simp [hy]
  · rw [if_neg (fun h => e h.symm), if_neg e]
theorem unm_set : ∀ {M : List Bool} {y : Nat}, y < M.length → atB M y = false → unm (M.set y true) + 1 = unm M
  | [], y, h, _ => by simp at h
  | b :: M, 0, _, hb => by
    have e : b = false := by simpa [atB] using hb
    subst e
    simp [unm]
  | b :: M, y + 1, h, hb => by
    have ih := unm_set (M := M) (y := y) (by simpa using h) (by simpa [atB] using hb)
    unfold unm at ih ⊢
    rw [List.set_cons_succ, List.count_cons, List.count_cons]
    omega
theorem bfs_start {g : GraphD} {s : List Bool} {v : Nat} (hv : v < g.length) (hs : atB s v = false) : BfsInv g s v ((List.replicate g.length false).set v true) [(v : Int)] := by
  have key : ∀ u, atB ((List.replicate g.length false).set v true) u = if u = v then true else false := fun u => by
    rw [atB_set (by simpa using hv)]
    by_cases e : u = v
    · rw [if_pos e, if_pos e]
    · rw [if_neg e, if_neg e]
      unfold atB
      rw [List.getD_eq_getElem?_getD, List.getElem?_replicate]
      split <;> rfl
  refine ⟨by simp, by rw [key, if_pos rfl], fun u hu => ?_, fun q hq => ?_, fun u hu => ?_⟩
  · rw [key] at hu
    split at hu
    · rename_i e; subst e; exact .refl hv hs
    · cases hu
  · simp at hq
    exact ⟨v, hq, hv, by rw [key, if_pos rfl]⟩
  · rw [key] at hu
    split at hu
    · rename_i e; subst e; exact .inl (by simp)
    · cases hu
theorem BfsInv.pop {g : GraphD} {s : List Bool} {v : Nat} {M : List Bool} {x : Int} {Q : List Int} (h : BfsInv g s v M (x :: Q)) : ∃ u : Nat, x = u ∧ u < g.length ∧ BfsMid g s v M Q u 0 := by
  obtain ⟨u, rfl, hu, hm⟩ := h.queue x (by simp)
  refine ⟨u, rfl, hu, h.len, h.start, h.sound, fun q hq => h.queue q (by simp [hq]), hm, fun z hz => ?_, fun j _ hj => by omega⟩
  rcases h.done z hz with h1 | h1
  · rcases List.mem_cons.1 h1 with h2 | h2
    · exact .inr (.inl (by omega))
    · exact .inl h2
  · exact .inr (.inr h1)
theorem BfsMid.skip {g : GraphD} {s : List Bool} {v : Nat} {M : List Bool} {Q : List Int} {x m : Nat} (h : BfsMid g s v M Q x m) (hs : ∀ (h : m < (rowG g x).length) (y : Nat), (rowG g x)[m] = y → atB s y = true ∨ atB M y = true) : BfsMid g s v M Q x (m + 1) := by
  refine ⟨h.len, h.start, h.sound, h.queue, h.here, h.done, fun j hj hjm y hy hyl hys => ?_⟩
  rcases Nat.lt_succ_iff_lt_or_eq.1 hjm with h' | rfl
  · exact h.part j hj h' y hy hyl hys
  · rcases hs hj y hy with h1 | h1
    · rw [h1] at hys; cases hys
    · exact h1
theorem BfsMid.mark {g : GraphD} {s : List Bool} {v : Nat} {M : List Bool} {Q : List Int} {x m y : Nat} (h : BfsMid g s v M Q x m) (hm : m < (rowG g x).length) (hy : (rowG g x)[m] = y) (hyl : y < g.length) (hys : atB s y = false) : BfsMid g s v (M.set y true) (Q ++ [(y : Int)]) x (m + 1) := by
  have hyM : y < M.length := by rw [h.len]; exact hyl
  have mono : ∀ u, atB M u = true → atB (M.set y true) u = true := fun u hu => by
    rw [atB_set hyM]; split
    · rfl
    · exact hu
  have hedge : EdgeG g x y := by unfold EdgeG; rw [← hy]; exact List.getElem_mem hm
  refine ⟨by simpa using h.len, mono _ h.start, fun u hu => ?_, fun q hq => ?_, mono _ h.here, fun u hu => ?_, fun j hj hjm z hz hzl hzs => ?_⟩
  · rw [atB_set hyM] at hu
    split at hu
    · rename_i e; subst e
      exact .step (h.sound x h.here) hedge hyl hys
    · exact h.sound u hu
  · rcases List.mem_append.1 hq with hq | hq
    · obtain ⟨u, h1, h2, h3⟩ := h.queue q hq
      exact ⟨u, h1, h2, mono _ h3⟩
    · simp at hq
      exact ⟨y, hq, hyl, by rw [atB_set hyM, if_pos rfl]⟩
  · rw [atB_set hyM] at hu
    split at hu
    · rename_i e; subst e; exact .inl (by simp)
    · rcases h.done u hu with h1 | h1 | h1
      · exact .inl (by simp [h1])
      · exact .inr (.inl h1)
      · exact .inr (.inr fun z hz hzl hzs => mono _ (h1 z hz hzl hzs))
  · rcases Nat.lt_succ_iff_lt_or_eq.1 hjm with h' | rfl
    · exact mono _ (h.part j hj h' z hz hzl hzs)
    · have : z = y := by omega
      subst this
      rw [atB_set hyM, if_pos rfl]
theorem BfsMid.over {g : GraphD} {s : List Bool} {v : Nat} {M : List Bool} {Q : List Int} {x m : Nat} (h : BfsMid g s v M Q x m) (hm : (rowG g x).length ≤ m) : BfsInv g s v M Q := by
  refine ⟨h.len, h.start, h.sound, h.queue, fun u hu => ?_⟩
  rcases h.done u hu with h1 | rfl | h1
  · exact .inl h1
  · refine .inr fun y hy hyl hys => ?_
    unfold EdgeG at hy
    obtain ⟨j, hj, e⟩ := List.mem_iff_getElem.1 hy
    exact h.part j hj (by omega) y e hyl hys
  · exact .inr h1
theorem BfsInv.end_ {g : GraphD} {s : List Bool} {v : Nat} {M : List Bool} (h : BfsInv g s v M []) : M = reachL g s v := by
  refine reachL_eq h.len fun x hx => ⟨h.sound x, fun hp => ?_⟩
  refine PathG.closed (P := fun u => atB M u = true) h.start (fun a b ha he hb hs => ?_) hp
  rcases h.done a ha with h1 | h1
  · simp at h1
  · exact h1 b he hb hs
theorem reachL_shut {g : GraphD} {s : List Bool} {v : Nat} (hs : atB s v = true) : reachL g s v = List.replicate g.length false := by
  refine (reachL_eq (by simp) fun x hx => ?_).symm
  constructor
  · intro h
    unfold atB at h
    rw [List.getD_eq_getElem?_getD, List.getElem?_replicate, if_pos hx] at h
    cases h
  · intro h
    have := h.left.2
    rw [hs] at this; cases this
end Go.Proofs.Ytfgpenekmokdiaa.Fl
