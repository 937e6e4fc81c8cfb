/- Searching depth-first: what its lists keep, and why the reversed search finds components. No program is named here. -/
import Derived.Test.YtcfnilemikenhaaCpSpec
namespace Go.Proofs.Ytcfnilemikenhaa.Fl

theorem path_own {g : GraphD} {s : List Bool} {u v : Nat} : PathG (woG g s) s u v ↔ PathG g s u v := by
  constructor
  · intro h
    induction h with
    | refl h1 h2 => exact .refl (by rwa [woG_length] at h1) h2
    | step p e h1 h2 ih => exact .step ih ((woG_edge (by have := p.right.1; rwa [woG_length] at this)).1 e).1 (by rwa [woG_length] at h1) h2
  · intro h
    induction h with
    | refl h1 h2 => exact .refl (by rwa [woG_length]) h2
    | step p e h1 h2 ih => exact .step ih ((woG_edge p.right.1).2 ⟨e, p.right.2, h2⟩) (by rwa [woG_length]) h2
theorem both_own {g : GraphD} {s : List Bool} {u v : Nat} : both (woG g s) s u v ↔ both g s u v := by
  unfold both
  rw [path_own, path_own]

/-- Vertices that were left, A, and those of the way to the last one, S; z: those that no search enters. -/
structure Dfs (g : GraphD) (z : List Bool) (A S : List Nat) : Prop where
  nodup : (A ++ S).Nodup
  fresh : ∀ x ∈ A ++ S, x < g.length ∧ atB z x = false
  done : ∀ x ∈ A, ∀ y, EdgeG g x y → atB z y = true ∨ y ∈ A ++ S
  up : S.Pairwise (PathG g z)
  kos : ∀ x ∈ A, (∃ t ∈ S, both g z x t) ∨ ∀ y, PathG g z x y → ∃ x' A1 A2, A = A1 ++ x' :: A2 ∧ both g z x x' ∧ y ∈ A1 ++ [x']
theorem Dfs.nil (g : GraphD) (z : List Bool) : Dfs g z [] [] := ⟨by simp, by simp, by simp, .nil, by simp⟩
theorem Dfs.start {g : GraphD} {z : List Bool} {A : List Nat} {v : Nat} (h : Dfs g z A []) (hv : v < g.length) (hz : atB z v = false) (hn : v ∉ A) : Dfs g z A [v] := by
  have h1 := h.nodup
  have h2 := h.fresh
  have h3 := h.done
  have h4 := h.kos
  simp only [List.append_nil] at h1 h2 h3
  refine ⟨?_, ?_, fun x hx y he => ?_, List.pairwise_singleton _ _, fun x hx => ?_⟩
  · rw [List.nodup_append]
    exact ⟨h1, by simp, fun a ha b hb => by simp at hb; subst hb; exact fun e => hn (e ▸ ha)⟩
  · intro x hx
    rcases List.mem_append.1 hx with hx | hx
    · exact h2 x hx
    · simp at hx; subst hx; exact ⟨hv, hz⟩
  · rcases h3 x hx y he with h | h
    · exact .inl h
    · exact .inr (by simp [h])
  · rcases h4 x hx with ⟨t, ht, _⟩ | h
    · simp at ht
    · exact .inr h
theorem Dfs.push {g : GraphD} {z : List Bool} {A C : List Nat} {v y : Nat} (h : Dfs g z A (C ++ [v])) (he : EdgeG g v y) (hy : y < g.length) (hz : atB z y = false) (hn : y ∉ A ++ (C ++ [v])) : Dfs g z A (C ++ [v] ++ [y]) := by
  have hv := h.fresh v (by simp)
  refine ⟨?_, ?_, fun x hx u hu => ?_, ?_, fun x hx => ?_⟩
  · rw [← List.append_assoc, List.nodup_append]
    exact ⟨h.nodup, by simp, fun a ha b hb => by simp at hb; subst hb; exact fun e => hn (e ▸ ha)⟩
  · intro x hx
    rw [← List.append_assoc] at hx
    rcases List.mem_append.1 hx with hx | hx
    · exact h.fresh x hx
    · simp at hx; subst hx; exact ⟨hy, hz⟩
  · rcases h.done x hx u hu with h | h
    · exact .inl h
    · right; rw [← List.append_assoc]; exact List.mem_append_left _ h
  · rw [List.pairwise_append]
    refine ⟨h.up, List.pairwise_singleton _ _, fun a ha b hb => ?_⟩
    simp at hb
    subst hb
    have hav : PathG g z a v := by
      rcases List.mem_append.1 ha with ha | ha
      · exact (List.pairwise_append.1 h.up).2.2 a ha v (by simp)
      · simp at ha; subst ha; exact .refl hv.1 hv.2
    exact hav.step he hy hz
  · rcases h.kos x hx with ⟨t, ht, hb⟩ | h
    · exact .inl ⟨t, List.mem_append_left _ ht, hb⟩
    · exact .inr h
theorem Dfs.leave {g : GraphD} {z : List Bool} {A C : List Nat} {v : Nat} (h : Dfs g z A (C ++ [v])) (hd : ∀ y, EdgeG g v y → atB z y = true ∨ y ∈ A ++ (C ++ [v])) : Dfs g z (A ++ [v]) C := by
  have hv := h.fresh v (by simp)
  have hmem : ∀ x, x ∈ A ++ [v] ++ C ↔ x ∈ A ++ (C ++ [v]) := fun x => by
    simp only [List.mem_append, List.mem_singleton]
    constructor
    · rintro ((h | h) | h)
      · exact .inl h
      · exact .inr (.inr h)
      · exact .inr (.inl h)
    · rintro (h | h | h)
      · exact .inl (.inl h)
      · exact .inr h
      · exact .inl (.inr h)
  have hdone : ∀ x ∈ A ++ [v], ∀ y, EdgeG g x y → atB z y = true ∨ y ∈ A ++ [v] ++ C := fun x hx y he => by
    rcases List.mem_append.1 hx with hx | hx
    · rcases h.done x hx y he with h | h
      · exact .inl h
      · exact .inr ((hmem y).2 h)
    · simp at hx
      subst hx
      rcases hd y he with h | h
      · exact .inl h
      · exact .inr ((hmem y).2 h)
  have hup := List.pairwise_append.1 h.up
  refine ⟨?_, fun x hx => h.fresh x ((hmem x).1 hx), hdone, hup.1, fun x hx => ?_⟩
  · have h1 := h.nodup
    have hp : (A ++ [v] ++ C).Perm (A ++ (C ++ [v])) := by
      rw [List.append_assoc]
      exact List.Perm.append_left A List.perm_append_comm
    exact hp.nodup_iff.2 h1
  · by_cases hc : ∃ t ∈ C, both g z x t
    · exact .inl hc
    · right
      have key : both g z x v → ∀ y, PathG g z x y → ∃ x' A1 A2, A ++ [v] = A1 ++ x' :: A2 ∧ both g z x x' ∧ y ∈ A1 ++ [x'] := fun hxv y hy => by
        have hvy : PathG g z v y := hxv.2.trans hy
        have hP : y ∈ A ++ [v] ∧ PathG g z v y := by
          refine PathG.closed (P := fun a => a ∈ A ++ [v] ∧ PathG g z v a) ⟨by simp, .refl hv.1 hv.2⟩ (fun a b ⟨ha, hva⟩ e hb hbz => ?_) hvy
          have hvb := hva.step e hb hbz
          refine ⟨?_, hvb⟩
          rcases hdone a ha b e with h5 | h5
          · rw [hbz] at h5; cases h5
          · rcases List.mem_append.1 h5 with h5 | h5
            · exact h5
            · exact absurd ⟨b, h5, hxv.1.trans hvb, (hup.2.2 b h5 v (by simp)).trans hxv.2⟩ hc
        exact ⟨v, A, [], rfl, hxv, hP.1⟩
      rcases List.mem_append.1 hx with hx | hx
      · rcases h.kos x hx with ⟨t, ht, hb⟩ | h5
        · rcases List.mem_append.1 ht with ht | ht
          · exact absurd ⟨t, ht, hb⟩ hc
          · simp at ht; subst ht; exact key hb
        · intro y hy
          obtain ⟨x', A1, A2, h6, h7, h8⟩ := h5 y hy
          exact ⟨x', A1, A2 ++ [v], by rw [h6]; simp, h7, h8⟩
      · simp at hx
        subst hx
        exact key (.self hv.1 hv.2)
/-- Nothing leads out of what was left when no way is open. -/
theorem Dfs.closed {g : GraphD} {z : List Bool} {A : List Nat} (h : Dfs g z A []) {x y : Nat} (hx : x ∈ A) (he : EdgeG g x y) (hz : atB z y = false) : y ∈ A := by
  rcases h.done x hx y he with h | h
  · rw [hz] at h; cases h
  · simpa using h
theorem nodup_after {A1 A2 B1 B2 : List Nat} {v x : Nat} (hn : (A1 ++ x :: A2).Nodup) (he : A1 ++ x :: A2 = B1 ++ v :: B2) (hv : v ∈ A1) : x ∈ B2 := by
  obtain ⟨C1, C2, rfl⟩ := List.append_of_mem hv
  have e : C1 ++ v :: (C2 ++ x :: A2) = B1 ++ v :: B2 := by rw [← he]; simp
  rw [he] at hn
  have h1 : v ∉ B1 := fun h => by
    have := (List.nodup_append.1 hn).2.2 v h v (by simp)
    exact this rfl
  have h2 : v ∉ C1 := fun h => by
    rw [← e] at hn
    have := (List.nodup_append.1 hn).2.2 v h v (by simp)
    exact this rfl
  have h3 : ∀ (P Q R T : List Nat), v ∉ P → v ∉ Q → P ++ v :: R = Q ++ v :: T → R = T := by
    intro P
    induction P with
    | nil =>
      intro Q R T _ hQ h
      cases Q with
      | nil => simpa using h
      | cons q Q => simp at h; exact absurd h.1.symm (by intro h; subst h; simp at hQ)
    | cons p P ih =>
      intro Q R T hP hQ h
      cases Q with
      | nil => simp at h; exact absurd h.1 (by intro h; subst h; simp at hP)
      | cons q Q =>
        simp at h
        exact ih Q R T (fun h => hP (by simp [h])) (fun h => hQ (by simp [h])) h.2
  rw [← h3 C1 B1 _ _ h2 h1 e]
  simp
/-- What a search against the edges finds from the last vertex without a name: its component. -/
theorem kos_comp {g : GraphD} {s M : List Bool} {L L1 L2 l : List Nat} {v : Nat} (hg : validG g = true) (hL : Dfs g s L []) (hall : ∀ x, x < g.length → atB s x = false → x ∈ L) (hsp : L = L1 ++ v :: L2) (hM : ∀ x, atB s x = true → atB M x = true)
    (hu : ∀ x y, both g s x y → atB M x = true → atB M y = true) (h2 : ∀ x ∈ L2, atB M x = true) (hv : atB M v = false) (hl : Dfs (revG g) M l []) (hlv : v ∈ l) (hp : ∀ x ∈ l, PathG (revG g) M v x) (x : Nat) : x ∈ l ↔ both g s v x := by
  constructor
  · intro hx
    have h3 : PathG g s x v := (path_rev hg).2 (PathG.mono hM (hp x hx))
    have hxM := (hl.fresh x (by simpa using hx)).2
    have hxL := hall x h3.left.1 h3.left.2
    rcases hL.kos x hxL with ⟨t, ht, _⟩ | h4
    · simp at ht
    · obtain ⟨x', A1, A2, h5, h6, h7⟩ := h4 v h3
      have hx' : atB M x' = false := by
        rcases e : atB M x' with _ | _
        · rfl
        · rw [hu x' x h6.symm e] at hxM; cases hxM
      rcases List.mem_append.1 h7 with h7 | h7
      · have hn := hL.nodup
        rw [List.append_nil, h5] at hn
        have := nodup_after hn (h5.symm.trans hsp) h7
        rw [h2 x' this] at hx'
        cases hx'
      · simp at h7
        subst h7
        exact h6.symm
  · intro hb
    have key : ∀ a, PathG (revG g) s v a → PathG g s v a → a ∈ l := by
      intro a h
      induction h with
      | refl _ _ => exact fun _ => hlv
      | step p e h5 h6 ih =>
        rename_i b a
        intro hva
        have hbr := p.right
        rw [revG_length] at hbr h5
        have eab : EdgeG g a b := ((revG_edge hbr.1).1 e).2
        have hvb : PathG g s v b := hva.step eab hbr.1 hbr.2
        have haM : atB M a = false := by
          have hba : both g s a v := ⟨(path_rev hg).2 (p.step e (by rwa [revG_length]) h6), hva⟩
          rcases e2 : atB M a with _ | _
          · rfl
          · rw [hu a v hba e2] at hv; cases hv
        exact hl.closed (ih hvb) e haM
    exact key x ((path_rev hg).1 hb.2) hb.1
end Go.Proofs.Ytcfnilemikenhaa.Fl
