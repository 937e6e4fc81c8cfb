/- Joined texts. -/
import Derived.Test.YtfgpenekmokdiaaMzAG
namespace Go.Proofs.Ytfgpenekmokdiaa.Fl

def okV (g : GraphD) (s : List Bool) (x : Int) : Prop := 0 ≤ x ∧ x < g.length ∧ atB s x.toNat = false
def edgeI (g : GraphD) (x y : Int) : Prop := y ∈ rowG g x.toNat
structure WalkL (g : GraphD) (s : List Bool) (l : List Int) : Prop where
  ne : l ≠ []
  ok : ∀ x ∈ l, okV g s x
  edge : ∀ (i : Nat) (x y : Int), l[i]? = some x → l[i + 1]? = some y → edgeI g x y
structure ClosedL (g : GraphD) (s : List Bool) (l : List Int) : Prop where
  walk : WalkL g s l
  back : ∀ x y : Int, l[0]? = some x → l[l.length - 1]? = some y → edgeI g y x
theorem get_mem {l : List Int} {i : Nat} {x : Int} (h : l[i]? = some x) : x ∈ l := by
  obtain ⟨hi, e⟩ := List.getElem?_eq_some_iff.1 h
  rw [← e]; exact List.getElem_mem hi
theorem edgeI_nat {g : GraphD} {s : List Bool} {x y : Int} (h : edgeI g x y) (hy : okV g s y) : EdgeG g x.toNat y.toNat := by
  unfold EdgeG
  rw [Int.toNat_of_nonneg hy.1]
  exact h
theorem WalkL.one {g : GraphD} {s : List Bool} {x : Int} (h : okV g s x) : WalkL g s [x] := ⟨by simp, fun y hy => by simp at hy; subst hy; exact h, fun i y z _ h2 => by simp at h2⟩
theorem WalkL.cons {g : GraphD} {s : List Bool} {x y : Int} {l : List Int} (hx : okV g s x) (he : edgeI g x y) (h : WalkL g s (y :: l)) : WalkL g s (x :: y :: l) := by
  refine ⟨by simp, fun z hz => ?_, fun i a b ha hb => ?_⟩
  · rcases List.mem_cons.1 hz with rfl | hz
    · exact hx
    · exact h.ok z hz
  · rcases i with _ | i
    · simp at ha hb
      subst ha hb
      exact he
    · exact h.edge i a b (by simpa using ha) (by simpa using hb)
theorem WalkL.rn {g : GraphD} {s : List Bool} {l : List Int} (h : WalkL g s l) : ∀ (k i : Nat) (x y : Int), l[i]? = some x → l[i + k]? = some y → Rn g s k x.toNat y.toNat
  | 0, i, x, y, hx, hy => by
    rw [Nat.add_zero, hx] at hy
    injection hy with hy
    subst hy
    have := h.ok x (get_mem hx)
    exact .zero (by obtain ⟨a, b, _⟩ := this; omega) this.2.2
  | k + 1, i, x, y, hx, hy => by
    have hlt : i + 1 < l.length := by have := (List.getElem?_eq_some_iff.1 hy).1; omega
    have hz : l[i + 1]? = some l[i + 1] := List.getElem?_eq_getElem hlt
    have hxo := h.ok x (get_mem hx)
    have hzo := h.ok _ (get_mem hz)
    exact .succ (by have := hxo.1; have := hxo.2.1; omega) hxo.2.2 (edgeI_nat (h.edge i x _ hx hz) hzo) (h.rn k (i + 1) _ y hz (by rw [← hy]; congr 1; omega))
/-- A part of a walk. -/
theorem WalkL.part {g : GraphD} {s : List Bool} {l : List Int} (h : WalkL g s l) {i m : Nat} (hm : 0 < m) (hl : i + m ≤ l.length) : WalkL g s ((l.drop i).take m) := by
  refine ⟨fun e => ?_, fun x hx => h.ok x (List.mem_of_mem_drop (List.mem_of_mem_take hx)), fun k x y hx hy => ?_⟩
  · have := congrArg List.length e
    simp at this
    omega
  · rw [List.getElem?_take] at hx hy
    split at hy
    · rename_i hk
      rw [if_pos (by omega), List.getElem?_drop] at hx
      rw [List.getElem?_drop] at hy
      exact h.edge (i + k) x y hx hy
    · cases hy
/-- The hops lead to the goal. -/
theorem hop_edge {g : GraphD} {dist : List Int} {v y : Nat} (h : hopV g dist v = y) : EdgeG g v y ∧ 0 < dAt dist v := by
  unfold hopV at h
  split at h
  · rename_i hp
    refine ⟨?_, hp⟩
    unfold hopOf at h
    rcases hf : (rowG g v).find? (fun x => decide (atI dist x = dist.getD v (-1) - 1)) with _ | z
    · rw [hf] at h
      exact absurd (show (-1 : Int) = y from h) (by omega)
    · rw [hf] at h
      have h : z = (y : Int) := h
      unfold EdgeG
      rw [← h]
      exact List.mem_of_find?_eq_some hf
  · omega
theorem pathF_walk {g : GraphD} {s : List Bool} {goal : Nat} (hg : validG g = true) (hgo : goal < g.length) : ∀ (f v : Nat), v < g.length → dAt (distF g s goal) v = f → WalkL g s (pathF (hopsL g (distF g s goal)) f v) ∧ (pathF (hopsL g (distF g s goal)) f v)[0]? = some (v : Int) ∧ (pathF (hopsL g (distF g s goal)) f v)[f]? = some (goal : Int)
  | 0, v, hv, h => by
    have hr := dist_is (s := s) hg hgo hv h
    cases hr with
    | zero h1 h2 => exact ⟨.one ⟨by omega, by omega, by rw [Int.toNat_natCast]; exact h2⟩, rfl, rfl⟩
  | f + 1, v, hv, h => by
    have hr := dist_is (s := s) hg hgo hv h
    have hso := hr.right.2
    obtain ⟨y, hy1, hy2, hy3⟩ := hop_near (distF_inv (s := s) hg hgo hso) hg hv (by show 0 < dAt _ _; omega)
    have hd : dAt (distF g s goal) y = f := by
      show (distF g s goal).getD y (-1) = _
      rw [hy3]
      show dAt (distF g s goal) v - 1 = _
      omega
    obtain ⟨h1, h2, h3⟩ := pathF_walk hg hgo f y hy2 hd
    have hat : atI (hopsL g (distF g s goal)) v = (y : Int) := by
      unfold atI
      rw [Int.toNat_natCast, List.getD_eq_getElem?_getD, hopsL_at hv, hy1]
      rfl
    have hp : pathF (hopsL g (distF g s goal)) (f + 1) v = (v : Int) :: pathF (hopsL g (distF g s goal)) f y := by
      show (v : Int) :: pathF _ f (atI _ v) = _
      rw [hat]
    rw [hp]
    obtain ⟨t, ht⟩ : ∃ t, pathF (hopsL g (distF g s goal)) f y = (y : Int) :: t := by
      rcases hc : pathF (hopsL g (distF g s goal)) f y with _ | ⟨z, t⟩
      · rw [hc] at h2; simp at h2
      · rw [hc] at h2
        simp at h2
        exact ⟨t, by rw [h2]⟩
    refine ⟨?_, rfl, by simpa using h3⟩
    rw [ht] at h1 ⊢
    exact .cons ⟨by omega, by omega, by rw [Int.toNat_natCast]; exact hr.left.2⟩ (by unfold edgeI; rw [Int.toNat_natCast]; exact (hop_edge hy1).1) h1
theorem bestK_mem {g : GraphD} {v : Nat} {dist : List Int} (hg : validG g = true) (hv : v < g.length) : ∀ (k : Nat), k ≤ (rowG g v).length → 0 ≤ bestK (rowG g v) dist k → bestK (rowG g v) dist k ∈ rowG g v ∧ 0 ≤ atI dist (bestK (rowG g v) dist k)
  | 0, _, h => by simp [bestK] at h
  | k + 1, hk, h => by
    unfold bestK at h ⊢
    simp only at h ⊢
    split
    · rename_i hc
      have hx : (rowG g v).getD k 0 ∈ rowG g v := by
        rw [List.getD_eq_getElem?_getD, List.getElem?_eq_getElem (by omega)]
        exact List.getElem_mem _
      exact ⟨hx, hc.1⟩
    · rename_i hc
      rw [if_neg hc] at h
      exact bestK_mem hg hv k (by omega) h
theorem bestK_least {g : GraphD} {v : Nat} {dist : List Int} (hg : validG g = true) (hv : v < g.length) : ∀ (k j : Nat), k ≤ (rowG g v).length → j < k → 0 ≤ atI dist ((rowG g v).getD j 0) → 0 ≤ bestK (rowG g v) dist k ∧ atI dist (bestK (rowG g v) dist k) ≤ atI dist ((rowG g v).getD j 0)
  | 0, j, _, h, _ => by omega
  | k + 1, j, hk, h, h0 => by
    have ih := fun hj => bestK_least (dist := dist) hg hv k j (by omega) hj h0
    have hx0 : 0 ≤ (rowG g v).getD k 0 := by
      have hx : (rowG g v).getD k 0 ∈ rowG g v := by
        rw [List.getD_eq_getElem?_getD, List.getElem?_eq_getElem (by omega)]
        exact List.getElem_mem _
      exact (validG_row hg hv _ (by rw [← rowG_at hv]; exact hx)).1
    unfold bestK
    simp only
    by_cases hjk : j = k
    · subst hjk
      split
      · exact ⟨hx0, Int.le_refl _⟩
      · rename_i hc
        by_cases hb : bestK (rowG g v) dist j < 0
        · exact absurd ⟨h0, .inl hb⟩ hc
        · refine ⟨by omega, ?_⟩
          have : ¬ atI dist ((rowG g v).getD j 0) < atI dist (bestK (rowG g v) dist j) := fun hl => hc ⟨h0, .inr hl⟩
          omega
    · obtain ⟨i1, i2⟩ := ih (by omega)
      split
      · rename_i hc
        refine ⟨hx0, ?_⟩
        rcases hc.2 with h2 | h2
        · omega
        · omega
      · exact ⟨i1, i2⟩
/-- What through finds is a closed walk from v. -/
theorem thr_closed {g : GraphD} {s : List Bool} {v : Nat} (hg : validG g = true) (hv : v < g.length) (h : thrF g s v ≠ []) : ClosedL g s (thrF g s v) ∧ (thrF g s v)[0]? = some (v : Int) ∧ ∃ b : Nat, EdgeG g v b ∧ b < g.length ∧ 0 ≤ dAt (distF g s v) b ∧ ((thrF g s v).length : Int) = dAt (distF g s v) b + 1 ∧ bestK (rowG g v) (distF g s v) (rowG g v).length = b := by
  unfold thrF at h ⊢
  rcases hs : atB s v with _ | _
  · rw [hs] at h
    simp only [Bool.false_eq_true, if_false] at h ⊢
    by_cases hb : bestK (rowG g v) (distF g s v) (rowG g v).length < 0
    · rw [if_pos hb] at h; exact absurd rfl h
    · rw [if_neg hb]
      obtain ⟨h1, h2⟩ := bestK_mem (dist := distF g s v) hg hv _ (Nat.le_refl _) (by omega)
      obtain ⟨b, hbb⟩ := Int.eq_ofNat_of_zero_le (show 0 ≤ bestK (rowG g v) (distF g s v) (rowG g v).length by omega)
      rw [hbb] at h1 h2 ⊢
      rw [Int.toNat_natCast]
      have he : EdgeG g v b := h1
      have hbr := he.range hg
      have hd0 : 0 ≤ dAt (distF g s v) b := by
        unfold atI at h2
        rw [Int.toNat_natCast] at h2
        exact h2
      obtain ⟨f, hf⟩ := Int.eq_ofNat_of_zero_le hd0
      obtain ⟨w1, w2, w3⟩ := pathF_walk (s := s) hg hv f b hbr.2.1 hf
      have hfp : 0 < f := by
        rcases f with _ | f
        · exfalso
          simp only [pathF] at w3
          simp at w3
          omega
        · omega
      have hff : firstF g s b v = pathF (hopsL g (distF g s v)) f b := by
        unfold firstF
        have : ¬ (distF g s v).getD b (-1) < 0 := by show ¬ dAt _ _ < 0; omega
        rw [if_neg this]
        show pathF _ (dAt (distF g s v) b).toNat b = _
        rw [hf, Int.toNat_natCast]
      rw [hff]
      have hlen := pathF_length (hopsL g (distF g s v)) f (b : Int)
      generalize pathF (hopsL g (distF g s v)) f (b : Int) = p at *
      have hdl : p.dropLast = (p.drop 0).take f := by rw [List.drop_zero, List.dropLast_eq_take, hlen]; congr 1
      have hw := w1.part (i := 0) (m := f) hfp (by omega)
      rw [← hdl] at hw
      obtain ⟨t, ht⟩ : ∃ t, p.dropLast = (b : Int) :: t := by
        rcases hc : p.dropLast with _ | ⟨z, t⟩
        · exact absurd hc hw.ne
        · have : p.dropLast[0]? = some (b : Int) := by rw [hdl, List.drop_zero, List.getElem?_take, if_pos hfp]; exact w2
          rw [hc] at this
          simp at this
          exact ⟨t, by rw [this]⟩
      have hvo : okV g s (v : Int) := ⟨by omega, by omega, by rw [Int.toNat_natCast]; exact hs⟩
      have htl : t.length + 1 = f := by
        have := congrArg List.length ht
        rw [List.length_dropLast, hlen, List.length_cons] at this
        omega
      refine ⟨⟨?_, fun x y hx hy => ?_⟩, rfl, b, he, hbr.2.1, hd0, ?_, rfl⟩
      · rw [ht] at hw ⊢
        exact .cons hvo (by unfold edgeI; rw [Int.toNat_natCast]; exact he) hw
      · simp at hx
        subst hx
        have hy2 : p[f - 1]? = some y := by
          have h3 : ((v : Int) :: p.dropLast).length - 1 = (f - 1) + 1 := by rw [List.length_cons, List.length_dropLast, hlen]; omega
          rw [h3, List.getElem?_cons_succ, hdl, List.drop_zero, List.getElem?_take, if_pos (by omega)] at hy
          exact hy
        exact w1.edge (f - 1) y v hy2 (by rw [show f - 1 + 1 = f by omega]; exact w3)
      · rw [List.length_cons, List.length_dropLast, hlen, hf]
        omega
  · rw [hs] at h
    simp at h
/-- .. and none from v is shorter. -/
theorem thr_least {g : GraphD} {s : List Bool} {v : Nat} {l : List Int} (hg : validG g = true) (hv : v < g.length) (h : ClosedL g s l) (h0 : l[0]? = some (v : Int)) : thrF g s v ≠ [] ∧ (thrF g s v).length ≤ l.length := by
  have hvo := h.walk.ok _ (get_mem h0)
  have hs : atB s v = false := by have := hvo.2.2; rwa [Int.toNat_natCast] at this
  have hl : 0 < l.length := (List.getElem?_eq_some_iff.1 h0).1
  have hz : l[l.length - 1]? = some l[l.length - 1] := List.getElem?_eq_getElem (by omega)
  have hback := h.back v _ h0 hz
  have hlo := h.walk.ok _ (get_mem hz)
  by_cases h1 : l.length = 1
  · exfalso
    have e : l[l.length - 1] = (v : Int) := by
      have : l[l.length - 1]? = l[0]? := by rw [h1]
      rw [hz, h0] at this
      injection this
    rw [e] at hback
    have he := edgeI_nat hback hvo
    rw [Int.toNat_natCast] at he
    exact (he.range hg).2.2 rfl
  · have hy : l[1]? = some l[1] := List.getElem?_eq_getElem (by omega)
    have hedge := h.walk.edge 0 v _ h0 hy
    have hyo := h.walk.ok _ (get_mem hy)
    have hr := h.walk.rn (l.length - 2) 1 _ _ hy (by rw [← hz]; congr 1; omega)
    have hr2 := hr.snoc (edgeI_nat hback hvo) (by rw [Int.toNat_natCast]; exact hv) (by rw [Int.toNat_natCast]; exact hs)
    rw [Int.toNat_natCast] at hr2
    have hd := dist_le hg hr2
    unfold edgeI at hedge
    rw [Int.toNat_natCast] at hedge
    obtain ⟨j, hj, e⟩ := List.mem_iff_getElem.1 hedge
    have hgd : (rowG g v).getD j 0 = l[1] := by rw [List.getD_eq_getElem?_getD, List.getElem?_eq_getElem hj, e]; rfl
    have hat : atI (distF g s v) ((rowG g v).getD j 0) = dAt (distF g s v) l[1].toNat := by rw [hgd]; rfl
    obtain ⟨b1, b2⟩ := bestK_least (dist := distF g s v) hg hv _ j (Nat.le_refl _) hj (by rw [hat]; exact hd.1)
    have hne : thrF g s v ≠ [] := by
      unfold thrF
      rw [hs]
      simp only [Bool.false_eq_true, if_false]
      rw [if_neg (by omega)]
      simp
    refine ⟨hne, ?_⟩
    obtain ⟨_, _, b, _, _, hb0, hbl, hbb⟩ := thr_closed hg hv hne
    rw [hat, hbb] at b2
    have hb3 : atI (distF g s v) (b : Int) = dAt (distF g s v) b := by unfold atI; rw [Int.toNat_natCast]
    rw [hb3] at b2
    have := hd.2
    omega
theorem girK_closed {g : GraphD} {s : List Bool} (hg : validG g = true) : ∀ k, k ≤ g.length → girK g s k ≠ [] → ∃ v, v < k ∧ girK g s k = thrF g s v
  | 0, _, h => by simp [girK] at h
  | k + 1, hk, h => by
    unfold girK at h ⊢
    simp only at h ⊢
    split
    · exact ⟨k, by omega, rfl⟩
    · rename_i hc
      rw [if_neg hc] at h
      obtain ⟨v, hv, e⟩ := girK_closed hg k (by omega) h
      exact ⟨v, by omega, e⟩
theorem girK_least {g : GraphD} {s : List Bool} : ∀ k v, v < k → thrF g s v ≠ [] → girK g s k ≠ [] ∧ (girK g s k).length ≤ (thrF g s v).length
  | 0, v, h, _ => by omega
  | k + 1, v, h, hne => by
    have hpos : 0 < (thrF g s v).length := List.length_pos_iff.2 hne
    unfold girK
    simp only
    by_cases hvk : v = k
    · subst hvk
      split
      · exact ⟨hne, Nat.le_refl _⟩
      · rename_i hc
        have h1 : ¬ (girK g s v).length = 0 := fun e => hc ⟨hpos, .inl e⟩
        have h2 : ¬ (thrF g s v).length < (girK g s v).length := fun e => hc ⟨hpos, .inr e⟩
        exact ⟨fun e => h1 (by rw [e]; rfl), by omega⟩
    · obtain ⟨i1, i2⟩ := girK_least k v (by omega) hne
      split
      · rename_i hc
        refine ⟨List.length_pos_iff.1 hc.1, ?_⟩
        rcases hc.2 with h3 | h3
        · exact absurd (List.eq_nil_of_length_eq_zero h3) i1
        · omega
      · exact ⟨i1, i2⟩
theorem gir_closed {g : GraphD} {s : List Bool} (hg : validG g = true) (h : girF g s ≠ []) : ClosedL g s (girF g s) := by
  obtain ⟨v, hv, e⟩ := girK_closed hg _ (Nat.le_refl _) h
  unfold girF at h ⊢
  rw [e] at h ⊢
  exact (thr_closed hg hv h).1
theorem gir_least {g : GraphD} {s : List Bool} {l : List Int} (hg : validG g = true) (h : ClosedL g s l) : girF g s ≠ [] ∧ (girF g s).length ≤ l.length := by
  have hl : 0 < l.length := List.length_pos_iff.2 h.walk.ne
  have h0 : l[0]? = some l[0] := List.getElem?_eq_getElem hl
  have ho := h.walk.ok _ (get_mem h0)
  obtain ⟨v, hv⟩ := Int.eq_ofNat_of_zero_le ho.1
  have hvl : v < g.length := by have := ho.2.1; omega
  obtain ⟨t1, t2⟩ := thr_least hg hvl h (by rw [h0, hv])
  obtain ⟨g1, g2⟩ := girK_least g.length v hvl t1
  exact ⟨g1, Nat.le_trans g2 t2⟩
/-- No vertex twice. -/
theorem gir_nodup {g : GraphD} {s : List Bool} (hg : validG g = true) : (girF g s).Nodup := by
  refine List.pairwise_iff_getElem.2 fun i j hi hj hij e => ?_
  have hne : girF g s ≠ [] := fun e => by rw [e] at hi; simp at hi
  have hc := gir_closed hg hne
  have hp := hc.walk.part (i := i) (m := j - i) (by omega) (by omega)
  have hcl : ClosedL g s (((girF g s).drop i).take (j - i)) := by
    refine ⟨hp, fun x y hx hy => ?_⟩
    have hlen : (((girF g s).drop i).take (j - i)).length = j - i := by rw [List.length_take, List.length_drop]; omega
    rw [List.getElem?_take, if_pos (by omega), List.getElem?_drop, Nat.add_zero, List.getElem?_eq_getElem hi] at hx
    injection hx with hx
    rw [hlen, List.getElem?_take, if_pos (by omega), List.getElem?_drop, show i + (j - i - 1) = j - 1 by omega] at hy
    refine hc.walk.edge (j - 1) y x hy ?_
    rw [show j - 1 + 1 = j by omega, List.getElem?_eq_getElem hj, ← e, hx]
  have := (gir_least hg hcl).2
  rw [List.length_take, List.length_drop] at this
  omega
end Go.Proofs.Ytfgpenekmokdiaa.Fl
namespace Go.Proofs.Ytfgpenekmokdiaa.Fl

theorem atI_get {l : List Int} {i : Nat} (h : i < l.length) : atI l i = l[i] := by
  unfold atI
  rw [Int.toNat_natCast, List.getD_eq_getElem?_getD, List.getElem?_eq_getElem h]; rfl
/-- Token i of a position is in order. -/
def tokB (g : GraphD) (ts ws : List Int) (i : Nat) : Bool :=
  decide (0 ≤ atI ts i ∧ atI ts i < g.length ∧ atI ts i ∉ ts.take i ∧ (atI ws i = -1 ∨ atI ws i ∈ rowG g (atI ts i).toNat))
/-- A position is valid. -/
def posB (g : GraphD) (ts ws : List Int) : Bool := validG g && decide (ts.length = ws.length ∧ ts.length ≤ 24) && (List.range ts.length).all (tokB g ts ws)
structure PosOk (g : GraphD) (ts ws : List Int) : Prop where
  graph : validG g = true
  len : ts.length = ws.length
  few : ts.length ≤ 24
  place : ∀ i (h : i < ts.length), 0 ≤ ts[i] ∧ ts[i] < g.length
  apart : ts.Nodup
  want : ∀ i (h : i < ts.length) (h' : i < ws.length), ws[i] = -1 ∨ ws[i] ∈ rowG g ts[i].toNat
theorem posB_iff {g : GraphD} {ts ws : List Int} : posB g ts ws = true ↔ PosOk g ts ws := by
  unfold posB
  rw [Bool.and_eq_true, Bool.and_eq_true, decide_eq_true_iff, List.all_eq_true]
  constructor
  · rintro ⟨⟨h1, h2, h3⟩, h4⟩
    have key : ∀ i (h : i < ts.length), 0 ≤ ts[i] ∧ ts[i] < g.length ∧ ts[i] ∉ ts.take i ∧ (atI ws i = -1 ∨ atI ws i ∈ rowG g ts[i].toNat) := fun i h => by
      have h5 := of_decide_eq_true (h4 i (List.mem_range.2 h))
      rwa [atI_get h] at h5
    refine ⟨h1, h2, h3, fun i h => ⟨(key i h).1, (key i h).2.1⟩, ?_, fun i h h' => ?_⟩
    · show ts.Pairwise (· ≠ ·)
      rw [List.pairwise_iff_getElem]
      intro i j hi hj hij e
      apply (key j hj).2.2.1
      rw [← e]
      exact List.mem_iff_getElem.2 ⟨i, by rw [List.length_take]; omega, by rw [List.getElem_take]⟩
    · have h5 := (key i h).2.2.2
      rwa [atI_get h'] at h5
  · intro h
    refine ⟨⟨h.graph, h.len, h.few⟩, fun i hi => ?_⟩
    have hi := List.mem_range.1 hi
    have hp := h.place i hi
    have hw := h.want i hi (by rw [← h.len]; exact hi)
    refine decide_eq_true ?_
    rw [atI_get hi, atI_get (show i < ws.length by rw [← h.len]; exact hi)]
    refine ⟨hp.1, hp.2, fun hm => ?_, hw⟩
    obtain ⟨j, hj, e⟩ := List.mem_iff_getElem.1 hm
    rw [List.length_take] at hj
    rw [List.getElem_take] at e
    exact (List.pairwise_iff_getElem.1 h.apart j i (by omega) hi (by omega)) e
/-- The free tokens among the first k. -/
def freeL (ts ws : List Int) (k : Nat) : List Int := ((List.range k).filter (fun (i : Nat) => decide (0 ≤ atI ws (i : Int) ∧ atI ws (i : Int) ∉ ts))).map (fun (i : Nat) => (i : Int))
theorem freeL_succ (ts ws : List Int) (k : Nat) : freeL ts ws (k + 1) = freeL ts ws k ++ if 0 ≤ atI ws k ∧ atI ws k ∉ ts then [(k : Int)] else [] := by
  unfold freeL
  rw [List.range_succ, List.filter_append, List.map_append]
  congr 1
  by_cases h : 0 ≤ atI ws k ∧ atI ws k ∉ ts
  · rw [if_pos h]; simp [h]
  · rw [if_neg h]; simp [h]
theorem freeL_len (ts ws : List Int) (k : Nat) : (freeL ts ws k).length ≤ k := by
  unfold freeL
  rw [List.length_map]
  refine Nat.le_trans (List.length_filter_le _ _) ?_
  rw [List.length_range]; exact Nat.le_refl _
/-- Some token wants a vertex and no one is free. -/
def stuckB (g : GraphD) (ts ws : List Int) : Bool := posB g ts ws && decide ((freeL ts ws ts.length).length = 0) && ws.any (fun x => decide (0 ≤ x))
/-- The token on a vertex, among tokens that are numbered from k on, or -1. -/
def onA : List Int → Nat → Int → Int
  | [], _, _ => -1
  | x :: l, k, v => if x = v then (k : Int) else onA l (k + 1) v
def onF (ts : List Int) (v : Int) : Int := onA ts 0 v
theorem onA_drop {l : List Int} {k : Nat} {v : Int} (h : k < l.length) : onA (l.drop k) k v = if l[k] = v then (k : Int) else onA (l.drop (k + 1)) (k + 1) v := by
  rw [List.drop_eq_getElem_cons h]; rfl
theorem onA_cases : ∀ (l : List Int) (k : Nat) (v : Int), (onA l k v = -1 ∧ v ∉ l) ∨ ∃ i, ∃ h : i < l.length, l[i] = v ∧ onA l k v = ((k + i : Nat) : Int)
  | [], _, _ => .inl ⟨rfl, by simp⟩
  | x :: l, k, v => by
    unfold onA
    by_cases h : x = v
    · exact .inr ⟨0, by simp, by simpa using h, by rw [if_pos h]; simp⟩
    · rw [if_neg h]
      rcases onA_cases l (k + 1) v with ⟨h1, h2⟩ | ⟨i, hi, h1, h2⟩
      · exact .inl ⟨h1, by simp only [List.mem_cons, not_or]; exact ⟨fun e => h e.symm, h2⟩⟩
      · exact .inr ⟨i + 1, by simpa using hi, by simpa using h1, by rw [h2]; congr 1; omega⟩
theorem onF_cases (l : List Int) (v : Int) : (onF l v = -1 ∧ v ∉ l) ∨ ∃ i, ∃ h : i < l.length, l[i] = v ∧ onF l v = (i : Int) := by
  rcases onA_cases l 0 v with h | ⟨i, hi, h1, h2⟩
  · exact .inl h
  · exact .inr ⟨i, hi, h1, by unfold onF; rw [h2]; congr 1; omega⟩
/-- Following the wants until a token comes again. -/
def ringA (ts ws : List Int) : Nat → List Int → Int → Option (List Int × Int)
  | 0, _, _ => none
  | f + 1, way, t => if t ∈ way then some (way, t) else if atI ws t < 0 ∨ onF ts (atI ws t) < 0 then none else ringA ts ws f (way ++ [t]) (onF ts (atI ws t))
/-- What comes from t on. -/
def fromT : List Int → Int → List Int
  | [], _ => []
  | x :: l, t => if x = t then x :: l else fromT l t
theorem fromT_mem : ∀ {l : List Int} {t : Int}, t ∈ l → ∃ k, k < l.length ∧ fromT l t = l.drop k ∧ (l.drop k)[0]? = some t
  | x :: l, t, h => by
    unfold fromT
    by_cases e : x = t
    · exact ⟨0, by simp, by rw [if_pos e]; rfl, by simp [e]⟩
    · rw [if_neg e]
      have hm : t ∈ l := by
        rcases List.mem_cons.1 h with h | h
        · exact absurd h.symm e
        · exact h
      obtain ⟨k, hk, h1, h2⟩ := fromT_mem hm
      exact ⟨k + 1, by simpa using hk, by simpa using h1, by simpa using h2⟩
/-- The place of the smallest one among the first k. -/
def leastK (l : List Int) : Nat → Nat
  | 0 => 0
  | k + 1 => if atI l k < atI l (leastK l k : Nat) then k else leastK l k
theorem leastK_lt {l : List Int} : ∀ k, leastK l k ≤ k - 1
  | 0 => Nat.le_refl _
  | k + 1 => by
    have ih := leastK_lt (l := l) k
    unfold leastK
    split <;> omega
def turnL (l : List Int) : List Int := l.drop (leastK l l.length) ++ l.take (leastK l l.length)
theorem turnL_length (l : List Int) : (turnL l).length = l.length := by
  unfold turnL
  have := leastK_lt (l := l) l.length
  rw [List.length_append, List.length_drop, List.length_take]
  omega
/-- The ring that the wants lead to, and its error. -/
def ringR (ts ws : List Int) : Option (List Int) := if ts.length = 0 then none else (ringA ts ws (ts.length + 1) [] 0).map (fun p => turnL (fromT p.1 p.2))
def ringL (ts ws : List Int) : List Int := (ringR ts ws).getD []
def ringE (ts ws : List Int) : Int := if (ringR ts ws).isSome then 0 else 25
end Go.Proofs.Ytfgpenekmokdiaa.Fl
