/- Joined texts. -/
import Derived.Test.YtfgpenekmokdiaaMzAK
import Derived.Test.YtfgpenekmokdiaaMzAD
import Derived.Test.YtfgpenekmokdiaaMzAM
import Derived.Test.YtfgpenekmokdiaaMzAB
import Derived.Test.YtfgpenekmokdiaaMzAA
namespace Go.Proofs.Ytfgpenekmokdiaa
open Go Go.RowKit Fl

theorem girK_succ (g : GraphD) (s : List Bool) (k : Nat) : girK g s (k + 1) = if 0 < (thrF g s k).length ∧ ((girK g s k).length = 0 ∨ (thrF g s k).length < (girK g s k).length) then thrF g s k else girK g s k := rfl
def GirthPost (w : World) (l : List Int) (e : Ending) (w' : World) : Prop := ∃ v, e = .returned (.tuple #[.int .i64 l.length, v, .int .i64 0]) ∧ w'.ownsRow w.heap.size 3 1 v l.length (l.map Iv) ∧ Below w.heap.size w w'
set_option maxRecDepth 100000 in
set_option maxHeartbeats 4000000 in
theorem girth_c (A B : Option Addr) (c d : Nat) (g : GraphD) (s : List Bool) (w : World) (hh : RowsAt w A g) (hs : Holds w B (s.map Bo)) (hg : validG g = true) (hsl : s.length = g.length) :
    Calls Try.prog 63 #[.slice A g.length c, .slice B s.length d] w (GirthPost w (girF g s)) := by
  have hl24 := validG_len hg
  have hr24 := validG_short hg
  have CC := Lib.hid (refCheck_c A B c d s.length g w hh (by omega) (fun r hr => by have := hr24 r hr; omega))
  rw [show chkG g s.length = 0 by unfold chkG; rw [hg, hsl]; simp] at CC
  have CT := Lib.hid (fun W v (hW : Below w.heap.size w W) hv => through_c A B c d g s v W (hh.keep hW) (hs.keep hW) hg hsl hv)
  have HSh := Lib.hid (fun k hk => girK_short (s := s) hg k hk)
  have HTh := Lib.hid (fun v hv => thrF_short (s := s) (v := v) hg hv)
  have HF : Hid (girF g s = girK g s g.length) := Lib.hid rfl
  clear hh hs hg hsl hr24
  generalize girF g s = res at *
  go_enter Try.func63, Try.ntmps63
  go_wp2_with fail
  refine CC.out.mono ?_
  rintro e w1 ⟨rfl, rfl⟩
  go_wp2
  go_loopw [8, 9] (fun u i wr => ∃ (k : Nat), i = .int .i64 k ∧ k ≤ g.length ∧ Hid (wr.ownsRow w.heap.size 3 1 u (girK g s k).length ((girK g s k).map Iv)) ∧ Below w.heap.size w wr) (fun _ i _ => g.length - (intOf i).toNat)
  case atStart => exact ⟨0, rfl, Nat.zero_le _, Lib.hid (World.ownsRow_nil _ _ _ _), Below.refl _ _⟩
  case round =>
    obtain ⟨k, rfl, hk, HO, hb⟩ := hrel
    have hbl := HSh.out k hk
    by_cases hlt : k < g.length
    · have HS := Lib.hid (girK_succ g s k)
      have htl := HTh.out k hlt
      have HC := Lib.hid (CT.out wr k hb hlt)
      have hsz := hb.size
      generalize thrF g s k = t at *
      generalize hbo : girK g s k = bo at *
      clear hbo
      obtain ⟨AB, cB, rfl, _⟩ := own_is HO.out
      go_wp2_with fail
      refine HC.out.mono ?_
      rintro e w2 ⟨vt, rfl, ownT, hb2⟩
      obtain ⟨AT, cT, rfl, _⟩ := own_is ownT
      have HT := Lib.hid ownT
      have HB2 := Lib.hid (hb.trans (hb2.mono hsz))
      have HO2 := Lib.hid (ownsRow_below HO.out hb2)
      clear HC ownT hb2 HO hb
      by_cases hsel : 0 < t.length ∧ (bo.length = 0 ∨ t.length < bo.length)
      · rw [if_pos hsel] at HS
        have HT2 := Lib.hid (ownsRow_base HT.out hsz)
        have hcase : decide (0 < t.length) = true ∧ (((bo.length : Int) == 0) = true ∨ ((bo.length : Int) == 0) = false ∧ decide (t.length < bo.length) = true) := by
          refine ⟨by simpa using hsel.1, ?_⟩
          rcases Nat.eq_zero_or_pos bo.length with h | h
          · left; rw [h]; rfl
          · right; exact ⟨by rw [beq_eq_false_iff_ne]; omega, by have := hsel.2; simp; omega⟩
        obtain ⟨hd1, hd2⟩ := hcase
        have hpos := hsel.1
        clear hsel
        rcases hd2 with hd2 | ⟨hd2, hd3⟩
        all_goals
          go_wp2
          go_roundw
          case rel => exact ⟨k + 1, by go_num, by omega, Lib.hid (by rw [HS.out]; exact HT2.out), HB2.out⟩
          case measure => simp [intOf]; omega
      · rw [if_neg hsel] at HS
        have hcase : decide (0 < t.length) = false ∨ decide (0 < t.length) = true ∧ ((bo.length : Int) == 0) = false ∧ decide (t.length < bo.length) = false := by
          rcases Nat.eq_zero_or_pos t.length with h | h
          · left; rw [decide_eq_false_iff_not]; omega
          · right; exact ⟨by simpa using h, by rw [beq_eq_false_iff_ne]; intro e; exact hsel ⟨h, .inl (by omega)⟩, by simp; rcases Nat.lt_or_ge t.length bo.length with h2 | h2; exact absurd ⟨h, .inr h2⟩ hsel; exact h2⟩
        clear hsel
        rcases hcase with hd1 | ⟨hd1, hd2, hd3⟩
        all_goals
          go_wp2
          go_roundw
          case rel => exact ⟨k + 1, by go_num, by omega, Lib.hid (by rw [HS.out]; exact HO2.out), HB2.out⟩
          case measure => simp [intOf]; omega
    · obtain rfl : k = g.length := by omega
      rw [← HF.out] at HO hbl
      obtain ⟨AB, cB, rfl, _⟩ := own_is HO.out
      go_wp2
      go_ret3
      exact ⟨_, rfl, HO.out, hb⟩
end Go.Proofs.Ytfgpenekmokdiaa
namespace Go.Proofs.Ytfgpenekmokdiaa
open Go Go.RowKit Fl

def girL (g : GraphD) (s : List Bool) : List Int := if chkG g s.length = 0 then girF g s else []
def thrL (g : GraphD) (s : List Bool) (v : Int) : List Int := if fromE g s.length v = 0 then thrF g s v.toNat else []
open Classical in
noncomputable def clsB (g : GraphD) (s : List Bool) (l : List Int) : Bool := decide (chkG g s.length = 0 ∧ ClosedL g s l)
theorem clsB_iff {g : GraphD} {s : List Bool} {l : List Int} : clsB g s l = true ↔ chkG g s.length = 0 ∧ ClosedL g s l := by
  classical
  unfold clsB; exact decide_eq_true_iff
theorem clsB_no {g : GraphD} {s : List Bool} {l : List Int} (h : ¬ (chkG g s.length = 0 ∧ ClosedL g s l)) : clsB g s l = false := by
  rcases e : clsB g s l with _ | _
  · rfl
  · exact absurd (clsB_iff.1 e) h
def WalkPost (w : World) (l : List Int) (k : Int) (e : Ending) (w' : World) : Prop := ∃ u, e = .returned (.tuple #[.int .i64 l.length, u, .int .i64 k]) ∧ w'.ownsRow w.heap.size 3 1 u l.length (l.map Iv) ∧ Below w.heap.size w w'
set_option maxRecDepth 100000 in
set_option maxHeartbeats 4000000 in
theorem refGirth_c (A B : Option Addr) (c d : Nat) (g : GraphD) (s : List Bool) (w : World) (hh : RowsAt w A g) (hs : Holds w B (s.map Bo)) (hl : g.length ≤ 1000000000000000000) (hr : ∀ r ∈ g, r.length ≤ 1000000000000000000) :
    Calls Try.prog 63 #[.slice A g.length c, .slice B s.length d] w (WalkPost w (girL g s) (chkG g s.length)) := by
  have CC := Lib.hid (refCheck_c A B c d s.length g w hh hl hr)
  by_cases h0 : chkG g s.length = 0
  · have hv : validG g = true ∧ s.length = g.length := by
      rcases chkG_cases g s.length with h | h | h
      · exact h.2
      · omega
      · omega
    have h := girth_c A B c d g s w hh hs hv.1 hv.2
    have hE : girL g s = girF g s := by unfold girL; rw [if_pos h0]
    rw [hE, h0]
    exact h
  · have HE : Hid (girL g s = []) := Lib.hid (by unfold girL; rw [if_neg h0])
    have hcase : chkG g s.length = 19 ∨ chkG g s.length = 20 := by
      rcases chkG_cases g s.length with h | h | h
      · exact absurd h.1 h0
      · exact .inl h
      · exact .inr h
    clear hh hs hl hr h0
    rcases hcase with h | h
    all_goals
      rw [h] at CC ⊢
      clear h
      go_enter Try.func63, Try.ntmps63
      go_wp2_with fail
      refine CC.out.mono ?_
      rintro e w1 ⟨rfl, rfl⟩
      go_wp2
      go_ret3
      exact ⟨_, by rw [HE.out]; rfl, by rw [HE.out]; exact World.ownsRow_nil _ _ _ _, Below.refl _ _⟩
/-- The next place of a closed walk. -/
theorem closed_iff {g : GraphD} {s : List Bool} {l : List Int} : ClosedL g s l ↔ l ≠ [] ∧ (∀ j (h : j < l.length), okV g s l[j]) ∧ ∀ j (h : j < l.length), edgeI g l[j] (l[(j + 1) % l.length]'(Nat.mod_lt _ (by omega))) := by
  constructor
  · intro h
    refine ⟨h.walk.ne, fun j hj => h.walk.ok _ (List.getElem_mem hj), fun j hj => ?_⟩
    rcases Nat.lt_or_ge (j + 1) l.length with h1 | h1
    · have e : (j + 1) % l.length = j + 1 := Nat.mod_eq_of_lt h1
      exact h.walk.edge j _ _ (List.getElem?_eq_getElem hj) (by rw [← List.getElem?_eq_getElem, e])
    · have e : (j + 1) % l.length = 0 := by rw [show j + 1 = l.length by omega, Nat.mod_self]
      exact h.back _ _ (by rw [← List.getElem?_eq_getElem, e]) (by rw [show l.length - 1 = j by omega]; exact List.getElem?_eq_getElem hj)
  · rintro ⟨h1, h2, h3⟩
    refine ⟨⟨h1, fun x hx => ?_, fun i x y hx hy => ?_⟩, fun x y hx hy => ?_⟩
    · obtain ⟨j, hj, e⟩ := List.mem_iff_getElem.1 hx
      rw [← e]; exact h2 j hj
    · obtain ⟨a1, a2⟩ := List.getElem?_eq_some_iff.1 hx
      obtain ⟨b1, b2⟩ := List.getElem?_eq_some_iff.1 hy
      have := h3 i a1
      have e : l[(i + 1) % l.length]'(Nat.mod_lt _ (by omega)) = y := by
        rw [← b2]
        congr 1
        exact Nat.mod_eq_of_lt b1
      rw [a2, e] at this
      exact this
    · obtain ⟨a1, a2⟩ := List.getElem?_eq_some_iff.1 hx
      obtain ⟨b1, b2⟩ := List.getElem?_eq_some_iff.1 hy
      have := h3 (l.length - 1) b1
      have e : l[(l.length - 1 + 1) % l.length]'(Nat.mod_lt _ (by omega)) = x := by
        rw [← a2]
        congr 1
        rw [show l.length - 1 + 1 = l.length by omega, Nat.mod_self]
      rw [b2, e] at this
      exact this
end Go.Proofs.Ytfgpenekmokdiaa
namespace Go.Proofs.Ytfgpenekmokdiaa.Fl

/-- The least number below n with p. -/
def leastF (p : Nat → Bool) : Nat → Option Nat
  | 0 => none
  | n + 1 => match leastF p n with
    | some i => some i
    | none => if p n then some n else none
theorem leastF_some {p : Nat → Bool} : ∀ {n i : Nat}, leastF p n = some i → p i = true ∧ i < n ∧ ∀ j, j < i → p j = false
  | 0, i, h => by cases h
  | n + 1, i, h => by
    unfold leastF at h
    rcases e : leastF p n with _ | k
    · rw [e] at h
      simp only at h
      split at h
      · rename_i hp
        injection h with h
        subst h
        refine ⟨hp, by omega, fun j hj => ?_⟩
        exact leastF_none_aux e j hj
      · cases h
    · rw [e] at h
      simp only at h
      injection h with h
      subst h
      obtain ⟨h1, h2, h3⟩ := leastF_some e
      exact ⟨h1, by omega, h3⟩
where
  leastF_none_aux {p : Nat → Bool} : ∀ {n : Nat}, leastF p n = none → ∀ j, j < n → p j = false
  | 0, _, j, hj => by omega
  | n + 1, h, j, hj => by
    unfold leastF at h
    rcases e : leastF p n with _ | k
    · rw [e] at h
      simp only at h
      split at h
      · cases h
      · rename_i hp
        rcases Nat.lt_succ_iff_lt_or_eq.1 hj with h1 | rfl
        · exact leastF_none_aux e j h1
        · simpa using hp
    · rw [e] at h; cases h
theorem leastF_none {p : Nat → Bool} {n : Nat} (h : leastF p n = none) : ∀ j, j < n → p j = false := leastF_some.leastF_none_aux h
theorem leastF_is {p : Nat → Bool} {n i : Nat} (hi : i < n) (hp : p i = true) (hl : ∀ j, j < i → p j = false) : leastF p n = some i := by
  rcases e : leastF p n with _ | k
  · have := leastF_none e i hi; rw [hp] at this; cases this
  · obtain ⟨h1, h2, h3⟩ := leastF_some e
    rcases Nat.lt_trichotomy k i with h | h | h
    · have := hl k h; rw [h1] at this; cases this
    · rw [h]
    · have := h3 i h; rw [hp] at this; cases this

def both (g : GraphD) (s : List Bool) (v w : Nat) : Prop := PathG g s v w ∧ PathG g s w v
theorem both.symm {g : GraphD} {s : List Bool} {v w : Nat} (h : both g s v w) : both g s w v := ⟨h.2, h.1⟩
theorem both.trans {g : GraphD} {s : List Bool} {u v w : Nat} (h : both g s u v) (k : both g s v w) : both g s u w := ⟨h.1.trans k.1, k.2.trans h.2⟩
theorem both.self {g : GraphD} {s : List Bool} {v : Nat} (hv : v < g.length) (hs : atB s v = false) : both g s v v := ⟨.refl hv hs, .refl hv hs⟩
open Classical in
/-- The name of v's component, or -1. -/
noncomputable def nameOf (g : GraphD) (s : List Bool) (v : Nat) : Int := match leastF (fun w => decide (both g s v w)) (v + 1) with
  | some w => (w : Int)
  | none => -1
theorem name_cases (g : GraphD) (s : List Bool) (v : Nat) : (nameOf g s v = -1 ∧ ¬ (v < g.length ∧ atB s v = false)) ∨ ∃ w : Nat, nameOf g s v = w ∧ w ≤ v ∧ both g s v w ∧ ∀ u, u < w → ¬ both g s v u := by
  classical
  unfold nameOf
  rcases e : leastF (fun w => decide (both g s v w)) (v + 1) with _ | w
  · left
    refine ⟨rfl, fun h => ?_⟩
    have := leastF_none e v (by omega)
    simp only [decide_eq_false_iff_not] at this
    exact this (both.self h.1 h.2)
  · obtain ⟨h1, h2, h3⟩ := leastF_some e
    simp only [decide_eq_true_eq] at h1
    exact .inr ⟨w, rfl, by omega, h1, fun u hu => by simpa using h3 u hu⟩
theorem name_shut {g : GraphD} {s : List Bool} {v : Nat} (h : ¬ (v < g.length ∧ atB s v = false)) : nameOf g s v = -1 := by
  rcases name_cases g s v with ⟨h1, _⟩ | ⟨w, _, _, h3, _⟩
  · exact h1
  · exact absurd h3.1.left h
theorem name_open {g : GraphD} {s : List Bool} {v : Nat} (hv : v < g.length) (hs : atB s v = false) : ∃ w : Nat, nameOf g s v = w ∧ w ≤ v ∧ both g s v w ∧ ∀ u, u < w → ¬ both g s v u := by
  rcases name_cases g s v with ⟨_, h1⟩ | h
  · exact absurd ⟨hv, hs⟩ h1
  · exact h
theorem name_nat {g : GraphD} {s : List Bool} {v w : Nat} (h : nameOf g s v = w) : w ≤ v ∧ both g s v w ∧ ∀ u, u < w → ¬ both g s v u := by
  rcases name_cases g s v with ⟨h1, _⟩ | ⟨a, h1, h2⟩
  · omega
  · obtain rfl : a = w := by omega
    exact h2
theorem name_nonneg {g : GraphD} {s : List Bool} {v : Nat} (h : 0 ≤ nameOf g s v) : ∃ w : Nat, nameOf g s v = w := Int.eq_ofNat_of_zero_le h
theorem name_le (g : GraphD) (s : List Bool) (v : Nat) : nameOf g s v ≤ v := by
  rcases name_cases g s v with ⟨h1, _⟩ | ⟨a, h1, h2, _⟩ <;> omega
theorem name_ge (g : GraphD) (s : List Bool) (v : Nat) : -1 ≤ nameOf g s v := by
  rcases name_cases g s v with ⟨h1, _⟩ | ⟨a, h1, h2, _⟩ <;> omega
theorem name_eq {g : GraphD} {s : List Bool} {v w : Nat} (h : both g s v w) : nameOf g s v = nameOf g s w := by
  obtain ⟨a, ha, _, ha1, ha2⟩ := name_open h.1.left.1 h.1.left.2
  obtain ⟨b, hb, _, hb1, hb2⟩ := name_open h.1.right.1 h.1.right.2
  have h1 : ¬ a < b := fun hl => hb2 a hl (h.symm.trans ha1)
  have h2 : ¬ b < a := fun hl => ha2 b hl (h.trans hb1)
  rw [ha, hb]
  omega
theorem name_both {g : GraphD} {s : List Bool} {v w : Nat} (h : nameOf g s v = nameOf g s w) (h0 : 0 ≤ nameOf g s v) : both g s v w := by
  obtain ⟨a, ha⟩ := name_nonneg h0
  exact (name_nat ha).2.1.trans (name_nat (h ▸ ha)).2.1.symm
/-- A name is its own. -/
theorem name_name {g : GraphD} {s : List Bool} {v w : Nat} (h : nameOf g s v = w) : nameOf g s w = w ∧ w < g.length ∧ atB s w = false ∧ both g s v w := by
  have hb := (name_nat h).2.1
  exact ⟨by rw [← name_eq hb, h], hb.1.right.1, hb.1.right.2, hb⟩
noncomputable def namesL (g : GraphD) (s : List Bool) : List Int := (List.range g.length).map (nameOf g s)
theorem namesL_length (g : GraphD) (s : List Bool) : (namesL g s).length = g.length := by simp [namesL]
theorem namesL_at {g : GraphD} {s : List Bool} {v : Nat} (h : v < (namesL g s).length) : (namesL g s)[v] = nameOf g s v := by simp [namesL]

/-! ### The order -/
open Classical in
noncomputable def cand (g : GraphD) (s : List Bool) (out : List Int) (v : Nat) : Bool :=
  decide (nameOf g s v = v ∧ (v : Int) ∉ out ∧ ∀ w : Nat, w < g.length → nameOf g s w = w → w ≠ v → (w : Int) ∉ out → ¬ PathG g s w v)
noncomputable def best (g : GraphD) (s : List Bool) (out : List Int) : Option Nat := leastF (cand g s out) g.length
theorem cand_iff {g : GraphD} {s : List Bool} {out : List Int} {v : Nat} : cand g s out v = true ↔ nameOf g s v = v ∧ (v : Int) ∉ out ∧ ∀ w : Nat, w < g.length → nameOf g s w = w → w ≠ v → (w : Int) ∉ out → ¬ PathG g s w v := by
  classical
  unfold cand; exact decide_eq_true_iff
inductive Runs (g : GraphD) (s : List Bool) : List Int → List Int → Prop
  | stop {out : List Int} : best g s out = none → Runs g s out out
  | step {out res : List Int} {v : Nat} : best g s out = some v → Runs g s (out ++ [(v : Int)]) res → Runs g s out res
theorem Runs.none {g : GraphD} {s : List Bool} {out res : List Int} (h : Runs g s out res) (hb : best g s out = .none) : out = res := by
  cases h with
  | stop _ => rfl
  | step h1 _ => rw [hb] at h1; cases h1
theorem Runs.some {g : GraphD} {s : List Bool} {out res : List Int} {v : Nat} (h : Runs g s out res) (hb : best g s out = .some v) : Runs g s (out ++ [(v : Int)]) res := by
  cases h with
  | stop h1 => rw [hb] at h1; cases h1
  | step h1 h2 => rw [hb] at h1; injection h1 with h1; subst h1; exact h2
theorem filter_less {α : Type} {p q : α → Bool} : ∀ {l : List α}, (∀ x ∈ l, q x = true → p x = true) → ∀ y ∈ l, p y = true → q y = false → (l.filter q).length < (l.filter p).length
  | [], _, y, hy, _, _ => by simp at hy
  | x :: l, h, y, hy, hp, hq => by
    have key : (l.filter q).length ≤ (l.filter p).length := filter_le (fun z hz => h z (by simp [hz]))
    rcases List.mem_cons.1 hy with rfl | hy'
    · rw [List.filter_cons_of_pos hp, List.filter_cons_of_neg (by simp [hq]), List.length_cons]
      omega
    · have ih := filter_less (fun z hz => h z (by simp [hz])) y hy' hp hq
      rcases e : q x with _ | _
      · rw [List.filter_cons_of_neg (by simp [e])]
        rcases e2 : p x with _ | _
        · rw [List.filter_cons_of_neg (by simp [e2])]; exact ih
        · rw [List.filter_cons_of_pos e2, List.length_cons]; omega
      · rw [List.filter_cons_of_pos e, List.filter_cons_of_pos (h x (by simp) e), List.length_cons, List.length_cons]
        omega
where
  filter_le {α : Type} {p q : α → Bool} : ∀ {l : List α}, (∀ x ∈ l, q x = true → p x = true) → (l.filter q).length ≤ (l.filter p).length
  | [], _ => by simp
  | x :: l, h => by
    have ih := filter_le (p := p) (q := q) (l := l) (fun z hz => h z (by simp [hz]))
    rcases e : q x with _ | _
    · rw [List.filter_cons_of_neg (by simp [e])]
      rcases e2 : p x with _ | _
      · rw [List.filter_cons_of_neg (by simp [e2])]; exact ih
      · rw [List.filter_cons_of_pos e2, List.length_cons]; omega
    · rw [List.filter_cons_of_pos e, List.filter_cons_of_pos (h x (by simp) e), List.length_cons, List.length_cons]
      omega
def leftN (g : GraphD) (out : List Int) : Nat := ((List.range g.length).filter (fun (v : Nat) => decide ((v : Int) ∉ out))).length
theorem leftN_step {g : GraphD} {out : List Int} {v : Nat} (hv : v < g.length) (hn : (v : Int) ∉ out) : leftN g (out ++ [(v : Int)]) < leftN g out :=
  filter_less (fun x _ h => by simp at h ⊢; exact h.1) v (List.mem_range.2 hv) (by simpa using hn) (by simp)
theorem best_some {g : GraphD} {s : List Bool} {out : List Int} {v : Nat} (h : best g s out = some v) : v < g.length ∧ cand g s out v = true := ⟨(leastF_some h).2.1, (leastF_some h).1⟩
theorem best_left {g : GraphD} {s : List Bool} {out : List Int} {v : Nat} (h : best g s out = some v) : leftN g (out ++ [(v : Int)]) < leftN g out :=
  leftN_step (best_some h).1 (cand_iff.1 (best_some h).2).2.1
theorem runs_ex (g : GraphD) (s : List Bool) : ∀ (k : Nat) (out : List Int), leftN g out ≤ k → ∃ r, Runs g s out r
  | k, out, h => by
    rcases e : best g s out with _ | v
    · exact ⟨out, .stop e⟩
    · have hl := best_left e
      match k, h with
      | 0, h => omega
      | k + 1, h =>
        obtain ⟨r, hr⟩ := runs_ex g s k (out ++ [(v : Int)]) (by omega)
        exact ⟨r, .step e hr⟩
noncomputable def orderL (g : GraphD) (s : List Bool) : List Int := Classical.choose (runs_ex g s _ [] (Nat.le_refl _))
theorem orderL_runs (g : GraphD) (s : List Bool) : Runs g s [] (orderL g s) := Classical.choose_spec (runs_ex g s _ [] (Nat.le_refl _))
structure OrdOk (g : GraphD) (s : List Bool) (out : List Int) : Prop where
  nodup : out.Nodup
  name : ∀ z ∈ out, ∃ v : Nat, z = v ∧ v < g.length ∧ nameOf g s v = v
  before : ∀ (i v w : Nat), out[i]? = some (v : Int) → nameOf g s w = w → w ≠ v → PathG g s w v → ∃ j, j < i ∧ out[j]? = some (w : Int)
theorem OrdOk.nil (g : GraphD) (s : List Bool) : OrdOk g s [] := ⟨.nil, by simp, by simp⟩
theorem OrdOk.step {g : GraphD} {s : List Bool} {out : List Int} {v : Nat} (h : OrdOk g s out) (hb : best g s out = some v) : OrdOk g s (out ++ [(v : Int)]) := by
  obtain ⟨hv, hc⟩ := best_some hb
  obtain ⟨h1, h2, h3⟩ := cand_iff.1 hc
  refine ⟨?_, fun z hz => ?_, fun i x w hx hw hne hp => ?_⟩
  · rw [List.nodup_append]
    refine ⟨h.nodup, by simp, fun a ha b hb => ?_⟩
    simp at hb
    subst hb
    intro e
    subst e
    exact h2 ha
  · rcases List.mem_append.1 hz with hz | hz
    · exact h.name z hz
    · simp at hz
      exact ⟨v, hz, hv, h1⟩
  · rw [List.getElem?_append] at hx
    split at hx
    · rename_i hi
      obtain ⟨j, hj, e⟩ := h.before i x w hx hw hne hp
      exact ⟨j, hj, by rw [List.getElem?_append, if_pos (by omega)]; exact e⟩
    · rename_i hi
      have hi2 : i - out.length = 0 := by
        have := (List.getElem?_eq_some_iff.1 hx).1
        simp at this
        omega
      rw [hi2] at hx
      simp at hx
      have hxv : v = x := by omega
      subst hxv
      have hwl := hp.left.1
      have hin : (w : Int) ∈ out := Classical.byContradiction fun hno => h3 w hwl hw hne hno hp
      obtain ⟨j, hj, e⟩ := List.mem_iff_getElem.1 hin
      exact ⟨j, by omega, by rw [List.getElem?_append, if_pos hj, List.getElem?_eq_getElem hj, e]⟩
theorem runs_ok {g : GraphD} {s : List Bool} {out res : List Int} (h : Runs g s out res) : OrdOk g s out → OrdOk g s res ∧ best g s res = none := by
  induction h with
  | stop hb => exact fun h => ⟨h, hb⟩
  | step hb _ ih => exact fun h => ih (h.step hb)
open Classical in
/-- w is a name that is left and leads to v. -/
noncomputable def ahead (g : GraphD) (s : List Bool) (out : List Int) (v w : Nat) : Bool := decide (nameOf g s w = w ∧ w ≠ v ∧ (w : Int) ∉ out ∧ PathG g s w v)
theorem ahead_iff {g : GraphD} {s : List Bool} {out : List Int} {v w : Nat} : ahead g s out v w = true ↔ nameOf g s w = w ∧ w ≠ v ∧ (w : Int) ∉ out ∧ PathG g s w v := by
  classical
  unfold ahead; exact decide_eq_true_iff
/-- If a name is left, so is one to which no other one that is left leads. -/
theorem least_left {g : GraphD} {s : List Bool} {out : List Int} : ∀ (k v : Nat), ((List.range g.length).filter (ahead g s out v)).length ≤ k →
    v < g.length → nameOf g s v = v → (v : Int) ∉ out → ∃ x, x < g.length ∧ cand g s out x = true
  | k, v, hk, hv, hn, ho => by
    by_cases hc : cand g s out v = true
    · exact ⟨v, hv, hc⟩
    · have hex : ∃ w : Nat, w < g.length ∧ nameOf g s w = w ∧ w ≠ v ∧ (w : Int) ∉ out ∧ PathG g s w v := Classical.byContradiction fun hno => hc (cand_iff.2 ⟨hn, ho, fun w h1 h2 h3 h4 h5 => hno ⟨w, h1, h2, h3, h4, h5⟩⟩)
      obtain ⟨w, hw, hwn, hwv, hwo, hwp⟩ := hex
      have hless := filter_less (l := List.range g.length) (q := ahead g s out w) (p := ahead g s out v)
        (fun u _ h => by
          have h := ahead_iff.1 h
          refine ahead_iff.2 ⟨h.1, fun e => ?_, h.2.2.1, h.2.2.2.trans hwp⟩
          subst e
          have := name_eq (⟨h.2.2.2, hwp⟩ : both g s u w)
          rw [h.1, hwn] at this
          exact hwv (by omega)) w (List.mem_range.2 hw) (ahead_iff.2 ⟨hwn, hwv, hwo, hwp⟩) (by
            rcases e : ahead g s out w w with _ | _
            · rfl
            · exact absurd rfl (ahead_iff.1 e).2.1)
      match k, hk with
      | 0, hk => omega
      | k + 1, hk => exact least_left k w (by omega) hw hwn hwo
theorem best_all {g : GraphD} {s : List Bool} {out : List Int} (h : best g s out = none) {v : Nat} (hv : v < g.length) (hn : nameOf g s v = v) : (v : Int) ∈ out := Classical.byContradiction fun ho => by
  obtain ⟨x, hx, hc⟩ := least_left _ v (Nat.le_refl _) hv hn ho
  have := leastF_none h x hx
  rw [hc] at this
  cases this
theorem order_ok (g : GraphD) (s : List Bool) : OrdOk g s (orderL g s) := (runs_ok (orderL_runs g s) (.nil g s)).1
theorem order_all {g : GraphD} {s : List Bool} {v : Nat} (hv : v < g.length) (hn : nameOf g s v = v) : (v : Int) ∈ orderL g s := best_all (runs_ok (orderL_runs g s) (.nil g s)).2 hv hn

/-! ### The quotient -/
def quotMem (g : GraphD) (s : List Bool) (a : Nat) (z : Int) : Prop := ∃ u x : Nat, EdgeG g u x ∧ nameOf g s u = a ∧ nameOf g s x = z ∧ 0 ≤ z ∧ z ≠ a
open Classical in
noncomputable def quotRow (g : GraphD) (s : List Bool) (a : Nat) : List Int := ((List.range g.length).filter (fun (b : Nat) => decide (quotMem g s a b))).map (fun (b : Nat) => (b : Int))
noncomputable def quotL (g : GraphD) (s : List Bool) : GraphD := (List.range g.length).map (quotRow g s)
theorem quotL_length (g : GraphD) (s : List Bool) : (quotL g s).length = g.length := by simp [quotL]
theorem quotL_at {g : GraphD} {s : List Bool} {a : Nat} (h : a < (quotL g s).length) : (quotL g s)[a] = quotRow g s a := by simp [quotL]
theorem quotRow_mem {g : GraphD} {s : List Bool} {a : Nat} {z : Int} : z ∈ quotRow g s a ↔ quotMem g s a z := by
  classical
  unfold quotRow
  rw [List.mem_map]
  constructor
  · rintro ⟨b, hb, rfl⟩
    have := (List.mem_filter.1 hb).2
    simpa using this
  · intro h
    have h0 := h
    obtain ⟨u, x, _, _, hx, hz, _⟩ := h
    obtain ⟨b, rfl⟩ := Int.eq_ofNat_of_zero_le hz
    exact ⟨b, List.mem_filter.2 ⟨List.mem_range.2 (name_name hx).2.1, by simpa using h0⟩, rfl⟩
theorem quotRow_sorted (g : GraphD) (s : List Bool) (a : Nat) : (quotRow g s a).Pairwise (· < ·) := by
  unfold quotRow
  rw [List.pairwise_map]
  refine List.Pairwise.imp (fun h => ?_) (List.Pairwise.filter _ (List.pairwise_lt_range))
  omega
/-- Who leads to whom, comes before. -/
theorem quot_path {g : GraphD} {s : List Bool} {a b : Nat} (h : quotMem g s a b) : nameOf g s a = a ∧ nameOf g s b = b ∧ b ≠ a ∧ PathG g s a b := by
  obtain ⟨u, x, he, hu, hx, _, hne⟩ := h
  obtain ⟨a1, _, _, a2⟩ := name_name hu
  obtain ⟨b1, _, _, b2⟩ := name_name hx
  refine ⟨a1, b1, fun e => hne (by rw [e]), ?_⟩
  exact (a2.2.trans (PathG.step (.refl a2.1.left.1 a2.1.left.2) he b2.1.left.1 b2.1.left.2)).trans b2.1
end Go.Proofs.Ytfgpenekmokdiaa.Fl
