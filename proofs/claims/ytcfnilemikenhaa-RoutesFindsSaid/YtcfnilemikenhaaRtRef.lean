/- Contracts of the reference's Distances, Hops, Path and Table of layer 7, for all graphs. -/
import Derived.Test.YtcfnilemikenhaaGrFirst
import Derived.Test.YtcfnilemikenhaaRcFrom
import Derived.Test.YtcfnilemikenhaaRcWo
import Derived.Test.YtcfnilemikenhaaGrMade
namespace Go.Proofs.Ytcfnilemikenhaa
open Go Go.RowKit Fl

theorem hopsL_len (g : GraphD) (dist : List Int) : (hopsL g dist).length = g.length := by simp [hopsL]
/-- The error of two vertices. -/
def twoE (g : GraphD) (m : Nat) (a b : Int) : Int := if chkG g m = 0 then (if (0 ≤ a ∧ a < g.length) ∧ 0 ≤ b ∧ b < g.length then 0 else 19) else chkG g m
def disL (g : GraphD) (s : List Bool) (goal : Int) : List Int := if twoE g s.length goal goal = 0 then distF g s goal.toNat else []
def hopL (g : GraphD) (s : List Bool) (goal : Int) : List Int := if twoE g s.length goal goal = 0 then hopsL g (distF g s goal.toNat) else []
def patL (g : GraphD) (s : List Bool) (a goal : Int) : List Int := if twoE g s.length a goal = 0 then firstF g s a.toNat goal.toNat else []
def tabF (g : GraphD) (s : List Bool) (k : Nat) : GraphD := (List.range k).map (fun v => hopsL g (distF g s v))
def tabL (g : GraphD) (s : List Bool) : GraphD := if chkG g s.length = 0 then tabF g s g.length else []
theorem twoE_zero {g : GraphD} {m : Nat} {a b : Int} (h : twoE g m a b = 0) : validG g = true ∧ m = g.length ∧ (0 ≤ a ∧ a < g.length) ∧ 0 ≤ b ∧ b < g.length := by
  unfold twoE at h
  split at h
  · rename_i h0
    split at h
    · rename_i h1
      rcases chkG_cases g m with h2 | h2 | h2
      · exact ⟨h2.2.1, h2.2.2, h1⟩
      · omega
      · omega
    · cases h
  · rename_i h0
    exact absurd h h0
theorem twoE_ok {g : GraphD} {m : Nat} {a b : Nat} (h : chkG g m = 0) (ha : a < g.length) (hb : b < g.length) : twoE g m a b = 0 := by
  unfold twoE
  rw [if_pos h, if_pos (by omega)]
theorem twoE_cases (g : GraphD) (m : Nat) (a b : Int) : twoE g m a b = 0 ∨ twoE g m a b = 19 ∨ twoE g m a b = 20 := by
  unfold twoE
  split
  · split
    · exact .inl rfl
    · exact .inr (.inl rfl)
  · rcases chkG_cases g m with h | h | h
    · exact .inl h.1
    · exact .inr (.inl h)
    · exact .inr (.inr h)
set_option maxRecDepth 100000 in
set_option maxHeartbeats 4000000 in
theorem two_c (A B : Option Addr) (c d : Nat) (g : GraphD) (m : Nat) (a b : Int) (w : World) (hh : RowsAt w A g) (hl : g.length ≤ 1000000000000000000) (hr : ∀ r ∈ g, r.length ≤ 1000000000000000000) :
    Calls Try.prog 29 #[.slice A g.length c, .slice B m d, .int .i64 a, .int .i64 b] w fun e w' => e = .returned (.int .i64 (twoE g m a b)) ∧ w = w' := by
  have CC := Lib.hid (refCheck_c A B c d m g w hh hl hr)
  clear hh hr
  by_cases h0 : chkG g m = 0
  · rw [h0] at CC
    have hcase : (decide (a < 0) = true ∧ twoE g m a b = 19) ∨ (decide (a < 0) = false ∧ decide ((g.length : Int) ≤ a) = true ∧ twoE g m a b = 19) ∨ (decide (a < 0) = false ∧ decide ((g.length : Int) ≤ a) = false ∧ decide (b < 0) = true ∧ twoE g m a b = 19) ∨ (decide (a < 0) = false ∧ decide ((g.length : Int) ≤ a) = false ∧ decide (b < 0) = false ∧ decide ((g.length : Int) ≤ b) = true ∧ twoE g m a b = 19) ∨ (decide (a < 0) = false ∧ decide ((g.length : Int) ≤ a) = false ∧ decide (b < 0) = false ∧ decide ((g.length : Int) ≤ b) = false ∧ twoE g m a b = 0) := by
      simp only [decide_eq_true_eq, decide_eq_false_iff_not]
      unfold twoE
      rw [if_pos h0]
      by_cases h1 : (0 ≤ a ∧ a < g.length) ∧ 0 ≤ b ∧ b < g.length
      · rw [if_pos h1]; omega
      · rw [if_neg h1]; omega
    clear h0
    rcases hcase with ⟨h1, h5⟩ | ⟨h1, h2, h5⟩ | ⟨h1, h2, h3, h5⟩ | ⟨h1, h2, h3, h4, h5⟩ | ⟨h1, h2, h3, h4, h5⟩
    all_goals
      rw [h5]
      clear h5
      go_enter Try.func29, Try.ntmps29
      go_wp2_with fail
      refine CC.out.mono ?_
      rintro e w1 ⟨rfl, rfl⟩
      go_wp2
      go_ret
      exact ⟨rfl, rfl⟩
  · have hcase : (chkG g m = 19 ∧ twoE g m a b = 19) ∨ (chkG g m = 20 ∧ twoE g m a b = 20) := by
      unfold twoE
      rw [if_neg h0]
      rcases chkG_cases g m with h | h | h
      · exact absurd h.1 h0
      · exact .inl ⟨h, h⟩
      · exact .inr ⟨h, h⟩
    clear h0
    rcases hcase with ⟨h, h2⟩ | ⟨h, h2⟩
    all_goals
      rw [h2]
      rw [h] at CC
      clear h h2
      go_enter Try.func29, Try.ntmps29
      go_wp2_with fail
      refine CC.out.mono ?_
      rintro e w1 ⟨rfl, rfl⟩
      go_wp2
      go_ret
      exact ⟨rfl, rfl⟩
def ListPost (w : World) (l : List Int) (k : Int) (e : Ending) (w' : World) : Prop := ∃ u, e = .returned (.tuple #[u, .int .i64 k]) ∧ w'.ownsRow w.heap.size 3 1 u l.length (l.map Iv) ∧ Below w.heap.size w w'
set_option maxRecDepth 100000 in
set_option maxHeartbeats 4000000 in
theorem refDistances_c (A B : Option Addr) (c d : Nat) (g : GraphD) (s : List Bool) (goal : Int) (w : World) (hh : RowsAt w A g) (hs : Holds w B (s.map Bo)) (hl : g.length ≤ 1000000000000000000) (hr : ∀ r ∈ g, r.length ≤ 1000000000000000000) :
    Calls Try.prog 13 #[.slice A g.length c, .slice B s.length d, .int .i64 goal] w (ListPost w (disL g s goal) (twoE g s.length goal goal)) := by
  have CC := Lib.hid (two_c A B c d g s.length goal goal w hh hl hr)
  rcases twoE_cases g s.length goal goal with h0 | h0 | h0
  · have hz := twoE_zero h0
    have CI : Hid (Calls Try.prog 30 #[.slice A g.length c, .slice B s.length d, .int .i64 goal] w fun e w' => ∃ v, e = .returned v ∧ w'.ownsRow w.heap.size 3 1 v (disL g s goal).length ((disL g s goal).map Iv) ∧ Below w.heap.size w w') := Lib.hid (by
      obtain ⟨hv, hsl, ha, hb⟩ := hz
      obtain ⟨n, rfl⟩ := Int.eq_ofNat_of_zero_le hb.1
      have hn : n < g.length := by omega
      have he : disL g s (n : Int) = distF g s n := by unfold disL; rw [if_pos h0, Int.toNat_natCast]
      rw [he, distF_length]
      exact dist_c A B c d g s n w hh hs hv hsl hn)
    rw [h0] at CC ⊢
    clear hh hs hr h0 hz
    go_enter Try.func13, Try.ntmps13
    go_wp2_with fail
    refine CC.out.mono ?_
    rintro e w1 ⟨rfl, rfl⟩
    go_wp2_with fail
    refine CI.out.mono ?_
    rintro e w2 ⟨u, rfl, own2, hb2⟩
    have HO := Lib.hid own2
    have HB := Lib.hid hb2
    clear own2 hb2 CC CI
    go_wp2
    go_ret2
    exact ⟨_, rfl, HO.out, HB.out⟩
  all_goals
    have HE : Hid (disL g s goal = []) := Lib.hid (by unfold disL; rw [if_neg (by rw [h0]; decide)])
    rw [h0] at CC ⊢
    clear hh hs hr h0
    go_enter Try.func13, Try.ntmps13
    go_wp2_with fail
    refine CC.out.mono ?_
    rintro e w1 ⟨rfl, rfl⟩
    go_wp2
    go_ret2
    exact ⟨_, rfl, by rw [HE.out]; exact World.ownsRow_nil _ _ _ _, Below.refl _ _⟩
set_option maxRecDepth 100000 in
set_option maxHeartbeats 4000000 in
theorem refHops_c (A B : Option Addr) (c d : Nat) (g : GraphD) (s : List Bool) (goal : Int) (w : World) (hh : RowsAt w A g) (hs : Holds w B (s.map Bo)) (hl : g.length ≤ 1000000000000000000) (hr : ∀ r ∈ g, r.length ≤ 1000000000000000000) :
    Calls Try.prog 15 #[.slice A g.length c, .slice B s.length d, .int .i64 goal] w (ListPost w (hopL g s goal) (twoE g s.length goal goal)) := by
  have CC := Lib.hid (two_c A B c d g s.length goal goal w hh hl hr)
  rcases twoE_cases g s.length goal goal with h0 | h0 | h0
  · have hz := twoE_zero h0
    have CI : Hid (Calls Try.prog 32 #[.slice A g.length c, .slice B s.length d, .int .i64 goal] w fun e w' => ∃ v, e = .returned v ∧ w'.ownsRow w.heap.size 3 1 v (hopL g s goal).length ((hopL g s goal).map Iv) ∧ Below w.heap.size w w') := Lib.hid (by
      obtain ⟨hv, hsl, ha, hb⟩ := hz
      obtain ⟨n, rfl⟩ := Int.eq_ofNat_of_zero_le hb.1
      have hn : n < g.length := by omega
      have he : hopL g s (n : Int) = hopsL g (distF g s n) := by unfold hopL; rw [if_pos h0, Int.toNat_natCast]
      rw [he, hopsL_len]
      exact hops_c A B c d g s n w hh hs hv hsl hn)
    rw [h0] at CC ⊢
    clear hh hs hr h0 hz
    go_enter Try.func15, Try.ntmps15
    go_wp2_with fail
    refine CC.out.mono ?_
    rintro e w1 ⟨rfl, rfl⟩
    go_wp2_with fail
    refine CI.out.mono ?_
    rintro e w2 ⟨u, rfl, own2, hb2⟩
    have HO := Lib.hid own2
    have HB := Lib.hid hb2
    clear own2 hb2 CC CI
    go_wp2
    go_ret2
    exact ⟨_, rfl, HO.out, HB.out⟩
  all_goals
    have HE : Hid (hopL g s goal = []) := Lib.hid (by unfold hopL; rw [if_neg (by rw [h0]; decide)])
    rw [h0] at CC ⊢
    clear hh hs hr h0
    go_enter Try.func15, Try.ntmps15
    go_wp2_with fail
    refine CC.out.mono ?_
    rintro e w1 ⟨rfl, rfl⟩
    go_wp2
    go_ret2
    exact ⟨_, rfl, by rw [HE.out]; exact World.ownsRow_nil _ _ _ _, Below.refl _ _⟩
set_option maxRecDepth 100000 in
set_option maxHeartbeats 4000000 in
theorem refPath_c (A B : Option Addr) (c d : Nat) (g : GraphD) (s : List Bool) (a goal : Int) (w : World) (hh : RowsAt w A g) (hs : Holds w B (s.map Bo)) (hl : g.length ≤ 1000000000000000000) (hr : ∀ r ∈ g, r.length ≤ 1000000000000000000) :
    Calls Try.prog 18 #[.slice A g.length c, .slice B s.length d, .int .i64 a, .int .i64 goal] w (ListPost w (patL g s a goal) (twoE g s.length a goal)) := by
  have CC := Lib.hid (two_c A B c d g s.length a goal w hh hl hr)
  rcases twoE_cases g s.length a goal with h0 | h0 | h0
  · have hz := twoE_zero h0
    have CI : Hid (Calls Try.prog 33 #[.slice A g.length c, .slice B s.length d, .int .i64 a, .int .i64 goal] w fun e w' => ∃ v, e = .returned v ∧ w'.ownsRow w.heap.size 3 1 v (patL g s a goal).length ((patL g s a goal).map Iv) ∧ Below w.heap.size w w') := Lib.hid (by
      obtain ⟨hv, hsl, ha, hb⟩ := hz
      obtain ⟨n, rfl⟩ := Int.eq_ofNat_of_zero_le hb.1
      obtain ⟨m, rfl⟩ := Int.eq_ofNat_of_zero_le ha.1
      have hn : n < g.length := by omega
      have hm : m < g.length := by omega
      have he : patL g s (m : Int) (n : Int) = firstF g s m n := by unfold patL; rw [if_pos h0, Int.toNat_natCast, Int.toNat_natCast]
      rw [he]
      exact first_c A B c d g s m n w hh hs hv hsl hm hn)
    rw [h0] at CC ⊢
    clear hh hs hr h0 hz
    go_enter Try.func18, Try.ntmps18
    go_wp2_with fail
    refine CC.out.mono ?_
    rintro e w1 ⟨rfl, rfl⟩
    go_wp2_with fail
    refine CI.out.mono ?_
    rintro e w2 ⟨u, rfl, own2, hb2⟩
    have HO := Lib.hid own2
    have HB := Lib.hid hb2
    clear own2 hb2 CC CI
    go_wp2
    go_ret2
    exact ⟨_, rfl, HO.out, HB.out⟩
  all_goals
    have HE : Hid (patL g s a goal = []) := Lib.hid (by unfold patL; rw [if_neg (by rw [h0]; decide)])
    rw [h0] at CC ⊢
    clear hh hs hr h0
    go_enter Try.func18, Try.ntmps18
    go_wp2_with fail
    refine CC.out.mono ?_
    rintro e w1 ⟨rfl, rfl⟩
    go_wp2
    go_ret2
    exact ⟨_, rfl, by rw [HE.out]; exact World.ownsRow_nil _ _ _ _, Below.refl _ _⟩
/-- One row more. -/
theorem RowsOwn.app {w w' : World} {base : Nat} {v v' u : Value} {g : GraphD} {r : List Int} {vs : List Value} (h1 : vs.length = g.length) (h2 : w.ownsRow base 25 1 v g.length vs) (h3 : ∀ (k : Nat) (u : Value) (r : List Int), vs[k]? = some u → g[k]? = some r → w.ownsRow base 3 1 u r.length (r.map Iv))
    (hu : w.ownsRow base 3 1 u r.length (r.map Iv)) (hg : w.grownBy w' v.ownBlock) (ho : w'.ownsRow base 25 1 v' (g.length + 1) (vs ++ [u])) : RowsOwn w' base v' (g ++ [r]) := by
  have hr : ∀ q, v.ownBlock = some q → ∃ cur, w.heap[q]? = some (.cells cur 25 (0, 0)) := fun q hq => by
    rcases h2.2 with ⟨hv, _⟩ | ⟨g', cap, cur, hv, _, hh, _⟩
    · rw [hv] at hq; cases hq
    · rw [hv] at hq
      injection hq with hq
      subst hq
      exact ⟨cur, hh⟩
  refine ⟨vs ++ [u], by simp [h1], by simpa using ho, fun j x y hx hy => ?_⟩
  have key : w.ownsRow base 3 1 x y.length (y.map Iv) := by
    rw [List.getElem?_append] at hx hy
    split at hx
    · rename_i hj
      rw [if_pos (by omega)] at hy
      exact h3 j x y hx hy
    · rename_i hjk
      have hjk' : j = g.length := by
        have := (List.getElem?_eq_some_iff.1 hx).1
        simp at this
        omega
      subst hjk'
      simp [h1] at hx
      simp at hy
      subst hx hy
      exact hu
  exact own_row_other key hg hr (by decide)
theorem tabF_succ (g : GraphD) (s : List Bool) (k : Nat) : tabF g s (k + 1) = tabF g s k ++ [hopsL g (distF g s k)] := by
  unfold tabF
  rw [List.range_succ, List.map_append]
  rfl
theorem tabF_len (g : GraphD) (s : List Bool) (k : Nat) : (tabF g s k).length = k := by simp [tabF]
set_option maxRecDepth 100000 in
set_option maxHeartbeats 4000000 in
theorem refTable_c (A B : Option Addr) (c d : Nat) (g : GraphD) (s : List Bool) (w : World) (hh : RowsAt w A g) (hs : Holds w B (s.map Bo)) (hl : g.length ≤ 1000000000000000000) (hr : ∀ r ∈ g, r.length ≤ 1000000000000000000) :
    Calls Try.prog 20 #[.slice A g.length c, .slice B s.length d] w (WoPost w (tabL g s) (chkG g s.length)) := by
  have CC := Lib.hid (refCheck_c A B c d s.length g w hh hl hr)
  by_cases h0 : chkG g s.length = 0
  · have hv : validG g = true ∧ s.length = g.length := by
      rcases chkG_cases g s.length with h | h | h
      · exact h.2
      · omega
      · omega
    have HE : Hid (tabL g s = tabF g s g.length) := Lib.hid (by unfold tabL; rw [if_pos h0])
    rw [h0] at CC ⊢
    have hl24 := validG_len hv.1
    have CR := Lib.hid (fun W (v : Nat) (hW : Below w.heap.size w W) hvn => hops_c A B c d g s v W (hh.keep hW) (hs.keep hW) hv.1 hv.2 hvn)
    obtain ⟨base, hb1, hb2⟩ : ∃ base, base ≤ w.heap.size ∧ w.heap.size ≤ base := ⟨w.heap.size, Nat.le_refl _, Nat.le_refl _⟩
    have HA1 : Hid (RowsOwn w base (.slice none 0 0) (tabF g s 0)) := Lib.hid (rowsOwn_nil w base)
    clear hh hs hr h0 hv
    go_enter Try.func20, Try.ntmps20
    go_wp2_with fail
    refine CC.out.mono ?_
    rintro e w1 ⟨rfl, rfl⟩
    clear CC
    go_wp2
    go_loopw [7, 8] (fun al i wr => ∃ u : Nat, i = .int .i64 u ∧ u ≤ g.length ∧ Hid (RowsOwn wr base al (tabF g s u)) ∧ Hid (Below w.heap.size w wr)) (fun _ i _ => g.length - (intOf i).toNat)
    case atStart => exact ⟨0, rfl, Nat.zero_le _, HA1, Lib.hid (Below.refl _ _)⟩
    case round =>
      clear HA1
      obtain ⟨u, rfl, hu, HAl, HW⟩ := hrel
      by_cases hlt : u < g.length
      · go_wp2_with fail
        refine (CR.out wr u HW.out hlt).mono ?_
        rintro e w8 ⟨x, rfl, hox, hb8⟩
        obtain ⟨gx, cx, rfl, hgx, _⟩ := own_at hox (by omega)
        have hws := HW.out.size
        have HW8 := Lib.hid (HW.out.trans (hb8.mono HW.out.size))
        have HAl8 := Lib.hid (HAl.out.keep hb8)
        have HOx : Hid (w8.ownsRow base 3 1 (.slice (some ⟨gx, 0, none⟩) g.length cx) (hopsL g (distF g s u)).length ((hopsL g (distF g s u)).map Iv)) := Lib.hid (by rw [hopsL_len]; exact ownsRow_base hox (by omega))
        have hs8 : base ≤ w8.heap.size := by have := hb8.size; omega
        have HTl := Lib.hid (tabF_len g s u)
        clear hox hb8 HAl HW hgx hws
        obtain ⟨vs, hvl, hvo, hvr⟩ := HAl8.out
        have HVO := Lib.hid (fun ob => hvo.alloc ob)
        have HVR := Lib.hid (fun ob j x r hx hy => (hvr j x r hx hy).alloc ob)
        have HOxA := Lib.hid (fun ob => HOx.out.alloc ob)
        have HVL := Lib.hid hvl
        have HBa := Lib.hid (own_base hvo)
        clear hvl hvo hvr HAl8 HOx
        go_wp2_with (at_builtin; refine app_any _ rfl _ _ 22 25 (.slice none 0 0) 24 Try.underlying22 Try.infoRowG rfl (by decide) rfl base _ (tabF g s u).length vs rfl (HVO.out _) _ (.slice (some ⟨gx, 0, none⟩) g.length cx) rfl (by rw [cell_of_row _ _ 0 _ _ _ (heap_alloc_new w8 _)]; rfl) rfl (by rw [HTl.out]; omega) (by simp; omega) ?_)
        intro v' w' hown hgrow
        have HAl2 : Hid (RowsOwn w' base v' (tabF g s (u + 1))) := Lib.hid (by rw [tabF_succ]; exact RowsOwn.app HVL.out (HVO.out _) (HVR.out _) (HOxA.out _) hgrow hown)
        have HW2 : Hid (Below w.heap.size w w') := Lib.hid (HW8.out.trans (((Below.refl w.heap.size w8).alloc HW8.out.size _).grown hgrow (by have := HW8.out.size; simp; omega) (fun k hk => by have := HBa.out k hk; omega)))
        clear hown hgrow HVO HVR HOxA HVL HBa HW8 hs8
        go_wp2
        go_roundw
        case rel => exact ⟨u + 1, by go_num, by omega, HAl2, HW2⟩
        case measure => simp [intOf]; omega
      · obtain rfl : u = g.length := by omega
        clear CR
        have HAe : Hid (∀ al, RowsOwn wr base al (tabF g s g.length) → RowsOwn wr w.heap.size al (tabL g s)) := Lib.hid (fun al h => by
          rw [HE.out]
          obtain ⟨vs, a, b, c⟩ := h
          exact ⟨vs, a, ownsRow_base b hb2, fun k u r h1 h2 => ownsRow_base (c k u r h1 h2) hb2⟩)
        go_wp2
        go_ret2
        exact ⟨_, rfl, HAe.out _ HAl.out, HW.out⟩
  · have HE : Hid (tabL g s = []) := Lib.hid (by unfold tabL; rw [if_neg h0])
    have hcase : chkG g s.length = 19 ∨ chkG g s.length = 20 := by
      rcases chkG_cases g s.length with h | h | h
      · exact absurd h.1 h0
      · exact .inl h
      · exact .inr h
    clear hh hs hl hr h0
    rcases hcase with h | h
    all_goals
      rw [h] at CC ⊢
      clear h
      go_enter Try.func20, Try.ntmps20
      go_wp2_with fail
      refine CC.out.mono ?_
      rintro e w1 ⟨rfl, rfl⟩
      go_wp2
      go_ret2
      exact ⟨_, rfl, by rw [HE.out]; exact rowsOwn_nil _ _, Below.refl _ _⟩
end Go.Proofs.Ytcfnilemikenhaa
