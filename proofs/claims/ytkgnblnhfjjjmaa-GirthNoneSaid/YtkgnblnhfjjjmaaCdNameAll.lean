/- Contract of components' nameAll. -/
import Derived.Test.YtkgnblnhfjjjmaaCdBack
import Derived.Test.YtkgnblnhfjjjmaaCdLeaving
import Derived.Test.YtkgnblnhfjjjmaaCdName
import Derived.Test.YtkgnblnhfjjjmaaCdSeen
import Derived.Test.YtkgnblnhfjjjmaaRdRev
import Derived.Test.YtkgnblnhfjjjmaaMjB
namespace Go.Proofs.Ytkgnblnhfjjjmaa
open Go Go.RowKit Go.Shelf Fl

attribute [local go_sem] Oper.semAt_some

/-- All blocks of W0 are as they were, but for two. -/
structure ButTwo (G q : Nat) (W0 W : World) : Prop where
  os : W.os = W0.os
  tape : W.tape = W0.tape
  output : W.output = W0.output
  size : W0.heap.size ≤ W.heap.size
  block : ∀ b, b < W0.heap.size → b ≠ G → b ≠ q → W.heap[b]? = W0.heap[b]?
theorem ButTwo.refl (G q : Nat) (W : World) : ButTwo G q W W := ⟨rfl, rfl, rfl, Nat.le_refl _, fun _ _ _ _ => rfl⟩
theorem ButTwo.step {G q : Nat} {W0 W W' : World} {row : Option Nat} (h : ButTwo G q W0 W) (hg : W.grownBy W' row) (hr : ∀ j, row = some j → j = G ∨ j = q ∨ W0.heap.size ≤ j) : ButTwo G q W0 W' :=
  ⟨hg.os.trans h.os, hg.tape.trans h.tape, hg.output.trans h.output, Nat.le_trans h.size hg.size, fun b hb h1 h2 => by
    rw [hg.block b (Nat.lt_of_lt_of_le hb h.size) (fun e => by
      rcases hr b e.symm with h3 | h3 | h3
      · exact h1 h3
      · exact h2 h3
      · omega)]
    exact h.block b hb h1 h2⟩
theorem ButTwo.cell {G q : Nat} {W0 W : World} (h : ButTwo G q W0 W) {a : Addr} {u : Value} (hc : W0.cell? a = some u) (h1 : a.block ≠ G) (h2 : a.block ≠ q) : W.cell? a = some u :=
  (World.cell?_of_block (w := W0) (h.block a.block (World.block_lt_of_cell? _ _ hc) h1 h2)).trans hc
theorem ButTwo.below {G q n : Nat} {W0 W : World} (h : ButTwo G q W0 W) (h0 : n ≤ W0.heap.size) (h1 : n ≤ G) (h2 : n ≤ q) {w : World} (hb : Below n w W0) : Below n w W :=
  hb.trans ⟨h.os, h.tape, h.output, h.size, fun b hb => h.block b (by omega) (by omega) (by omega)⟩
theorem RowsOwn.same {w w' : World} {base : Nat} {v : Value} {g : GraphD} (h : RowsOwn w base v g) (hs : ∀ b, base ≤ b → b < w.heap.size → w'.heap[b]? = w.heap[b]?) : RowsOwn w' base v g := by
  have key : ∀ {e : TypeId} {n : Nat} {u : Value} {xs : List Value}, w.ownsRow base e 1 u n xs → w'.ownsRow base e 1 u n xs := fun h => by
    obtain ⟨h1, hr⟩ := h
    refine ⟨h1, ?_⟩
    rcases hr with hr | ⟨b, cap, cur, hv, hgb, hh, hrest⟩
    · exact .inl hr
    · exact .inr ⟨b, cap, cur, hv, hgb, (hs b hgb (block_lt hh)).trans hh, hrest⟩
  obtain ⟨vs, h1, h2, h3⟩ := h
  exact ⟨vs, h1, key h2, fun k u r hk hr => key (h3 k u r hk hr)⟩
def vals {n : Nat} (zs : List (Fin n)) : List Nat := zs.map fun x => x.val
/-- The vertices that have come. -/
def cameV {n : Nat} (pre : List (Nat × Fin n)) : List Nat := pre.map fun x => x.2.val
theorem cameV_snoc {n : Nat} (pre : List (Nat × Fin n)) (x : Nat × Fin n) : cameV (pre ++ [x]) = cameV pre ++ [x.2.val] := by simp [cameV]
theorem pairs_vals {n : Nat} (zs : List (Fin n)) : cameV (pairsF zs) = vals zs := by
  unfold cameV vals pairsF
  refine List.ext_getElem (by simp) fun i h1 h2 => by simp
/-- If what has come is a beginning, the rest of the list is known. -/
theorem came_split {n : Nat} {zs : List (Fin n)} {pre : List (Nat × Fin n)} {x : Nat × Fin n} (h : pre ++ [x] <+: cameF zs 0) : ∃ L1, vals zs = L1 ++ x.2.val :: (cameV pre).reverse := by
  obtain ⟨r, hr⟩ := h
  have e : pairsF zs = r.reverse ++ x :: pre.reverse := by
    have e1 : cameF zs 0 = (pairsF zs).reverse := rfl
    rw [e1] at hr
    have e2 := congrArg List.reverse hr
    rw [List.reverse_reverse] at e2
    rw [← e2]
    simp
  refine ⟨cameV r.reverse, ?_⟩
  rw [← pairs_vals, e]
  simp [cameV]
theorem came_all {n : Nat} (zs : List (Fin n)) (x : Nat) : x ∈ cameV (cameF zs 0) ↔ x ∈ vals zs := by
  rw [← pairs_vals]
  have e1 : cameF zs 0 = (pairsF zs).reverse := rfl
  rw [e1]
  simp [cameV]
/-- Between two rounds. -/
def NameI (g : GraphD) (s : List Bool) (zs : List (Fin g.length)) (G q : Nat) (W0 : World) (pre : List (Nat × Fin g.length)) (W : World) : Prop :=
  ∃ (M : List Bool) (ns : List Int), M.length = 24 ∧ ns.length = g.length ∧ ArrC W G 62 (M.map Bo) ∧ ArrC W q 3 (ns.map Iv) ∧ ButTwo G q W0 W ∧ (pre <+: cameF zs 0 → NF g s (cameV pre) M ns)
theorem nameI_own {g : GraphD} {s : List Bool} {zs : List (Fin g.length)} {G q : Nat} {W0 : World} : OwnFrom W0.heap.size (NameI g s zs G q W0) := by
  rintro pre W W' row ⟨M, ns, h1, h2, h3, h4, h5, h6⟩ hg hr
  have key : ∀ {b : Nat} {t : TypeId} {l : List Value}, ArrC W b t l → ArrC W' b t l := fun {b t l} h => h.grown hg fun e => by
    obtain ⟨_, o, ho, hn⟩ := hr b e.symm
    unfold ArrC at h
    rw [h] at ho
    injection ho with ho
    subst ho
    simp [Obj.isCells] at hn
  exact ⟨M, ns, h1, h2, key h3, key h4, h5.step hg fun j hj => .inr (.inr (hr j hj).1), h6⟩
theorem fin_list {n : Nat} : ∀ {L : List Nat}, (∀ x ∈ L, x < n) → ∃ zs : List (Fin n), vals zs = L
  | [], _ => ⟨[], rfl⟩
  | x :: L, h => by
    obtain ⟨zs, e⟩ := fin_list (L := L) fun y hy => h y (by simp [hy])
    exact ⟨⟨x, h x (by simp)⟩ :: zs, by simp [vals] at e ⊢; exact e⟩
set_option pp.deepTerms true in
set_option pp.maxSteps 1000000 in
set_option maxRecDepth 100000 in
set_option maxHeartbeats 8000000 in
theorem nameAll_c (A B : Option Addr) (c d : Nat) (g : GraphD) (s : List Bool) (w : World) (hh : RowsAt w A g) (hs : Holds w B (s.map Bo)) (hg : validG g = true) (hsl : s.length = g.length) :
    Calls Try.prog 29 #[.slice A g.length c, .slice B s.length d] w fun e w' => ∃ u, e = .returned u ∧ w'.ownsRow w.heap.size 3 1 u g.length ((namesL g s).map Iv) ∧ Below w.heap.size w w' := by
  have hl24 := validG_len hg
  have HG := Lib.hid hg
  have HSL := Lib.hid hsl
  have HZ := Lib.hid (Sized.valid hg)
  have HH := Lib.hid hh
  have HS := Lib.hid hs
  have hpl := padM_length (M := s) (by omega)
  have hRv : revL g = revG g ∧ revE g = 0 := by unfold revL revE; rw [hg]; exact ⟨rfl, rfl⟩
  have HRv := Lib.hid hRv
  clear hh hs hsl hRv hg
  refine (callsIn_wide (n := 5)).1 ?_
  refine callsIn_of_wp_marks Try.func29 rfl trivial ?_ rfl
  simp only [Try.ntmps29, List.size_toArray, List.length_cons, List.length_nil, Nat.reduceAdd, Nat.reduceSub, Array.replicate_succ, Array.replicate_zero, List.push_toArray, List.append_toArray, List.nil_append, List.cons_append]
  refine wpIn_wide.2 ?_
  have CR := Lib.hid (repeat_c w.heap.size g.length (w.alloc (.cells #[.int .i64 (-1)] 3)) (new_cell _ _ _) hl24)
  rw [show (w.alloc (.cells #[.int .i64 (-1)] 3)).heap.size = w.heap.size + 1 from by simp] at CR
  go_wp2_with fail
  refine CR.out.mono ?_
  rintro e w1 ⟨rfl, own1, hb1⟩
  have HO1 := Lib.hid own1
  have HB1 := Lib.hid ((below_alloc w (.cells #[.int .i64 (-1)] 3)).trans (hb1.mono (Nat.le_succ _)))
  have hq1 : w.heap.size + 1 < w1.heap.size := by
    obtain ⟨_, hr⟩ := own1
    rcases hr with ⟨hv, _⟩ | ⟨g', cap, cur, hv, _, hh, _⟩
    · cases hv
    · injection hv with hA
      injection hA with hA
      injection hA with hA
      rw [hA]; exact block_lt hh
  clear own1 hb1 CR
  generalize hq : w.heap.size + 1 = q at *
  have HQ := Lib.hid hq
  clear hq
  have HB2 := Lib.hid (HB1.out.alloc HB1.out.size (.cells #[.slice (some ⟨q, 0, none⟩) g.length g.length] 24))
  have HO2 := Lib.hid (ownsRow_below HO1.out (below_alloc w1 (.cells #[.slice (some ⟨q, 0, none⟩) g.length g.length] 24)))
  have HC5 := Lib.hid (new_cell w1 (.slice (some ⟨q, 0, none⟩) g.length g.length) 24)
  have CV := Lib.hid (devReverse_c A c g (w1.alloc (.cells #[.slice (some ⟨q, 0, none⟩) g.length g.length] 24)) (HH.out.keep HB2.out) HZ.out.1 HZ.out.2)
  rw [HRv.out.1, HRv.out.2] at CV
  go_wp2_with fail
  refine CV.out.mono ?_
  rintro e w3 ⟨uR, rfl, ownR, hbR⟩
  obtain ⟨AR, cR, rfl, _⟩ := ownR.at_
  rw [revG_length] at ownR ⊢
  have hs2 : (w1.alloc (.cells #[.slice (some ⟨q, 0, none⟩) g.length g.length] 24)).heap.size = w1.heap.size + 1 := by simp
  rw [hs2] at ownR hbR
  have HO3 := Lib.hid (ownsRow_below HO2.out (hbR.mono (by simp)))
  have HC5b : Hid (w3.cell? ⟨w1.heap.size, 0, none⟩ = some (.slice (some ⟨q, 0, none⟩) g.length g.length)) := Lib.hid ((hbR.cell (p := ⟨w1.heap.size, 0, none⟩) (Nat.lt_succ_self _)).trans HC5.out)
  have HB3 := Lib.hid (HB2.out.trans (hbR.mono (by have := HB1.out.size; omega)))
  have HRr := Lib.hid ownR
  have hR3 : w1.heap.size + 1 ≤ w3.heap.size := by have := hbR.size; simpa using this
  clear HO1 HB1 HB2 HO2 HC5 CV ownR hbR hs2
  generalize hP5 : w1.heap.size = P5 at *
  clear hP5
  have HC6 := Lib.hid (new_cell w3 (.slice AR g.length cR) 22)
  have hb4 := below_alloc w3 (.cells #[.slice AR g.length cR] 22)
  have HO4 := Lib.hid (ownsRow_below HO3.out hb4)
  have HC54 : Hid ((w3.alloc (.cells #[.slice AR g.length cR] 22)).cell? ⟨P5, 0, none⟩ = some (.slice (some ⟨q, 0, none⟩) g.length g.length)) := Lib.hid ((hb4.cell (p := ⟨P5, 0, none⟩) (by show P5 < _; omega)).trans HC5b.out)
  have HRr4 := Lib.hid (HRr.out.keep hb4)
  have HB4 := Lib.hid (HB3.out.trans (hb4.mono HB3.out.size))
  have hs4 : (w3.alloc (.cells #[.slice AR g.length cR] 22)).heap.size = w3.heap.size + 1 := by simp
  clear HO3 HC5b HRr HB3 hb4
  have CS := Lib.hid (seenFirst_c B d s _ (HS.out.keep HB4.out) (by have := HSL.out; omega))
  go_wp2_with fail
  generalize w3.alloc (.cells #[.slice AR g.length cR] 22) = w4 at *
  generalize hP6 : w3.heap.size = P6 at *
  clear hP6
  refine CS.out.mono ?_
  rintro e w5 ⟨rfl, hb5⟩
  have hs5 : P6 + 1 ≤ w5.heap.size := by have := hb5.size; omega
  have HC55 := Lib.hid ((hb5.cell (p := ⟨P5, 0, none⟩) (by show P5 < _; omega)).trans HC54.out)
  have HC65 := Lib.hid ((hb5.cell (p := ⟨P6, 0, none⟩) (by show P6 < _; omega)).trans HC6.out)
  have HO5 := Lib.hid (ownsRow_below HO4.out hb5)
  have HRr5 := Lib.hid (HRr4.out.keep hb5)
  have HB5 := Lib.hid (HB4.out.trans (hb5.mono HB4.out.size))
  have hb55 := Below.refl w5.heap.size w5
  have HRr55 := Lib.hid HRr5.out
  clear HC54 HC6 HO4 HRr4 HB4 hb5 CS hs4
  have HZ6 := Lib.hid (zeros_c w5)
  have HPl : ((padM s).map Bo).length = 24 := by simpa using hpl
  have HM6 := Lib.hid (HZ6.out.row (l' := (padM s).map Bo))
  have hg6 : w5.grownBy ((w5.alloc (.cells Z24b 62)).setRow w5.heap.size ((padM s).map Bo).toArray) none := ⟨rfl, rfl, rfl, by simp [World.setRow], fun b hb _ => by
    rw [setRow_other _ _ _ _ (by omega)]
    exact Below.heap_alloc _ _ _ hb⟩
  have hb6 : Below w5.heap.size w5 ((w5.alloc (.cells Z24b 62)).setRow w5.heap.size ((padM s).map Bo).toArray) := (Below.refl _ _).grown hg6 (Nat.le_refl _) (fun k hk => by cases hk)
  have HC56 := Lib.hid ((hb6.cell (p := ⟨P5, 0, none⟩) (by show P5 < _; omega)).trans HC55.out)
  have HC66 := Lib.hid ((hb6.cell (p := ⟨P6, 0, none⟩) (by show P6 < _; omega)).trans HC65.out)
  have HO6 := Lib.hid (ownsRow_below HO5.out hb6)
  have HK6 := Lib.hid hb6
  have HB6 := Lib.hid (HB5.out.trans (hb6.mono HB5.out.size))
  have hs6 : w5.heap.size + 1 ≤ ((w5.alloc (.cells Z24b 62)).setRow w5.heap.size ((padM s).map Bo).toArray).heap.size := by simp [World.setRow]
  clear hg6 hb6 HC55 HC65 HO5 HRr5 HB5 hb55
  go_wp2_with (first | refine store_c rfl _ _ (by rfl) _ (by rfl) (by rfl) HZ6.out (by simp) HPl (bools_one _) ?_)
  clear HZ6
  generalize (w5.alloc (.cells Z24b 62)).setRow w5.heap.size ((padM s).map Bo).toArray = w6 at *
  have hW5 : w5.heap.size = w5.heap.size := rfl
  generalize hGG : w5.heap.size = G at *
  have HGG := Lib.hid hGG
  clear hGG hW5
  have CL := Lib.hid (leaving_c A B c d g s w6 (HH.out.keep HB6.out) (HS.out.keep HB6.out) HG.out HSL.out)
  go_wp2_with fail
  refine CL.out.mono ?_
  rintro e w7 ⟨uL, L, rfl, hu7, hb7, hdfs, hall⟩
  obtain ⟨AL, cL, rfl⟩ := hu7.is
  have HDf := Lib.hid hdfs
  have HAll := Lib.hid hall
  have HU7 := Lib.hid hu7
  have HC57 := Lib.hid ((hb7.cell (p := ⟨P5, 0, none⟩) (by show P5 < _; omega)).trans HC56.out)
  have HC67 := Lib.hid ((hb7.cell (p := ⟨P6, 0, none⟩) (by show P6 < _; omega)).trans HC66.out)
  have HO7 := Lib.hid (ownsRow_below HO6.out hb7)
  have HK7 := Lib.hid (HK6.out.trans (hb7.mono (by omega)))
  have HM7 := Lib.hid (HM6.out.same (hb7.block G (by omega)))
  have HB7 := Lib.hid (HB6.out.trans (hb7.mono HB6.out.size))
  have hs7 : G + 1 ≤ w7.heap.size := by have := hb7.size; omega
  have hsz6 : G + 1 ≤ w6.heap.size := hs6
  have HU7b := Lib.hid (hu7.base hsz6)
  clear hdfs hall hu7 hb7 HC56 HC66 HO6 HK6 HM6 HB6 CL HU7
  have CB := Lib.hid (back_c AL L.length cL w7)
  go_wp2_with fail
  refine CB.out.mono ?_
  rintro e w8 ⟨rfl, rfl⟩
  clear CB
  go_wp2_with fail
  obtain ⟨zs, hzs⟩ := fin_list (L := L) (fun x hx => (HDf.out.fresh x (by simpa using hx)).1)
  have hzl : zs.length = L.length := by rw [← hzs]; simp [vals]
  have hLl : L.length ≤ 24 := by
    have hs2 : L.length ≤ (List.range g.length).length := by
      refine List.Nodup.length_le_of_subset (by simpa using HDf.out.nodup) fun x hx => ?_
      exact List.mem_range.2 (HDf.out.fresh x (by simpa using hx)).1
    simp at hs2
    omega
  have hb8 := below_alloc w7 (.cells #[.slice AL L.length cL] 24)
  have hs8 : (w7.alloc (.cells #[.slice AL L.length cL] 24)).heap.size = w7.heap.size + 1 := by simp
  obtain ⟨bL, hbL1, hbL2, hbL3, hbL4⟩ : ∃ bL, G + 1 ≤ bL ∧ bL < w7.heap.size + 1 ∧ (0 < zs.length → AL = some ⟨bL, 0, none⟩ ∧ bL < w7.heap.size + 1) ∧ ∀ j (h : j < zs.length), (w7.alloc (.cells #[.slice AL L.length cL] 24)).cell? ⟨bL, j, none⟩ = some (.int .i64 ((zs[j].val : Nat) : Int)) := by
    rcases Nat.eq_zero_or_pos L.length with h0 | h0
    · exact ⟨w7.heap.size, by omega, by omega, fun h => by omega, fun j h => by omega⟩
    · obtain ⟨qq, cap, hv⟩ := HU7b.out.form h0
      injection hv with hA _ hc
      subst hA hc
      have hq := HU7b.out.lt (k := qq) rfl
      refine ⟨qq, hq.2, by omega, fun _ => ⟨rfl, by omega⟩, fun j hj => ?_⟩
      rw [hb8.cell (p := ⟨qq, j, none⟩) hq.1]
      refine HU7b.out.get ?_
      rw [← hzs]
      simp [nI, vals, hj]
  have HC58 := Lib.hid ((hb8.cell (p := ⟨P5, 0, none⟩) (by show P5 < _; omega)).trans HC57.out)
  have HC68 := Lib.hid ((hb8.cell (p := ⟨P6, 0, none⟩) (by show P6 < _; omega)).trans HC67.out)
  have HM8 := Lib.hid (HM7.out.same (hb8.block G (by omega)))
  have hO8 := ownsRow_below HO7.out hb8
  have HK8 := Lib.hid (HK7.out.trans (hb8.mono (by omega)))
  have HB8 := Lib.hid (HB7.out.trans (hb8.mono HB7.out.size))
  have HBk := Lib.hid (new_cell w7 (.slice AL L.length cL) 24)
  have hN8 : ArrC (w7.alloc (.cells #[.slice AL L.length cL] 24)) q 3 ((List.replicate g.length (-1 : Int)).map Iv) := by
    obtain ⟨_, hr⟩ := hO8
    rcases hr with ⟨hv, _⟩ | ⟨g', cap, cur, hv, _, hh, hnc, _, hcs, hx⟩
    · cases hv
    · injection hv with hA _ hcap
      injection hA with hA
      injection hA with hA
      subst hA hcap
      unfold ArrC
      rw [hh, List.map_replicate, ← hx, List.take_of_length_le (by simp; omega), Array.toArray_toList]
  have HN8 := Lib.hid hN8
  have CBk := back_stops Fence.wide (5 - 1) trivial rfl (by omega) (fun x : Fin g.length => ((x.val : Nat) : Int)) w7.heap.size bL cL AL zs (by omega) (w7.alloc (.cells #[.slice AL L.length cL] 24)) (by omega) (by rw [hs8]; exact hbL3) (by rw [hzl]; exact HBk.out) hbL4
  have HI0 : NameI g s zs G q (w7.alloc (.cells #[.slice AL L.length cL] 24)) [] (w7.alloc (.cells #[.slice AL L.length cL] 24)) := ⟨padM s, List.replicate g.length (-1), hpl, by simp, HM8.out, HN8.out, ButTwo.refl _ _ _, fun _ => NF.start g s⟩
  refine wpIn_wide.1 (?_ : Code.wpIn Fence.wide 5 _ _ _ _ _)
  refine wpIn_rangeFunc_ownF (F := Fence.wide) (n := 5) rfl (by omega) (gf := 48) (lb := #[.pointer (some ⟨w7.heap.size, 0, none⟩)]) rfl trivial (enters_of Try.func48 (by kernel_rfl) rfl) CBk (fun h k => h.trans k)
    (fun W l o o' hl _ _ _ => ⟨World.putObj_heap_other (by rw [hs8] at hl; omega), World.putObj_heap_other (by rw [hs8] at hl; omega)⟩) (Below.refl _ _) (fun _ => rfl)
    (NameI g s zs G q (w7.alloc (.cells #[.slice AL L.length cL] 24))) (fun _ _ _ => False) nameI_own (fun _ _ _ _ _ h _ _ => h) HI0
    (fun x => { tmps := #[Value.slice A (List.length g) c, Value.slice B s.length d, undef, undef, Value.slice none 0 0, Value.pointer (some { block := P5, off := 0 }), Value.pointer (some { block := P6, off := 0 }), Value.int IntKind.i64 0, Value.pointer (some { block := G, off := 0 }), undef, .int .i64 (x.2.val : Int), undef, undef, undef, undef, Value.slice (some { block := w.heap.size, off := 0 }) 1 1, Value.slice A (List.length g) c, Value.int IntKind.i64 (List.length g : Int), Value.slice (some { block := q, off := 0 }) (List.length g) (List.length g), Value.tuple #[Value.slice AR (List.length g) cR, Value.int IntKind.i64 0], Value.slice A (List.length g) c, Value.tuple #[Value.slice AR (List.length g) cR, Value.int IntKind.i64 0], Value.slice AR (List.length g) cR, Value.int IntKind.i64 0, Value.slice B s.length d, Value.agg (List.map Bo (padM s)).toArray, Value.slice A (List.length g) c, Value.slice B s.length d, Value.slice AL L.length cL, Value.func (Fn.func 48) #[] #[Value.pointer (some { block := w7.heap.size, off := 0 })], .int .i64 (x.1 : Int), .int .i64 (x.2.val : Int), undef, undef, undef, undef, undef, undef, undef, undef, undef, undef, undef, undef, undef, undef, undef, undef, undef, undef, undef, undef], defers := [] }) ?assign ?body ?done ?stop
  case assign =>
    intro l x W K hK
    gi_wp2
    exact hK
  case body =>
    rintro l pre x W ⟨M, ns, hml, hnl, hM, hN, hbt, hF⟩ hlen
    have hqG : q < G := by omega
    have e5 := hbt.cell HC58.out (by show P5 ≠ G; omega) (by show P5 ≠ q; omega)
    have e6 := hbt.cell HC68.out (by show P6 ≠ G; omega) (by show P6 ≠ q; omega)
    have hx24 : x.2.val < 24 := by have := x.2.isLt; omega
    have hxM : x.2.val < M.length := by omega
    obtain ⟨eS, _⟩ := hM.cell (k := x.2.val) (u := .bool M[x.2.val]) (by rw [List.getElem?_map, List.getElem?_eq_getElem hxM]; rfl)
    have hMv := atB_at hxM
    have HM := Lib.hid hM
    have HN := Lib.hid hN
    have HBt := Lib.hid hbt
    have HF := Lib.hid hF
    have hWs : w7.heap.size + 1 ≤ W.heap.size := by have := hbt.size; omega
    clear hM hN hbt hF
    rcases hb : M[x.2.val] with _ | _
    · rw [hb] at eS hMv
      have hgg := HGG.out
      have HRw := HRr55.out.same (w' := W) (fun b hb1 hb2 => (HBt.out.block b (by omega) (by omega) (by omega)).trans (HK8.out.block b (by omega)))
      obtain ⟨AR', cR', hv, hRA⟩ := HRw.at_
      rw [revG_length] at hv
      injection hv with hA _ hc
      subst hA hc
      have CS := search_c AR cR G (revG g) M [] x.2.val M W hRA (revG_valid HG.out) (Dfs.nil _ _) (by rw [revG_length]; exact x.2.isLt) HM.out hml (fun y => by simp) hMv
      rw [revG_length] at CS
      have HCS := Lib.hid CS
      have HMv := Lib.hid hMv
      clear CS hRA HRw hb hMv hgg
      gi_wp2_with fail
      refine ⟨trivial, ?_⟩
      refine (CallsIn.inRound l (callsIn_wide.2 HCS.out)).mono ?_
      rintro e wS ⟨u, lv, M5, rfl, hu5, hM5, hg5, hend⟩
      have hlp : 0 < lv.length := List.length_pos_of_mem hend.has
      obtain ⟨qu, cu, rfl⟩ := hu5.form hlp
      have hlt5 : ∀ y ∈ lv, y < g.length := fun y hy => by
        have := (hend.dfs.fresh y (by simpa using hy)).1
        rwa [revG_length] at this
      have hl5 : lv.length ≤ 24 := by
        have hs2 : lv.length ≤ (List.range g.length).length := by
          refine List.Nodup.length_le_of_subset (by simpa using hend.dfs.nodup) fun y hy => ?_
          exact List.mem_range.2 (hlt5 y hy)
        simp at hs2
        omega
      have hqu := hu5.lt (k := qu) rfl
      have HU5 := Lib.hid (fun j v (hj : (nI lv)[j]? = some v) => hu5.get hj)
      have HE := Lib.hid hend
      have HL5 := Lib.hid hlt5
      have HMS := Lib.hid hM5
      have HNS := Lib.hid (HN.out.grown hg5 (by intro e; injection e with e; omega))
      have HGS := Lib.hid hg5
      have HBS := Lib.hid (HBt.out.step hg5 (fun j hj => by injection hj with hj; exact .inl hj.symm))
      have CMn := Try.slices_Min_int qu 0 lv.length cu (lv.map fun y : Nat => (y : Int)) wS hlp (by simp) (by omega) (fun j hj => by
        rw [Nat.zero_add]
        refine HU5.out j _ ?_
        have hj' : j < lv.length := by simpa using hj
        simp [nI, hj', List.getD_eq_getElem?_getD])
      rw [List.take_of_length_le (by simp)] at CMn
      have HCM := Lib.hid CMn
      clear CMn hu5 hM5 hg5 hend hlt5 e5 e6 eS HCS
      gi_wp2_with fail
      refine ⟨trivial, ?_⟩
      refine (CallsIn.inRound l (callsIn_wide.2 HCM.out)).mono ?_
      rintro e w6 ⟨rfl, rfl⟩
      clear HCM
      obtain ⟨z, hz⟩ : ∃ z, Lib.minOf (lv.map fun y : Nat => (y : Int)) = z := ⟨_, rfl⟩
      have HZz := Lib.hid hz
      rw [hz]
      clear hz
      have HN0 : Hid (ArrC w6 q 3 ((setAll ns (lv.take 0) z).map Iv)) := Lib.hid HNS.out
      gi_wp2
      gi_loopw [42] (fun iv wr => ∃ k : Nat, iv = .int .i64 k ∧ k ≤ lv.length ∧ Hid (ArrC wr q 3 ((setAll ns (lv.take k) z).map Iv)) ∧ Hid (w6.grownBy wr (some q))) (fun iv _ => lv.length - (intOf iv).toNat)
      case atStart => exact ⟨0, rfl, Nat.zero_le _, HN0, Lib.hid (World.grownBy.refl _ _)⟩
      case round =>
        clear HN0
        obtain ⟨k, rfl, hk, HNk, HGk⟩ := hrel
        have HBk2 := Lib.hid (HBS.out.step HGk.out (fun j hj => by injection hj with hj; exact .inr (.inl hj.symm)))
        by_cases hlt : k < lv.length
        · have em : wr.cell? ⟨qu, k, none⟩ = some (.int .i64 ((lv[k] : Nat) : Int)) := HGk.out.cell (HU5.out k _ (by simp [nI, hlt])) (by intro e; injection e with e; have e' : qu = q := e; omega)
          have e5 := HBk2.out.cell HC58.out (by show P5 ≠ G; omega) (by show P5 ≠ q; omega)
          have hmn : lv[k] < g.length := HL5.out _ (List.getElem_mem hlt)
          have hsl : (setAll ns (lv.take k) z).length = g.length := by rw [setAll_length, hnl]
          obtain ⟨cu2, c1, f1⟩ : ∃ cu2, wr.cell? ⟨q, lv[k], none⟩ = some cu2 ∧ wr.frozen? ⟨q, lv[k], none⟩ = false := ⟨_, HNk.out.cell (k := lv[k]) (u := .int .i64 ((setAll ns (lv.take k) z)[lv[k]]'(by omega))) (by rw [List.getElem?_map, List.getElem?_eq_getElem (by omega)]; rfl)⟩
          have HN2 : Hid (ArrC (wr.setCell ⟨q, lv[k], none⟩ (.int .i64 z)) q 3 ((setAll ns (lv.take (k + 1)) z).map Iv)) := Lib.hid (by
            rw [setAll_step hlt, List.map_set]
            exact HNk.out.set _ _)
          have HG2 := Lib.hid (grown_put (k := lv[k]) (u := .int .i64 z) HGk.out (.inl rfl))
          clear hsl HNk HGk HBk2
          generalize lv[k] = y at *
          gi_wp2
          go_roundw
          case rel => exact ⟨k + 1, by go_num, by omega, HN2, HG2⟩
          case measure => simp [intOf]; omega
        · obtain rfl : k = lv.length := by omega
          gi_wp2
          have hqG' : q ≠ G := by omega
          have hfull : lv.take lv.length = lv := List.take_length
          have HNk2 : Hid (ArrC wr q 3 ((setAll ns lv z).map Iv)) := Lib.hid (by have h := HNk.out; rwa [hfull] at h)
          refine ⟨(KeepsOthers.of_grownBy HGS.out (fun j o hj ho => ?_)).trans (KeepsOthers.of_grownBy HGk.out (fun j o hj ho => ?_)), ⟨?_, ?_⟩, M5, setAll ns lv z, HE.out.ml, by rw [setAll_length, hnl], HMS.out.grown HGk.out (by intro e; injection e with e; omega), HNk2.out, HBk2.out, fun h => ?_⟩
          · injection hj with hj
            subst hj
            have h := HM.out
            unfold ArrC at h
            rw [h] at ho
            injection ho with ho
            subst ho
            rfl
          · injection hj with hj
            subst hj
            have h := HNS.out
            unfold ArrC at h
            rw [h] at ho
            injection ho with ho
            subst ho
            rfl
          · rw [HGk.out.block bL (by have := HGS.out.size; omega) (by intro e; injection e with e; omega), HGS.out.block bL (by omega) (by intro e; injection e with e; omega)]
          · rw [HGk.out.block w7.heap.size (by have := HGS.out.size; omega) (by intro e; injection e with e; omega), HGS.out.block w7.heap.size (by omega) (by intro e; injection e with e; omega)]
          · obtain ⟨L1, hL1⟩ := came_split h
            rw [cameV_snoc, ← HZz.out]
            exact (HF.out ((List.prefix_append _ _).trans h)).comp HG.out HDf.out HAll.out (hzs ▸ hL1) HMv.out (by simpa using HE.out.dfs) HE.out.has HE.out.pth HE.out.mks
    · rw [hb] at eS hMv
      have HMv := Lib.hid hMv
      clear hb hMv
      gi_wp2
      exact ⟨KeepsOthers.refl _, KeepTwo.refl _ _ _, M, ns, hml, hnl, HM.out, HN.out, HBt.out, fun h => by rw [cameV_snoc]; exact (HF.out ((List.prefix_append _ _).trans h)).skip HMv.out⟩
  case done =>
    rintro D ys W hD rfl ⟨M, ns, hml, hnl, hM, hN, hbt, hF⟩ hK
    have e5 := hbt.cell HC58.out (by show P5 ≠ G; omega) (by show P5 ≠ q; omega)
    have HK := Lib.hid hK
    have HN := Lib.hid hN
    have HBt := Lib.hid hbt
    have HF := Lib.hid hF
    clear hM hN hbt hF hK
    go_wp2
    refine ⟨by simp, .inl ⟨_, _, rfl, run_takeDeferred HK.out, ?_⟩⟩
    refine ⟨_, results_tmp rfl _ _ _, ?_⟩
    have hns : ns = namesL g s := (HF.out (List.prefix_refl _)).all fun x hx hs => by
      rw [came_all, hzs]
      exact HAll.out x hx hs
    have hqw := HQ.out
    refine ⟨.slice (some ⟨q, 0, none⟩) g.length g.length, rfl, ⟨by simp [namesL_length], .inr ⟨q, g.length, (ns.map Iv).toArray, rfl, by omega, ?_, Nat.le_refl _, by unfold maxLen; omega, by simp [hnl], ?_⟩⟩, (HBt.out.below (n := w.heap.size) (by omega) (by omega) (by omega) HB8.out).trans ⟨rfl, rfl, rfl, by simp, fun k hk => World.putObj_heap_other (by omega)⟩⟩
    · rw [World.putObj_heap_other (by omega)]
      exact HN.out
    · rw [hns, Nat.mul_one]
      exact List.take_of_length_le (by simp [namesL_length])
  case stop =>
    rintro D c pre W _ _ h _
    exact h.elim
end Go.Proofs.Ytkgnblnhfjjjmaa
