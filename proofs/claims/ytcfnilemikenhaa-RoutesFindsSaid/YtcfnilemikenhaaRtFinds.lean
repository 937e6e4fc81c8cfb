/- RoutesFinds returns true, if routes' functions keep what RtBase asks. -/
import Derived.Test.YtcfnilemikenhaaRtBase
import Derived.Test.YtcfnilemikenhaaTpArg
import Derived.Test.YtcfnilemikenhaaRowPut
namespace Go.Proofs.Ytcfnilemikenhaa
open Go Go.RowKit Fl

theorem two_valid {g : GraphD} {m : Nat} {a b : Int} (h : twoE g m a b = 0) : validG g = true ∧ b.toNat < g.length := by
  have := twoE_zero h
  exact ⟨this.1, by omega⟩
theorem disL_len (g : GraphD) (s : List Bool) (x : Int) : (disL g s x).length ≤ 1000000000000000000 := by
  unfold disL
  split
  · rename_i h
    have h1 := two_valid h
    have := validG_len h1.1
    rw [distF_length]
    omega
  · simp
theorem hopL_len (g : GraphD) (s : List Bool) (x : Int) : (hopL g s x).length ≤ 1000000000000000000 := by
  unfold hopL
  split
  · rename_i h
    have h1 := two_valid h
    have := validG_len h1.1
    rw [hopsL_len]
    omega
  · simp
theorem patL_len (g : GraphD) (s : List Bool) (x y : Int) : (patL g s x y).length ≤ 1000000000000000000 := by
  unfold patL
  split
  · rename_i h
    have h1 := two_valid h
    have := firstF_short (s := s) (a := x.toNat) h1.1 h1.2
    omega
  · simp
theorem tabL_len (g : GraphD) (s : List Bool) : (tabL g s).length ≤ 1000000000000000000 ∧ ∀ r ∈ tabL g s, r.length ≤ 1000000000000000000 := by
  unfold tabL
  split
  · rename_i h
    have hv : validG g = true := by
      rcases chkG_cases g s.length with h1 | h1 | h1
      · exact h1.2.1
      · omega
      · omega
    have hl := validG_len hv
    refine ⟨by rw [tabF_len]; omega, fun r hr => ?_⟩
    unfold tabF at hr
    obtain ⟨i, _, rfl⟩ := List.mem_map.1 hr
    rw [hopsL_len]
    omega
  · simp
/-- A pair of numbers in a block. -/
def PairAt (w : World) (G : Nat) (a b : Int) : Prop := w.heap[G]? = some (.cells #[.int .i64 a, .int .i64 b] 24 (0, 0))
theorem PairAt.lt {w : World} {G : Nat} {a b : Int} (h : PairAt w G a b) : G < w.heap.size := block_lt h
theorem PairAt.keep {w w' : World} {G : Nat} {a b : Int} (h : PairAt w G a b) (hb : Below w.heap.size w w') : PairAt w' G a b := (hb.block G h.lt).trans h
theorem PairAt.cell0 {w : World} {G : Nat} {a b : Int} (h : PairAt w G a b) : w.cell? ⟨G, 0, none⟩ = some (.int .i64 a) ∧ w.frozen? ⟨G, 0, none⟩ = false := ⟨by rw [cell_of_row w G 0 _ _ _ h]; rfl, by unfold PairAt at h; simp [World.frozen?, h]⟩
theorem PairAt.cell1 {w : World} {G : Nat} {a b : Int} (h : PairAt w G a b) : w.cell? ⟨G, 1, none⟩ = some (.int .i64 b) ∧ w.frozen? ⟨G, 1, none⟩ = false := ⟨by rw [cell_of_row w G 1 _ _ _ h]; rfl, by unfold PairAt at h; simp [World.frozen?, h]⟩
theorem PairAt.still {w w' : World} {G gt U : Nat} {a b : Int} (h : PairAt w G a b) (hs : Still gt U w w') (hg : G < U) (hne : G ≠ gt) : PairAt w' G a b := (hs.block G hg hne).trans h
theorem PairAt.grown {w w' : World} {G gt : Nat} {a b : Int} (h : PairAt w G a b) (hs : w.grownBy w' (some gt)) (hne : G ≠ gt) : PairAt w' G a b := (hs.block G h.lt (fun e => by injection e with e; exact hne e)).trans h
theorem PairAt.row {w : World} {G : Nat} {a b x y : Int} (h : PairAt w G a b) : PairAt (w.setRow G #[.int .i64 x, .int .i64 y]) G x y := setRow_heap w G _ _ _ _ h
section
variable {ops : Array Oper} {rest : List Oper} {o : Oper} {a : Act} {w : World} {Q : Exit → Act → World → Prop}
theorem Try.sizeP : (Try.prog.info? 24).map (·.size) = some 2 := by kernel_rfl
theorem store_pair (hgd : o.guard = none) (x y : Operand) (ho : o.op = .store 24 x y) (g : Nat) (hx : a.eval x = .pointer (some ⟨g, 0, none⟩)) {p q p' q' : Int} (hy : a.eval y = .agg #[.int .i64 p', .int .i64 q']) (hm : PairAt w g p q)
    (h : wpList Try.prog ops Q rest (a.put o.dst undef) (w.setRow g #[.int .i64 p', .int .i64 q'])) : wpList Try.prog ops Q (o :: rest) a w :=
  wpList_store_row hgd _ x y ho g _ hx hy _ _ hm Try.sizeP rfl (by simp [Value.oneCell']) h
end
theorem below_rowR {B G : Nat} {w w' : World} (h : Below B w w') (hg : B ≤ G) (c : Array Value) : Below B w (w'.setRow G c) := by
  refine ⟨h.os, h.tape, h.output, Nat.le_trans h.size (by simp [World.setRow]), fun k hk => ?_⟩
  rw [setRow_other w' G k c (by omega)]
  exact h.block k hk
/-- What the loop holds: a graph and marks. -/
def Finds7 (w : World) (raw cl : Value) : Prop := ∃ (A B : Option Addr) (c d : Nat) (g : GraphD) (s : List Bool), raw = .slice A g.length c ∧ cl = .slice B s.length d ∧ RowsAt w A g ∧ Holds w B (s.map Bo) ∧ Sized g
theorem Finds7.keep {w w' : World} {raw cl : Value} (h : Finds7 w raw cl) (hb : Below w.heap.size w w') : Finds7 w' raw cl := by
  obtain ⟨A, B, c, d, g, s, h1, h2, h3, h4, h5⟩ := h
  exact ⟨A, B, c, d, g, s, h1, h2, h3.keep hb, h4.keep hb, h5⟩
set_option maxRecDepth 100000 in
set_option maxHeartbeats 8000000 in
theorem routesFinds_c (hD : DevDist) (hH : DevHops) (hP : DevPath) (hT : DevTable) (A B C : Option Addr) (c d k : Nat) (g : GraphD) (s : List Bool) (a0 b0 : Int) (zs : List Int) (w : World) (hg : RowsAt w A g) (hs : Holds w B (s.map Bo)) (hz : IntsAt w w.heap.size C zs) (hzl : zs.length ≤ maxLen) (hsz : Sized g) :
    Calls Try.prog 3 #[.slice A g.length c, .slice B s.length d, .agg #[.int .i64 a0, .int .i64 b0], .slice C zs.length k] w fun e w' => e = .returned (.bool true) ∧ Below w.heap.size w w' := by
  have hbn := below_alloc w (.cells #[.int .i64 a0, .int .i64 b0] 24)
  have hpn : PairAt (w.alloc (.cells #[.int .i64 a0, .int .i64 b0] 24)) w.heap.size a0 b0 := heap_alloc_new w _
  have CK := Lib.hid (known7_c hD hH hP hT (w.alloc (.cells #[.int .i64 a0, .int .i64 b0] 24)))
  have HDi := Lib.hid hD
  have HHo := Lib.hid hH
  have HPa := Lib.hid hP
  have HTa := Lib.hid hT
  have H0 : Hid (Finds7 (w.alloc (.cells #[.int .i64 a0, .int .i64 b0] 24)) (.slice A g.length c) (.slice B s.length d)) := Lib.hid ⟨A, B, c, d, g, s, rfl, rfl, hg.keep hbn, hs.keep hbn, hsz⟩
  have HN0 := Lib.hid hpn
  have HBn := Lib.hid hbn
  have HZ := Lib.hid hz
  have HL := Lib.hid hzl
  clear hD hH hP hT hg hs hz hzl hsz hbn hpn
  go_enter Try.func3, Try.ntmps3
  go_wp2_with fail
  refine CK.out.mono ?_
  rintro e w1 ⟨rfl, hb1⟩
  have hb01 := HBn.out.trans (hb1.mono HBn.out.size)
  have ht := tape_new (c := k) HZ.out (Nat.le_refl _) hb01 HL.out
  have hba := below_alloc w1 (.cells #[.slice C zs.length k, .int .i64 0] 29)
  have hb2 : Below w.heap.size w (w1.alloc (.cells #[.slice C zs.length k, .int .i64 0] 29)) := hb01.alloc hb01.size _
  have HT2 := Lib.hid ht
  have H2 := Lib.hid ((H0.out.keep hb1).keep hba)
  have HN2 := Lib.hid ((HN0.out.keep hb1).keep hba)
  have hnlt : w.heap.size < w1.heap.size := (HN0.out.keep hb1).lt
  have hgB : w.heap.size ≤ w1.heap.size := Nat.le_of_lt hnlt
  have HB2 := Lib.hid hb2
  have hsz2 : w1.heap.size < (w1.alloc (.cells #[.slice C zs.length k, .int .i64 0] 29)).heap.size := by simp
  clear hb1 ht hb2 H0 CK HZ HL hba hb01 HN0 HBn
  go_wp2
  obtain ⟨nb, hnb⟩ : ∃ nb, nb = w.heap.size := ⟨_, rfl⟩
  have HNB := Lib.hid hnb
  rw [← hnb] at HN2 ⊢
  have hne : nb ≠ w1.heap.size := by omega
  clear hnb
  go_loopw [0, 1, 10] (fun raw cl i wr => ∃ (n : Nat) (x y : Int), i = .int .i64 n ∧ n ≤ 2 ∧ Hid (Finds7 wr raw cl) ∧ Hid (PairAt wr nb x y) ∧ Hid (TapeOk wr w.heap.size w1.heap.size (5000 * n)) ∧ Hid (Below w.heap.size w wr) ∧ w1.heap.size < wr.heap.size) (fun _ _ i _ => 2 - (intOf i).toNat)
  case atStart => exact ⟨0, a0, b0, rfl, by omega, H2, HN2, HT2, HB2, hsz2⟩
  case round =>
    clear HT2 H2 HB2 hsz2 HN2
    obtain ⟨n, x', y', rfl, hn, HFi, HN, HT, HB, hsz⟩ := hrel
    have hcase : n = 0 ∨ n = 1 ∨ n = 2 := by omega
    clear hn
    rcases hcase with rfl | rfl | rfl
    · obtain ⟨A', B', c', d', g', s', rfl, rfl, hg', hs', hz'⟩ := HFi.out
      clear HFi
      have HRg := Lib.hid hg'
      have HSs := Lib.hid hs'
      have HZ := Lib.hid hz'
      clear hg' hs' hz'
      have HRg0 := HRg
      have HSs0 := HSs
      have HN0 := HN
      have HT0 := HT
      have HB0 := HB
      have hsz0 := hsz
      clear HRg HSs HN HT HB hsz
      obtain ⟨hx0, _⟩ := HN0.out.cell0
      obtain ⟨hx1, _⟩ := HN0.out.cell1
      go_wp2_with fail
      refine (HDi.out A' B' c' d' g' s' x' _ HRg0.out HSs0.out HZ.out).mono ?_
      rintro e v1 ⟨Q1, q1, rfl, hr, hb⟩
      clear hx0 hx1
      have HRg1 := Lib.hid (HRg0.out.keep hb)
      have HSs1 := Lib.hid (HSs0.out.keep hb)
      have HN1 := Lib.hid (HN0.out.keep hb)
      have HT1 := Lib.hid (HT0.out.keep hb)
      have HB1 := Lib.hid (HB0.out.trans (hb.mono HB0.out.size))
      have hsz1 := Nat.lt_of_lt_of_le hsz0 hb.size
      have HV1_1 := Lib.hid hr
      clear HRg0 HSs0 HN0 HT0 HB0 hsz0 hr hb
      obtain ⟨hx0, _⟩ := HN1.out.cell0
      obtain ⟨hx1, _⟩ := HN1.out.cell1
      go_wp2_with fail
      refine (refDistances_c A' B' c' d' g' s' x' _ HRg1.out HSs1.out HZ.out.1 HZ.out.2).mono ?_
      rintro e v2 hp
      obtain ⟨Q2, q2, rfl, hr, hb⟩ := hp.res
      clear hp
      clear hx0 hx1
      have HRg2 := Lib.hid (HRg1.out.keep hb)
      have HSs2 := Lib.hid (HSs1.out.keep hb)
      have HN2 := Lib.hid (HN1.out.keep hb)
      have HT2 := Lib.hid (HT1.out.keep hb)
      have HB2 := Lib.hid (HB1.out.trans (hb.mono HB1.out.size))
      have hsz2 := Nat.lt_of_lt_of_le hsz1 hb.size
      have HV1_2 := Lib.hid (HV1_1.out.keep hb)
      have HV2_2 := Lib.hid hr
      clear HRg1 HSs1 HN1 HT1 HB1 hsz1 hr hb HV1_1
      obtain ⟨hx0, _⟩ := HN2.out.cell0
      obtain ⟨hx1, _⟩ := HN2.out.cell1
      go_wp2_with fail
      refine (HHo.out A' B' c' d' g' s' x' _ HRg2.out HSs2.out HZ.out).mono ?_
      rintro e v3 ⟨Q3, q3, rfl, hr, hb⟩
      clear hx0 hx1
      have HRg3 := Lib.hid (HRg2.out.keep hb)
      have HSs3 := Lib.hid (HSs2.out.keep hb)
      have HN3 := Lib.hid (HN2.out.keep hb)
      have HT3 := Lib.hid (HT2.out.keep hb)
      have HB3 := Lib.hid (HB2.out.trans (hb.mono HB2.out.size))
      have hsz3 := Nat.lt_of_lt_of_le hsz2 hb.size
      have HV1_3 := Lib.hid (HV1_2.out.keep hb)
      have HV2_3 := Lib.hid (HV2_2.out.keep hb)
      have HV3_3 := Lib.hid hr
      clear HRg2 HSs2 HN2 HT2 HB2 hsz2 hr hb HV1_2 HV2_2
      obtain ⟨hx0, _⟩ := HN3.out.cell0
      obtain ⟨hx1, _⟩ := HN3.out.cell1
      go_wp2_with fail
      refine (refHops_c A' B' c' d' g' s' x' _ HRg3.out HSs3.out HZ.out.1 HZ.out.2).mono ?_
      rintro e v4 hp
      obtain ⟨Q4, q4, rfl, hr, hb⟩ := hp.res
      clear hp
      clear hx0 hx1
      have HRg4 := Lib.hid (HRg3.out.keep hb)
      have HSs4 := Lib.hid (HSs3.out.keep hb)
      have HN4 := Lib.hid (HN3.out.keep hb)
      have HT4 := Lib.hid (HT3.out.keep hb)
      have HB4 := Lib.hid (HB3.out.trans (hb.mono HB3.out.size))
      have hsz4 := Nat.lt_of_lt_of_le hsz3 hb.size
      have HV1_4 := Lib.hid (HV1_3.out.keep hb)
      have HV2_4 := Lib.hid (HV2_3.out.keep hb)
      have HV3_4 := Lib.hid (HV3_3.out.keep hb)
      have HV4_4 := Lib.hid hr
      clear HRg3 HSs3 HN3 HT3 HB3 hsz3 hr hb HV1_3 HV2_3 HV3_3
      have hq1 : (((disL g' s' x').length : Int) != ((disL g' s' x').length : Int)) = false := by simp
      have hq2 : (twoE g' s'.length x' x' != twoE g' s'.length x' x') = false := by simp
      have HL1 := Lib.hid (disL_len g' s' x')
      have HL2 := Lib.hid (hopL_len g' s' x')
      go_wp2_with fail
      refine (sameIntsE_c Q1 Q2 q1 q2 (disL g' s' x') _ HV1_4.out HV2_4.out HL1.out).mono ?_
      rintro e v5 ⟨rfl, n1, rfl⟩
      go_wp2_with fail
      refine (sameIntsE_c Q3 Q4 q3 q4 (hopL g' s' x') _ (HV3_4.out.drewN n1) (HV4_4.out.drewN n1) HL2.out).mono ?_
      rintro e v6 ⟨rfl, n2, hn2⟩
      have hb : Below v4.heap.size v4 v6 := by
        rw [hn2]
        exact below_drewN (below_drewN (Below.refl _ _) n1) n2
      have HRg5 := Lib.hid (HRg4.out.keep hb)
      have HSs5 := Lib.hid (HSs4.out.keep hb)
      have HN5 := Lib.hid (HN4.out.keep hb)
      have HT5 := Lib.hid (HT4.out.keep hb)
      have HB5 := Lib.hid (HB4.out.trans (hb.mono HB4.out.size))
      have hsz5 := Nat.lt_of_lt_of_le hsz4 hb.size
      clear HRg4 HSs4 HN4 HT4 HB4 hsz4 HV1_4 HV2_4 HV3_4 HV4_4 HL1 HL2 hq1 hq2 hb hn2
      obtain ⟨hx0, _⟩ := HN5.out.cell0
      obtain ⟨hx1, _⟩ := HN5.out.cell1
      go_wp2_with fail
      refine (HPa.out A' B' c' d' g' s' y' x' _ HRg5.out HSs5.out HZ.out).mono ?_
      rintro e v6' ⟨Q6, q6, rfl, hr, hb⟩
      clear hx0 hx1
      have HRg6 := Lib.hid (HRg5.out.keep hb)
      have HSs6 := Lib.hid (HSs5.out.keep hb)
      have HN6 := Lib.hid (HN5.out.keep hb)
      have HT6 := Lib.hid (HT5.out.keep hb)
      have HB6 := Lib.hid (HB5.out.trans (hb.mono HB5.out.size))
      have hsz6 := Nat.lt_of_lt_of_le hsz5 hb.size
      have HV6_6 := Lib.hid hr
      clear HRg5 HSs5 HN5 HT5 HB5 hsz5 hr hb
      obtain ⟨hx0, _⟩ := HN6.out.cell0
      obtain ⟨hx1, _⟩ := HN6.out.cell1
      go_wp2_with fail
      refine (refPath_c A' B' c' d' g' s' y' x' _ HRg6.out HSs6.out HZ.out.1 HZ.out.2).mono ?_
      rintro e v7 hp
      obtain ⟨Q7, q7, rfl, hr, hb⟩ := hp.res
      clear hp
      clear hx0 hx1
      have HRg7 := Lib.hid (HRg6.out.keep hb)
      have HSs7 := Lib.hid (HSs6.out.keep hb)
      have HN7 := Lib.hid (HN6.out.keep hb)
      have HT7 := Lib.hid (HT6.out.keep hb)
      have HB7 := Lib.hid (HB6.out.trans (hb.mono HB6.out.size))
      have hsz7 := Nat.lt_of_lt_of_le hsz6 hb.size
      have HV6_7 := Lib.hid (HV6_6.out.keep hb)
      have HV7_7 := Lib.hid hr
      clear HRg6 HSs6 HN6 HT6 HB6 hsz6 hr hb HV6_6
      go_wp2_with fail
      refine (HTa.out A' B' c' d' g' s' _ HRg7.out HSs7.out HZ.out).mono ?_
      rintro e v8 ⟨Q8, q8, rfl, hr, hb⟩
      have HRg8 := Lib.hid (HRg7.out.keep hb)
      have HSs8 := Lib.hid (HSs7.out.keep hb)
      have HN8 := Lib.hid (HN7.out.keep hb)
      have HT8 := Lib.hid (HT7.out.keep hb)
      have HB8 := Lib.hid (HB7.out.trans (hb.mono HB7.out.size))
      have hsz8 := Nat.lt_of_lt_of_le hsz7 hb.size
      have HV6_8 := Lib.hid (HV6_7.out.keep hb)
      have HV7_8 := Lib.hid (HV7_7.out.keep hb)
      have HV8_8 := Lib.hid hr
      clear HRg7 HSs7 HN7 HT7 HB7 hsz7 hr hb HV6_7 HV7_7
      go_wp2_with fail
      refine (refTable_c A' B' c' d' g' s' _ HRg8.out HSs8.out HZ.out.1 HZ.out.2).mono ?_
      rintro e v9 ⟨u9, rfl, hr9, hb⟩
      obtain ⟨Q9, q9, rfl, hr⟩ := hr9.at_
      clear hr9
      have HRg9 := Lib.hid (HRg8.out.keep hb)
      have HSs9 := Lib.hid (HSs8.out.keep hb)
      have HN9 := Lib.hid (HN8.out.keep hb)
      have HT9 := Lib.hid (HT8.out.keep hb)
      have HB9 := Lib.hid (HB8.out.trans (hb.mono HB8.out.size))
      have hsz9 := Nat.lt_of_lt_of_le hsz8 hb.size
      have HV6_9 := Lib.hid (HV6_8.out.keep hb)
      have HV7_9 := Lib.hid (HV7_8.out.keep hb)
      have HV8_9 := Lib.hid (HV8_8.out.keep hb)
      have HV9_9 := Lib.hid hr
      clear HRg8 HSs8 HN8 HT8 HB8 hsz8 hr hb HV6_8 HV7_8 HV8_8
      have hq3 : (twoE g' s'.length y' x' != twoE g' s'.length y' x') = false := by simp
      have hq4 : (chkG g' s'.length != chkG g' s'.length) = false := by simp
      have HL3 := Lib.hid (patL_len g' s' y' x')
      have HL4 := Lib.hid (tabL_len g' s')
      go_wp2_with fail
      refine (sameIntsE_c Q6 Q7 q6 q7 (patL g' s' y' x') _ HV6_9.out HV7_9.out HL3.out).mono ?_
      rintro e v10 ⟨rfl, n3, rfl⟩
      go_wp2_with fail
      refine (sameListsE_c Q8 Q9 q8 q9 (tabL g' s') _ (HV8_9.out.keep (below_drewN (Below.refl _ _) n3)) (HV9_9.out.keep (below_drewN (Below.refl _ _) n3)) HL4.out.1 HL4.out.2).mono ?_
      rintro e v11 ⟨rfl, n4, hn4⟩
      have hb : Below v9.heap.size v9 v11 := by
        rw [hn4]
        exact below_drewN (below_drewN (Below.refl _ _) n3) n4
      have HF9 : Hid (Finds7 v11 (.slice A' g'.length c') (.slice B' s'.length d')) := Lib.hid ⟨A', B', c', d', g', s', rfl, rfl, HRg9.out.keep hb, HSs9.out.keep hb, HZ.out⟩
      have HN9' := Lib.hid (HN9.out.keep hb)
      have HT9' := Lib.hid ((HT9.out.keep hb).more (show _ ≤ 5000 * 1 by omega))
      have HB9' := Lib.hid (HB9.out.trans (hb.mono HB9.out.size))
      have hsz9' := Nat.lt_of_lt_of_le hsz9 hb.size
      clear HRg9 HSs9 HN9 HT9 HB9 hsz9 HV6_9 HV7_9 HV8_9 HV9_9 HL3 HL4 hb hn4
      go_wp2
      go_roundw
      case rel => exact ⟨0 + 1, x', y', by go_num, by omega, HF9, HN9', HT9', HB9', hsz9'⟩
      case measure => simp [intOf]
    · clear HFi
      go_wp2_with fail
      refine (graph_c w.heap.size w1.heap.size _ 10 wr HT.out (by omega) (by omega) hsz).mono ?_
      rintro e w3 ⟨gv, g', rfl, hg10, hok, hown3, ht3, hst3⟩
      obtain ⟨A', c', rfl, _⟩ := hown3.at_
      have hv' := hok.valid (by omega)
      have HT3 := Lib.hid ht3
      have HO3 := Lib.hid hown3
      have HN3 := Lib.hid (HN.out.still hst3 HN.out.lt hne)
      have HB3 := Lib.hid (HB.out.trans (hst3.below HB.out.size hgB))
      have hsz3 := Nat.lt_of_lt_of_le hsz hst3.size
      have hnw := HN.out.lt
      clear hok ht3 hown3 hst3 HT HB HN
      go_wp2_with fail
      refine (shut_c w.heap.size w1.heap.size _ g'.length w3 HT3.out (by omega) (by omega) hsz3).mono ?_
      rintro e w4 ⟨sv, s', rfl, hsl4, hos4, ht4, hst4⟩
      obtain ⟨B', d', rfl⟩ : ∃ B' d', sv = .slice B' s'.length d' := by
        obtain ⟨B1, d1, h, _⟩ := own_is hos4
        exact ⟨B1, d1, by rw [hsl4]; exact h⟩
      clear hsl4
      have HT4 := Lib.hid ht4
      have HN4 := Lib.hid (HN3.out.still hst4 HN3.out.lt hne)
      have HO4 := Lib.hid (HO3.out.but hst4.grown hsz)
      have HS4 := Lib.hid hos4
      have HB4 := Lib.hid (HB3.out.trans (hst4.below HB3.out.size hgB))
      have hsz4 := Nat.lt_of_lt_of_le hsz3 hst4.size
      have hnw3 := HN3.out.lt
      clear HT3 HO3 HB3 ht4 hos4 hst4 HN3
      have CN : Hid (∀ (T : Nat) (W : World), T ≤ 100000 → TapeOk W w.heap.size w1.heap.size T → Calls Try.prog 11 #[.pointer (some ⟨w1.heap.size, 0, none⟩), .int .i64 g'.length] W fun e w' => ∃ r : Int, e = .returned (.int .i64 r) ∧ TapeOk w' w.heap.size w1.heap.size (T + 1) ∧ W.grownBy w' (some w1.heap.size)) := Lib.hid (fun T W hT hTp => by
        rcases Nat.eq_zero_or_pos g'.length with h0 | h0
        · exact (next0_c _ _ _ _ W hTp (by omega) (by omega) (by omega)).mono fun e w' ⟨r, _, h⟩ => ⟨(r : Int), h⟩
        · exact (next_c _ _ _ _ W hTp (by omega) (by omega) (by omega)).mono fun e w' ⟨r, _, h⟩ => ⟨(r : Int), h⟩)
      go_wp2_with fail
      refine (CN.out _ w4 (by omega) HT4.out).mono ?_
      rintro e w5 ⟨x', rfl, ht5, hg5⟩
      have hst5 : Still w1.heap.size w4.heap.size w4 w5 := Still.of_grown hg5 (Nat.le_refl _)
      have HT5 := Lib.hid ht5
      have HN5 := Lib.hid (HN4.out.grown hg5 hne)
      have HO5 := Lib.hid (HO4.out.but hg5 hsz)
      have HS5 := Lib.hid (own_but HS4.out hg5 hsz3)
      have HB5 := Lib.hid (HB4.out.trans (hst5.below HB4.out.size hgB))
      have hsz5 := Nat.lt_of_lt_of_le hsz4 hg5.size
      clear HT4 HO4 HS4 HB4 ht5 hg5 hst5 HN4
      go_wp2_with fail
      refine (CN.out _ w5 (by omega) HT5.out).mono ?_
      rintro e w6 ⟨y', rfl, ht6, hg6⟩
      have hst6 : Still w1.heap.size w5.heap.size w5 w6 := Still.of_grown hg6 (Nat.le_refl _)
      have HN6 := Lib.hid (HN5.out.grown hg6 hne)
      have hgr : w6.grownBy (w6.setRow nb #[.int .i64 x', .int .i64 y']) (some nb) := ⟨rfl, rfl, rfl, by simp [World.setRow], fun j _ hj => setRow_other w6 nb j _ (fun e => hj (by rw [e]))⟩
      have hbr : Below nb w6 (w6.setRow nb #[.int .i64 x', .int .i64 y']) := below_rowR (Below.refl _ _) (Nat.le_refl _) _
      have hrs : (w6.setRow nb #[.int .i64 x', .int .i64 y']).heap.size = w6.heap.size := by simp [World.setRow]
      have HN7 := Lib.hid (HN6.out.row (x := x') (y := y'))
      have HG6 : Hid (RowsAt (w6.setRow nb #[.int .i64 x', .int .i64 y']) A' g') := Lib.hid (by
        obtain ⟨A2, c2, h1, h2⟩ := ((HO5.out.but hg6 hsz).but hgr hnw).at_
        injection h1 with h1
        subst h1
        exact h2)
      have HS6 : Hid (Holds (w6.setRow nb #[.int .i64 x', .int .i64 y']) B' (s'.map Bo)) := Lib.hid (by
        obtain ⟨A2, c2, h1, h2⟩ := own_is (own_but (own_but HS5.out hg6 hsz3) hgr hnw3)
        injection h1 with h1
        subst h1
        exact h2)
      have HT6 : Hid (TapeOk (w6.setRow nb #[.int .i64 x', .int .i64 y']) w.heap.size w1.heap.size (5000 * 1 + 1000 + 1000 + 1 + 1)) := Lib.hid (ht6.grown hgr (fun e => by injection e with e; exact hne e) (fun j hj => by injection hj with hj; have := HNB.out; omega))
      have HB6 := Lib.hid ((HB5.out.trans (hst6.below HB5.out.size hgB)).trans (by rw [← HNB.out]; exact hbr))
      have hsz6 : w1.heap.size < (w6.setRow nb #[.int .i64 x', .int .i64 y']).heap.size := by rw [hrs]; exact Nat.lt_of_lt_of_le hsz5 hg6.size
      have HNs := HN6
      clear HT5 HO5 HS5 HB5 hg6 hst6 HN5 HN6 hbr hrs hgr ht6 hnw hnw3
      obtain ⟨hx0, _⟩ := HN7.out.cell0
      obtain ⟨hx1, _⟩ := HN7.out.cell1
      go_wp2_with (refine store_pair rfl _ _ rfl nb rfl rfl HNs.out ?_)
      generalize w6.setRow nb #[.int .i64 x', .int .i64 y'] = w7 at *
      clear HNs
      have HRg := HG6
      have HSs := HS6
      have HN := HN7
      have HT := HT6
      have HB := HB6
      have HZ := Lib.hid (Sized.valid hv')
      clear hsz hsz3 hsz4 hsz5 hv' hg10 CN HG6 HS6 HN7 HT6 HB6
      have hsz := hsz6
      clear hsz6
      have HRg0 := HRg
      have HSs0 := HSs
      have HN0 := HN
      have HT0 := HT
      have HB0 := HB
      have hsz0 := hsz
      clear HRg HSs HN HT HB hsz
      refine (HDi.out A' B' c' d' g' s' x' _ HRg0.out HSs0.out HZ.out).mono ?_
      rintro e v1 ⟨Q1, q1, rfl, hr, hb⟩
      clear hx0 hx1
      have HRg1 := Lib.hid (HRg0.out.keep hb)
      have HSs1 := Lib.hid (HSs0.out.keep hb)
      have HN1 := Lib.hid (HN0.out.keep hb)
      have HT1 := Lib.hid (HT0.out.keep hb)
      have HB1 := Lib.hid (HB0.out.trans (hb.mono HB0.out.size))
      have hsz1 := Nat.lt_of_lt_of_le hsz0 hb.size
      have HV1_1 := Lib.hid hr
      clear HRg0 HSs0 HN0 HT0 HB0 hsz0 hr hb
      obtain ⟨hx0, _⟩ := HN1.out.cell0
      obtain ⟨hx1, _⟩ := HN1.out.cell1
      go_wp2_with fail
      refine (refDistances_c A' B' c' d' g' s' x' _ HRg1.out HSs1.out HZ.out.1 HZ.out.2).mono ?_
      rintro e v2 hp
      obtain ⟨Q2, q2, rfl, hr, hb⟩ := hp.res
      clear hp
      clear hx0 hx1
      have HRg2 := Lib.hid (HRg1.out.keep hb)
      have HSs2 := Lib.hid (HSs1.out.keep hb)
      have HN2 := Lib.hid (HN1.out.keep hb)
      have HT2 := Lib.hid (HT1.out.keep hb)
      have HB2 := Lib.hid (HB1.out.trans (hb.mono HB1.out.size))
      have hsz2 := Nat.lt_of_lt_of_le hsz1 hb.size
      have HV1_2 := Lib.hid (HV1_1.out.keep hb)
      have HV2_2 := Lib.hid hr
      clear HRg1 HSs1 HN1 HT1 HB1 hsz1 hr hb HV1_1
      obtain ⟨hx0, _⟩ := HN2.out.cell0
      obtain ⟨hx1, _⟩ := HN2.out.cell1
      go_wp2_with fail
      refine (HHo.out A' B' c' d' g' s' x' _ HRg2.out HSs2.out HZ.out).mono ?_
      rintro e v3 ⟨Q3, q3, rfl, hr, hb⟩
      clear hx0 hx1
      have HRg3 := Lib.hid (HRg2.out.keep hb)
      have HSs3 := Lib.hid (HSs2.out.keep hb)
      have HN3 := Lib.hid (HN2.out.keep hb)
      have HT3 := Lib.hid (HT2.out.keep hb)
      have HB3 := Lib.hid (HB2.out.trans (hb.mono HB2.out.size))
      have hsz3 := Nat.lt_of_lt_of_le hsz2 hb.size
      have HV1_3 := Lib.hid (HV1_2.out.keep hb)
      have HV2_3 := Lib.hid (HV2_2.out.keep hb)
      have HV3_3 := Lib.hid hr
      clear HRg2 HSs2 HN2 HT2 HB2 hsz2 hr hb HV1_2 HV2_2
      obtain ⟨hx0, _⟩ := HN3.out.cell0
      obtain ⟨hx1, _⟩ := HN3.out.cell1
      go_wp2_with fail
      refine (refHops_c A' B' c' d' g' s' x' _ HRg3.out HSs3.out HZ.out.1 HZ.out.2).mono ?_
      rintro e v4 hp
      obtain ⟨Q4, q4, rfl, hr, hb⟩ := hp.res
      clear hp
      clear hx0 hx1
      have HRg4 := Lib.hid (HRg3.out.keep hb)
      have HSs4 := Lib.hid (HSs3.out.keep hb)
      have HN4 := Lib.hid (HN3.out.keep hb)
      have HT4 := Lib.hid (HT3.out.keep hb)
      have HB4 := Lib.hid (HB3.out.trans (hb.mono HB3.out.size))
      have hsz4 := Nat.lt_of_lt_of_le hsz3 hb.size
      have HV1_4 := Lib.hid (HV1_3.out.keep hb)
      have HV2_4 := Lib.hid (HV2_3.out.keep hb)
      have HV3_4 := Lib.hid (HV3_3.out.keep hb)
      have HV4_4 := Lib.hid hr
      clear HRg3 HSs3 HN3 HT3 HB3 hsz3 hr hb HV1_3 HV2_3 HV3_3
      have hq1 : (((disL g' s' x').length : Int) != ((disL g' s' x').length : Int)) = false := by simp
      have hq2 : (twoE g' s'.length x' x' != twoE g' s'.length x' x') = false := by simp
      have HL1 := Lib.hid (disL_len g' s' x')
      have HL2 := Lib.hid (hopL_len g' s' x')
      go_wp2_with fail
      refine (sameIntsE_c Q1 Q2 q1 q2 (disL g' s' x') _ HV1_4.out HV2_4.out HL1.out).mono ?_
      rintro e v5 ⟨rfl, n1, rfl⟩
      go_wp2_with fail
      refine (sameIntsE_c Q3 Q4 q3 q4 (hopL g' s' x') _ (HV3_4.out.drewN n1) (HV4_4.out.drewN n1) HL2.out).mono ?_
      rintro e v6 ⟨rfl, n2, hn2⟩
      have hb : Below v4.heap.size v4 v6 := by
        rw [hn2]
        exact below_drewN (below_drewN (Below.refl _ _) n1) n2
      have HRg5 := Lib.hid (HRg4.out.keep hb)
      have HSs5 := Lib.hid (HSs4.out.keep hb)
      have HN5 := Lib.hid (HN4.out.keep hb)
      have HT5 := Lib.hid (HT4.out.keep hb)
      have HB5 := Lib.hid (HB4.out.trans (hb.mono HB4.out.size))
      have hsz5 := Nat.lt_of_lt_of_le hsz4 hb.size
      clear HRg4 HSs4 HN4 HT4 HB4 hsz4 HV1_4 HV2_4 HV3_4 HV4_4 HL1 HL2 hq1 hq2 hb hn2
      obtain ⟨hx0, _⟩ := HN5.out.cell0
      obtain ⟨hx1, _⟩ := HN5.out.cell1
      go_wp2_with fail
      refine (HPa.out A' B' c' d' g' s' y' x' _ HRg5.out HSs5.out HZ.out).mono ?_
      rintro e v6' ⟨Q6, q6, rfl, hr, hb⟩
      clear hx0 hx1
      have HRg6 := Lib.hid (HRg5.out.keep hb)
      have HSs6 := Lib.hid (HSs5.out.keep hb)
      have HN6 := Lib.hid (HN5.out.keep hb)
      have HT6 := Lib.hid (HT5.out.keep hb)
      have HB6 := Lib.hid (HB5.out.trans (hb.mono HB5.out.size))
      have hsz6 := Nat.lt_of_lt_of_le hsz5 hb.size
      have HV6_6 := Lib.hid hr
      clear HRg5 HSs5 HN5 HT5 HB5 hsz5 hr hb
      obtain ⟨hx0, _⟩ := HN6.out.cell0
      obtain ⟨hx1, _⟩ := HN6.out.cell1
      go_wp2_with fail
      refine (refPath_c A' B' c' d' g' s' y' x' _ HRg6.out HSs6.out HZ.out.1 HZ.out.2).mono ?_
      rintro e v7 hp
      obtain ⟨Q7, q7, rfl, hr, hb⟩ := hp.res
      clear hp
      clear hx0 hx1
      have HRg7 := Lib.hid (HRg6.out.keep hb)
      have HSs7 := Lib.hid (HSs6.out.keep hb)
      have HN7 := Lib.hid (HN6.out.keep hb)
      have HT7 := Lib.hid (HT6.out.keep hb)
      have HB7 := Lib.hid (HB6.out.trans (hb.mono HB6.out.size))
      have hsz7 := Nat.lt_of_lt_of_le hsz6 hb.size
      have HV6_7 := Lib.hid (HV6_6.out.keep hb)
      have HV7_7 := Lib.hid hr
      clear HRg6 HSs6 HN6 HT6 HB6 hsz6 hr hb HV6_6
      go_wp2_with fail
      refine (HTa.out A' B' c' d' g' s' _ HRg7.out HSs7.out HZ.out).mono ?_
      rintro e v8 ⟨Q8, q8, rfl, hr, hb⟩
      have HRg8 := Lib.hid (HRg7.out.keep hb)
      have HSs8 := Lib.hid (HSs7.out.keep hb)
      have HN8 := Lib.hid (HN7.out.keep hb)
      have HT8 := Lib.hid (HT7.out.keep hb)
      have HB8 := Lib.hid (HB7.out.trans (hb.mono HB7.out.size))
      have hsz8 := Nat.lt_of_lt_of_le hsz7 hb.size
      have HV6_8 := Lib.hid (HV6_7.out.keep hb)
      have HV7_8 := Lib.hid (HV7_7.out.keep hb)
      have HV8_8 := Lib.hid hr
      clear HRg7 HSs7 HN7 HT7 HB7 hsz7 hr hb HV6_7 HV7_7
      go_wp2_with fail
      refine (refTable_c A' B' c' d' g' s' _ HRg8.out HSs8.out HZ.out.1 HZ.out.2).mono ?_
      rintro e v9 ⟨u9, rfl, hr9, hb⟩
      obtain ⟨Q9, q9, rfl, hr⟩ := hr9.at_
      clear hr9
      have HRg9 := Lib.hid (HRg8.out.keep hb)
      have HSs9 := Lib.hid (HSs8.out.keep hb)
      have HN9 := Lib.hid (HN8.out.keep hb)
      have HT9 := Lib.hid (HT8.out.keep hb)
      have HB9 := Lib.hid (HB8.out.trans (hb.mono HB8.out.size))
      have hsz9 := Nat.lt_of_lt_of_le hsz8 hb.size
      have HV6_9 := Lib.hid (HV6_8.out.keep hb)
      have HV7_9 := Lib.hid (HV7_8.out.keep hb)
      have HV8_9 := Lib.hid (HV8_8.out.keep hb)
      have HV9_9 := Lib.hid hr
      clear HRg8 HSs8 HN8 HT8 HB8 hsz8 hr hb HV6_8 HV7_8 HV8_8
      have hq3 : (twoE g' s'.length y' x' != twoE g' s'.length y' x') = false := by simp
      have hq4 : (chkG g' s'.length != chkG g' s'.length) = false := by simp
      have HL3 := Lib.hid (patL_len g' s' y' x')
      have HL4 := Lib.hid (tabL_len g' s')
      go_wp2_with fail
      refine (sameIntsE_c Q6 Q7 q6 q7 (patL g' s' y' x') _ HV6_9.out HV7_9.out HL3.out).mono ?_
      rintro e v10 ⟨rfl, n3, rfl⟩
      go_wp2_with fail
      refine (sameListsE_c Q8 Q9 q8 q9 (tabL g' s') _ (HV8_9.out.keep (below_drewN (Below.refl _ _) n3)) (HV9_9.out.keep (below_drewN (Below.refl _ _) n3)) HL4.out.1 HL4.out.2).mono ?_
      rintro e v11 ⟨rfl, n4, hn4⟩
      have hb : Below v9.heap.size v9 v11 := by
        rw [hn4]
        exact below_drewN (below_drewN (Below.refl _ _) n3) n4
      have HF9 : Hid (Finds7 v11 (.slice A' g'.length c') (.slice B' s'.length d')) := Lib.hid ⟨A', B', c', d', g', s', rfl, rfl, HRg9.out.keep hb, HSs9.out.keep hb, HZ.out⟩
      have HN9' := Lib.hid (HN9.out.keep hb)
      have HT9' := Lib.hid ((HT9.out.keep hb).more (show _ ≤ 5000 * 2 by omega))
      have HB9' := Lib.hid (HB9.out.trans (hb.mono HB9.out.size))
      have hsz9' := Nat.lt_of_lt_of_le hsz9 hb.size
      clear HRg9 HSs9 HN9 HT9 HB9 hsz9 HV6_9 HV7_9 HV8_9 HV9_9 HL3 HL4 hb hn4
      go_wp2
      go_roundw
      case rel => exact ⟨1 + 1, x', y', by go_num, by omega, HF9, HN9', HT9', HB9', hsz9'⟩
      case measure => simp [intOf]
    · clear HFi HT
      go_wp2
      go_ret
      exact ⟨rfl, HB.out⟩
end Go.Proofs.Ytcfnilemikenhaa
