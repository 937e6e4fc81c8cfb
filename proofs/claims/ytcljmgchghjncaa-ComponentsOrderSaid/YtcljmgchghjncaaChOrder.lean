/- ComponentsOrder returns true, if components' and reach's functions keep what ChBase and RhDev ask. -/
import Derived.Test.YtcljmgchghjncaaChBase
namespace Go.Proofs.Ytcljmgchghjncaa
open Go Go.RowKit Fl

/-- Where x stands among the first k of L, or -1. -/
def posOf (L : List Int) (k x : Nat) : Int := match leastF (fun i => decide (L[i]? = some (x : Int))) k with
  | some i => (i : Int)
  | none => -1
theorem pos_cases (L : List Int) (k x : Nat) : (posOf L k x = -1 ∧ ∀ i, i < k → L[i]? ≠ some (x : Int)) ∨ ∃ i : Nat, posOf L k x = i ∧ i < k ∧ L[i]? = some (x : Int) := by
  unfold posOf
  rcases e : leastF (fun i => decide (L[i]? = some (x : Int))) k with _ | i
  · exact .inl ⟨rfl, fun i hi => by simpa using leastF_none e i hi⟩
  · obtain ⟨h1, h2, _⟩ := leastF_some e
    exact .inr ⟨i, rfl, h2, by simpa using h1⟩
theorem pos_is {L : List Int} (hn : L.Nodup) {k x i : Nat} (hi : i < k) (h : L[i]? = some (x : Int)) : posOf L k x = i := by
  rcases pos_cases L k x with ⟨_, h1⟩ | ⟨j, h1, _, h3⟩
  · exact absurd h (h1 i hi)
  · rw [h1, nodup_idx hn h3 h]
where
  nodup_idx {L : List Int} (hn : L.Nodup) {i j : Nat} {z : Int} (h1 : L[i]? = some z) (h2 : L[j]? = some z) : i = j := by
    obtain ⟨a1, b1⟩ := List.getElem?_eq_some_iff.1 h1
    obtain ⟨a2, b2⟩ := List.getElem?_eq_some_iff.1 h2
    have hp := List.pairwise_iff_getElem.1 hn
    rcases Nat.lt_trichotomy i j with h | h | h
    · exact absurd (b1.trans b2.symm) (hp i j a1 a2 h)
    · exact h
    · exact absurd (b2.trans b1.symm) (hp j i a2 a1 h)
theorem pos_no {L : List Int} (hn : L.Nodup) {k x : Nat} (h : L[k]? = some (x : Int)) : posOf L k x = -1 := by
  rcases pos_cases L k x with ⟨h1, _⟩ | ⟨j, _, h2, h3⟩
  · exact h1
  · have := pos_is.nodup_idx hn h3 h; omega
theorem pos_step {L : List Int} (hn : L.Nodup) {k y x : Nat} (h : L[k]? = some (y : Int)) (hx : x ≠ y) : posOf L (k + 1) x = posOf L k x := by
  rcases pos_cases L (k + 1) x with ⟨h1, h2⟩ | ⟨j, h1, h2, h3⟩
  · rcases pos_cases L k x with ⟨h3, _⟩ | ⟨j, _, h4, h5⟩
    · rw [h1, h3]
    · exact absurd h5 (h2 j (by omega))
  · have hjk : j ≠ k := fun e => by
      rw [e, h] at h3
      injection h3 with h3
      omega
    rw [h1, pos_is hn (by omega) h3]
theorem pos_set {L : List Int} (hn : L.Nodup) {n k y : Nat} (h : L[k]? = some (y : Int)) : (mapR n (posOf L k)).set y (k : Int) = mapR n (posOf L (k + 1)) :=
  mapR_set (pos_is hn (by omega) h) fun i hi => pos_step hn h hi
theorem pos_zero (L : List Int) (n : Nat) : mapR n (posOf L 0) = mapR n (fun _ => -1) := mapR_congr fun _ _ => rfl
/-- place, when the vertices before v are set to -1. -/
def inF (v x : Nat) : Int := if x < v then -1 else 0
theorem inF_start (n : Nat) : mapR n (inF 0) = List.replicate n 0 := by
  rw [← mapR_same]
  exact mapR_congr fun i _ => by unfold inF; rw [if_neg (by omega)]
theorem inF_set {n v : Nat} : (mapR n (inF v)).set v (-1) = mapR n (inF (v + 1)) := mapR_set (by unfold inF; rw [if_pos (by omega)]) fun i hi => by
  unfold inF
  by_cases h : i < v
  · rw [if_pos h, if_pos (by omega)]
  · rw [if_neg h, if_neg (by omega)]
theorem inF_end (n : Nat) : mapR n (inF n) = mapR n (fun _ => -1) := mapR_congr fun i hi => by unfold inF; rw [if_pos hi]
set_option maxRecDepth 100000 in
set_option maxHeartbeats 8000000 in
theorem componentsOrder_c (hF : DevFrom) (hM : DevMutual) (hN : DevNames) (hO : DevOrder) (hQ : DevQuot) (C : Option Addr) (k : Nat) (zs : List Int) (w : World) (hz : IntsAt w w.heap.size C zs) (hzl : zs.length ≤ maxLen) :
    Calls Try.prog 6 #[.slice C zs.length k] w fun e w' => e = .returned (.bool true) ∧ Below w.heap.size w w' := by
  have CK := Lib.hid (known5_c hN hO hQ w)
  have HF := Lib.hid hF
  have HM := Lib.hid hM
  have HN := Lib.hid hN
  have HO := Lib.hid hO
  have HQ := Lib.hid hQ
  have HZ := Lib.hid hz
  have HL := Lib.hid hzl
  clear hF hM hN hO hQ hz hzl
  go_enter Try.func6, Try.ntmps6
  go_wp2_with fail
  refine CK.out.mono ?_
  rintro e w1 ⟨rfl, hb1⟩
  have ht := tape_new (c := k) HZ.out (Nat.le_refl _) hb1 HL.out
  have hb2 : Below w.heap.size w (w1.alloc (.cells #[.slice C zs.length k, .int .i64 0] 28)) := hb1.alloc hb1.size _
  have HT2 := Lib.hid ht
  have hgB : w.heap.size ≤ w1.heap.size := hb1.size
  have HB2 := Lib.hid hb2
  have hsz2 : w1.heap.size < (w1.alloc (.cells #[.slice C zs.length k, .int .i64 0] 28)).heap.size := by simp
  clear hb1 ht hb2 CK HZ HL
  go_wp2_with fail
  refine (graph_c w.heap.size w1.heap.size _ 8 _ HT2.out (by omega) (by omega) hsz2).mono ?_
  rintro e w3 ⟨gv, g, rfl, hgl, hok, hown3, ht3, hst3⟩
  obtain ⟨A, c, rfl, _⟩ := hown3.at_
  have HV := Lib.hid (hok.valid (by omega))
  have HT3 := Lib.hid ht3
  have HO3 := Lib.hid hown3
  have HB3 := Lib.hid (HB2.out.trans (hst3.below HB2.out.size hgB))
  have hsz3 := Nat.lt_of_lt_of_le hsz2 hst3.size
  generalize w1.alloc (.cells #[.slice C zs.length k, .int .i64 0] 28) = w2 at *
  clear hok ht3 hown3 hst3 HT2 HB2
  go_wp2_with fail
  refine (shut_c w.heap.size w1.heap.size _ g.length w3 HT3.out (by omega) (by omega) hsz3).mono ?_
  rintro e w4 ⟨sv, s, rfl, hsl4, hos4, ht4, hst4⟩
  obtain ⟨B, d, rfl, hs4⟩ := own_is hos4
  have HSL := Lib.hid hsl4
  have HT4 := Lib.hid ht4
  have HO4 := Lib.hid (HO3.out.but hst4.grown hsz2)
  have HS4 := Lib.hid hos4
  have HB4 := Lib.hid (HB3.out.trans (hst4.below HB3.out.size hgB))
  have hsz4 := Nat.lt_of_lt_of_le hsz3 hst4.size
  clear HT3 HO3 HB3 hsl4 ht4 hos4 hs4 hst4
  have HRg : Hid (RowsAt w4 A g) := Lib.hid (by
    obtain ⟨A2, c2, h1, h2⟩ := HO4.out.at_
    injection h1 with h1
    subst h1
    exact h2)
  have HSs : Hid (Holds w4 B (s.map Bo)) := Lib.hid (by
    obtain ⟨A2, c2, h1, h2⟩ := own_is HS4.out
    injection h1 with h1
    subst h1
    exact h2)
  clear HM HF HT4 HO4 HS4 hgB hsz4
  go_wp2_with fail
  refine (names_ok HN.out HRg.out HSs.out HV.out rfl HSL.out).mono ?_
  rintro e w5 ⟨X, cx, rfl, hx5, hb5⟩
  have HRg5 := Lib.hid (HRg.out.keep hb5)
  have HSs5 := Lib.hid (HSs.out.keep hb5)
  have HB5 := Lib.hid (HB4.out.trans (hb5.mono HB4.out.size))
  have HX5 := Lib.hid hx5
  have HNL := Lib.hid (namesL_length g s)
  clear hb5 hx5 HRg HSs HB4
  go_wp2_with fail
  refine (order_ok5 HO.out HRg5.out HSs5.out HV.out rfl HSL.out).mono ?_
  rintro e w6 ⟨Y, cy, rfl, hy6, hb6⟩
  have HRg6 := Lib.hid (HRg5.out.keep hb6)
  have HSs6 := Lib.hid (HSs5.out.keep hb6)
  have HB6 := Lib.hid (HB5.out.trans (hb6.mono HB5.out.size))
  have HX6 := Lib.hid (HX5.out.keep hb6)
  have HY6 := Lib.hid hy6
  clear hb6 hy6 HRg5 HSs5 HB5 HX5
  go_wp2_with fail
  refine (quot_ok5 HQ.out HRg6.out HSs6.out HV.out rfl HSL.out).mono ?_
  rintro e w7 ⟨Z, cz, rfl, hz7, hb7⟩
  have HB7 := Lib.hid (HB6.out.trans (hb7.mono HB6.out.size))
  have HX7 := Lib.hid (HX6.out.keep hb7)
  have HY7 := Lib.hid (HY6.out.keep hb7)
  have HZ7 := Lib.hid hz7
  have HOk := Lib.hid (order_ok g s)
  have HAll := Lib.hid (fun (v : Nat) => order_all (g := g) (s := s) (v := v))
  clear hb7 hz7 HRg6 HSs6 HB6 HX6 HY6
  obtain ⟨O, HOL⟩ : ∃ O, Hid (O = orderL g s) := ⟨_, Lib.hid rfl⟩
  rw [← HOL.out] at HY7 HOk HAll
  have HOL2 := Lib.hid HOL.out
  rw [← HOL.out]
  clear HOL
  have hO24 : O.length ≤ 1000 + g.length := by
    apply Classical.byContradiction
    intro hno
    have hnd := List.pairwise_iff_getElem.1 HOk.out.nodup
    have key : ∀ m : Nat, ∀ l : List Int, l.Nodup → (∀ z ∈ l, ∃ v : Nat, z = v ∧ v < m) → l.length ≤ m := fun m => by
      induction m with
      | zero =>
        intro l _ hl
        rcases l with _ | ⟨z, l⟩
        · simp
        · obtain ⟨v, _, hv⟩ := hl z (by simp)
          omega
      | succ m ih =>
        intro l hn hl
        have h1 := ih (l.filter (fun z => decide (z ≠ (m : Int)))) (hn.filter _) (fun z hz => by
          obtain ⟨h2, h3⟩ := List.mem_filter.1 hz
          obtain ⟨v, rfl, hv⟩ := hl z h2
          simp at h3
          exact ⟨v, rfl, by omega⟩)
        have h2 : l.length ≤ (l.filter (fun z => decide (z ≠ (m : Int)))).length + 1 := by
          clear h1 hl ih
          induction l with
          | nil => simp
          | cons z l ih2 =>
            have hn' := List.nodup_cons.1 hn
            by_cases hz : z = (m : Int)
            · have : l.filter (fun z => decide (z ≠ (m : Int))) = l := List.filter_eq_self.2 fun y hy => by
                simp
                intro e
                exact hn'.1 (by rw [hz, ← e]; exact hy)
              rw [List.filter_cons_of_neg (by simp [hz]), this, List.length_cons]
              omega
            · rw [List.filter_cons_of_pos (by simp [hz]), List.length_cons, List.length_cons]
              have := ih2 hn'.2
              omega
        omega
    have := key g.length O HOk.out.nodup (fun z hz => by obtain ⟨v, h1, h2, _⟩ := HOk.out.name z hz; exact ⟨v, h1, h2⟩)
    omega
  go_wp2_with (refine make_any _ rfl _ _ 24 3 (.int .i64 0) 8 Try.underlying24 Try.infoIntG rfl (by decide) rfl .i64 .i64 _ _ g.length rfl rfl rfl rfl (by omega) ?_)
  intro w8 own8 hb8
  obtain ⟨G, hG⟩ : ∃ G, G = w7.heap.size := ⟨_, rfl⟩
  have HP8 : Hid (w8.ownsRow G 3 1 (.slice (some ⟨G, 0, none⟩) g.length g.length) g.length ((mapR g.length (inF 0)).map Iv)) := Lib.hid (by rw [inF_start, List.map_replicate, hG]; exact own8)
  have HB8 : Hid (Below G w7 w8) := Lib.hid (by rw [hG]; exact hb8)
  have HXk : Hid (∀ W, Below G w7 W → Holds W X ((namesL g s).map Iv)) := Lib.hid (fun W hW => HX7.out.keep (by rw [← hG]; exact hW))
  have HYk : Hid (∀ W, Below G w7 W → Holds W Y (O.map Iv)) := Lib.hid (fun W hW => HY7.out.keep (by rw [← hG]; exact hW))
  have HZk : Hid (∀ W, Below G w7 W → RowsAt W Z (quotL g s)) := Lib.hid (fun W hW => HZ7.out.keep (by rw [← hG]; exact hW))
  have HBk : Hid (∀ W, Below G w7 W → Below w.heap.size w W) := Lib.hid (fun W hW => HB7.out.trans (hW.mono (by have := HB7.out.size; omega)))
  rw [← hG]
  clear own8 hb8 hG HX7 HY7 HZ7 HB7
  go_wp2
  go_loopw [13] (fun i wr => ∃ v : Nat, i = .int .i64 v ∧ v ≤ g.length ∧ Hid (wr.ownsRow G 3 1 (.slice (some ⟨G, 0, none⟩) g.length g.length) g.length ((mapR g.length (inF v)).map Iv)) ∧ Hid (Below G w7 wr)) (fun i _ => g.length - (intOf i).toNat)
  case atStart => exact ⟨0, rfl, Nat.zero_le _, HP8, HB8⟩
  case round =>
    clear HP8 HB8
    obtain ⟨v, rfl, hv, HP, HB⟩ := hrel
    by_cases hvt : v < g.length
    · obtain ⟨cu, c1, f1⟩ : ∃ cu, wr.cell? ⟨G, v, none⟩ = some cu ∧ wr.frozen? ⟨G, v, none⟩ = false := ⟨_, own_get HP.out (i := v) (u := Iv (inF v v)) (by rw [List.getElem?_map, List.getElem?_eq_getElem (by rw [mapR_length]; exact hvt), mapR_at]; rfl)⟩
      have HP2 : Hid ((wr.setCell ⟨G, v, none⟩ (.int .i64 (-1))).ownsRow G 3 1 (.slice (some ⟨G, 0, none⟩) g.length g.length) g.length ((mapR g.length (inF (v + 1))).map Iv)) := Lib.hid (by rw [← inF_set, List.map_set]; exact own_put HP.out)
      have HB2 := Lib.hid (below_put (i := v) (v := .int .i64 (-1)) HB.out (Nat.le_refl G))
      clear HP HB
      go_wp2
      go_roundw
      case rel => exact ⟨v + 1, by go_num, by omega, HP2, HB2⟩
      case measure => simp [intOf]; omega
    · obtain rfl : v = g.length := by omega
      have HP2 : Hid (wr.ownsRow G 3 1 (.slice (some ⟨G, 0, none⟩) g.length g.length) g.length ((mapR g.length (posOf O 0)).map Iv)) := Lib.hid (by rw [pos_zero, ← inF_end]; exact HP.out)
      clear HP
      go_wp2
      go_loopw [14] (fun i wr => ∃ j : Nat, i = .int .i64 j ∧ j ≤ O.length ∧ Hid (wr.ownsRow G 3 1 (.slice (some ⟨G, 0, none⟩) g.length g.length) g.length ((mapR g.length (posOf O j)).map Iv)) ∧ Hid (Below G w7 wr)) (fun i _ => O.length - (intOf i).toNat)
      case atStart => exact ⟨0, rfl, Nat.zero_le _, HP2, HB⟩
      case round =>
        clear HP2 HB
        obtain ⟨j, rfl, hj, HP, HB⟩ := hrel
        by_cases hjt : j < O.length
        · obtain ⟨x, hx, hxn, hxx⟩ := HOk.out.name O[j] (List.getElem_mem hjt)
          obtain ⟨by_, oy, rfl, e1⟩ := (HYk.out wr HB.out).iv hjt
          rw [hx] at e1
          have hxl : x < (namesL g s).length := by rw [HNL.out]; exact hxn
          obtain ⟨bn, on, rfl, e2⟩ := (HXk.out wr HB.out).iv hxl
          rw [namesL_at, hxx] at e2
          have hjx : O[j]? = some (x : Int) := by rw [List.getElem?_eq_getElem hjt, hx]
          have hp0 := pos_no HOk.out.nodup hjx
          obtain ⟨e3, f3⟩ := own_get HP.out (i := x) (u := Iv (posOf O j x)) (by rw [List.getElem?_map, List.getElem?_eq_getElem (by rw [mapR_length]; exact hxn), mapR_at]; rfl)
          rw [hp0] at e3
          have HSet := Lib.hid (pos_set (n := g.length) HOk.out.nodup hjx)
          clear hx hxx hjx hp0
          go_wp2_with fail
          go_quiet (fail)
          have HP2 : Hid (((wr.drewN nq).setCell ⟨G, x, none⟩ (.int .i64 j)).ownsRow G 3 1 (.slice (some ⟨G, 0, none⟩) g.length g.length) g.length ((mapR g.length (posOf O (j + 1))).map Iv)) := Lib.hid (by rw [← HSet.out, List.map_set]; exact own_put (ownsRow_below HP.out (below_drewN (Below.refl _ _) nq)))
          have HB2 := Lib.hid (below_put (i := x) (v := .int .i64 j) (below_drewN HB.out nq) (Nat.le_refl G))
          clear HP HB HSet
          go_wp2
          go_roundw
          case rel => exact ⟨j + 1, by go_num, by omega, HP2, HB2⟩
          case measure => simp [intOf]; omega
        · obtain rfl : j = O.length := by omega
          have HPl : Hid (∀ v : Nat, v < g.length → nameOf g s v = v → ∃ i : Nat, posOf O O.length v = i ∧ O[i]? = some (v : Int)) := Lib.hid (fun v hv hn => by
            rcases pos_cases O O.length v with ⟨_, h1⟩ | ⟨i, h1, _, h3⟩
            · obtain ⟨i, hi, e⟩ := List.mem_iff_getElem.1 (HAll.out v hv hn)
              exact absurd (by rw [List.getElem?_eq_getElem hi, e]) (h1 i hi)
            · exact ⟨i, h1, h3⟩)
          obtain ⟨wz, hwz⟩ : ∃ wz, wz = wr := ⟨_, rfl⟩
          rw [← hwz] at HP HB ⊢
          clear hwz
          go_wp2
          go_loopw [15] (fun i wr => ∃ v : Nat, i = .int .i64 v ∧ v ≤ g.length ∧ Hid (Below wz.heap.size wz wr)) (fun i _ => g.length - (intOf i).toNat)
          case atStart => exact ⟨0, rfl, Nat.zero_le _, Lib.hid (Below.refl _ _)⟩
          case round =>
            obtain ⟨v, rfl, hv, HW⟩ := hrel
            have hwz7 : G ≤ wz.heap.size := by have := own_blk HP.out; omega
            have HB2 := Lib.hid (HB.out.trans (HW.out.mono hwz7))
            by_cases hvt : v < g.length
            · have hvl : v < (namesL g s).length := by rw [HNL.out]; exact hvt
              obtain ⟨bn, on, rfl, e2⟩ := (HXk.out wr HB2.out).iv hvl
              rw [namesL_at] at e2
              have hPW := ownsRow_below HP.out HW.out
              have e3 := (own_get hPW (i := v) (u := Iv (posOf O O.length v)) (by rw [List.getElem?_map, List.getElem?_eq_getElem (by rw [mapR_length]; exact hvt), mapR_at]; rfl)).1
              have hql : v < (quotL g s).length := by rw [quotL_length]; exact hvt
              have hrow : (quotL g s)[v] = quotRow g s v := quotL_at hql
              have HRowM : Hid (∀ z ∈ (quotL g s)[v], quotMem g s v z) := Lib.hid (fun z hz => quotRow_mem.1 (by rw [← hrow]; exact hz))
              have HZr : Hid (∀ W, Below G w7 W → ∃ b o A1 c1, Z = some ⟨b, o, none⟩ ∧ W.cell? ⟨b, o + v, none⟩ = some (.slice A1 (quotL g s)[v].length c1) ∧ Holds W A1 ((quotL g s)[v].map Iv)) := Lib.hid (fun W hW => (HZk.out W hW).one hql)
              have hrl : (quotL g s)[v].length ≤ 1000 + g.length := by
                rw [hrow]
                unfold quotRow
                rw [List.length_map]
                refine Nat.le_trans (List.length_filter_le _ _) (by simp)
              have HQl := Lib.hid (quotL_length g s)
              have hzl : (quotL g s).length = g.length := quotL_length g s
              clear hPW hrow
              generalize hQr : (quotL g s)[v] = r at *
              clear hQr
              have hcase : (nameOf g s v == (v : Int)) = false ∨ nameOf g s v = v ∧ ∃ i : Nat, posOf O O.length v = i := by
                by_cases h : nameOf g s v = v
                · obtain ⟨i, hi, _⟩ := HPl.out v hvt h
                  exact .inr ⟨h, i, hi⟩
                · exact .inl (by rw [beq_eq_false_iff_ne]; exact h)
              obtain ⟨nv, hnv⟩ : ∃ nv, Hid (nv = nameOf g s v) := ⟨_, Lib.hid rfl⟩
              obtain ⟨pv, hpv⟩ : ∃ pv, Hid (pv = posOf O O.length v) := ⟨_, Lib.hid rfl⟩
              rw [← hnv.out] at e2 hcase
              rw [← hpv.out] at e3 hcase
              clear hzl
              rcases hcase with hd | ⟨rfl, i, rfl⟩
              · go_wp2
                go_loopw [16] (fun i wr => ∃ m : Nat, i = .int .i64 m ∧ m ≤ r.length ∧ Hid (Below wz.heap.size wz wr)) (fun i _ => r.length - (intOf i).toNat)
                case atStart => exact ⟨0, rfl, Nat.zero_le _, HW⟩
                case round =>
                  clear HW HB2 e2 e3
                  obtain ⟨m, rfl, hm, HW⟩ := hrel
                  have HB2 := Lib.hid (HB.out.trans (HW.out.mono hwz7))
                  obtain ⟨bq, oq, A1, c1, rfl, e4, h4⟩ := HZr.out wr HB2.out
                  by_cases hmt : m < r.length
                  · exfalso
                    have hq := HRowM.out r[m] (List.getElem_mem hmt)
                    have h0 := hq
                    obtain ⟨_, _, _, _, hx, hz0, _⟩ := h0
                    obtain ⟨bz, hbz⟩ := Int.eq_ofNat_of_zero_le hz0
                    rw [hbz] at hq
                    have h1 := (quot_path hq).1
                    rw [beq_eq_false_iff_ne] at hd
                    exact hd (by rw [hnv.out, h1])
                  · clear h4
                    go_wp2
                    go_roundw
                    case rel => exact ⟨v + 1, by go_num, by omega, HW⟩
                    case measure => simp [intOf]; omega
              · go_wp2
                go_loopw [16] (fun i wr => ∃ m : Nat, i = .int .i64 m ∧ m ≤ r.length ∧ Hid (Below wz.heap.size wz wr)) (fun i _ => r.length - (intOf i).toNat)
                case atStart => exact ⟨0, rfl, Nat.zero_le _, HW⟩
                case round =>
                  clear HW HB2 e2 e3
                  obtain ⟨m, rfl, hm, HW⟩ := hrel
                  have HB2 := Lib.hid (HB.out.trans (HW.out.mono hwz7))
                  obtain ⟨bq, oq, A1, c1, rfl, e4, h4⟩ := HZr.out wr HB2.out
                  by_cases hmt : m < r.length
                  · have hq := HRowM.out r[m] (List.getElem_mem hmt)
                    have h0 := hq
                    obtain ⟨_, _, _, _, hx, hz0, _⟩ := h0
                    obtain ⟨bz, hbz⟩ := Int.eq_ofNat_of_zero_le hz0
                    rw [hbz] at hq hx
                    obtain ⟨q1, q2, q3, q4⟩ := quot_path hq
                    have hbn : bz < g.length := (name_name hx).2.1
                    obtain ⟨ib, hib, hob⟩ := HPl.out bz hbn q2
                    obtain ⟨iv, hiv, hov⟩ := HPl.out v hvt q1
                    obtain ⟨jv, hjv, hoj⟩ := HOk.out.before ib bz v hob q1 (fun e => q3 e.symm) q4
                    have hjj : jv = iv := pos_is.nodup_idx HOk.out.nodup hoj hov
                    have hpi : i = iv := by have := hpv.out; rw [hiv] at this; omega
                    have hlti : i < ib := by omega
                    obtain ⟨br, or_, rfl, e5⟩ := h4.iv hmt
                    rw [hbz] at e5
                    have hPW := ownsRow_below HP.out HW.out
                    have e6 := (own_get hPW (i := v) (u := Iv (posOf O O.length v)) (by rw [List.getElem?_map, List.getElem?_eq_getElem (by rw [mapR_length]; exact hvt), mapR_at]; rfl)).1
                    have e7 := (own_get hPW (i := bz) (u := Iv (posOf O O.length bz)) (by rw [List.getElem?_map, List.getElem?_eq_getElem (by rw [mapR_length]; exact hbn), mapR_at]; rfl)).1
                    rw [← hpv.out] at e6
                    rw [hib] at e7
                    clear hq hx hz0 hbz q1 q2 q3 q4 hib hob hiv hov hjv hoj hjj hpi hPW h4
                    go_wp2_with fail
                    go_quiet (fail)
                    have HW10 := Lib.hid (below_drewN HW.out nq)
                    go_wp2
                    go_roundw
                    case rel => exact ⟨m + 1, by go_num, by omega, HW10⟩
                    case measure => simp [intOf]; omega
                  · clear h4
                    go_wp2
                    go_roundw
                    case rel => exact ⟨v + 1, by go_num, by omega, HW⟩
                    case measure => simp [intOf]; omega
            · go_wp2
              go_ret
              exact ⟨rfl, HBk.out wr HB2.out⟩
end Go.Proofs.Ytcljmgchghjncaa
