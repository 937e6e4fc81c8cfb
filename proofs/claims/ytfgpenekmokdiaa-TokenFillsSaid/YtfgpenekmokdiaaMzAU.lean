/- Joined texts. -/
import Derived.Test.YtfgpenekmokdiaaGdSteps
import Derived.Test.YtfgpenekmokdiaaMzAC
import Derived.Test.YtfgpenekmokdiaaMzAD
namespace Go.Proofs.Ytfgpenekmokdiaa
open Go Go.RowKit Fl

set_option maxRecDepth 100000 in
set_option maxHeartbeats 4000000 in
/-- The test of IndexFunc. -/
theorem near_c (G H : Nat) (M : List Int) (f : Int) (z : Nat) (w : World) (hz : ArrD w G 57 (padZ M)) (hH : w.heap[H]? = some (.cells #[.int .i64 f] 3 (0, 0))) (hl : z < M.length) (h24 : M.length ≤ 24) :
    Calls Try.prog 74 #[.int .i64 z, .pointer (some ⟨G, 0, none⟩), .pointer (some ⟨H, 0, none⟩)] w fun e w' => e = .returned (.bool (decide (atZ M z = f))) ∧ w' = w.drew := by
  obtain ⟨e1, _⟩ := hz.cell (padZ_at hl)
  have e2 : w.cell? ⟨H, 0, none⟩ = some (.int .i64 f) := cell_of_one hH
  have hz24 : z < 24 := by omega
  clear hz hH
  generalize atZ M z = s at *
  go_enter Try.func74, Try.ntmps74
  go_wp2
  go_region
  all_goals (try go_wp2)
  all_goals go_ret
  all_goals exact ⟨gr_bool (by rw [Bool.eq_iff_iff]; simp), rfl⟩
set_option maxRecDepth 100000 in
set_option maxHeartbeats 4000000 in
theorem idx_c (A : Option Addr) (c G H : Nat) (r M : List Int) (f : Int) (j : Nat) (w : World) (hr : Holds w A (r.map Iv)) (hz : ArrD w G 57 (padZ M)) (hH : w.heap[H]? = some (.cells #[.int .i64 f] 3 (0, 0))) (h24 : M.length ≤ 24) (hr24 : r.length ≤ 24) (hx : ∀ x ∈ r, 0 ≤ x ∧ x < M.length) (hj : j < r.length) (hjf : atZ M r[j].toNat = f) (hbef : ∀ i (h : i < r.length), i < j → atZ M r[i].toNat ≠ f) :
    Calls Try.prog 62 #[.slice A r.length c, .func (.func 74) #[] #[.pointer (some ⟨G, 0, none⟩), .pointer (some ⟨H, 0, none⟩)]] w fun e w' => e = .returned (.int .i64 j) ∧ Below w.heap.size w w' := by
  have HR := Lib.hid hr
  have HX := Lib.hid hx
  have HJ := Lib.hid hjf
  have HBf := Lib.hid hbef
  have HC := Lib.hid (fun (wr : World) (hb : Below w.heap.size w wr) (z : Nat) (hl : z < M.length) => near_c G H M f z wr (hz.keep hb hz.lt) ((hb.block H (block_lt hH)).trans hH) hl h24)
  clear hr hx hjf hbef hz hH
  go_enter Try.func62, Try.ntmps62
  go_wp2
  go_loopw [8] (fun iv wr => ∃ (i : Nat), iv = .int .i64 i ∧ i ≤ j ∧ Hid (Below w.heap.size w wr)) (fun iv _ => r.length - (intOf iv).toNat)
  case atStart => exact ⟨0, rfl, Nat.zero_le _, Lib.hid (Below.refl _ _)⟩
  case round =>
    obtain ⟨i, rfl, hij, HB⟩ := hrel
    have hir : i < r.length := by omega
    obtain ⟨b, o, rfl, e1⟩ := (HR.out.keep HB.out).iv hir
    obtain ⟨x0, x1⟩ := HX.out r[i] (List.getElem_mem hir)
    obtain ⟨x, hx⟩ := Int.eq_ofNat_of_zero_le x0
    rw [hx] at e1 x1
    have hxl : x < M.length := by omega
    have CN := Lib.hid (HC.out wr HB.out x hxl)
    have HB2 := Lib.hid (HB.out.drew)
    rcases Nat.lt_or_ge i j with h1 | h1
    · have hd : decide (atZ M x = f) = false := by
        refine decide_eq_false ?_
        have := HBf.out i hir h1
        rwa [hx, Int.toNat_natCast] at this
      rw [hd] at CN
      clear hd hx x0 x1 HB
      go_wp2_with (go_at_call 74; refine CN.out.mono ?_; rintro e w2 ⟨rfl, rfl⟩)
      go_roundw
      case rel => exact ⟨i + 1, by go_num, by omega, HB2⟩
      case measure => simp [intOf]; omega
    · obtain rfl : i = j := by omega
      have hd : decide (atZ M x = f) = true := by
        refine decide_eq_true ?_
        have := HJ.out
        rwa [hx, Int.toNat_natCast] at this
      rw [hd] at CN
      clear hd hx x0 x1 HB
      go_wp2_with (go_at_call 74; refine CN.out.mono ?_; rintro e w2 ⟨rfl, rfl⟩)
      go_ret
      exact ⟨rfl, HB2.out⟩
/-- How long a slice is. -/
def lnOf : Value → Nat
  | .slice _ n _ => n
  | _ => 0
theorem zeros24 : (List.replicate 24 (Value.int .i64 0)).length = 24 := by simp
/-- The first place in a row. -/
theorem first_at {r M : List Int} {f : Int} {y : Nat} (h : r.find? (fun y => decide (atZ M y.toNat = f)) = some (y : Int)) : ∃ (j : Nat) (hj : j < r.length), r[j] = (y : Int) ∧ atZ M r[j].toNat = f ∧ ∀ i (h : i < r.length), i < j → atZ M r[i].toNat ≠ f := by
  obtain ⟨h1, j, hj, h2, h3⟩ := List.find?_eq_some_iff_getElem.1 h
  refine ⟨j, hj, h2, by rw [h2]; simpa using h1, fun i hi hij => ?_⟩
  have := h3 i hij
  simpa using this
theorem wk_step {h : GraphD} {M W T : List Int} {f x : Nat} (e : W ++ wkF h M (f + 1) x = T) : (W ++ [(x : Int)]) ++ wkF h M f (nxF h M x (f + 1)) = T := by
  rw [← e, List.append_assoc]; rfl
theorem own_keep {w w' : World} {base n : Nat} {e : TypeId} {v : Value} {xs : List Value} (h : w.ownsRow base e 1 v n xs) (hb : Below w.heap.size w w') : w'.ownsRow base e 1 v n xs := by
  obtain ⟨h1, h2⟩ := h
  refine ⟨h1, ?_⟩
  rcases h2 with h2 | ⟨g, cap, cur, hv, hg, hh, hr⟩
  · exact .inl h2
  · exact .inr ⟨g, cap, cur, hv, hg, (hb.block g (block_lt hh)).trans hh, hr⟩
theorem gd_low {w : World} {base base' n : Nat} {e : TypeId} {v : Value} {xs : List Value} (h : w.ownsRow base e 1 v n xs) (hb : base' ≤ base) : w.ownsRow base' e 1 v n xs := by
  obtain ⟨h1, h2⟩ := h
  refine ⟨h1, ?_⟩
  rcases h2 with h2 | ⟨g, cap, cur, hv, hg, hr⟩
  · exact .inl h2
  · exact .inr ⟨g, cap, cur, hv, by omega, hr⟩
/-- The two cells of the loop at its start. -/
theorem two_start (W : World) (v F : Int) : ((W.alloc (.cells #[.int .i64 v] 3)).alloc (.cells #[.int .i64 F] 3)).heap[W.heap.size]? = some (.cells #[.int .i64 v] 3 (0, 0)) ∧
    ((W.alloc (.cells #[.int .i64 v] 3)).alloc (.cells #[.int .i64 F] 3)).heap[W.heap.size + 1]? = some (.cells #[.int .i64 F] 3 (0, 0)) ∧
    W.heap.size + 2 ≤ ((W.alloc (.cells #[.int .i64 v] 3)).alloc (.cells #[.int .i64 F] 3)).heap.size ∧
    Below W.heap.size W ((W.alloc (.cells #[.int .i64 v] 3)).alloc (.cells #[.int .i64 F] 3)) := by
  have s1 : (W.alloc (.cells #[.int .i64 v] 3)).heap.size = W.heap.size + 1 := by simp
  refine ⟨?_, ?_, by simp, ?_⟩
  · rw [Below.heap_alloc _ _ _ (by rw [s1]; omega)]
    exact heap_alloc_new W _
  · rw [← s1]
    exact heap_alloc_new _ _
  · exact ((Below.refl W.heap.size W).alloc (Nat.le_refl _) _).alloc (by rw [s1]; omega) _
set_option maxRecDepth 100000 in
set_option maxHeartbeats 8000000 in
theorem walk_c (A B : Option Addr) (c d : Nat) (h : GraphD) (T : List Int) (v : Nat) (w : World) (ha : RowsAt w A h) (hb : RowsAt w B (revG h)) (hg : validG h = true) (hv : v < h.length) (hT : T.length ≤ 25) (hT0 : ∀ M, StF h v M → atZ M v = 0 → T = []) (hT1 : ∀ M (F : Nat), StF h v M → atZ M v = (F : Int) + 1 → T = wkF h M F v) :
    Calls Try.prog 55 #[.slice A h.length c, .slice B h.length d, .int .i64 v] w fun e w' => ∃ u, e = .returned u ∧ w'.ownsRow w.heap.size 3 1 u T.length (T.map Iv) ∧ Below w.heap.size w w' := by
  have CS := Lib.hid (steps_c B d h v w hb hg hv)
  have HA := Lib.hid ha
  have HG := Lib.hid hg
  have hl24 := validG_len hg
  have HR24 := Lib.hid (validG_short hg)
  have HT0 := Lib.hid hT0
  have HT1 := Lib.hid hT1
  clear ha hb hg hT0 hT1
  have hmf : ∀ (fn : Fn) (first cap : Array Value) (w : World), (Instr.makeFunc fn first cap).run Try.prog w = .ok (.func fn first cap) w := fun _ _ _ _ => rfl
  go_enter Try.func55, Try.ntmps55
  go_wp2_with fail
  refine CS.out.mono ?_
  rintro e w1 ⟨M, hst, rfl, hb1⟩
  have HST := Lib.hid hst
  have hMl : M.length = h.length := hst.len
  have HB1 := Lib.hid hb1
  have h24 : (padZ M).length = 24 := padZ_length (by omega)
  have hz24 := zeros24
  have HN := Lib.hid (zeros_new w1)
  have HN2 := Lib.hid (HN.out.row (l' := padZ M))
  have HB2 := Lib.hid (below_rowZ (hb1.alloc hb1.size (.cells #[.int .i64 0, .int .i64 0, .int .i64 0, .int .i64 0, .int .i64 0, .int .i64 0, .int .i64 0, .int .i64 0, .int .i64 0, .int .i64 0, .int .i64 0, .int .i64 0, .int .i64 0, .int .i64 0, .int .i64 0, .int .i64 0, .int .i64 0, .int .i64 0, .int .i64 0, .int .i64 0, .int .i64 0, .int .i64 0, .int .i64 0, .int .i64 0] 57)) hb1.size (padZ M).toArray)
  have hGw : w.heap.size ≤ w1.heap.size := hb1.size
  have hW2s : ((w1.alloc (.cells #[.int .i64 0, .int .i64 0, .int .i64 0, .int .i64 0, .int .i64 0, .int .i64 0, .int .i64 0, .int .i64 0, .int .i64 0, .int .i64 0, .int .i64 0, .int .i64 0, .int .i64 0, .int .i64 0, .int .i64 0, .int .i64 0, .int .i64 0, .int .i64 0, .int .i64 0, .int .i64 0, .int .i64 0, .int .i64 0, .int .i64 0, .int .i64 0] 57)).setRow w1.heap.size (padZ M).toArray).heap.size = w1.heap.size + 1 := by simp [World.setRow]
  clear hst hb1 CS
  have hv24 : v < 24 := by omega
  obtain ⟨e1, _⟩ := HN2.out.cell (padZ_at (M := M) (k := v) (by omega))
  rcases Classical.em (atZ M v = 0) with h0 | h0
  · have HE := Lib.hid (HT0.out M HST.out h0)
    rw [h0] at e1
    go_wp2_with (refine wpList_store_row rfl _ _ _ rfl w1.heap.size _ rfl rfl _ _ HN.out (sizeZl h24) (by rw [List.size_toArray, List.size_toArray, h24, hz24]) (padZ_one _) ?_)
    go_ret
    exact ⟨_, rfl, by rw [HE.out]; exact World.ownsRow_nil _ _ _ _, HB2.out⟩
  · obtain ⟨F1, hF, hF1, hWn⟩ := HST.out.sound v hv h0
    obtain ⟨F, rfl⟩ : ∃ F, F1 = F + 1 := ⟨F1 - 1, by omega⟩
    have hFe : atZ M v = (F : Int) + 1 := by rw [hF]; omega
    have HE := Lib.hid (HT1.out M F HST.out hFe)
    have hF24 : F ≤ 24 := by
      have := congrArg List.length HE.out
      rw [wkF_length] at this
      omega
    rw [hFe] at e1
    have hne : ((F : Int) + 1 == 0) = false := by rw [beq_eq_false_iff_ne]; omega
    have hTS := two_start ((w1.alloc (.cells #[.int .i64 0, .int .i64 0, .int .i64 0, .int .i64 0, .int .i64 0, .int .i64 0, .int .i64 0, .int .i64 0, .int .i64 0, .int .i64 0, .int .i64 0, .int .i64 0, .int .i64 0, .int .i64 0, .int .i64 0, .int .i64 0, .int .i64 0, .int .i64 0, .int .i64 0, .int .i64 0, .int .i64 0, .int .i64 0, .int .i64 0, .int .i64 0] 57)).setRow w1.heap.size (padZ M).toArray) v F
    rw [hW2s] at hTS
    obtain ⟨k1, k2, k3, k4⟩ := hTS
    have K1 := Lib.hid k1
    have K2 := Lib.hid k2
    have KZ := Lib.hid (HN2.out.keep k4 (Nat.lt_succ_self _))
    have KB := Lib.hid (HB2.out.trans (k4.mono (by omega)))
    clear k1 k2 k4 HN2 HB2 hF h0 hWn
    go_wp2_with (refine wpList_store_row rfl _ _ _ rfl w1.heap.size _ rfl rfl _ _ HN.out (sizeZl h24) (by rw [List.size_toArray, List.size_toArray, h24, hz24]) (padZ_one _) ?_)
    clear hW2s HN
    generalize (((w1.alloc (.cells #[.int .i64 0, .int .i64 0, .int .i64 0, .int .i64 0, .int .i64 0, .int .i64 0, .int .i64 0, .int .i64 0, .int .i64 0, .int .i64 0, .int .i64 0, .int .i64 0, .int .i64 0, .int .i64 0, .int .i64 0, .int .i64 0, .int .i64 0, .int .i64 0, .int .i64 0, .int .i64 0, .int .i64 0, .int .i64 0, .int .i64 0, .int .i64 0] 57)).setRow w1.heap.size (padZ M).toArray).alloc (.cells #[.int .i64 v] 3)).alloc (.cells #[.int .i64 F] 3) = w3 at *
    generalize w1.heap.size = G at *
    have HO : Hid (w3.ownsRow (G + 1) 3 1 (.slice (some ⟨G + 1, 0, none⟩) 1 1) 1 (([] ++ [(v : Int)]).map Iv)) := Lib.hid ⟨rfl, .inr ⟨G + 1, 1, #[Iv v], rfl, Nat.le_refl _, K1.out, by omega, by unfold maxLen; omega, rfl, rfl⟩⟩
    have HW : Hid ([] ++ wkF h M F v = T) := Lib.hid HE.out.symm
    have hGs : G + 1 + 1 < w3.heap.size := lt_of_block K2.out
    clear K1 HE hF1 hne e1 HT0 HT1 HB1 hz24 h24 hv24
    go_loopw [8, 9] (fun lv pv wr => ∃ (f x q cap H : Nat) (W : List Int), lv = .slice (some ⟨q, 0, none⟩) (W.length + 1) cap ∧ pv = .pointer (some ⟨H, 0, none⟩) ∧ q ≠ H ∧ G + 1 ≤ H ∧ x < h.length ∧ W.length + f = F ∧ Hid (atZ M x = (f : Int) + 1) ∧ Hid (W ++ wkF h M f x = T) ∧
      Hid (wr.ownsRow (G + 1) 3 1 (.slice (some ⟨q, 0, none⟩) (W.length + 1) cap) (W.length + 1) ((W ++ [(x : Int)]).map Iv)) ∧ Hid (wr.heap[H]? = some (.cells #[.int .i64 f] 3 (0, 0))) ∧ Hid (ArrD wr G 57 (padZ M)) ∧ Hid (Below w.heap.size w wr)) (fun lv _ _ => F + 2 - lnOf lv)
    case atStart => exact ⟨F, v, G + 1, 1, G + 1 + 1, [], rfl, rfl, by omega, by omega, hv, by simp, Lib.hid hFe, HW, HO, K2, KZ, KB⟩
    case round =>
      clear HO K2 KZ KB HW hFe k3 hGs
      obtain ⟨f, x, q, cap, H, W, rfl, rfl, hqH, hGH, hx, hWf, HMx, HW, HO, HH, HZ, HB⟩ := hrel
      have eH : wr.cell? ⟨H, 0, none⟩ = some (.int .i64 f) := cell_of_one HH.out
      rcases f with _ | f
      · have HE : Hid (W ++ [(x : Int)] = T) := HW
        have hTl : W.length + 1 = T.length := by rw [← HE.out]; simp
        clear HW HMx
        go_wp2
        go_ret
        exact ⟨_, rfl, by rw [← hTl, ← HE.out]; exact gd_low HO.out (by omega), HB.out⟩
      · have ex : wr.cell? ⟨q, W.length, none⟩ = some (.int .i64 x) := (own_get HO.out (i := W.length) (u := Iv x) (by simp)).1
        obtain ⟨n1, n2, n3⟩ := HST.out.nxF HG.out hx (f := f) HMx.out
        have HW2 : Hid ((W ++ [(x : Int)]) ++ wkF h M f (nxF h M x (f + 1)) = T) := Lib.hid (wk_step HW.out)
        rw [rowG_at hx] at n3
        have HX := Lib.hid (rowOk_row HG.out hx)
        rw [rowG_at hx] at HX
        obtain ⟨bg, og, A2, c2, rfl, e1, h1⟩ := HA.out.one hx
        have hbg : bg < w.heap.size := World.block_lt_of_cell? _ _ e1
        have e1r : wr.cell? ⟨bg, og + x, none⟩ = some (.slice A2 h[x].length c2) := (HB.out.cell (p := ⟨bg, og + x, none⟩) hbg).trans e1
        have hr24 := HR24.out _ (List.getElem_mem hx)
        generalize h[x] = r at *
        generalize nxF h M x (f + 1) = y at *
        obtain ⟨j, hj, hjy, hjf, hbef⟩ := first_at n3
        obtain ⟨br, or_, rfl, e2⟩ := h1.iv hj
        have hbr : br < w.heap.size := World.block_lt_of_cell? _ _ e2
        rw [hjy] at e2
        have CI := Lib.hid (idx_c _ c2 G H r M ((f + 1 : Nat) : Int) j wr (h1.keep HB.out) HZ.out HH.out (by omega) hr24 (fun z hz => by have := HX.out z hz; omega) hj hjf hbef)
        have HMy := Lib.hid n2
        clear n2 n3 HW HMx e1 h1 hjy hjf hbef HX
        have hq24 : W.length ≤ 24 := by omega
        go_wp2_with fail
        refine CI.out.mono ?_
        rintro e w4 ⟨rfl, hb4⟩
        have hHw : H < wr.heap.size := lt_of_block HH.out
        have hGw4 : G < wr.heap.size := HZ.out.lt
        have HB4 := Lib.hid (HB.out.trans (hb4.mono HB.out.size))
        have e2r : w4.cell? ⟨br, or_ + j, none⟩ = some (.int .i64 y) := (HB4.out.cell (p := ⟨br, or_ + j, none⟩) hbr).trans e2
        have HH4 : Hid (w4.heap[H]? = some (.cells #[.int .i64 ((f + 1 : Nat) : Int)] 3 (0, 0))) := Lib.hid ((hb4.block H hHw).trans HH.out)
        have HZ4 := Lib.hid (HZ.out.keep hb4 hGw4)
        have HO4 := Lib.hid (own_keep HO.out hb4)
        have hs4 : wr.heap.size ≤ w4.heap.size := hb4.size
        have HOa := Lib.hid (fun ob => HO4.out.alloc ob)
        obtain ⟨i0, hi0, hz0, hz1, hz2⟩ := info_parts Try.infoIntG
        clear CI hb4 HO HH HZ HB eH ex e1r e2
        go_wp2_with (at_builtin; (refine wpList_append_lies _ rfl _ _ 23 rfl (G + 1) 3 i0 (.int .i64 0) 1 8 Try.underlying23 hi0 hz0 hz1 hz2 rfl (by omega) (.slice (some ⟨q, 0, none⟩) (W.length + 1) cap) (W.length + 1) ((W ++ [(x : Int)]).map Iv) (by rfl) (HOa.out _) ⟨_, 0, none⟩ 1 1 [Iv y] (by rfl) (by rfl) (World.news_of_block (cs := #[Iv y]) (t := 3) (fr := (0, 0)) (heap_alloc_new _ _)) (by simp [Value.oneCell']) (by omega) (by unfold maxLen; omega) (by omega) (by simp; omega) _ rfl ?_))
        intro q8 cap8 w8 hown hgrow hat hlt8
        have hlen : W.length + 1 + 1 = (W ++ [(x : Int)]).length + 1 := by simp
        have HLen := Lib.hid hlen
        have hq8 : q8 ≠ H := by
          rcases hat with h1 | h1
          · simp [Value.ownBlock] at h1; omega
          · have e : (w4.alloc (.cells #[.int .i64 y] 3)).heap.size = w4.heap.size + 1 := by simp
            omega
        have eqH : some H ≠ (Value.slice (some ⟨q, 0, none⟩) (W.length + 1) cap).ownBlock := by
          intro e; simp [Value.ownBlock] at e; exact hqH e.symm
        have eqG : some G ≠ (Value.slice (some ⟨q, 0, none⟩) (W.length + 1) cap).ownBlock := by
          intro e
          have := own_base HO4.out q rfl
          simp [Value.ownBlock] at e; omega
        have HH8 : w8.heap[H]? = some (.cells #[.int .i64 ((f + 1 : Nat) : Int)] 3 (0, 0)) := (hgrow.block H (by simp; omega) eqH).trans ((Below.heap_alloc _ _ _ (by omega)).trans HH4.out)
        have eH8 : w8.cell? ⟨H, 0, none⟩ = some (.int .i64 ((f + 1 : Nat) : Int)) := cell_of_one HH8
        have HZ8 := Lib.hid ((HZ4.out.alloc (.cells #[.int .i64 y] 3)).grown hgrow eqG)
        have HB8 := Lib.hid ((HB4.out.alloc HB4.out.size (.cells #[.int .i64 y] 3)).grown hgrow (by have := HB4.out.size; simp; omega) (fun k hk => by
          have h2 := own_base HO4.out q rfl
          simp [Value.ownBlock] at hk; omega))
        have HO8 := Lib.hid hown
        have hs8 := hgrow.size
        clear hown hgrow hat HH8 HO4 HOa HZ4 HB4 HH4 e2r hlen eqH eqG
        go_wp2
        go_roundw
        case rel => exact ⟨f, y, q8, cap8, w8.heap.size, W ++ [(x : Int)], by rw [HLen.out], rfl, by omega, by have := HB8.out.size; have e : (w4.alloc (.cells #[.int .i64 y] 3)).heap.size = w4.heap.size + 1 := by simp
                                                                                                               omega, n1, by simp; omega, Lib.hid (by have := HMy.out; omega), HW2, Lib.hid (by have h8 := HO8.out.alloc (.cells #[.int .i64 (f : Int)] 3); rw [← HLen.out]; simpa using h8), Lib.hid (heap_alloc_new _ _), Lib.hid (HZ8.out.alloc _), Lib.hid (HB8.out.alloc HB8.out.size _)⟩
        case measure => simp [lnOf]; omega
end Go.Proofs.Ytfgpenekmokdiaa
namespace Go.Proofs.Ytfgpenekmokdiaa
open Go Go.RowKit Fl

/-- What the code keeps in 'last', when the first j elements are through. -/
def LastAt (r : List Int) (j : Nat) (L : Int) : Prop := (prevOf r j = none ∧ L = -1) ∨ (prevOf r j = some L ∧ 0 ≤ L)
theorem LastAt.start (r : List Int) : LastAt r 0 (-1) := .inl ⟨rfl, rfl⟩
theorem LastAt.next {r : List Int} {j : Nat} (hj : j < r.length) (h0 : 0 ≤ r[j]) : LastAt r (j + 1) r[j] := .inr ⟨by simp [prevOf, hj], h0⟩
theorem LastAt.test {r : List Int} {j : Nat} {L x n v : Int} (h : LastAt r j L) : (decide (0 ≤ x ∧ x < n ∧ x ≠ v) && overP (prevOf r j) x) = decide (L < x ∧ x < n ∧ x ≠ v) := by
  rcases h with ⟨h, rfl⟩ | ⟨h, h0⟩
  · rw [h]
    simp only [overP, Bool.and_true]
    exact decide_eq_decide.2 ⟨fun h => ⟨by omega, h.2⟩, fun h => ⟨by omega, h.2⟩⟩
  · rw [h]
    simp only [overP, ← Bool.decide_and]
    exact decide_eq_decide.2 ⟨fun h => ⟨h.2, h.1.2⟩, fun h => ⟨⟨by omega, h.2⟩, h.1⟩⟩
set_option maxRecDepth 100000 in
set_option maxHeartbeats 2000000 in
theorem devEdges_c (A : Option Addr) (c n k : Nat) (r : List Int) (w : World) (hh : Holds w A (r.map Iv)) (hl : r.length ≤ 1000000000000000000) :
    Calls Try.prog 65 #[.slice A r.length c, .int .i64 k, .int .i64 n] w fun e w' => e = .returned (.bool (rowOk n k none r)) ∧ w = w' := by
  have HH := Lib.hid hh
  clear hh
  go_enter Try.func65, Try.ntmps65
  go_wp2
  go_loop [7, 12] (fun l i => ∃ (j : Nat) (L : Int), j ≤ r.length ∧ l = .int .i64 L ∧ i = .int .i64 j ∧ Hid (LastAt r j L) ∧ Hid (rowOk n k none r = rowOk n k (prevOf r j) (r.drop j))) (fun _ i => r.length - (intOf i).toNat)
  case atStart => exact ⟨0, -1, Nat.zero_le _, rfl, rfl, Lib.hid (.start r), Lib.hid rfl⟩
  case round =>
    obtain ⟨j, L, hj, rfl, rfl, HL, HV⟩ := hrel
    by_cases hjt : j < r.length
    · obtain ⟨b, o, rfl, e1⟩ := HH.out.iv hjt
      have HS : Hid (rowOk n k none r = (decide (L < r[j] ∧ r[j] < n ∧ r[j] ≠ k) && rowOk n k (prevOf r (j + 1)) (r.drop (j + 1)))) := Lib.hid (by rw [HV.out, rowOk_step hjt, HL.out.test])
      have HN := Lib.hid (fun h => LastAt.next hjt h)
      have HLow : -1 ≤ L := by rcases HL.out with ⟨_, h⟩ | ⟨_, h⟩ <;> omega
      clear HL HV
      by_cases hin : L < r[j] ∧ r[j] < n ∧ r[j] ≠ k
      · have HV2 : Hid (rowOk n k none r = rowOk n k (prevOf r (j + 1)) (r.drop (j + 1))) := Lib.hid (by rw [HS.out, decide_eq_true hin, Bool.true_and])
        obtain ⟨h0, h1, h2⟩ := hin
        have HN2 := Lib.hid (HN.out (by omega))
        have hd1 : decide (r[j] ≤ L) = false := by simp; omega
        have hd2 : decide ((n : Int) ≤ r[j]) = false := by simp; omega
        have hd3 : (r[j] == (k : Int)) = false := by simpa using h2
        clear HS HN h0 h1 h2 HLow
        generalize r[j] = x at *
        go_wp2
        go_round
        case rel => exact ⟨j + 1, x, by omega, rfl, by go_num, HN2, HV2⟩
        case measure => simp [intOf]; omega
      · have HV2 : Hid (rowOk n k none r = false) := Lib.hid (by rw [HS.out, decide_eq_false hin, Bool.false_and])
        have hor : decide (r[j] ≤ L) = true ∨ decide (r[j] ≤ L) = false ∧ decide ((n : Int) ≤ r[j]) = true ∨ decide (r[j] ≤ L) = false ∧ decide ((n : Int) ≤ r[j]) = false ∧ (r[j] == (k : Int)) = true := by
          simp only [decide_eq_true_eq, decide_eq_false_iff_not, beq_iff_eq]
          omega
        clear HS HN hin HLow
        generalize r[j] = x at *
        rcases hor with hd1 | ⟨hd1, hd2⟩ | ⟨hd1, hd2, hd3⟩
        all_goals
          go_wp2
          go_ret
          exact ⟨gr_bool HV2.out.symm, rfl⟩
    · have HV2 : Hid (rowOk n k none r = true) := Lib.hid (by rw [HV.out, rowOk_end (by omega)])
      clear HV HL
      go_wp2
      go_ret
      exact ⟨gr_bool HV2.out.symm, rfl⟩
set_option maxRecDepth 100000 in
set_option maxHeartbeats 2000000 in
theorem devValid_c (A : Option Addr) (c : Nat) (g : GraphD) (w : World) (hh : RowsAt w A g) (hl : g.length ≤ 1000000000000000000) (hr : ∀ r ∈ g, r.length ≤ 1000000000000000000) :
    Calls Try.prog 47 #[.slice A g.length c] w fun e w' => e = .returned (.bool (validG g)) ∧ w = w' := by
  have HH := Lib.hid hh
  have HR := Lib.hid hr
  clear hh hr
  by_cases h24 : 24 < g.length
  · have HD : Hid (validG g = false) := Lib.hid (by unfold validG; rw [decide_eq_false (by omega)]; rfl)
    have hd : decide ((24 : Int) < (g.length : Int)) = true := by simp; omega
    go_enter Try.func47, Try.ntmps47
    go_wp2
    go_ret
    exact ⟨gr_bool HD.out.symm, rfl⟩
  · go_enter Try.func47, Try.ntmps47
    go_wp2
    go_loop [10] (fun v => ∃ k : Nat, k ≤ g.length ∧ v = .int .i64 k ∧ Hid (validG g = rowsOk g.length k (g.drop k))) (fun v => g.length - (intOf v).toNat)
    case atStart => exact ⟨0, Nat.zero_le _, rfl, Lib.hid (by unfold validG; rw [decide_eq_true (by omega), Bool.true_and]; rfl)⟩
    case round =>
      obtain ⟨k, hk, rfl, HV⟩ := hrel
      by_cases hlt : k < g.length
      · obtain ⟨b, o, A1, c1, rfl, e1, h1⟩ := HH.out.one hlt
        have HC := Lib.hid (devEdges_c A1 c1 g.length k g[k] w h1 (HR.out _ (List.getElem_mem hlt)))
        have HV1 : Hid (validG g = (rowOk g.length k none g[k] && rowsOk g.length ((k : Int) + 1) (g.drop (k + 1)))) := Lib.hid (by rw [HV.out, rowsOk_step hlt])
        clear HV h1
        rcases hro : rowOk g.length k none g[k] with _ | _
        · have HV2 : Hid (validG g = false) := Lib.hid (by rw [HV1.out, hro, Bool.false_and])
          rw [hro] at HC
          clear HV1 hro
          generalize g[k] = r at *
          go_wp2_with fail
          refine HC.out.mono ?_
          rintro e w1 ⟨rfl, rfl⟩
          go_wp2
          go_ret
          exact ⟨gr_bool HV2.out.symm, rfl⟩
        · have HV2 : Hid (validG g = rowsOk g.length ((k : Int) + 1) (g.drop (k + 1))) := Lib.hid (by rw [HV1.out, hro, Bool.true_and])
          rw [hro] at HC
          clear HV1 hro
          generalize g[k] = r at *
          go_wp2_with fail
          refine HC.out.mono ?_
          rintro e w1 ⟨rfl, rfl⟩
          go_wp2
          go_round
          case rel => exact ⟨k + 1, by omega, by go_num, Lib.hid (by rw [HV2.out]; rfl)⟩
          case measure => simp [intOf]; omega
      · have HV2 : Hid (validG g = true) := Lib.hid (by rw [HV.out, rowsOk_end (by omega)])
        clear HV
        go_wp2
        go_ret
        exact ⟨gr_bool HV2.out.symm, rfl⟩
theorem devCheck_c (A B : Option Addr) (c d m : Nat) (g : GraphD) (w : World) (hh : RowsAt w A g) (hl : g.length ≤ 1000000000000000000) (hr : ∀ r ∈ g, r.length ≤ 1000000000000000000) :
    Calls Try.prog 56 #[.slice A g.length c, .slice B m d] w fun e w' => e = .returned (.int .i64 (chkG g m)) ∧ w = w' := by
  have C := Lib.hid (devValid_c A c g w hh hl hr)
  clear hh hr
  rcases hv : validG g with _ | _
  · have HD : Hid (chkG g m = 20) := Lib.hid (by unfold chkG; rw [hv]; rfl)
    rw [hv] at C
    clear hv
    go_enter Try.func56, Try.ntmps56
    go_wp2_with fail
    refine C.out.mono ?_
    rintro e w1 ⟨rfl, rfl⟩
    go_wp2
    go_ret
    exact ⟨gr_int HD.out.symm, rfl⟩
  · rw [hv] at C
    by_cases hm : m = g.length
    · have HD : Hid (chkG g m = 0) := Lib.hid (by unfold chkG; rw [hv, hm]; simp)
      subst hm
      clear hv
      have hne : ((g.length : Int) != (g.length : Int)) = false := by simp
      go_enter Try.func56, Try.ntmps56
      go_wp2_with fail
      refine C.out.mono ?_
      rintro e w1 ⟨rfl, rfl⟩
      go_wp2
      go_ret
      exact ⟨gr_int HD.out.symm, rfl⟩
    · have HD : Hid (chkG g m = 19) := Lib.hid (by unfold chkG; rw [hv]; simp [hm])
      clear hv
      have hne : ((m : Int) != (g.length : Int)) = true := by rw [bne_iff_ne]; omega
      go_enter Try.func56, Try.ntmps56
      go_wp2_with fail
      refine C.out.mono ?_
      rintro e w1 ⟨rfl, rfl⟩
      go_wp2
      go_ret
      exact ⟨gr_int HD.out.symm, rfl⟩
end Go.Proofs.Ytfgpenekmokdiaa
