/- Joined texts. -/
import Derived.Test.YtfgpenekmokdiaaMzAK
import Derived.Test.YtfgpenekmokdiaaMzAD
import Derived.Test.YtfgpenekmokdiaaMzAH
namespace Go.Proofs.Ytfgpenekmokdiaa
open Go Go.RowKit Fl

set_option maxRecDepth 100000 in
set_option maxHeartbeats 4000000 in
/-- The test of IndexFunc. -/
theorem near_c (G H : Nat) (M : List Int) (f : Int) (z : Nat) (w : World) (hz : ArrD w G 57 (padZ M)) (hH : w.heap[H]? = some (.cells #[.int .i64 f] 3 (0, 0))) (hl : z < M.length) (h24 : M.length ≤ 24) :
    Calls Try.prog 74 #[.int .i64 z, .pointer (some ⟨G, 0, none⟩), .pointer (some ⟨H, 0, none⟩)] w fun e w' => e = .returned (.bool (decide (atZ M z = f))) ∧ w' = w.drew := by
  obtain ⟨e1, _⟩ := hz.cell (padZ_at hl)
  have e2 : w.cell? ⟨H, 0, none⟩ = some (.int .i64 f) := cell_of_one hH
  have hz24 : z < 24 := by omega
  clear hz hH
  generalize atZ M z = s at *
  go_enter Try.func74, Try.ntmps74
  go_wp2
  go_region
  all_goals (try go_wp2)
  all_goals go_ret
  all_goals exact ⟨gr_bool (by rw [Bool.eq_iff_iff]; simp), rfl⟩
set_option maxRecDepth 100000 in
set_option maxHeartbeats 4000000 in
theorem idx_c (A : Option Addr) (c G H : Nat) (r M : List Int) (f : Int) (j : Nat) (w : World) (hr : Holds w A (r.map Iv)) (hz : ArrD w G 57 (padZ M)) (hH : w.heap[H]? = some (.cells #[.int .i64 f] 3 (0, 0))) (h24 : M.length ≤ 24) (hr24 : r.length ≤ 24) (hx : ∀ x ∈ r, 0 ≤ x ∧ x < M.length) (hj : j < r.length) (hjf : atZ M r[j].toNat = f) (hbef : ∀ i (h : i < r.length), i < j → atZ M r[i].toNat ≠ f) :
    Calls Try.prog 62 #[.slice A r.length c, .func (.func 74) #[] #[.pointer (some ⟨G, 0, none⟩), .pointer (some ⟨H, 0, none⟩)]] w fun e w' => e = .returned (.int .i64 j) ∧ Below w.heap.size w w' := by
  have HR := Lib.hid hr
  have HX := Lib.hid hx
  have HJ := Lib.hid hjf
  have HBf := Lib.hid hbef
  have HC := Lib.hid (fun (wr : World) (hb : Below w.heap.size w wr) (z : Nat) (hl : z < M.length) => near_c G H M f z wr (hz.keep hb hz.lt) ((hb.block H (block_lt hH)).trans hH) hl h24)
  clear hr hx hjf hbef hz hH
  go_enter Try.func62, Try.ntmps62
  go_wp2
  go_loopw [8] (fun iv wr => ∃ (i : Nat), iv = .int .i64 i ∧ i ≤ j ∧ Hid (Below w.heap.size w wr)) (fun iv _ => r.length - (intOf iv).toNat)
  case atStart => exact ⟨0, rfl, Nat.zero_le _, Lib.hid (Below.refl _ _)⟩
  case round =>
    obtain ⟨i, rfl, hij, HB⟩ := hrel
    have hir : i < r.length := by omega
    obtain ⟨b, o, rfl, e1⟩ := (HR.out.keep HB.out).iv hir
    obtain ⟨x0, x1⟩ := HX.out r[i] (List.getElem_mem hir)
    obtain ⟨x, hx⟩ := Int.eq_ofNat_of_zero_le x0
    rw [hx] at e1 x1
    have hxl : x < M.length := by omega
    have CN := Lib.hid (HC.out wr HB.out x hxl)
    have HB2 := Lib.hid (HB.out.drew)
    rcases Nat.lt_or_ge i j with h1 | h1
    · have hd : decide (atZ M x = f) = false := by
        refine decide_eq_false ?_
        have := HBf.out i hir h1
        rwa [hx, Int.toNat_natCast] at this
      rw [hd] at CN
      clear hd hx x0 x1 HB
      go_wp2_with (go_at_call 74; refine CN.out.mono ?_; rintro e w2 ⟨rfl, rfl⟩)
      go_roundw
      case rel => exact ⟨i + 1, by go_num, by omega, HB2⟩
      case measure => simp [intOf]; omega
    · obtain rfl : i = j := by omega
      have hd : decide (atZ M x = f) = true := by
        refine decide_eq_true ?_
        have := HJ.out
        rwa [hx, Int.toNat_natCast] at this
      rw [hd] at CN
      clear hd hx x0 x1 HB
      go_wp2_with (go_at_call 74; refine CN.out.mono ?_; rintro e w2 ⟨rfl, rfl⟩)
      go_ret
      exact ⟨rfl, HB2.out⟩
/-- How long a slice is. -/
def lnOf : Value → Nat
  | .slice _ n _ => n
  | _ => 0
theorem zeros24 : (List.replicate 24 (Value.int .i64 0)).length = 24 := by simp
/-- The first place in a row. -/
theorem first_at {r M : List Int} {f : Int} {y : Nat} (h : r.find? (fun y => decide (atZ M y.toNat = f)) = some (y : Int)) : ∃ (j : Nat) (hj : j < r.length), r[j] = (y : Int) ∧ atZ M r[j].toNat = f ∧ ∀ i (h : i < r.length), i < j → atZ M r[i].toNat ≠ f := by
  obtain ⟨h1, j, hj, h2, h3⟩ := List.find?_eq_some_iff_getElem.1 h
  refine ⟨j, hj, h2, by rw [h2]; simpa using h1, fun i hi hij => ?_⟩
  have := h3 i hij
  simpa using this
theorem wk_step {h : GraphD} {M W T : List Int} {f x : Nat} (e : W ++ wkF h M (f + 1) x = T) : (W ++ [(x : Int)]) ++ wkF h M f (nxF h M x (f + 1)) = T := by
  rw [← e, List.append_assoc]; rfl
theorem own_keep {w w' : World} {base n : Nat} {e : TypeId} {v : Value} {xs : List Value} (h : w.ownsRow base e 1 v n xs) (hb : Below w.heap.size w w') : w'.ownsRow base e 1 v n xs := by
  obtain ⟨h1, h2⟩ := h
  refine ⟨h1, ?_⟩
  rcases h2 with h2 | ⟨g, cap, cur, hv, hg, hh, hr⟩
  · exact .inl h2
  · exact .inr ⟨g, cap, cur, hv, hg, (hb.block g (block_lt hh)).trans hh, hr⟩
theorem gd_low {w : World} {base base' n : Nat} {e : TypeId} {v : Value} {xs : List Value} (h : w.ownsRow base e 1 v n xs) (hb : base' ≤ base) : w.ownsRow base' e 1 v n xs := by
  obtain ⟨h1, h2⟩ := h
  refine ⟨h1, ?_⟩
  rcases h2 with h2 | ⟨g, cap, cur, hv, hg, hr⟩
  · exact .inl h2
  · exact .inr ⟨g, cap, cur, hv, by omega, hr⟩
/-- The two cells of the loop at its start. -/
theorem two_start (W : World) (v F : Int) : ((W.alloc (.cells #[.int .i64 v] 3)).alloc (.cells #[.int .i64 F] 3)).heap[W.heap.size]? = some (.cells #[.int .i64 v] 3 (0, 0)) ∧
    ((W.alloc (.cells #[.int .i64 v] 3)).alloc (.cells #[.int .i64 F] 3)).heap[W.heap.size + 1]? = some (.cells #[.int .i64 F] 3 (0, 0)) ∧
    W.heap.size + 2 ≤ ((W.alloc (.cells #[.int .i64 v] 3)).alloc (.cells #[.int .i64 F] 3)).heap.size ∧
    Below W.heap.size W ((W.alloc (.cells #[.int .i64 v] 3)).alloc (.cells #[.int .i64 F] 3)) := by
  have s1 : (W.alloc (.cells #[.int .i64 v] 3)).heap.size = W.heap.size + 1 := by simp
  refine ⟨?_, ?_, by simp, ?_⟩
  · rw [Below.heap_alloc _ _ _ (by rw [s1]; omega)]
    exact heap_alloc_new W _
  · rw [← s1]
    exact heap_alloc_new _ _
  · exact ((Below.refl W.heap.size W).alloc (Nat.le_refl _) _).alloc (by rw [s1]; omega) _
set_option maxRecDepth 100000 in
set_option maxHeartbeats 8000000 in
theorem walk_c (A B : Option Addr) (c d : Nat) (h : GraphD) (T : List Int) (v : Nat) (w : World) (ha : RowsAt w A h) (hb : RowsAt w B (revG h)) (hg : validG h = true) (hv : v < h.length) (hT : T.length ≤ 25) (hT0 : ∀ M, StF h v M → atZ M v = 0 → T = []) (hT1 : ∀ M (F : Nat), StF h v M → atZ M v = (F : Int) + 1 → T = wkF h M F v) :
    Calls Try.prog 55 #[.slice A h.length c, .slice B h.length d, .int .i64 v] w fun e w' => ∃ u, e = .returned u ∧ w'.ownsRow w.heap.size 3 1 u T.length (T.map Iv) ∧ Below w.heap.size w w' := by
  have CS := Lib.hid (steps_c B d h v w hb hg hv)
  have HA := Lib.hid ha
  have HG := Lib.hid hg
  have hl24 := validG_len hg
  have HR24 := Lib.hid (validG_short hg)
  have HT0 := Lib.hid hT0
  have HT1 := Lib.hid hT1
  clear ha hb hg hT0 hT1
  have hmf : ∀ (fn : Fn) (first cap : Array Value) (w : World), (Instr.makeFunc fn first cap).run Try.prog w = .ok (.func fn first cap) w := fun _ _ _ _ => rfl
  go_enter Try.func55, Try.ntmps55
  go_wp2_with fail
  refine CS.out.mono ?_
  rintro e w1 ⟨M, hst, rfl, hb1⟩
  have HST := Lib.hid hst
  have hMl : M.length = h.length := hst.len
  have HB1 := Lib.hid hb1
  have h24 : (padZ M).length = 24 := padZ_length (by omega)
  have hz24 := zeros24
  have HN := Lib.hid (zeros_new w1)
  have HN2 := Lib.hid (HN.out.row (l' := padZ M))
  have HB2 := Lib.hid (below_rowZ (hb1.alloc hb1.size (.cells #[.int .i64 0, .int .i64 0, .int .i64 0, .int .i64 0, .int .i64 0, .int .i64 0, .int .i64 0, .int .i64 0, .int .i64 0, .int .i64 0, .int .i64 0, .int .i64 0, .int .i64 0, .int .i64 0, .int .i64 0, .int .i64 0, .int .i64 0, .int .i64 0, .int .i64 0, .int .i64 0, .int .i64 0, .int .i64 0, .int .i64 0, .int .i64 0] 57)) hb1.size (padZ M).toArray)
  have hGw : w.heap.size ≤ w1.heap.size := hb1.size
  have hW2s : ((w1.alloc (.cells #[.int .i64 0, .int .i64 0, .int .i64 0, .int .i64 0, .int .i64 0, .int .i64 0, .int .i64 0, .int .i64 0, .int .i64 0, .int .i64 0, .int .i64 0, .int .i64 0, .int .i64 0, .int .i64 0, .int .i64 0, .int .i64 0, .int .i64 0, .int .i64 0, .int .i64 0, .int .i64 0, .int .i64 0, .int .i64 0, .int .i64 0, .int .i64 0] 57)).setRow w1.heap.size (padZ M).toArray).heap.size = w1.heap.size + 1 := by simp [World.setRow]
  clear hst hb1 CS
  have hv24 : v < 24 := by omega
  obtain ⟨e1, _⟩ := HN2.out.cell (padZ_at (M := M) (k := v) (by omega))
  rcases Classical.em (atZ M v = 0) with h0 | h0
  · have HE := Lib.hid (HT0.out M HST.out h0)
    rw [h0] at e1
    go_wp2_with (refine wpList_store_row rfl _ _ _ rfl w1.heap.size _ rfl rfl _ _ HN.out (sizeZl h24) (by rw [List.size_toArray, List.size_toArray, h24, hz24]) (padZ_one _) ?_)
    go_ret
    exact ⟨_, rfl, by rw [HE.out]; exact World.ownsRow_nil _ _ _ _, HB2.out⟩
  · obtain ⟨F1, hF, hF1, hWn⟩ := HST.out.sound v hv h0
    obtain ⟨F, rfl⟩ : ∃ F, F1 = F + 1 := ⟨F1 - 1, by omega⟩
    have hFe : atZ M v = (F : Int) + 1 := by rw [hF]; omega
    have HE := Lib.hid (HT1.out M F HST.out hFe)
    have hF24 : F ≤ 24 := by
      have := congrArg List.length HE.out
      rw [wkF_length] at this
      omega
    rw [hFe] at e1
    have hne : ((F : Int) + 1 == 0) = false := by rw [beq_eq_false_iff_ne]; omega
    have hTS := two_start ((w1.alloc (.cells #[.int .i64 0, .int .i64 0, .int .i64 0, .int .i64 0, .int .i64 0, .int .i64 0, .int .i64 0, .int .i64 0, .int .i64 0, .int .i64 0, .int .i64 0, .int .i64 0, .int .i64 0, .int .i64 0, .int .i64 0, .int .i64 0, .int .i64 0, .int .i64 0, .int .i64 0, .int .i64 0, .int .i64 0, .int .i64 0, .int .i64 0, .int .i64 0] 57)).setRow w1.heap.size (padZ M).toArray) v F
    rw [hW2s] at hTS
    obtain ⟨k1, k2, k3, k4⟩ := hTS
    have K1 := Lib.hid k1
    have K2 := Lib.hid k2
    have KZ := Lib.hid (HN2.out.keep k4 (Nat.lt_succ_self _))
    have KB := Lib.hid (HB2.out.trans (k4.mono (by omega)))
    clear k1 k2 k4 HN2 HB2 hF h0 hWn
    go_wp2_with (refine wpList_store_row rfl _ _ _ rfl w1.heap.size _ rfl rfl _ _ HN.out (sizeZl h24) (by rw [List.size_toArray, List.size_toArray, h24, hz24]) (padZ_one _) ?_)
    clear hW2s HN
    generalize (((w1.alloc (.cells #[.int .i64 0, .int .i64 0, .int .i64 0, .int .i64 0, .int .i64 0, .int .i64 0, .int .i64 0, .int .i64 0, .int .i64 0, .int .i64 0, .int .i64 0, .int .i64 0, .int .i64 0, .int .i64 0, .int .i64 0, .int .i64 0, .int .i64 0, .int .i64 0, .int .i64 0, .int .i64 0, .int .i64 0, .int .i64 0, .int .i64 0, .int .i64 0] 57)).setRow w1.heap.size (padZ M).toArray).alloc (.cells #[.int .i64 v] 3)).alloc (.cells #[.int .i64 F] 3) = w3 at *
    generalize w1.heap.size = G at *
    have HO : Hid (w3.ownsRow (G + 1) 3 1 (.slice (some ⟨G + 1, 0, none⟩) 1 1) 1 (([] ++ [(v : Int)]).map Iv)) := Lib.hid ⟨rfl, .inr ⟨G + 1, 1, #[Iv v], rfl, Nat.le_refl _, K1.out, by omega, by unfold maxLen; omega, rfl, rfl⟩⟩
    have HW : Hid ([] ++ wkF h M F v = T) := Lib.hid HE.out.symm
    have hGs : G + 1 + 1 < w3.heap.size := lt_of_block K2.out
    clear K1 HE hF1 hne e1 HT0 HT1 HB1 hz24 h24 hv24
    go_loopw [8, 9] (fun lv pv wr => ∃ (f x q cap H : Nat) (W : List Int), lv = .slice (some ⟨q, 0, none⟩) (W.length + 1) cap ∧ pv = .pointer (some ⟨H, 0, none⟩) ∧ q ≠ H ∧ G + 1 ≤ H ∧ x < h.length ∧ W.length + f = F ∧ Hid (atZ M x = (f : Int) + 1) ∧ Hid (W ++ wkF h M f x = T) ∧
      Hid (wr.ownsRow (G + 1) 3 1 (.slice (some ⟨q, 0, none⟩) (W.length + 1) cap) (W.length + 1) ((W ++ [(x : Int)]).map Iv)) ∧ Hid (wr.heap[H]? = some (.cells #[.int .i64 f] 3 (0, 0))) ∧ Hid (ArrD wr G 57 (padZ M)) ∧ Hid (Below w.heap.size w wr)) (fun lv _ _ => F + 2 - lnOf lv)
    case atStart => exact ⟨F, v, G + 1, 1, G + 1 + 1, [], rfl, rfl, by omega, by omega, hv, by simp, Lib.hid hFe, HW, HO, K2, KZ, KB⟩
    case round =>
      clear HO K2 KZ KB HW hFe k3 hGs
      obtain ⟨f, x, q, cap, H, W, rfl, rfl, hqH, hGH, hx, hWf, HMx, HW, HO, HH, HZ, HB⟩ := hrel
      have eH : wr.cell? ⟨H, 0, none⟩ = some (.int .i64 f) := cell_of_one HH.out
      rcases f with _ | f
      · have HE : Hid (W ++ [(x : Int)] = T) := HW
        have hTl : W.length + 1 = T.length := by rw [← HE.out]; simp
        clear HW HMx
        go_wp2
        go_ret
        exact ⟨_, rfl, by rw [← hTl, ← HE.out]; exact gd_low HO.out (by omega), HB.out⟩
      · have ex : wr.cell? ⟨q, W.length, none⟩ = some (.int .i64 x) := (own_get HO.out (i := W.length) (u := Iv x) (by simp)).1
        obtain ⟨n1, n2, n3⟩ := HST.out.nxF HG.out hx (f := f) HMx.out
        have HW2 : Hid ((W ++ [(x : Int)]) ++ wkF h M f (nxF h M x (f + 1)) = T) := Lib.hid (wk_step HW.out)
        rw [rowG_at hx] at n3
        have HX := Lib.hid (rowOk_row HG.out hx)
        rw [rowG_at hx] at HX
        obtain ⟨bg, og, A2, c2, rfl, e1, h1⟩ := HA.out.one hx
        have hbg : bg < w.heap.size := World.block_lt_of_cell? _ _ e1
        have e1r : wr.cell? ⟨bg, og + x, none⟩ = some (.slice A2 h[x].length c2) := (HB.out.cell (p := ⟨bg, og + x, none⟩) hbg).trans e1
        have hr24 := HR24.out _ (List.getElem_mem hx)
        generalize h[x] = r at *
        generalize nxF h M x (f + 1) = y at *
        obtain ⟨j, hj, hjy, hjf, hbef⟩ := first_at n3
        obtain ⟨br, or_, rfl, e2⟩ := h1.iv hj
        have hbr : br < w.heap.size := World.block_lt_of_cell? _ _ e2
        rw [hjy] at e2
        have CI := Lib.hid (idx_c _ c2 G H r M ((f + 1 : Nat) : Int) j wr (h1.keep HB.out) HZ.out HH.out (by omega) hr24 (fun z hz => by have := HX.out z hz; omega) hj hjf hbef)
        have HMy := Lib.hid n2
        clear n2 n3 HW HMx e1 h1 hjy hjf hbef HX
        have hq24 : W.length ≤ 24 := by omega
        go_wp2_with fail
        refine CI.out.mono ?_
        rintro e w4 ⟨rfl, hb4⟩
        have hHw : H < wr.heap.size := lt_of_block HH.out
        have hGw4 : G < wr.heap.size := HZ.out.lt
        have HB4 := Lib.hid (HB.out.trans (hb4.mono HB.out.size))
        have e2r : w4.cell? ⟨br, or_ + j, none⟩ = some (.int .i64 y) := (HB4.out.cell (p := ⟨br, or_ + j, none⟩) hbr).trans e2
        have HH4 : Hid (w4.heap[H]? = some (.cells #[.int .i64 ((f + 1 : Nat) : Int)] 3 (0, 0))) := Lib.hid ((hb4.block H hHw).trans HH.out)
        have HZ4 := Lib.hid (HZ.out.keep hb4 hGw4)
        have HO4 := Lib.hid (own_keep HO.out hb4)
        have hs4 : wr.heap.size ≤ w4.heap.size := hb4.size
        have HOa := Lib.hid (fun ob => HO4.out.alloc ob)
        obtain ⟨i0, hi0, hz0, hz1, hz2⟩ := info_parts Try.infoIntG
        clear CI hb4 HO HH HZ HB eH ex e1r e2
        go_wp2_with (at_builtin; (refine wpList_append_lies _ rfl _ _ 23 rfl (G + 1) 3 i0 (.int .i64 0) 1 8 Try.underlying23 hi0 hz0 hz1 hz2 rfl (by omega) (.slice (some ⟨q, 0, none⟩) (W.length + 1) cap) (W.length + 1) ((W ++ [(x : Int)]).map Iv) (by rfl) (HOa.out _) ⟨_, 0, none⟩ 1 1 [Iv y] (by rfl) (by rfl) (World.news_of_block (cs := #[Iv y]) (t := 3) (fr := (0, 0)) (heap_alloc_new _ _)) (by simp [Value.oneCell']) (by omega) (by unfold maxLen; omega) (by omega) (by simp; omega) _ rfl ?_))
        intro q8 cap8 w8 hown hgrow hat hlt8
        have hlen : W.length + 1 + 1 = (W ++ [(x : Int)]).length + 1 := by simp
        have HLen := Lib.hid hlen
        have hq8 : q8 ≠ H := by
          rcases hat with h1 | h1
          · simp [Value.ownBlock] at h1; omega
          · have e : (w4.alloc (.cells #[.int .i64 y] 3)).heap.size = w4.heap.size + 1 := by simp
            omega
        have eqH : some H ≠ (Value.slice (some ⟨q, 0, none⟩) (W.length + 1) cap).ownBlock := by
          intro e; simp [Value.ownBlock] at e; exact hqH e.symm
        have eqG : some G ≠ (Value.slice (some ⟨q, 0, none⟩) (W.length + 1) cap).ownBlock := by
          intro e
          have := own_base HO4.out q rfl
          simp [Value.ownBlock] at e; omega
        have HH8 : w8.heap[H]? = some (.cells #[.int .i64 ((f + 1 : Nat) : Int)] 3 (0, 0)) := (hgrow.block H (by simp; omega) eqH).trans ((Below.heap_alloc _ _ _ (by omega)).trans HH4.out)
        have eH8 : w8.cell? ⟨H, 0, none⟩ = some (.int .i64 ((f + 1 : Nat) : Int)) := cell_of_one HH8
        have HZ8 := Lib.hid ((HZ4.out.alloc (.cells #[.int .i64 y] 3)).grown hgrow eqG)
        have HB8 := Lib.hid ((HB4.out.alloc HB4.out.size (.cells #[.int .i64 y] 3)).grown hgrow (by have := HB4.out.size; simp; omega) (fun k hk => by
          have h2 := own_base HO4.out q rfl
          simp [Value.ownBlock] at hk; omega))
        have HO8 := Lib.hid hown
        have hs8 := hgrow.size
        clear hown hgrow hat HH8 HO4 HOa HZ4 HB4 HH4 e2r hlen eqH eqG
        go_wp2
        go_roundw
        case rel => exact ⟨f, y, q8, cap8, w8.heap.size, W ++ [(x : Int)], by rw [HLen.out], rfl, by omega, by have := HB8.out.size; have e : (w4.alloc (.cells #[.int .i64 y] 3)).heap.size = w4.heap.size + 1 := by simp
                                                                                                               omega, n1, by simp; omega, Lib.hid (by have := HMy.out; omega), HW2, Lib.hid (by have h8 := HO8.out.alloc (.cells #[.int .i64 (f : Int)] 3); rw [← HLen.out]; simpa using h8), Lib.hid (heap_alloc_new _ _), Lib.hid (HZ8.out.alloc _), Lib.hid (HB8.out.alloc HB8.out.size _)⟩
        case measure => simp [lnOf]; omega
end Go.Proofs.Ytfgpenekmokdiaa
namespace Go.Proofs.Ytfgpenekmokdiaa
open Go Go.RowKit Fl

set_option maxRecDepth 100000 in
set_option maxHeartbeats 8000000 in
theorem devReverse_c (A : Option Addr) (c : Nat) (g : GraphD) (w : World) (hh : RowsAt w A g) (hl : g.length ≤ 1000000000000000000) (hr : ∀ r ∈ g, r.length ≤ 1000000000000000000) :
    Calls Try.prog 72 #[.slice A g.length c] w (WoPost w (revL g) (revE g)) := by
  have CC := Lib.hid (devValid_c A c g w hh hl hr)
  rcases hv : validG g with _ | _
  · have HE : Hid (revL g = [] ∧ revE g = 20) := Lib.hid (by unfold revL revE; rw [hv]; exact ⟨rfl, rfl⟩)
    rw [hv] at CC
    clear hh hr hv
    go_enter Try.func72, Try.ntmps72
    go_wp2_with fail
    refine CC.out.mono ?_
    rintro e w1 ⟨rfl, rfl⟩
    go_wp2
    go_ret2
    exact ⟨_, by rw [HE.out.2]; rfl, by rw [HE.out.1]; exact rowsOwn_nil _ _, Below.refl _ _⟩
  · have HE : Hid (revL g = revG g ∧ revE g = 0) := Lib.hid (by unfold revL revE; rw [hv]; exact ⟨rfl, rfl⟩)
    rw [hv] at CC
    have hl24 := validG_len hv
    have HG := Lib.hid hv
    have HH := Lib.hid hh
    have HR24 := Lib.hid (validG_short hv)
    obtain ⟨i0, hi, hz0, hz1, hz2⟩ := info_parts Try.infoIntG
    clear hh hr hv
    go_enter Try.func72, Try.ntmps72
    go_wp2_with fail
    refine CC.out.mono ?_
    rintro e w1 ⟨rfl, rfl⟩
    go_wp2_with (refine make_any _ rfl _ _ 22 23 (.slice none 0 0) 24 Try.underlying22 Try.infoRowG rfl (by decide) rfl .i64 .i64 _ _ g.length rfl rfl rfl rfl (by omega) ?_)
    intro w2 own2 hb2
    have HO2 : Hid (RowsD w2 w.heap.size (.slice (some ⟨w.heap.size, 0, none⟩) g.length g.length) (rowsF g.length (revF g 0 0))) := Lib.hid (by rw [revF_start]; exact rowsD_new own2)
    obtain ⟨G, hG⟩ : ∃ G, G = w.heap.size := ⟨_, rfl⟩
    rw [← hG] at HO2 hb2 ⊢
    have HGG := Lib.hid hG
    clear own2 hG
    go_wp2
    go_loopw [17] (fun i wr => ∃ (v : Nat), i = .int .i64 v ∧ v ≤ g.length ∧ Hid (RowsD wr G (.slice (some ⟨G, 0, none⟩) g.length g.length) (rowsF g.length (revF g v 0))) ∧ Below G w wr) (fun i _ => g.length - (intOf i).toNat)
    case atStart => exact ⟨0, rfl, Nat.zero_le _, HO2, hb2⟩
    case round =>
      clear HO2 hb2
      obtain ⟨v, rfl, hvl, HO, hb⟩ := hrel
      by_cases hvt : v < g.length
      · obtain ⟨bg, og, A2, c2, rfl, e1, h1⟩ := HH.out.one hvt
        have hbg : bg < G := by have h : bg < w.heap.size := World.block_lt_of_cell? _ _ e1; have := HGG.out; omega
        have HE1 : Hid (∀ W, Below G w W → W.cell? ⟨bg, og + v, none⟩ = some (.slice A2 g[v].length c2)) := Lib.hid (fun W hW => (hW.cell (p := ⟨bg, og + v, none⟩) hbg).trans e1)
        have hr24 := HR24.out _ (List.getElem_mem hvt)
        have hrow := rowG_at hvt
        have HX := Lib.hid (rowOk_row HG.out hvt)
        rw [hrow] at HX
        have HRow := Lib.hid hrow
        have H1 := Lib.hid h1
        clear e1 h1 hrow
        have e1r := HE1.out wr hb
        generalize g[v] = r at *
        go_wp2
        go_loopw [24] (fun i wr => ∃ (m : Nat), i = .int .i64 m ∧ m ≤ r.length ∧ Hid (RowsD wr G (.slice (some ⟨G, 0, none⟩) g.length g.length) (rowsF g.length (revF g v m))) ∧ Below G w wr) (fun i _ => r.length - (intOf i).toNat)
        case atStart => exact ⟨0, rfl, Nat.zero_le _, HO, hb⟩
        case round =>
          clear HO hb
          obtain ⟨m, rfl, hm, HO, hb⟩ := hrel
          by_cases hmt : m < r.length
          · obtain ⟨br, or_, rfl, e2⟩ := H1.out.iv hmt
            have hbr : br < G := by have h : br < w.heap.size := World.block_lt_of_cell? _ _ e2; have := HGG.out; omega
            have HE2 : Hid (∀ W, Below G w W → W.cell? ⟨br, or_ + m, none⟩ = some (.int .i64 r[m])) := Lib.hid (fun W hW => (hW.cell (p := ⟨br, or_ + m, none⟩) hbr).trans e2)
            obtain ⟨y0, y1, y2⟩ := HX.out r[m] (List.getElem_mem hmt)
            obtain ⟨y, hy⟩ := Int.eq_ofNat_of_zero_le y0
            have hmr : m < (rowG g v).length := by rw [HRow.out]; exact hmt
            have hyr : (rowG g v)[m] = (y : Int) := by
              have h : (rowG g v)[m]? = some r[m] := by rw [HRow.out]; exact List.getElem?_eq_getElem hmt
              rw [List.getElem?_eq_getElem hmr] at h
              injection h with h
              rw [h]; exact hy
            rw [hy] at HE2 y1
            have hyn : y < g.length := by omega
            have HYr := Lib.hid hyr
            have e2r := HE2.out wr hb
            clear e2 y0 y1 y2 hy hyr
            have hvL : y < (rowsF g.length (revF g v m)).length := by rw [rowsF_length]; exact hyn
            have HPut := Lib.hid (revF_put HG.out hvt hmr HYr.out hvL)
            have hrl : (rowsF g.length (revF g v m))[y].length ≤ 24 := by rw [rowsF_at]; have := revF_short g v m y; omega
            obtain ⟨A5, c5, e5, f5, o5⟩ := HO.out.elem hvL
            have HFar := Lib.hid (fun (wn : World) (o : Obj) hg => HO.out.far (wn := wn) (o := o) hvL e5 hg)
            have HApp := Lib.hid (fun (wn : World) (gg c2 : Nat) (o : Obj) hg hat hown => HO.out.app (wn := wn) (gg := gg) (c2 := c2) (z := (v : Int)) (o := o) hvL e5 hg hat hown)
            rw [HPut.out] at HApp
            have HEl := Lib.hid (fun ob => (o5.alloc ob))
            clear HYr HPut o5 HO
            generalize (rowsF g.length (revF g v m))[y] = rv at *
            have hsz : G ≤ wr.heap.size := by have := hb.size; have := HGG.out; omega
            have HBase := Lib.hid (own_base (HEl.out (.cells #[] 0)))
            go_wp2_with (at_builtin; refine wpList_append_lies _ rfl _ _ 23 rfl G 3 i0 (.int .i64 0) 1 8 Try.underlying23 hi hz0 hz1 hz2 rfl (by omega) (.slice A5 rv.length c5) rv.length (rv.map Iv) (by rfl) (HEl.out _) ⟨_, 0, none⟩ 1 1 [Iv v] (by rfl) (by rfl) (World.news_of_block (cs := #[Iv v]) (t := 3) (fr := (0, 0)) (heap_alloc_new _ _)) (by simp [Value.oneCell']) (by omega) (by unfold maxLen; omega) (by omega) (by simp; omega) _ rfl ?_)
            intro gg cap wn1 hown1 hgrow hat hlt
            have HOW := Lib.hid (HApp.out _ _ _ _ hgrow (hat.imp id (fun h => by simpa using h)) hown1)
            have y1 := (HFar.out _ _ hgrow y).1
            have y2 := (HFar.out _ _ hgrow y).2
            have hbn : Below G w wn1 := ((hb.alloc hsz _).grown hgrow (by simp; omega) (fun k hk => HBase.out k hk))
            clear hown1 hgrow hat hlt
            go_wp2
            go_roundw
            case rel => exact ⟨m + 1, by go_num, by omega, HOW, below_put hbn (Nat.le_refl _)⟩
            case measure => simp [intOf]; omega
          · have HO2 : Hid (RowsD wr G (.slice (some ⟨G, 0, none⟩) g.length g.length) (rowsF g.length (revF g (v + 1) 0))) := Lib.hid (by rw [← revF_next (m := m) (by rw [HRow.out]; omega)]; exact HO.out)
            go_wp2
            go_roundw
            case rel => exact ⟨v + 1, by go_num, by omega, HO2, hb⟩
            case measure => simp [intOf]; omega
      · obtain rfl : v = g.length := by omega
        have HO2 : Hid (RowsD wr G (.slice (some ⟨G, 0, none⟩) g.length g.length) (revG g)) := Lib.hid (by rw [← revF_end]; exact HO.out)
        go_wp2
        go_ret2
        exact ⟨_, by rw [HE.out.2]; rfl, by rw [HE.out.1, ← HGG.out]; exact HO2.out.rows, by rw [← HGG.out]; exact hb⟩
end Go.Proofs.Ytfgpenekmokdiaa
namespace Go.Proofs.Ytfgpenekmokdiaa
open Go Go.RowKit Fl

set_option maxRecDepth 100000 in
set_option maxHeartbeats 8000000 in
theorem devWithout_c (A B : Option Addr) (c d : Nat) (g : GraphD) (s : List Bool) (w : World) (hh : RowsAt w A g) (hs : Holds w B (s.map Bo)) (hl : g.length ≤ 1000000000000000000) (hr : ∀ r ∈ g, r.length ≤ 1000000000000000000) :
    Calls Try.prog 71 #[.slice A g.length c, .slice B s.length d] w (WoPost w (woL g s) (chkG g s.length)) := by
  have CC := Lib.hid (devCheck_c A B c d s.length g w hh hl hr)
  by_cases h0 : chkG g s.length = 0
  · have hv : validG g = true ∧ s.length = g.length := by
      rcases chkG_cases g s.length with h | h | h
      · exact h.2
      · omega
      · omega
    have HE : Hid (woL g s = woG g s) := Lib.hid (by unfold woL; rw [if_pos h0])
    rw [h0] at CC ⊢
    have hl24 := validG_len hv.1
    have HSL := Lib.hid hv.2
    have HG := Lib.hid hv.1
    have HS := Lib.hid hs
    have HH := Lib.hid hh
    have HR24 := Lib.hid (validG_short hv.1)
    have HW24 := Lib.hid (woF_short (s := s) hv.1)
    obtain ⟨i0, hi, hz0, hz1, hz2⟩ := info_parts Try.infoIntG
    clear hh hs hr h0 hv
    go_enter Try.func71, Try.ntmps71
    go_wp2_with fail
    refine CC.out.mono ?_
    rintro e w1 ⟨rfl, rfl⟩
    go_wp2_with (refine make_any _ rfl _ _ 22 23 (.slice none 0 0) 24 Try.underlying22 Try.infoRowG rfl (by decide) rfl .i64 .i64 _ _ g.length rfl rfl rfl rfl (by omega) ?_)
    intro w2 own2 hb2
    have HO2 : Hid (RowsD w2 w.heap.size (.slice (some ⟨w.heap.size, 0, none⟩) g.length g.length) (rowsF g.length (woF g s 0 0))) := Lib.hid (by rw [woF_start]; exact rowsD_new own2)
    obtain ⟨G, hG⟩ : ∃ G, G = w.heap.size := ⟨_, rfl⟩
    rw [← hG] at HO2 hb2 ⊢
    have HGG := Lib.hid hG
    clear own2 hG
    go_wp2
    go_loopw [23] (fun i wr => ∃ (v : Nat), i = .int .i64 v ∧ v ≤ g.length ∧ Hid (RowsD wr G (.slice (some ⟨G, 0, none⟩) g.length g.length) (rowsF g.length (woF g s v 0))) ∧ Below G w wr) (fun i _ => g.length - (intOf i).toNat)
    case atStart => exact ⟨0, rfl, Nat.zero_le _, HO2, hb2⟩
    case round =>
      clear HO2 hb2
      obtain ⟨v, rfl, hvl, HO, hb⟩ := hrel
      by_cases hvt : v < g.length
      · obtain ⟨bg, og, A2, c2, rfl, e1, h1⟩ := HH.out.one hvt
        have hbg : bg < G := by have h : bg < w.heap.size := World.block_lt_of_cell? _ _ e1; have := HGG.out; omega
        have HE1 : Hid (∀ W, Below G w W → W.cell? ⟨bg, og + v, none⟩ = some (.slice A2 g[v].length c2)) := Lib.hid (fun W hW => (hW.cell (p := ⟨bg, og + v, none⟩) hbg).trans e1)
        have hr24 := HR24.out _ (List.getElem_mem hvt)
        have hrow := rowG_at hvt
        have HX := Lib.hid (rowOk_row HG.out hvt)
        rw [hrow] at HX
        have HRow := Lib.hid hrow
        have H1 := Lib.hid h1
        have hvs : v < s.length := by have := HSL.out; omega
        obtain ⟨bs, os, rfl, hsc⟩ := HS.out.bo hvs
        have hbs : bs < G := by have h : bs < w.heap.size := World.block_lt_of_cell? _ _ hsc; have := HGG.out; omega
        have HSv : Hid (∀ W, Below G w W → W.cell? ⟨bs, os + v, none⟩ = some (.bool s[v])) := Lib.hid (fun W hW => (hW.cell (p := ⟨bs, os + v, none⟩) hbs).trans hsc)
        have HAv := Lib.hid (atB_at hvs)
        clear e1 h1 hrow hsc
        have e1r := HE1.out wr hb
        generalize g[v] = r at *
        generalize s[v] = sv at *
        go_wp2
        go_loopw [30] (fun i wr => ∃ (m : Nat), i = .int .i64 m ∧ m ≤ r.length ∧ Hid (RowsD wr G (.slice (some ⟨G, 0, none⟩) g.length g.length) (rowsF g.length (woF g s v m))) ∧ Below G w wr) (fun i _ => r.length - (intOf i).toNat)
        case atStart => exact ⟨0, rfl, Nat.zero_le _, HO, hb⟩
        case round =>
          clear HO hb
          obtain ⟨m, rfl, hm, HO, hb⟩ := hrel
          by_cases hmt : m < r.length
          · have ev := HSv.out wr hb
            obtain ⟨br, or_, rfl, e2⟩ := H1.out.iv hmt
            have hbr : br < G := by have h : br < w.heap.size := World.block_lt_of_cell? _ _ e2; have := HGG.out; omega
            have HE2 : Hid (∀ W, Below G w W → W.cell? ⟨br, or_ + m, none⟩ = some (.int .i64 r[m])) := Lib.hid (fun W hW => (hW.cell (p := ⟨br, or_ + m, none⟩) hbr).trans e2)
            obtain ⟨y0, y1, y2⟩ := HX.out r[m] (List.getElem_mem hmt)
            obtain ⟨y, hy⟩ := Int.eq_ofNat_of_zero_le y0
            have hmr : m < (rowG g v).length := by rw [HRow.out]; exact hmt
            have hyr : (rowG g v)[m] = (y : Int) := by
              have h : (rowG g v)[m]? = some r[m] := by rw [HRow.out]; exact List.getElem?_eq_getElem hmt
              rw [List.getElem?_eq_getElem hmr] at h
              injection h with h
              rw [h]; exact hy
            rw [hy] at HE2 y1
            have hyn : y < g.length := by omega
            have hys : y < s.length := by have := HSL.out; omega
            obtain ⟨bs2, os2, hBeq, es⟩ := HS.out.bo hys
            injection hBeq with hBeq
            injection hBeq with hB1 hB2
            subst hB1 hB2
            have esr : wr.cell? ⟨bs, os + y, none⟩ = some (.bool s[y]) := (hb.cell (p := ⟨bs, os + y, none⟩) hbs).trans es
            have HAy := Lib.hid (atB_at hys)
            have HYr := Lib.hid hyr
            have e2r := HE2.out wr hb
            clear e2 es y0 y1 y2 hy hyr
            generalize s[y] = sy at *
            have hcase : sv = true ∨ sv = false ∧ sy = true ∨ sv = false ∧ sy = false := by rcases sv with _ | _ <;> rcases sy with _ | _ <;> simp
            rcases hcase with rfl | ⟨rfl, rfl⟩ | ⟨rfl, rfl⟩
            · have HO2 : Hid (RowsD wr G (.slice (some ⟨G, 0, none⟩) g.length g.length) (rowsF g.length (woF g s v (m + 1)))) := Lib.hid (by rw [woF_skip (.inl HAv.out)]; exact HO.out)
              clear HYr HAy
              go_wp2
              go_roundw
              case rel => exact ⟨m + 1, by go_num, by omega, HO2, hb⟩
              case measure => simp [intOf]; omega
            · have HO2 : Hid (RowsD wr G (.slice (some ⟨G, 0, none⟩) g.length g.length) (rowsF g.length (woF g s v (m + 1)))) := Lib.hid (by rw [woF_skip (.inr fun _ => by rw [HYr.out, Int.toNat_natCast]; exact HAy.out)]; exact HO.out)
              clear HYr HAy
              go_wp2
              go_roundw
              case rel => exact ⟨m + 1, by go_num, by omega, HO2, hb⟩
              case measure => simp [intOf]; omega
            · have hvL : v < (rowsF g.length (woF g s v m)).length := by rw [rowsF_length]; exact hvt
              have HPut := Lib.hid (woF_put HAv.out hmr HYr.out (by rw [Int.toNat_natCast]; exact HAy.out) hvL)
              have hrl : (rowsF g.length (woF g s v m))[v].length ≤ 24 := by rw [rowsF_at]; exact HW24.out v m v
              obtain ⟨A5, c5, e5, f5, o5⟩ := HO.out.elem hvL
              have HFar := Lib.hid (fun (wn : World) (o : Obj) hg => HO.out.far (wn := wn) (o := o) hvL e5 hg)
              have HApp := Lib.hid (fun (wn : World) (gg c2 : Nat) (o : Obj) hg hat hown => HO.out.app (wn := wn) (gg := gg) (c2 := c2) (z := (y : Int)) (o := o) hvL e5 hg hat hown)
              rw [HPut.out] at HApp
              have HEl := Lib.hid (fun ob => (o5.alloc ob))
              clear HYr HAy HPut o5 HO
              generalize (rowsF g.length (woF g s v m))[v] = rv at *
              have hsz : G ≤ wr.heap.size := by have := hb.size; have := HGG.out; omega
              have HBase := Lib.hid (own_base (HEl.out (.cells #[] 0)))
              go_wp2_with (at_builtin; refine wpList_append_lies _ rfl _ _ 23 rfl G 3 i0 (.int .i64 0) 1 8 Try.underlying23 hi hz0 hz1 hz2 rfl (by omega) (.slice A5 rv.length c5) rv.length (rv.map Iv) (by rfl) (HEl.out _) ⟨_, 0, none⟩ 1 1 [Iv y] (by rfl) (by rfl) (World.news_of_block (cs := #[Iv y]) (t := 3) (fr := (0, 0)) (heap_alloc_new _ _)) (by simp [Value.oneCell']) (by omega) (by unfold maxLen; omega) (by omega) (by simp; omega) _ rfl ?_)
              intro gg cap wn1 hown1 hgrow hat hlt
              have HOW := Lib.hid (HApp.out _ _ _ _ hgrow (hat.imp id (fun h => by simpa using h)) hown1)
              have y1 := (HFar.out _ _ hgrow v).1
              have y2 := (HFar.out _ _ hgrow v).2
              have hbn : Below G w wn1 := ((hb.alloc hsz _).grown hgrow (by simp; omega) (fun k hk => HBase.out k hk))
              clear hown1 hgrow hat hlt
              go_wp2
              go_roundw
              case rel => exact ⟨m + 1, by go_num, by omega, HOW, below_put hbn (Nat.le_refl _)⟩
              case measure => simp [intOf]; omega
          · have HO2 : Hid (RowsD wr G (.slice (some ⟨G, 0, none⟩) g.length g.length) (rowsF g.length (woF g s (v + 1) 0))) := Lib.hid (by rw [← woF_next (m := m) (by rw [HRow.out]; omega)]; exact HO.out)
            go_wp2
            go_roundw
            case rel => exact ⟨v + 1, by go_num, by omega, HO2, hb⟩
            case measure => simp [intOf]; omega
      · obtain rfl : v = g.length := by omega
        have HO2 : Hid (RowsD wr G (.slice (some ⟨G, 0, none⟩) g.length g.length) (woG g s)) := Lib.hid (by rw [← woF_end]; exact HO.out)
        go_wp2
        go_ret2
        exact ⟨_, rfl, by rw [HE.out, ← HGG.out]; exact HO2.out.rows, by rw [← HGG.out]; exact hb⟩
  · have hcase : chkG g s.length = 19 ∨ chkG g s.length = 20 := by
      rcases chkG_cases g s.length with h | h | h
      · exact absurd h.1 h0
      · exact .inl h
      · exact .inr h
    have HE : Hid (woL g s = []) := Lib.hid (by unfold woL; rw [if_neg h0])
    clear hh hs hr h0
    rcases hcase with h | h
    all_goals
      rw [h] at CC ⊢
      clear h
      go_enter Try.func71, Try.ntmps71
      go_wp2_with fail
      refine CC.out.mono ?_
      rintro e w1 ⟨rfl, rfl⟩
      go_wp2
      go_ret2
      exact ⟨_, rfl, by rw [HE.out]; exact rowsOwn_nil _ _, Below.refl _ _⟩
end Go.Proofs.Ytfgpenekmokdiaa
