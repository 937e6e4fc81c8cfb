/- Contract of the reference's Replay of layer 12, for all graphs and moves. -/
import Derived.Test.YtfgpenekmokdiaaMzBC
import Derived.Test.YtfgpenekmokdiaaMzAM
namespace Go.Proofs.Ytfgpenekmokdiaa
open Go Go.RowKit Fl

theorem play1_to {g : GraphD} {ts : List Int} {m : MoveD} (h : m.dst < 0 ∨ g.length ≤ m.dst ∨ m.dst ∈ ts) : play1 g ts m = none := by unfold play1; rw [if_pos h]
theorem play1_go {g : GraphD} {ts : List Int} {m : MoveD} (h : ¬ (m.dst < 0 ∨ g.length ≤ m.dst ∨ m.dst ∈ ts)) (h1 : ¬ (m.frm = -1 ∧ m.tok = ts.length)) : play1 g ts m = if 0 ≤ m.tok ∧ m.tok < ts.length ∧ m.frm = atI ts m.tok ∧ m.dst ∈ rowG g m.frm.toNat then some (ts.set m.tok.toNat m.dst) else none := by
  unfold play1; rw [if_neg h, if_neg h1]
set_option maxRecDepth 100000 in
set_option maxHeartbeats 4000000 in
theorem refReplay_c (A A1 : Option Addr) (c c1 : Nat) (g : GraphD) (ms : List MoveD) (w : World) (hh : RowsAt w A g) (h1 : Holds w A1 (moveCells ms)) (hz : Sized g) (hml : ms.length ≤ 1000000000000000000) :
    Calls Try.prog 28 #[.slice A g.length c, .slice A1 ms.length c1] w fun e w' => Below w.heap.size w w' ∧ RepRes g ms w.heap.size e w' := by
  have CV := Lib.hid (refGValid_c A c g w hh hz.1 hz.2)
  rcases hv : validG g with _ | _
  · have HV := Lib.hid hv
    rw [hv] at CV
    have HB := Lib.hid (Below.refl w.heap.size w)
    clear hh h1 hz hv
    go_enter Try.func28, Try.ntmps28
    go_wp2_with fail
    refine CV.out.mono ?_
    rintro e w1 ⟨rfl, rfl⟩
    clear CV
    go_wp2
    go_ret2
    exact ⟨HB.out, rep_bad HV.out⟩
  · have HV := Lib.hid hv
    rw [hv] at CV
    rcases Nat.lt_or_ge 1200 ms.length with hmany | hfew
    · have HB := Lib.hid (Below.refl w.heap.size w)
      have hgt : (1200 : Int) < (ms.length : Int) := by omega
      clear hh h1 hz hv
      go_enter Try.func28, Try.ntmps28
      go_wp2_with fail
      refine CV.out.mono ?_
      rintro e w1 ⟨rfl, rfl⟩
      clear CV
      go_wp2
      go_ret2
      exact ⟨HB.out, rep_many HV.out hmany⟩
    · have HG := Lib.hid hh
      have H1 := Lib.hid h1
      have hle : ¬ (1200 : Int) < (ms.length : Int) := by omega
      have hg24 := validG_len hv
      have HMs : Hid (∀ k (h : k < ms.length), (moveCells ms)[k * 3]? = some (Iv ms[k].tok) ∧ (moveCells ms)[k * 3 + 1]? = some (Iv ms[k].frm) ∧ (moveCells ms)[k * 3 + 2]? = some (Iv ms[k].dst)) := Lib.hid (fun k h => moveCells_at h)
      have HTE : Hid (playL g [] (ms.take ms.length) = playL g [] ms) := Lib.hid (by rw [List.take_length])
      have HB0 := Lib.hid (Below.refl w.heap.size w)
      clear hh h1 hz hv
      go_enter Try.func28, Try.ntmps28
      go_wp2_with fail
      refine CV.out.mono ?_
      rintro e w1 ⟨rfl, rfl⟩
      clear CV
      go_wp2
      clear hle
      go_loopw [6, 7] (fun v i wr => ∃ (k : Nat) (ts : List Int), i = .int .i64 k ∧ k ≤ ms.length ∧ Hid (playL g [] (ms.take k) = some ts) ∧ Hid (AtOk g ts) ∧ Hid (wr.ownsRow w.heap.size 3 1 v ts.length (ts.map Iv)) ∧ Hid (Below w.heap.size w wr)) (fun _ i _ => ms.length - (intOf i).toNat)
      case atStart => exact ⟨0, [], rfl, Nat.zero_le _, Lib.hid rfl, Lib.hid (AtOk.nil g), Lib.hid (World.ownsRow_nil _ _ _ _), HB0⟩
      case round =>
        clear HB0
        obtain ⟨k, ts, rfl, hk, HPl, HOk, HO, HB⟩ := hrel
        by_cases hlt : k < ms.length
        · obtain ⟨m0, m1, m2⟩ := HMs.out k hlt
          have HMore := Lib.hid (play_more hlt HPl.out)
          have HBad := Lib.hid (fun h => play_bad hlt HPl.out h)
          have h3 : k * 3 + 2 < (moveCells ms).length := (List.getElem?_eq_some_iff.1 m2).1
          obtain ⟨b1, o1, rfl, hbl1, hc⟩ := (H1.out.keep HB.out).at_ (show 0 < (moveCells ms).length by omega)
          have e0 : wr.cell? ⟨b1, o1 + k * 3, none⟩ = some (.int .i64 ms[k].tok) := by
            rw [hc (k * 3) (by omega)]; rw [List.getElem?_eq_getElem (by omega)] at m0; exact m0
          have e1 : wr.cell? ⟨b1, o1 + k * 3 + 1, none⟩ = some (.int .i64 ms[k].frm) := by
            rw [Nat.add_assoc, hc (k * 3 + 1) (by omega)]; rw [List.getElem?_eq_getElem (by omega)] at m1; exact m1
          have e2 : wr.cell? ⟨b1, o1 + k * 3 + 2, none⟩ = some (.int .i64 ms[k].dst) := by
            rw [Nat.add_assoc, hc (k * 3 + 2) (by omega)]; rw [List.getElem?_eq_getElem (by omega)] at m2; exact m2
          clear m0 m1 m2 hc h3 HPl
          generalize ms[k] = m at *
          obtain ⟨tk, fr, tv⟩ := m
          dsimp only at e0 e1 e2
          obtain ⟨A8, c8, rfl, hcap8, hho⟩ := own_cap HO.out
          go_upto_region 10 with fail
          have HOa := Lib.hid (HO.out.alloc (.cells #[.int .i64 tk, .int .i64 fr, .int .i64 tv] 42))
          have HBa := Lib.hid (HB.out.alloc HB.out.size (.cells #[.int .i64 tk, .int .i64 fr, .int .i64 tv] 42))
          have hMa := heap_alloc_new wr (.cells #[.int .i64 tk, .int .i64 fr, .int .i64 tv] 42)
          generalize wr.alloc (.cells #[.int .i64 tk, .int .i64 fr, .int .i64 tv] 42) = wa at *
          obtain ⟨M, hM⟩ : ∃ M, M = wr.heap.size := ⟨_, rfl⟩
          have hMlow : w.heap.size ≤ M := by rw [hM]; exact HB.out.size
          have hown : ∀ q, (Value.slice A8 ts.length c8).ownBlock = some q → q < M := fun q hq => by rw [hM]; exact (HO.out.lt q hq).2
          rw [← hM] at hMa ⊢
          have f0 : wa.cell? ⟨M, 0, none⟩ = some (.int .i64 tk) := by rw [cell_of_row _ _ 0 _ _ _ hMa]; rfl
          have f1 : wa.cell? ⟨M, 1, none⟩ = some (.int .i64 fr) := by rw [cell_of_row _ _ 1 _ _ _ hMa]; rfl
          have f2 : wa.cell? ⟨M, 2, none⟩ = some (.int .i64 tv) := by rw [cell_of_row _ _ 2 _ _ _ hMa]; rfl
          have hMs := block_lt hMa
          have hho2 : Holds wa A8 (ts.map Iv) := by
            obtain ⟨A9, c9, h8, h9⟩ := own_is HOa.out
            injection h8 with h8
            rw [h8]; exact h9
          have h24 := HOk.out.few HV.out
          have CH0 := Lib.hid (fun x => has_c A8 c8 ts x wa hho2 (by omega))
          clear HO HB e0 e1 e2 hho hho2 hM hMa hbl1
          clear wr
          by_cases hn0 : tv < 0
          · have HE := Lib.hid (HBad.out (play1_to (m := ⟨tk, fr, tv⟩) (.inl hn0)))
            clear HBad HMore CH0
            go_wp2
            go_ret2
            exact ⟨HBa.out, rep_none HV.out hfew HE.out⟩
          · obtain ⟨t, rfl⟩ := Int.eq_ofNat_of_zero_le (show 0 ≤ tv by omega)
            by_cases hn1 : g.length ≤ t
            · have HE := Lib.hid (HBad.out (play1_to (m := ⟨tk, fr, t⟩) (.inr (.inl (by dsimp only; omega)))))
              clear HBad HMore CH0
              go_wp2
              go_ret2
              exact ⟨HBa.out, rep_none HV.out hfew HE.out⟩
            · have CH := Lib.hid (CH0.out t)
              by_cases hin : (t : Int) ∈ ts
              · have HE := Lib.hid (HBad.out (play1_to (m := ⟨tk, fr, t⟩) (.inr (.inr hin))))
                rw [decide_eq_true hin] at CH
                clear HBad HMore CH0 hin
                go_wp2_with fail
                refine CH.out.mono ?_
                rintro e w5 ⟨rfl, rfl⟩
                go_wp2
                go_ret2
                exact ⟨HBa.out, rep_none HV.out hfew HE.out⟩
              · have HTo : Hid (¬ ((t : Int) < 0 ∨ (g.length : Int) ≤ t ∨ (t : Int) ∈ ts)) := Lib.hid (by
                  rintro (h | h | h)
                  · omega
                  · omega
                  · exact hin h)
                rw [decide_eq_false hin] at CH
                have HIn := Lib.hid hin
                clear hin CH0
                by_cases hfr : fr = -1
                · subst hfr
                  by_cases htk : tk = ts.length
                  · subst htk
                    have hpl := HMore.out.trans (play_enter (g := g) (ts := ts) (x := (t : Int)) (by omega) (by omega) HIn.out)
                    have HPl2 := Lib.hid hpl
                    have HOk2 := Lib.hid (play1_ok HOk.out (play_enter (g := g) (ts := ts) (x := (t : Int)) (by omega) (by omega) HIn.out)).1
                    clear hpl HMore HBad
                    go_wp2_with fail
                    refine CH.out.mono ?_
                    rintro e w5 ⟨rfl, rfl⟩
                    clear CH
                    go_wp2_with (at_builtin; refine app_int _ rfl _ _ rfl w.heap.size _ _ _ rfl (HOa.out.alloc _) wa.heap.size t rfl (by simp [go_sem]) (by omega) (by have := HBa.out.size; simp; omega) ?_)
                    intro v8 w8 own8 hg8
                    have HB8 : Hid (Below w.heap.size w w8) := Lib.hid ((HBa.out.alloc HBa.out.size _).grown hg8 (by have := HBa.out.size; simp; omega) (fun k hk => (HOa.out.lt k hk).1))
                    have HO8 : Hid (w8.ownsRow w.heap.size 3 1 v8 (ts ++ [(t : Int)]).length ((ts ++ [(t : Int)]).map Iv)) := Lib.hid (by rw [List.length_append, List.map_append]; exact own8)
                    clear own8 hg8 HOa HBa
                    go_wp2
                    go_roundw
                    case rel => exact ⟨k + 1, ts ++ [(t : Int)], by go_num, by omega, HPl2, HOk2, HO8, HB8⟩
                    case measure => simp [intOf]; omega
                  · have hcb : (tk == (ts.length : Int)) = false := by rw [beq_eq_false_iff_ne]; exact htk
                    have HGo := Lib.hid (play1_go (m := ⟨tk, -1, t⟩) HTo.out (fun h => htk h.2))
                    dsimp only at HGo
                    by_cases t0 : tk < 0
                    · have HE := Lib.hid (HBad.out (HGo.out.trans (if_neg (fun h => by omega))))
                      have d0 : decide ((0 : Int) ≤ tk) = false := decide_eq_false (by omega)
                      have d1 : ¬ (0 : Int) ≤ tk := by omega
                      clear HBad HMore HGo t0
                      go_wp2_with fail
                      refine CH.out.mono ?_
                      rintro e w5 ⟨rfl, rfl⟩
                      clear CH
                      go_wp2_with fail
                      go_quiet (fail)
                      go_wp2
                      go_ret2
                      exact ⟨below_drewN HBa.out _, rep_none HV.out hfew HE.out⟩
                    · obtain ⟨n, rfl⟩ := Int.eq_ofNat_of_zero_le (show 0 ≤ tk by omega)
                      by_cases t1 : ts.length ≤ n
                      · have HE := Lib.hid (HBad.out (HGo.out.trans (if_neg (fun h => by omega))))
                        have d0 : decide (n < ts.length) = false := decide_eq_false (by omega)
                        have d1 : ¬ n < ts.length := by omega
                        clear HBad HMore HGo t1
                        go_wp2_with fail
                        refine CH.out.mono ?_
                        rintro e w5 ⟨rfl, rfl⟩
                        clear CH
                        go_wp2_with fail
                        go_quiet (fail)
                        go_wp2
                        go_ret2
                        exact ⟨below_drewN HBa.out _, rep_none HV.out hfew HE.out⟩
                      · have hn : n < ts.length := by omega
                        rw [Fl.atI_get hn] at HGo
                        obtain ⟨q8, c9, h8, hq8, _⟩ := own_at HOa.out (by omega)
                        injection h8 with h8a h8n h8b
                        clear h8n
                        subst h8a h8b
                        obtain ⟨e8, f8⟩ := own_get HOa.out (i := n) (u := Iv ts[n]) (by rw [List.getElem?_map, List.getElem?_eq_getElem hn]; rfl)
                        have hrg := HOk.out.rng _ (List.getElem_mem hn)
                        obtain ⟨xn, hxn⟩ := Int.eq_ofNat_of_zero_le hrg.1
                        have hxg : xn < g.length := by omega
                        rw [hxn] at HGo e8
                        clear hrg
                        have hne : ((-1 : Int) == (xn : Int)) = false := by rw [beq_eq_false_iff_ne]; omega
                        have HE := Lib.hid (HBad.out (HGo.out.trans (if_neg (fun h => by have := h.2.2.1; omega))))
                        clear HBad HMore HGo hxn
                        go_wp2_with fail
                        refine CH.out.mono ?_
                        rintro e w5 ⟨rfl, rfl⟩
                        clear CH
                        go_wp2_with fail
                        go_quiet (fail)
                        go_wp2
                        go_ret2
                        exact ⟨below_drewN HBa.out _, rep_none HV.out hfew HE.out⟩
                · have hcb : (fr == -1) = false := by rw [beq_eq_false_iff_ne]; exact hfr
                  have HGo := Lib.hid (play1_go (m := ⟨tk, fr, t⟩) HTo.out (fun h => hfr h.1))
                  dsimp only at HGo
                  by_cases t0 : tk < 0
                  · have HE := Lib.hid (HBad.out (HGo.out.trans (if_neg (fun h => by omega))))
                    have d0 : decide ((0 : Int) ≤ tk) = false := decide_eq_false (by omega)
                    have d1 : ¬ (0 : Int) ≤ tk := by omega
                    clear HBad HMore HGo t0
                    go_wp2_with fail
                    refine CH.out.mono ?_
                    rintro e w5 ⟨rfl, rfl⟩
                    clear CH
                    go_wp2_with fail
                    go_quiet (fail)
                    go_wp2
                    go_ret2
                    exact ⟨below_drewN HBa.out _, rep_none HV.out hfew HE.out⟩
                  · obtain ⟨n, rfl⟩ := Int.eq_ofNat_of_zero_le (show 0 ≤ tk by omega)
                    by_cases t1 : ts.length ≤ n
                    · have HE := Lib.hid (HBad.out (HGo.out.trans (if_neg (fun h => by omega))))
                      have d0 : decide (n < ts.length) = false := decide_eq_false (by omega)
                      have d1 : ¬ n < ts.length := by omega
                      clear HBad HMore HGo t1
                      go_wp2_with fail
                      refine CH.out.mono ?_
                      rintro e w5 ⟨rfl, rfl⟩
                      clear CH
                      go_wp2_with fail
                      go_quiet (fail)
                      go_wp2
                      go_ret2
                      exact ⟨below_drewN HBa.out _, rep_none HV.out hfew HE.out⟩
                    · have hn : n < ts.length := by omega
                      rw [Fl.atI_get hn] at HGo
                      obtain ⟨q8, c9, h8, hq8, _⟩ := own_at HOa.out (by omega)
                      injection h8 with h8a h8n h8b
                      clear h8n
                      subst h8a h8b
                      obtain ⟨e8, f8⟩ := own_get HOa.out (i := n) (u := Iv ts[n]) (by rw [List.getElem?_map, List.getElem?_eq_getElem hn]; rfl)
                      have hrg := HOk.out.rng _ (List.getElem_mem hn)
                      obtain ⟨xn, hxn⟩ := Int.eq_ofNat_of_zero_le hrg.1
                      have hxg : xn < g.length := by omega
                      rw [hxn] at HGo e8
                      clear hrg
                      by_cases hfe : fr = (xn : Int)
                      · subst hfe
                        obtain ⟨b0, o0, A3, c3, rfl, e3, h3⟩ := (HG.out.keep HBa.out).one hxg
                        have h3l := validG_short HV.out _ (List.getElem_mem hxg)
                        have CR : Hid (∀ m, Calls Try.prog 32 #[.slice A3 g[xn].length c3, .int .i64 t] (wa.drewN m) fun e w' => e = .returned (.bool (decide ((t : Int) ∈ g[xn]))) ∧ w' = wa.drewN m) := Lib.hid (fun m => (has_c A3 c3 g[xn] t (wa.drewN m) (h3.drewN m) (by omega)).mono fun e w' q => ⟨q.1, q.2.symm⟩)
                        rw [Int.toNat_natCast, Int.toNat_natCast, rowG_at hxg] at HGo
                        clear h3 h3l
                        generalize g[xn] = row at *
                        by_cases hmr : (t : Int) ∈ row
                        · rw [decide_eq_true hmr] at CR
                          have hgo := HGo.out.trans (if_pos ⟨by omega, by omega, rfl, hmr⟩)
                          have HPl2 := Lib.hid (HMore.out.trans hgo)
                          have HOk2 := Lib.hid (play1_ok HOk.out hgo).1
                          have HO9 : Hid (∀ m, ((wa.drewN m).setCell ⟨q8, n, none⟩ (.int .i64 (t : Int))).ownsRow w.heap.size 3 1 (.slice (some ⟨q8, 0, none⟩) ts.length c8) (ts.set n (t : Int)).length ((ts.set n (t : Int)).map Iv)) := Lib.hid (fun m => by
                            rw [List.length_set, List.map_set]
                            exact own_put (ownsRow_below HOa.out (below_drewN (Below.refl _ _) m)))
                          have HB9 : Hid (∀ m, Below w.heap.size w ((wa.drewN m).setCell ⟨q8, n, none⟩ (.int .i64 (t : Int)))) := Lib.hid (fun m => below_put (below_drewN HBa.out m) hq8)
                          have hqM : ¬ q8 = M := fun e => by have := hown q8 rfl; omega
                          have hMq : ¬ M = q8 := fun e => hqM e.symm
                          clear hgo HMore HBad HGo hmr hxn
                          go_wp2_with fail
                          refine CH.out.mono ?_
                          rintro e w5 ⟨rfl, rfl⟩
                          clear CH
                          go_wp2_with fail
                          go_quiet (first | (go_at_call 32; with_reducible exact Calls.quiet_of_same (CR.out _)))
                          go_wp2
                          go_roundw
                          case rel => exact ⟨k + 1, ts.set n (t : Int), by go_num, by omega, HPl2, HOk2, Lib.hid (HO9.out _), Lib.hid (HB9.out _)⟩
                          case measure => simp [intOf]; omega
                        · rw [decide_eq_false hmr] at CR
                          have HE := Lib.hid (HBad.out (HGo.out.trans (if_neg (fun h => hmr h.2.2.2))))
                          clear HMore HBad HGo hmr hxn
                          go_wp2_with fail
                          refine CH.out.mono ?_
                          rintro e w5 ⟨rfl, rfl⟩
                          clear CH
                          go_wp2_with fail
                          go_quiet (first | (go_at_call 32; with_reducible exact Calls.quiet_of_same (CR.out _)))
                          go_wp2
                          go_ret2
                          exact ⟨below_drewN HBa.out _, rep_none HV.out hfew HE.out⟩
                      · have hne : (fr == (xn : Int)) = false := by rw [beq_eq_false_iff_ne]; exact hfe
                        have HE := Lib.hid (HBad.out (HGo.out.trans (if_neg (fun h => by exact hfe h.2.2.1))))
                        clear HBad HMore HGo hxn
                        go_wp2_with fail
                        refine CH.out.mono ?_
                        rintro e w5 ⟨rfl, rfl⟩
                        clear CH
                        go_wp2_with fail
                        go_quiet (fail)
                        go_wp2
                        go_ret2
                        exact ⟨below_drewN HBa.out _, rep_none HV.out hfew HE.out⟩
        · obtain rfl : k = ms.length := by omega
          have HE := Lib.hid (HTE.out.symm.trans HPl.out)
          clear HPl
          go_wp2
          go_ret2
          exact ⟨HB.out, rep_some HV.out hfew HE.out HO.out⟩
end Go.Proofs.Ytfgpenekmokdiaa
