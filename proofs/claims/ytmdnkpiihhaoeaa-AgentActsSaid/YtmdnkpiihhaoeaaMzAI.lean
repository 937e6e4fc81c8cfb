/- Joined texts. -/
import Derived.Test.YtmdnkpiihhaoeaaMzAH
import Derived.Test.YtmdnkpiihhaoeaaMzAG
import Derived.Test.YtmdnkpiihhaoeaaMzAA
namespace Go.Proofs.Ytmdnkpiihhaoeaa
open Go Go.RowKit Fl

theorem girK_succ (g : GraphD) (s : List Bool) (k : Nat) : girK g s (k + 1) = if 0 < (thrF g s k).length ∧ ((girK g s k).length = 0 ∨ (thrF g s k).length < (girK g s k).length) then thrF g s k else girK g s k := rfl
def GirthPost (w : World) (l : List Int) (e : Ending) (w' : World) : Prop := ∃ v, e = .returned (.tuple #[.int .i64 l.length, v, .int .i64 0]) ∧ w'.ownsRow w.heap.size 3 1 v l.length (l.map Iv) ∧ Below w.heap.size w w'
set_option maxRecDepth 100000 in
set_option maxHeartbeats 4000000 in
theorem girth_c (A B : Option Addr) (c d : Nat) (g : GraphD) (s : List Bool) (w : World) (hh : RowsAt w A g) (hs : Holds w B (s.map Bo)) (hg : validG g = true) (hsl : s.length = g.length) :
    Calls Try.prog 65 #[.slice A g.length c, .slice B s.length d] w (GirthPost w (girF g s)) := by
  have hl24 := validG_len hg
  have hr24 := validG_short hg
  have CC := Lib.hid (refCheck_c A B c d s.length g w hh (by omega) (fun r hr => by have := hr24 r hr; omega))
  rw [show chkG g s.length = 0 by unfold chkG; rw [hg, hsl]; simp] at CC
  have CT := Lib.hid (fun W v (hW : Below w.heap.size w W) hv => through_c A B c d g s v W (hh.keep hW) (hs.keep hW) hg hsl hv)
  have HSh := Lib.hid (fun k hk => girK_short (s := s) hg k hk)
  have HTh := Lib.hid (fun v hv => thrF_short (s := s) (v := v) hg hv)
  have HF : Hid (girF g s = girK g s g.length) := Lib.hid rfl
  clear hh hs hg hsl hr24
  generalize girF g s = res at *
  go_enter Try.func65, Try.ntmps65
  go_wp2_with fail
  refine CC.out.mono ?_
  rintro e w1 ⟨rfl, rfl⟩
  go_wp2
  go_loopw [8, 9] (fun u i wr => ∃ (k : Nat), i = .int .i64 k ∧ k ≤ g.length ∧ Hid (wr.ownsRow w.heap.size 3 1 u (girK g s k).length ((girK g s k).map Iv)) ∧ Below w.heap.size w wr) (fun _ i _ => g.length - (intOf i).toNat)
  case atStart => exact ⟨0, rfl, Nat.zero_le _, Lib.hid (World.ownsRow_nil _ _ _ _), Below.refl _ _⟩
  case round =>
    obtain ⟨k, rfl, hk, HO, hb⟩ := hrel
    have hbl := HSh.out k hk
    by_cases hlt : k < g.length
    · have HS := Lib.hid (girK_succ g s k)
      have htl := HTh.out k hlt
      have HC := Lib.hid (CT.out wr k hb hlt)
      have hsz := hb.size
      generalize thrF g s k = t at *
      generalize hbo : girK g s k = bo at *
      clear hbo
      obtain ⟨AB, cB, rfl, _⟩ := own_is HO.out
      go_wp2_with fail
      refine HC.out.mono ?_
      rintro e w2 ⟨vt, rfl, ownT, hb2⟩
      obtain ⟨AT, cT, rfl, _⟩ := own_is ownT
      have HT := Lib.hid ownT
      have HB2 := Lib.hid (hb.trans (hb2.mono hsz))
      have HO2 := Lib.hid (ownsRow_below HO.out hb2)
      clear HC ownT hb2 HO hb
      by_cases hsel : 0 < t.length ∧ (bo.length = 0 ∨ t.length < bo.length)
      · rw [if_pos hsel] at HS
        have HT2 := Lib.hid (ownsRow_base HT.out hsz)
        have hcase : decide (0 < t.length) = true ∧ (((bo.length : Int) == 0) = true ∨ ((bo.length : Int) == 0) = false ∧ decide (t.length < bo.length) = true) := by
          refine ⟨by simpa using hsel.1, ?_⟩
          rcases Nat.eq_zero_or_pos bo.length with h | h
          · left; rw [h]; rfl
          · right; exact ⟨by rw [beq_eq_false_iff_ne]; omega, by have := hsel.2; simp; omega⟩
        obtain ⟨hd1, hd2⟩ := hcase
        have hpos := hsel.1
        clear hsel
        rcases hd2 with hd2 | ⟨hd2, hd3⟩
        all_goals
          go_wp2
          go_roundw
          case rel => exact ⟨k + 1, by go_num, by omega, Lib.hid (by rw [HS.out]; exact HT2.out), HB2.out⟩
          case measure => simp [intOf]; omega
      · rw [if_neg hsel] at HS
        have hcase : decide (0 < t.length) = false ∨ decide (0 < t.length) = true ∧ ((bo.length : Int) == 0) = false ∧ decide (t.length < bo.length) = false := by
          rcases Nat.eq_zero_or_pos t.length with h | h
          · left; rw [decide_eq_false_iff_not]; omega
          · right; exact ⟨by simpa using h, by rw [beq_eq_false_iff_ne]; intro e; exact hsel ⟨h, .inl (by omega)⟩, by simp; rcases Nat.lt_or_ge t.length bo.length with h2 | h2; exact absurd ⟨h, .inr h2⟩ hsel; exact h2⟩
        clear hsel
        rcases hcase with hd1 | ⟨hd1, hd2, hd3⟩
        all_goals
          go_wp2
          go_roundw
          case rel => exact ⟨k + 1, by go_num, by omega, Lib.hid (by rw [HS.out]; exact HO2.out), HB2.out⟩
          case measure => simp [intOf]; omega
    · obtain rfl : k = g.length := by omega
      rw [← HF.out] at HO hbl
      obtain ⟨AB, cB, rfl, _⟩ := own_is HO.out
      go_wp2
      go_ret3
      exact ⟨_, rfl, HO.out, hb⟩
end Go.Proofs.Ytmdnkpiihhaoeaa
namespace Go.Proofs.Ytmdnkpiihhaoeaa
open Go Go.RowKit Fl

set_option maxRecDepth 100000 in
set_option maxHeartbeats 8000000 in
theorem fleet_c (Ab An As Ar : Option Addr) (cb cn cs cr : Nat) (N : NetD) (w : World) (hN : NetAt w Ab An As Ar N) (hok : NetOk N) (hcr : N.robots.length ≤ cr) :
    Calls Try.prog 45 #[.agg #[.slice Ab N.blocks.length cb, .slice An N.next.length cn, .slice As N.spurs.length cs, .slice Ar N.robots.length cr, Iv N.queue, Iv N.aging, Iv N.detours, Iv N.patience]] w (FleetPost w N) := by
  have CV := Lib.hid (fun W (hW : Below w.heap.size w W) => validNet_c Ab An As Ar cb cn cs cr N W (hN.keep hW) hok hcr)
  have CCe := Lib.hid (fun W (hW : Below w.heap.size w W) => cells_c Ab An As Ar cb cn cs cr N W (hN.keep hW) hok.few')
  have CG := Lib.hid (fun W B d (hW : Below w.heap.size w W) (hB : Holds W B ((opens N.blocks.length).map Bo)) => girth_c An B cn d N.next (opens N.blocks.length) W (hN.next.keep hW) hB hok.graph (by simp [opens, hok.lanes]))
  have CS := Lib.hid (fun W B d (hW : Below w.heap.size w W) (hB : Holds W B ((opens (cellsN N).toNat).map Bo)) => slots_c Ab An As Ar B cb cn cs cr d N (opens (cellsN N).toNat) W (hN.keep hW) hB hok.spurs6 (by have := cellsN_le hok.few'; simp [opens]; omega) (by simpa [opens] using hok.spurIn))
  have hce := cellsN_le hok.few'
  have hsl := openSum_bounds (s := opens (cellsN N).toNat) (l := N.spurs) hok.few'.2.2 N.spurs.length (Nat.le_refl _)
  have hgl := girK_short (s := opens N.blocks.length) hok.graph N.next.length (Nat.le_refl _)
  have h24 := hok.few
  have h6 := hok.spurs6
  have e1 : (opens N.blocks.length).length = N.blocks.length := by simp [opens]
  have e2 : (opens (cellsN N).toNat).length = (cellsN N).toNat := by simp [opens]
  rw [e1] at CG
  rw [e2] at CS
  obtain ⟨nc, hnc⟩ : ∃ nc, nc = (cellsN N).toNat := ⟨_, rfl⟩
  rw [show cellsN N = (nc : Int) by omega] at CCe
  have hnc48 : nc ≤ 48 := by omega
  rw [← hnc] at CS hsl
  have HSl : Hid (slotsN N = openSum (opens nc) N.spurs N.spurs.length) := Lib.hid (by rw [hnc]; rfl)
  have HGi : Hid (girN N = girF N.next (opens N.blocks.length)) := Lib.hid rfl
  have hgl2 : (girN N).length ≤ 25 := hgl
  rw [← HSl.out] at CS hsl
  rw [← HGi.out] at CG
  have h2o := heap_alloc2_old w (.cells (netCells Ab An As Ar cb cn cs cr N) 29) (.cells #[.int .i64 0, .slice none 0 0, .int .i64 0, .int .i64 0] 91)
  have h2n := heap_alloc2_new w (.cells (netCells Ab An As Ar cb cn cs cr N) 29) (.cells #[.int .i64 0, .slice none 0 0, .int .i64 0, .int .i64 0] 91)
  have hB0 : Below w.heap.size w ((w.alloc (.cells (netCells Ab An As Ar cb cn cs cr N) 29)).alloc (.cells #[.int .i64 0, .slice none 0 0, .int .i64 0, .int .i64 0] 91)) := ((Below.refl _ _).alloc (Nat.le_refl _) _).alloc (by simp) _
  have hX0 := boxAt_of h2o
  obtain ⟨x0, x1, x2, x3, x4, x5, x6, x7⟩ := boxAt_of h2o
  have hsz0 : ((w.alloc (.cells (netCells Ab An As Ar cb cn cs cr N) 29)).alloc (.cells #[.int .i64 0, .slice none 0 0, .int .i64 0, .int .i64 0] 91)).heap.size = w.heap.size + 2 := by simp
  have HX0 := Lib.hid hX0
  have HP0 := Lib.hid h2n
  clear hN hok h2o h2n hX0 hnc
  go_enter Try.func45, Try.ntmps45
  go_wp2_with fail
  generalize (w.alloc (.cells (netCells Ab An As Ar cb cn cs cr N) 29)).alloc (.cells #[.int .i64 0, .slice none 0 0, .int .i64 0, .int .i64 0] 91) = w0 at *
  have HB0 := Lib.hid hB0
  have hsz1 : w.heap.size < w0.heap.size := by omega
  refine (CV.out w0 hB0).mono ?_
  rintro e w1 ⟨rfl, hb1⟩
  have HB1 := Lib.hid (hB0.trans (hb1.mono hB0.size))
  have HX1 := Lib.hid (HX0.out.keep hsz1 hb1)
  have HP1 : Hid (w1.heap[w.heap.size + 1]? = some (.cells #[.int .i64 0, .slice none 0 0, .int .i64 0, .int .i64 0] 91 (0, 0))) := Lib.hid ((hb1.block _ (by omega)).trans HP0.out)
  have hsz2 : w.heap.size + 2 ≤ w1.heap.size := by have := hb1.size; omega
  clear x0 x1 x2 x3 x4 x5 x6 x7 hb1 CV HX0 HP0 hB0 HB0 hsz0 hsz1
  have CGH : Hid (∀ W, Below w1.heap.size w1 W → W.heap[w1.heap.size]? = some (.cells (madeCells #[.bool false] N.blocks.length) 4 (0, 0)) → Calls Try.prog 65 #[.slice An N.next.length cn, .slice (some ⟨w1.heap.size, 0, none⟩) N.blocks.length N.blocks.length] W (GirthPost W (girN N))) := Lib.hid (fun W h1 h2 => CG.out W _ _ (HB1.out.trans (h1.mono HB1.out.size)) (holds_row h2 (made_bools _)))
  have HW := Lib.hid (fun W (hW : Below w1.heap.size w1 W) => HX1.out.keep (by omega) hW)
  obtain ⟨x0, x1, x2, x3, x4, x5, x6, x7⟩ := HX1.out
  clear CG
  go_wp2_with fail
  go_upto_region 3 with fail
  go_cut [4, 5, 6] (fun g c e wx => g = .int .i64 (girN N).length ∧ e = .int .i64 0 ∧ (∃ A cc, c = .slice A (girN N).length cc) ∧ Hid (wx.ownsRow w1.heap.size 3 1 c (girN N).length ((girN N).map Iv)) ∧ Below w1.heap.size w1 wx)
  case first =>
    have mk := make_bools N.blocks.length (by omega)
    have x0a : ∀ ob, (w1.alloc ob).cell? ⟨w.heap.size, 0, none⟩ = some (.slice Ab N.blocks.length cb) := fun ob => (HW.out _ ((Below.refl _ _).alloc (Nat.le_refl _) ob)).c0
    have x1a : ∀ ob, (w1.alloc ob).cell? ⟨w.heap.size, 1, none⟩ = some (.slice An N.next.length cn) := fun ob => (HW.out _ ((Below.refl _ _).alloc (Nat.le_refl _) ob)).c1
    clear x2 x3 x4 x5 x6 x7
    go_region_with (go_at_call 65; refine (CGH.out _ (((Below.refl _ _).alloc (Nat.le_refl _) _).drew) (heap_alloc_new w1 _)).mono ?_; rintro e w2 ⟨v, rfl, own2, hb2⟩)
    all_goals
      have HO2 : Hid (w2.ownsRow w1.heap.size 3 1 v (girN N).length ((girN N).map Iv)) := Lib.hid (ownsRow_base own2 (by simp))
      have HB2 := Lib.hid ((((Below.refl w1.heap.size w1).alloc (Nat.le_refl _) _).drew).trans (hb2.mono (by simp)))
      have HS2 := Lib.hid (own_is own2)
      clear own2 hb2
      go_wp2_with fail
      go_meet
      case rel =>
        obtain ⟨A, c, e, _⟩ := HS2.out
        exact ⟨rfl, rfl, ⟨A, c, e⟩, HO2, HB2.out⟩
  case rest =>
    obtain ⟨rfl, rfl, ⟨Ac, cc, rfl⟩, HOc, hbc⟩ := hcut
    have HBc := Lib.hid (HB1.out.trans (hbc.mono HB1.out.size))
    have HPc : Hid (wc.heap[w.heap.size + 1]? = some (.cells zeroCap 91 (0, 0))) := Lib.hid ((hbc.block _ (by omega)).trans HP1.out)
    have HWc := Lib.hid (fun W (hW : Below wc.heap.size wc W) => HW.out W (hbc.trans (hW.mono hbc.size)))
    have hszc : w.heap.size + 2 ≤ wc.heap.size := by have := hbc.size; omega
    have HOc2 := Lib.hid (fun W (hW : Below wc.heap.size wc W) => ownsRow_below HOc.out hW)
    have CC2 : Hid (∀ W, Below wc.heap.size wc W → Calls Try.prog 9 #[.agg #[.slice Ab N.blocks.length cb, .slice An N.next.length cn, .slice As N.spurs.length cs, .slice Ar N.robots.length cr, Iv N.queue, Iv N.aging, Iv N.detours, Iv N.patience]] W fun e w' => e = .returned (.int .i64 nc) ∧ Below wc.heap.size wc w' ∧ Below W.heap.size W w') := Lib.hid (fun W hW => (CCe.out W (HBc.out.trans (hW.mono HBc.out.size))).mono fun e w' ⟨h1, h2⟩ => ⟨h1, hW.trans (h2.mono hW.size), h2⟩)
    have CS2 : Hid (∀ W q, Below wc.heap.size wc W → W.heap[q]? = some (.cells (madeCells #[.bool false] nc) 4 (0, 0)) → Calls Try.prog 66 #[.agg #[.slice Ab N.blocks.length cb, .slice An N.next.length cn, .slice As N.spurs.length cs, .slice Ar N.robots.length cr, Iv N.queue, Iv N.aging, Iv N.detours, Iv N.patience], .slice (some ⟨q, 0, none⟩) nc nc] W fun e w' => e = .returned (.int .i64 (slotsN N)) ∧ Below wc.heap.size wc w' ∧ Below W.heap.size W w') := Lib.hid (fun W q hW hq => by
      have h := CS.out W (some ⟨q, 0, none⟩) nc (HBc.out.trans (hW.mono HBc.out.size)) (holds_row hq (made_bools _))
      exact h.mono fun e w' ⟨h1, h2⟩ => ⟨h1, hW.trans (h2.mono hW.size), h2⟩)
    have mk := make_bools nc (by omega)
    obtain ⟨gl, hgl0⟩ : ∃ gl, gl = (girN N).length := ⟨_, rfl⟩
    rw [← hgl0] at hgl2 ⊢
    have HGL := Lib.hid hgl0
    clear hbc x0 x1 x2 x3 x4 x5 x6 x7 CCe CS HW hgl0
    obtain ⟨x0, x1, x2, x3, x4, x5, x6, x7⟩ := HWc.out _ (Below.refl _ _)
    go_wp2_with fail
    go_cut [7] (fun p wx => ∃ Y, p = .pointer (some ⟨Y, 0, none⟩) ∧ wc.heap.size ≤ Y ∧ Hid (wx.heap[Y]? = some (.cells #[.int .i64 gl, .slice Ac gl cc, Iv (slotsN N), .int .i64 0] 91 (0, 0))) ∧ Below wc.heap.size wc wx)
    case first =>
      go_region_held3 (fun W => W.cell? ⟨w.heap.size, 0, none⟩ = some (.slice Ab N.blocks.length cb) ∧ W.cell? ⟨w.heap.size, 1, none⟩ = some (.slice An N.next.length cn) ∧ W.cell? ⟨w.heap.size, 2, none⟩ = some (.slice As N.spurs.length cs) ∧ W.cell? ⟨w.heap.size, 3, none⟩ = some (.slice Ar N.robots.length cr) ∧ W.cell? ⟨w.heap.size, 4, none⟩ = some (Iv N.queue) ∧ W.cell? ⟨w.heap.size, 5, none⟩ = some (Iv N.aging) ∧ W.cell? ⟨w.heap.size, 6, none⟩ = some (Iv N.detours) ∧ W.cell? ⟨w.heap.size, 7, none⟩ = some (Iv N.patience)) (first | exact box8 (HWc.out _ (by repeat (first | assumption | (with_reducible exact Below.refl _ _) | (with_reducible refine Below.drew ?_) | (with_reducible refine below_push ?_ _) | (with_reducible refine below_put ?_ (by first | exact Nat.le_refl _ | omega)))))) (first | (go_at_call 9; refine (CC2.out _ (by repeat (first | assumption | (with_reducible exact Below.refl _ _) | (with_reducible refine Below.drew ?_) | (with_reducible refine below_push ?_ _) | (with_reducible refine below_put ?_ (by first | exact Nat.le_refl _ | omega))))).mono ?_; rintro e w2 ⟨rfl, hbw2, hbl2⟩; have hs2w := hbw2.size; have hY2 : w2.heap[wc.heap.size]? = some (.cells zeroCap 91 (0, 0)) := (hbl2.block _ (by simp)).trans (heap_alloc_new wc _); have HY2 := Lib.hid hY2; obtain ⟨z20, z21, z22, z23, f20, f21, f22, f23⟩ := row4_c hY2; clear hY2; have hs2 := hbl2.size) | (go_at_call 9; refine (CC2.out _ (by repeat (first | assumption | (with_reducible exact Below.refl _ _) | (with_reducible refine Below.drew ?_) | (with_reducible refine below_push ?_ _) | (with_reducible refine below_put ?_ (by first | exact Nat.le_refl _ | omega))))).mono ?_; rintro e w2 ⟨rfl, hbw2, hbl2⟩; have hs2w := hbw2.size) | (go_at_call 66; refine (CS2.out _ _ (by repeat (first | assumption | (with_reducible exact Below.refl _ _) | (with_reducible refine Below.drew ?_) | (with_reducible refine below_push ?_ _) | (with_reducible refine below_put ?_ (by first | exact Nat.le_refl _ | omega)))) (by first | exact heap_alloc_new _ _ | exact heap_alloc2_old _ _ _ | exact heap_alloc2_new _ _ _)).mono ?_; rintro e w3 ⟨rfl, hbw3, hbl3⟩; have hY3 : w3.heap[wc.heap.size]? = some (.cells zeroCap 91 (0, 0)) := (hbl3.block _ (by simp at hs2 ⊢; omega)).trans ((heap_alloc_old w2 _ (block_lt HY2.out)).trans HY2.out); have HY3 := Lib.hid hY3; obtain ⟨z30, z31, z32, z33, f30, f31, f32, f33⟩ := row4_c hY3; clear hY3 z20 z21 z22 z23 f20 f21 f22 f23) | (go_at_call 66; refine (CS2.out _ _ (by repeat (first | assumption | (with_reducible exact Below.refl _ _) | (with_reducible refine Below.drew ?_) | (with_reducible refine below_push ?_ _) | (with_reducible refine below_put ?_ (by first | exact Nat.le_refl _ | omega)))) (by first | exact heap_alloc_new _ _ | exact heap_alloc2_old _ _ _ | exact heap_alloc2_new _ _ _)).mono ?_; rintro e w3 ⟨rfl, hbw3, hbl3⟩; have hY3 : w3.heap[w2.heap.size]? = some (.cells zeroCap 91 (0, 0)) := (hbl3.block _ (by simp <;> omega)).trans (heap_alloc2_old _ _ _); have HY3 := Lib.hid hY3; obtain ⟨z30, z31, z32, z33, f30, f31, f32, f33⟩ := row4_c hY3; clear hY3) | (go_at_call 66; refine (CS2.out _ _ (by repeat (first | assumption | (with_reducible exact Below.refl _ _) | (with_reducible refine Below.drew ?_) | (with_reducible refine below_push ?_ _) | (with_reducible refine below_put ?_ (by first | exact Nat.le_refl _ | omega)))) (by first | exact heap_alloc_new _ _ | exact heap_alloc2_old _ _ _ | exact heap_alloc2_new _ _ _)).mono ?_; rintro e w3 ⟨rfl, hbw3, hbl3⟩; have hY3 : w3.heap[w2.heap.size + 1]? = some (.cells zeroCap 91 (0, 0)) := (hbl3.block _ (by simp <;> omega)).trans (heap_alloc2_new _ _ _); have HY3 := Lib.hid hY3; obtain ⟨z30, z31, z32, z33, f30, f31, f32, f33⟩ := row4_c hY3; clear hY3) | (go_at_call 66; refine (CS2.out _ _ (by repeat (first | assumption | (with_reducible exact Below.refl _ _) | (with_reducible refine Below.drew ?_) | (with_reducible refine below_push ?_ _) | (with_reducible refine below_put ?_ (by first | exact Nat.le_refl _ | omega)))) (by first | exact heap_alloc_new _ _ | exact heap_alloc2_old _ _ _ | exact heap_alloc2_new _ _ _)).mono ?_; rintro e w3 ⟨rfl, hbw3, hbl3⟩))
      all_goals
        go_wp2_with fail
        go_meet
        case rel =>
          refine ⟨_, rfl, ?_, ?_, ?_⟩
          · first
            | (with_reducible exact Nat.le_refl _)
            | (with_reducible exact hbw3.size)
            | omega
          · first
            | (with_reducible exact Lib.hid (heap_alloc_new w3 _))
            | (with_reducible exact Lib.hid (set4_at HY3.out))
          · first
            | (with_reducible exact below_push hbw3 _)
            | (with_reducible exact below_set4 hbw3 (Nat.le_refl _))
            | (with_reducible exact below_set4 hbw3 hs2w)
            | (with_reducible exact below_set4 hbw3 (Nat.le_succ_of_le hs2w))
    case rest =>
      obtain ⟨Y, rfl, hY, HYc, hbd⟩ := hcut
      have HBd := Lib.hid (HBc.out.trans (hbd.mono HBc.out.size))
      have HPd : Hid (wc.heap[w.heap.size + 1]? = some (.cells zeroCap 91 (0, 0))) := Lib.hid ((hbd.block _ (by omega)).trans HPc.out)
      have HOd := Lib.hid (HOc2.out _ hbd)
      have hPY : w.heap.size + 1 ≠ Y := by omega
      have HYb : Hid (Y < wc.heap.size) := Lib.hid (block_lt HYc.out)
      obtain ⟨y0, y1, y2, y3, _, _, _, yf3⟩ := row4_c HYc.out
      have hwY : w.heap.size ≤ Y := by omega
      have HSet1 := Lib.hid (fun v => below_put (i := 3) (v := v) HBd.out hwY)
      have HSet2 := Lib.hid (fun v u => below_put (i := 3) (v := u) (HSet1.out v) hwY)
      have HPs1 := Lib.hid (fun v => (Below.heap_setCell wc ⟨Y, 3, none⟩ v (w.heap.size + 1) hPY).trans HPd.out)
      have HPs2 := Lib.hid (fun v u => (Below.heap_setCell (wc.setCell ⟨Y, 3, none⟩ v) ⟨Y, 3, none⟩ u (w.heap.size + 1) hPY).trans (HPs1.out v))
      clear x0 x1 x2 x3 x4 x5 x6 x7
      have HOd2 := HOd.out
      rw [← HGL.out] at HOd2
      have HFin1 : Hid (∀ v a b c d, Below w.heap.size w (((((wc.setCell ⟨Y, 3, none⟩ v).setCell ⟨w.heap.size + 1, 0, none⟩ a).setCell ⟨w.heap.size + 1, 1, none⟩ b).setCell ⟨w.heap.size + 1, 2, none⟩ c).setCell ⟨w.heap.size + 1, 3, none⟩ d) ∧ (((((wc.setCell ⟨Y, 3, none⟩ v).setCell ⟨w.heap.size + 1, 0, none⟩ a).setCell ⟨w.heap.size + 1, 1, none⟩ b).setCell ⟨w.heap.size + 1, 2, none⟩ c).setCell ⟨w.heap.size + 1, 3, none⟩ d).ownsRow w.heap.size 3 1 (.slice Ac gl cc) gl ((girN N).map Iv)) := Lib.hid (fun v a b c d => ⟨below_set4 (HSet1.out v) (by omega), own_other (own_other (ownsRow_base HOd2 HB1.out.size) HYc.out (by decide) (fun b hb => Below.heap_setCell _ _ _ _ hb)) (HPs1.out v) (by decide) (fun b hb => heap_set4 hb)⟩)
      have HFin2 : Hid (∀ v u a b c d, Below w.heap.size w ((((((wc.setCell ⟨Y, 3, none⟩ v).setCell ⟨Y, 3, none⟩ u).setCell ⟨w.heap.size + 1, 0, none⟩ a).setCell ⟨w.heap.size + 1, 1, none⟩ b).setCell ⟨w.heap.size + 1, 2, none⟩ c).setCell ⟨w.heap.size + 1, 3, none⟩ d) ∧ ((((((wc.setCell ⟨Y, 3, none⟩ v).setCell ⟨Y, 3, none⟩ u).setCell ⟨w.heap.size + 1, 0, none⟩ a).setCell ⟨w.heap.size + 1, 1, none⟩ b).setCell ⟨w.heap.size + 1, 2, none⟩ c).setCell ⟨w.heap.size + 1, 3, none⟩ d).ownsRow w.heap.size 3 1 (.slice Ac gl cc) gl ((girN N).map Iv)) := Lib.hid (fun v u a b c d => ⟨below_set4 (HSet2.out v u) (by omega), own_other (own_other (own_other (ownsRow_base HOd2 HB1.out.size) HYc.out (by decide) (fun b hb => Below.heap_setCell _ _ _ _ hb)) (set1_at HYc.out) (by decide) (fun b hb => Below.heap_setCell _ _ _ _ hb)) (HPs2.out v u) (by decide) (fun b hb => heap_set4 hb)⟩)
      obtain ⟨sl, hsl0⟩ : ∃ sl, sl = slotsN N := ⟨_, rfl⟩
      rw [← hsl0] at hsl y2
      have HSL := Lib.hid hsl0
      clear hsl0 HSet1 HSet2 HOd HYc HOd2
      obtain ⟨p0, p1, p2, p3, pf0, pf1, pf2, pf3⟩ := row4_c HPd.out
      have hYP : Y ≠ w.heap.size + 1 := fun e => hPY e.symm
      by_cases hg0 : 0 < gl
      · have hd : decide ((0 : Int) < (gl : Int)) = true := by simp; exact hg0
        have HM1 : Hid (sl < (gl : Int) - 1 → capN gl sl = sl) := Lib.hid (fun h => by unfold capN; rw [if_pos hg0]; omega)
        have HM2 : Hid ((gl : Int) - 1 ≤ sl → capN gl sl = (gl : Int) - 1) := Lib.hid (fun h => by unfold capN; rw [if_pos hg0]; omega)
        go_wp2
        · have e := HM1.out (by assumption)
          refine bodyPost_ret (fleet_ret _ (set4_at (HPs2.out _ _)) rfl _ _ rfl rfl) rfl ?_
          refine ⟨.slice Ac gl cc, ?_, by rw [← HGL.out]; exact (HFin2.out _ _ _ _ _ _).2, (HFin2.out _ _ _ _ _ _).1⟩
          rw [← HSL.out, ← HGL.out, e]
          rfl
        · have e := HM2.out (by assumption)
          refine bodyPost_ret (fleet_ret _ (set4_at (HPs2.out _ _)) rfl _ _ rfl rfl) rfl ?_
          refine ⟨.slice Ac gl cc, ?_, by rw [← HGL.out]; exact (HFin2.out _ _ _ _ _ _).2, (HFin2.out _ _ _ _ _ _).1⟩
          rw [← HSL.out, ← HGL.out, e]
          rfl
      · have hd : decide ((0 : Int) < (gl : Int)) = false := by simp; omega
        have e : capN gl sl = sl := by unfold capN; rw [if_neg hg0]
        have HM := Lib.hid e
        clear e
        go_wp2
        refine bodyPost_ret (fleet_ret _ (set4_at (HPs1.out _)) rfl _ _ rfl rfl) rfl ?_
        refine ⟨.slice Ac gl cc, ?_, by rw [← HGL.out]; exact (HFin1.out _ _ _ _ _).2, (HFin1.out _ _ _ _ _).1⟩
        rw [← HSL.out, ← HGL.out, HM.out]
        rfl
end Go.Proofs.Ytmdnkpiihhaoeaa
namespace Go.Proofs.Ytmdnkpiihhaoeaa.Fl

/-- An edge from u to v. -/
def EdgeG (g : GraphD) (u v : Nat) : Prop := (v : Int) ∈ rowG g u
/-- u reaches v over open vertices. -/
inductive PathG (g : GraphD) (s : List Bool) : Nat → Nat → Prop
  | refl {u : Nat} : u < g.length → atB s u = false → PathG g s u u
  | step {u v x : Nat} : PathG g s u v → EdgeG g v x → x < g.length → atB s x = false → PathG g s u x
theorem PathG.right {g : GraphD} {s : List Bool} {u v : Nat} (h : PathG g s u v) : v < g.length ∧ atB s v = false := by
  cases h with
  | refl h1 h2 => exact ⟨h1, h2⟩
  | step _ _ h1 h2 => exact ⟨h1, h2⟩
theorem PathG.left {g : GraphD} {s : List Bool} {u v : Nat} (h : PathG g s u v) : u < g.length ∧ atB s u = false := by
  induction h with
  | refl h1 h2 => exact ⟨h1, h2⟩
  | step _ _ _ _ ih => exact ih
theorem PathG.trans {g : GraphD} {s : List Bool} {u v x : Nat} (h : PathG g s u v) (k : PathG g s v x) : PathG g s u x := by
  induction k with
  | refl _ _ => exact h
  | step _ e h1 h2 ih => exact .step ih e h1 h2
theorem PathG.head {g : GraphD} {s : List Bool} {u v x : Nat} (h1 : u < g.length) (h2 : atB s u = false) (e : EdgeG g u v) (k : PathG g s v x) : PathG g s u x :=
  (PathG.step (.refl h1 h2) e k.left.1 k.left.2).trans k
/-- With less shut, no less is reached. -/
theorem PathG.mono {g : GraphD} {s m : List Bool} (hs : ∀ v, atB s v = true → atB m v = true) {u v : Nat} (h : PathG g m u v) : PathG g s u v := by
  have key : ∀ v, atB m v = false → atB s v = false := fun v hv => by
    rcases h : atB s v with _ | _
    · rfl
    · rw [hs v h] at hv; cases hv
  induction h with
  | refl h1 h2 => exact .refl h1 (key _ h2)
  | step _ e h1 h2 ih => exact .step ih e h1 (key _ h2)
/-- A set that holds u and is closed under edges to open vertices holds all that u reaches. -/
theorem PathG.closed {g : GraphD} {s : List Bool} {P : Nat → Prop} {u v : Nat} (hu : P u) (hc : ∀ a b, P a → EdgeG g a b → b < g.length → atB s b = false → P b) (h : PathG g s u v) : P v := by
  induction h with
  | refl _ _ => exact hu
  | step _ e h1 h2 ih => exact hc _ _ ih e h1 h2
open Classical in
/-- Which vertices v reaches. -/
noncomputable def reachL (g : GraphD) (s : List Bool) (v : Nat) : List Bool := (List.range g.length).map (fun x => decide (PathG g s v x))
theorem reachL_length (g : GraphD) (s : List Bool) (v : Nat) : (reachL g s v).length = g.length := by simp [reachL]
theorem reachL_at {g : GraphD} {s : List Bool} {v x : Nat} (hx : x < g.length) : atB (reachL g s v) x = true ↔ PathG g s v x := by
  unfold atB reachL
  rw [List.getD_eq_getElem?_getD]
  simp [hx]
theorem reachL_eq {g : GraphD} {s l : List Bool} {v : Nat} (hl : l.length = g.length) (h : ∀ x, x < g.length → (atB l x = true ↔ PathG g s v x)) : l = reachL g s v := by
  apply List.ext_getElem?
  intro x
  rcases Nat.lt_or_ge x g.length with hx | hx
  · have h1 := h x hx
    have h2 := reachL_at (s := s) (v := v) hx
    have e : atB l x = atB (reachL g s v) x := by rw [Bool.eq_iff_iff, h1, h2]
    unfold atB at e
    rw [List.getD_eq_getElem?_getD, List.getD_eq_getElem?_getD, List.getElem?_eq_getElem (by omega), List.getElem?_eq_getElem (by rw [reachL_length]; omega)] at e
    rw [List.getElem?_eq_getElem (by omega), List.getElem?_eq_getElem (by rw [reachL_length]; omega)]
    simpa using e
  · rw [List.getElem?_eq_none (by omega), List.getElem?_eq_none (by rw [reachL_length]; omega)]

/-- Two strictly ascending lists with the same elements are the same. -/
theorem sorted_ext : ∀ {a b : List Int}, a.Pairwise (· < ·) → b.Pairwise (· < ·) → (∀ x, x ∈ a ↔ x ∈ b) → a = b
  | [], [], _, _, _ => rfl
  | [], y :: b, _, _, h => by have := (h y).2 (by simp); simp at this
  | x :: a, [], _, _, h => by have := (h x).1 (by simp); simp at this
  | x :: a, y :: b, ha, hb, h => by
    have h1 := List.pairwise_cons.1 ha
    have h2 := List.pairwise_cons.1 hb
    have e : x = y := by
      rcases List.mem_cons.1 ((h x).1 (by simp)) with e | hx
      · exact e
      · rcases List.mem_cons.1 ((h y).2 (by simp)) with e | hy
        · exact e.symm
        · have := h2.1 x hx; have := h1.1 y hy; omega
    subst e
    congr 1
    refine sorted_ext h1.2 h2.2 fun z => ?_
    have hz := h z
    rw [List.mem_cons, List.mem_cons] at hz
    constructor
    · intro hza
      rcases hz.1 (.inr hza) with e | hzb
      · have := h1.1 z hza; omega
      · exact hzb
    · intro hzb
      rcases hz.2 (.inr hzb) with e | hza
      · have := h2.1 z hzb; omega
      · exact hza
theorem validG_sorted {g : GraphD} (h : validG g = true) {k : Nat} (hk : k < g.length) : g[k].Pairwise (· < ·) := by
  unfold validG at h
  simp only [Bool.and_eq_true] at h
  exact (rowOk_sorted (rowsOk_at h.2 k hk)).1
theorem rowOk_mk {n v : Int} : ∀ {l : List Int} {p : Option Int}, l.Pairwise (· < ·) → (∀ x ∈ l, 0 ≤ x ∧ x < n ∧ x ≠ v) → (∀ y, p = some y → ∀ x ∈ l, y < x) → rowOk n v p l = true
  | [], _, _, _, _ => by simp [rowOk]
  | x :: l, p, hp, hm, hb => by
    have h1 := List.pairwise_cons.1 hp
    simp only [rowOk, Bool.and_eq_true, decide_eq_true_eq]
    refine ⟨⟨hm x (by simp), ?_⟩, rowOk_mk h1.2 (fun z hz => hm z (by simp [hz])) (fun y hy z hz => by injection hy with hy; subst hy; exact h1.1 z hz)⟩
    cases p with
    | none => rfl
    | some y => simpa [overP] using hb y rfl x (by simp)
theorem rowsOk_mk {n : Int} : ∀ {g : GraphD} {v : Int}, (∀ (k : Nat) (hk : k < g.length), rowOk n (v + k) none g[k] = true) → rowsOk n v g = true
  | [], _, _ => rfl
  | r :: g, v, h => by
    simp only [rowsOk, Bool.and_eq_true]
    refine ⟨by have := h 0 (by simp); rwa [show v + ((0 : Nat) : Int) = v by omega] at this, rowsOk_mk fun k hk => ?_⟩
    have := h (k + 1) (by simpa using hk)
    rw [show v + 1 + (k : Int) = v + ((k + 1 : Nat) : Int) by omega]
    simpa using this
theorem validG_mk {g : GraphD} (hl : g.length ≤ 24) (hs : ∀ (k : Nat) (hk : k < g.length), g[k].Pairwise (· < ·)) (hm : ∀ (k : Nat) (hk : k < g.length), ∀ x ∈ g[k], 0 ≤ x ∧ x < g.length ∧ x ≠ k) : validG g = true := by
  unfold validG
  rw [decide_eq_true hl, Bool.true_and]
  refine rowsOk_mk fun k hk => ?_
  rw [Int.zero_add]
  exact rowOk_mk (hs k hk) (hm k hk) (by simp)
theorem rowG_get {g : GraphD} {v : Nat} (hv : v < g.length) : rowG g v = g[v] := by unfold rowG; rw [List.getD_eq_getElem?_getD, List.getElem?_eq_getElem hv]; rfl
theorem rowG_out {g : GraphD} {v : Nat} (hv : g.length ≤ v) : rowG g v = [] := by unfold rowG; rw [List.getD_eq_getElem?_getD, List.getElem?_eq_none hv]; rfl
theorem EdgeG.range {g : GraphD} (hg : validG g = true) {u v : Nat} (h : EdgeG g u v) : u < g.length ∧ v < g.length ∧ v ≠ u := by
  rcases Nat.lt_or_ge u g.length with hu | hu
  · unfold EdgeG at h
    rw [rowG_get hu] at h
    have := validG_row hg hu _ h
    omega
  · unfold EdgeG at h
    rw [rowG_out hu] at h
    simp at h
/-- The vertices before k with an edge to x, ascending. -/
def intoK (g : GraphD) (k x : Nat) : List Int := ((List.range k).filter (fun (v : Nat) => decide ((x : Int) ∈ rowG g v))).map (fun v : Nat => (v : Int))
/-- The reversed graph. -/
def revG (g : GraphD) : GraphD := (List.range g.length).map (intoK g g.length)
theorem revG_length (g : GraphD) : (revG g).length = g.length := by simp [revG]
theorem intoK_sorted (g : GraphD) (k x : Nat) : (intoK g k x).Pairwise (· < ·) := by
  unfold intoK
  rw [List.pairwise_map]
  refine (List.Pairwise.filter _ (List.pairwise_lt_range (n := k))).imp fun h => ?_
  omega
theorem intoK_mem {g : GraphD} {k x : Nat} {z : Int} : z ∈ intoK g k x ↔ ∃ v : Nat, v < k ∧ (x : Int) ∈ rowG g v ∧ z = v := by
  unfold intoK
  simp only [List.mem_map, List.mem_filter, List.mem_range, decide_eq_true_eq]
  constructor
  · rintro ⟨v, ⟨h1, h2⟩, rfl⟩; exact ⟨v, h1, h2, rfl⟩
  · rintro ⟨v, h1, h2, rfl⟩; exact ⟨v, ⟨h1, h2⟩, rfl⟩
theorem revG_row {g : GraphD} {x : Nat} (hx : x < g.length) : rowG (revG g) x = intoK g g.length x := by
  unfold rowG revG
  rw [List.getD_eq_getElem?_getD]
  simp [hx]
theorem revG_edge {g : GraphD} {u v : Nat} (hu : u < g.length) : EdgeG (revG g) u v ↔ v < g.length ∧ EdgeG g v u := by
  unfold EdgeG
  rw [revG_row hu, intoK_mem]
  constructor
  · rintro ⟨a, h1, h2, h3⟩
    obtain rfl : v = a := by omega
    exact ⟨h1, h2⟩
  · rintro ⟨h1, h2⟩
    exact ⟨v, h1, h2, rfl⟩
theorem revG_valid {g : GraphD} (hg : validG g = true) : validG (revG g) = true := by
  refine validG_mk (by rw [revG_length]; exact validG_len hg) (fun k hk => ?_) (fun k hk x hx => ?_)
  · rw [revG_length] at hk
    rw [← rowG_get, revG_row hk]
    exact intoK_sorted _ _ _
  · have hk' := hk
    rw [revG_length] at hk'
    rw [← rowG_get, revG_row hk', intoK_mem] at hx
    obtain ⟨v, h1, h2, rfl⟩ := hx
    have h3 : EdgeG g v k := h2
    have := h3.range hg
    rw [revG_length]
    omega
theorem revG_rev {g : GraphD} (hg : validG g = true) : revG (revG g) = g := by
  apply List.ext_getElem (by rw [revG_length, revG_length])
  intro x h1 h2
  rw [← rowG_get, revG_row (by rw [revG_length]; exact h2)]
  refine sorted_ext (intoK_sorted _ _ _) (validG_sorted hg h2) fun z => ?_
  rw [intoK_mem, ← rowG_get h2]
  constructor
  · rintro ⟨v, h3, h4, rfl⟩
    rw [revG_length] at h3
    have h5 : EdgeG (revG g) v x := h4
    exact ((revG_edge h3).1 h5).2
  · intro hz
    rw [rowG_get h2] at hz
    have hr := validG_row hg h2 z hz
    refine ⟨z.toNat, by rw [revG_length]; omega, ?_, by omega⟩
    have : EdgeG (revG g) z.toNat x := (revG_edge (by omega)).2 ⟨h2, by unfold EdgeG; rw [rowG_get h2, show ((z.toNat : Nat) : Int) = z by omega]; exact hz⟩
    exact this
/-- Paths turn round with the edges. -/
theorem PathG.rev {g : GraphD} {s : List Bool} {u v : Nat} (h : PathG g s u v) : PathG (revG g) s v u := by
  induction h with
  | refl h1 h2 => exact .refl (by rwa [revG_length]) h2
  | step p e h1 h2 ih => exact .head (by rwa [revG_length]) h2 ((revG_edge h1).2 ⟨p.right.1, e⟩) ih
theorem path_rev {g : GraphD} {s : List Bool} (hg : validG g = true) {u v : Nat} : PathG g s u v ↔ PathG (revG g) s v u :=
  ⟨fun h => h.rev, fun h => by have := h.rev; rwa [revG_rev hg] at this⟩
/-- The graph without the edges from and to shut vertices. -/
def woRow (s : List Bool) (row : List Int) : List Int := row.filter (fun x => !atB s x.toNat)
def woG (g : GraphD) (s : List Bool) : GraphD := (List.range g.length).map (fun v => if atB s v then [] else woRow s (rowG g v))
theorem woG_length (g : GraphD) (s : List Bool) : (woG g s).length = g.length := by simp [woG]
theorem woG_row {g : GraphD} {s : List Bool} {x : Nat} (hx : x < g.length) : rowG (woG g s) x = if atB s x then [] else woRow s (rowG g x) := by
  rw [rowG_get (by rwa [woG_length])]
  simp [woG]
theorem woG_edge {g : GraphD} {s : List Bool} {u v : Nat} (hu : u < g.length) : EdgeG (woG g s) u v ↔ EdgeG g u v ∧ atB s u = false ∧ atB s v = false := by
  unfold EdgeG
  rw [woG_row hu]
  rcases h : atB s u with _ | _
  · simp [woRow]
  · simp
theorem woG_valid {g : GraphD} {s : List Bool} (hg : validG g = true) : validG (woG g s) = true := by
  refine validG_mk (by rw [woG_length]; exact validG_len hg) (fun k hk => ?_) (fun k hk x hx => ?_)
  · rw [woG_length] at hk
    rw [← rowG_get, woG_row hk]
    split
    · exact .nil
    · rw [rowG_get hk]
      exact (validG_sorted hg hk).filter _
  · have hk' := hk
    rw [woG_length] at hk'
    rw [← rowG_get, woG_row hk'] at hx
    rw [woG_length]
    split at hx
    · simp at hx
    · rw [rowG_get hk'] at hx
      exact validG_row hg hk' x (List.mem_filter.1 hx).1
/-- Between open vertices nothing changes without the edges at shut ones. -/
theorem path_wo {g : GraphD} {s z : List Bool} (hz : ∀ v, atB z v = false) {u v : Nat} (hu : atB s u = false) (hul : u < g.length) : PathG g s u v ↔ PathG (woG g s) z u v := by
  constructor
  · intro h
    induction h with
    | refl h1 h2 => exact .refl (by rwa [woG_length]) (hz _)
    | step p e h1 h2 ih => exact .step ih ((woG_edge p.right.1).2 ⟨e, p.right.2, h2⟩) (by rwa [woG_length]) (hz _)
  · intro h
    induction h with
    | refl h1 h2 => exact .refl hul hu
    | step p e h1 h2 ih =>
      have h3 := ih
      have h4 := (woG_edge h3.right.1).1 e
      exact .step h3 h4.1 (by rwa [woG_length] at h1) h4.2.2
/-- All open vertices reach each other if and only if one of them reaches all, in the graph and in the reversed one. -/
theorem mutual_one {g : GraphD} {s : List Bool} (hg : validG g = true) {a : Nat} (ha : a < g.length) (hs : atB s a = false) :
    (∀ u v, u < g.length → v < g.length → atB s u = false → atB s v = false → PathG g s u v) ↔ ∀ v, v < g.length → atB s v = false → PathG g s a v ∧ PathG (revG g) s a v := by
  constructor
  · intro h v hv hv2
    exact ⟨h a v ha hv hs hv2, (path_rev hg).1 (h v a hv ha hv2 hs)⟩
  · intro h u v hu hv hu2 hv2
    exact ((path_rev hg).2 (h u hu hu2).2).trans (h v hv hv2).1
end Go.Proofs.Ytmdnkpiihhaoeaa.Fl
