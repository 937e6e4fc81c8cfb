/- Contract of the reference's Fill of layer 12, for all graphs and entrances. -/
import Derived.Test.YtfgpenekmokdiaaMzBA
import Derived.Test.YtfgpenekmokdiaaMzAR
import Derived.Test.YtfgpenekmokdiaaMzAL
import Derived.Deep.RegionWith
namespace Go.Proofs.Ytfgpenekmokdiaa
open Go Go.RowKit Fl

theorem make_fun (n : Nat) (hn : n ≤ 24) : ∃ f : World → World, ∀ W : World, (Instr.makeSlice 50 (.int .i64 (n : Int)) (.int .i64 (n : Int))).run Try.prog W = .ok (.slice (some ⟨W.heap.size, 0, none⟩) n n) (f W) ∧ Holds (f W) (some ⟨W.heap.size, 0, none⟩) ((opensT n).map Bo) ∧ Below W.heap.size W (f W) := by
  obtain ⟨i, h1, h2, h3, h4⟩ := info_parts Try.infoBoolS
  have h : ∀ W : World, ∃ w', (Instr.makeSlice 50 (.int .i64 (n : Int)) (.int .i64 (n : Int))).run Try.prog W = .ok (.slice (some ⟨W.heap.size, 0, none⟩) n n) w' ∧ Holds w' (some ⟨W.heap.size, 0, none⟩) ((opensT n).map Bo) ∧ Below W.heap.size W w' := fun W => by
    obtain ⟨w', q1, q2, q3⟩ := run_make_full (P := Try.prog) W W.heap.size 50 4 i (.bool false) 1 Try.underlying50 h1 h2 h3 .i64 .i64 n (by rw [h4]; omega) (by unfold maxLen; omega) (Nat.le_refl _)
    refine ⟨w', q1, ?_, (Below.refl _ _).grown q3 (Nat.le_refl _) (fun k hk => by cases hk)⟩
    have e1 : (madeCells (Value.bool false).cells (n * 1)).toList = (opensT n).map Bo := by
      unfold opensT
      rw [List.map_replicate, Nat.mul_one]
      simp [madeCells, Value.cells, Nat.mod_one, List.map_const']
    rw [e1] at q2
    obtain ⟨A2, c2, g1, g2⟩ := own_is q2
    injection g1 with g1
    subst g1
    exact g2
  exact ⟨fun W => (h W).choose, fun W => (h W).choose_spec⟩
theorem near_step {g : GraphD} {sh : List Bool} {l : List Int} {e k xn : Nat} {b a d : Int} (hr : nearK g sh l e k = (b, a)) (hk : k < l.length) (hx : l[k] = (xn : Int)) (hd : dAt (distF g sh xn) e = d) : nearK g sh l e (k + 1) = if 0 ≤ d ∧ (b < 0 ∨ d < b ∨ d = b ∧ (xn : Int) < atI l a) then (d, (k : Int)) else (b, a) := by
  unfold nearK
  simp only
  rw [hr, Fl.atI_get hk, hx, Int.toNat_natCast, hd]
theorem near_at {g : GraphD} {sh : List Bool} {l : List Int} {e k : Nat} {b a : Int} (hr : nearK g sh l e k = (b, a)) (hb : 0 ≤ b) : ∃ p, p < k ∧ a = (p : Int) := by
  rcases nearK_ok g sh l e k with ⟨h, _⟩ | ⟨p, hp, h, _⟩
  · rw [hr] at h
    injection h with h1
    omega
  · rw [hr] at h
    injection h with _ h2
    exact ⟨p, hp, h2⟩
theorem near_neg {g : GraphD} {sh : List Bool} {l : List Int} {e k : Nat} {b a : Int} (hr : nearK g sh l e k = (b, a)) : (0 ≤ b ∧ 0 ≤ a) ∨ (b = -1 ∧ a = -1) := by
  rcases nearK_ok g sh l e k with ⟨h, _⟩ | ⟨p, hp, h, h0, _⟩
  · rw [hr] at h
    injection h with h1 h2
    exact .inr ⟨h1, h2⟩
  · rw [hr] at h
    injection h with h1 h2
    exact .inl ⟨by omega, by omega⟩
theorem near_path {g : GraphD} {l : List Int} {e n p gn : Nat} {b : Int} (hg : validG g = true) (he : e < g.length) (hr : nearK g (opensT g.length) l e n = (b, (p : Int))) (hp : p < l.length) (hx : l[p] = (gn : Int)) (hgn : gn < g.length) : PathOk g (opensT g.length) e gn (firstF g (opensT g.length) e gn) := by
  rcases nearK_ok g (opensT g.length) l e n with ⟨h, _⟩ | ⟨p', hp', h, h0, _⟩
  · rw [hr] at h
    injection h with h1 h2
    omega
  · rw [hr] at h
    injection h with h1 h2
    have : p' = p := by omega
    subst this
    rw [Fl.atI_get hp, hx, Int.toNat_natCast] at h0
    rcases first_cases (s := opensT g.length) hg he hgn with ⟨_, h4⟩ | h4
    · omega
    · exact h4
def legA (P : List Int) (k j : Nat) : List MoveD := (List.range j).map (fun (i : Nat) => (⟨k, atI P i, atI P ((i + 1 : Nat) : Int)⟩ : MoveD))
def legB (l : List Int) (p k j : Nat) : List MoveD := (List.range j).map (fun (i : Nat) => (⟨k, wv l (p + i), wv l (p + (i + 1))⟩ : MoveD))
theorem legA_succ (P : List Int) (k j : Nat) : legA P k (j + 1) = legA P k j ++ [⟨k, atI P j, atI P ((j + 1 : Nat) : Int)⟩] := by unfold legA; rw [List.range_succ, List.map_append]; rfl
theorem legB_succ (l : List Int) (p k j : Nat) : legB l p k (j + 1) = legB l p k j ++ [⟨k, wv l (p + j), wv l (p + (j + 1))⟩] := by unfold legB; rw [List.range_succ, List.map_append]; rfl
theorem legA_len (P : List Int) (k j : Nat) : (legA P k j).length = j := by simp [legA]
theorem legB_len (l : List Int) (p k j : Nat) : (legB l p k j).length = j := by simp [legB]
theorem fillK_next (P l : List Int) (p k : Nat) : fillK P l p (k + 1) = fillK P l p k ++ [⟨k, -1, atI P 0⟩] ++ legA P k (P.length - 1) ++ legB l p k (l.length - 1 - k) := by
  show fillK P l p k ++ tokMoves P l p k = _
  unfold tokMoves legA legB
  simp only [List.append_assoc, List.cons_append, List.nil_append]
theorem cells_one {L M : List MoveD} {m : MoveD} (h : M = L ++ [m]) : moveCells M = moveCells L ++ [.int .i64 m.tok, .int .i64 m.frm, .int .i64 m.dst] ∧ M.length = L.length + 1 := by
  subst h
  rw [moveCells_append, List.length_append]
  exact ⟨rfl, rfl⟩
set_option maxRecDepth 100000 in
set_option maxHeartbeats 4000000 in
theorem refFill_c (A : Option Addr) (c : Nat) (v : Int) (g : GraphD) (w : World) (hh : RowsAt w A g) (hz : Sized g) :
    Calls Try.prog 23 #[.slice A g.length c, .int .i64 v] w fun x w' => Below w.heap.size w w' ∧ FillRes g v w.heap.size x w' := by
  have CV := Lib.hid (refGValid_c A c g w hh hz.1 hz.2)
  have HB0 := Lib.hid (Below.refl w.heap.size w)
  rcases hv : validG g with _ | _
  · have HV := Lib.hid hv
    rw [hv] at CV
    clear hh hz hv
    go_enter Try.func23, Try.ntmps23
    go_wp2_with fail
    refine CV.out.mono ?_
    rintro x w1 ⟨rfl, rfl⟩
    clear CV
    go_wp2
    go_ret2
    exact ⟨HB0.out, fil_bad HV.out⟩
  · have HV := Lib.hid hv
    rw [hv] at CV
    by_cases hin : 0 ≤ v ∧ v < g.length
    · obtain ⟨e, rfl⟩ := Int.eq_ofNat_of_zero_le hin.1
      have he : e < g.length := by omega
      have heg : ¬ g.length ≤ e := by omega
      have hen : ¬ (e : Int) < 0 := by omega
      have CD : Hid (∀ (S : Option Addr) (W : World) (x : Nat), RowsAt W A g → Holds W S ((opensT g.length).map Bo) → x < g.length → Calls Try.prog 45 #[.slice A g.length c, .slice S g.length g.length, .int .i64 x] W fun e w' => ∃ v, e = .returned v ∧ w'.ownsRow W.heap.size 3 1 v g.length ((distF g (opensT g.length) x).map Iv) ∧ Below W.heap.size W w') := Lib.hid (fun S W x h1 h2 h3 => by
        have h := dist_c A S c g.length g (opensT g.length) x W h1 h2 hv (opens_len _) h3
        rwa [opens_len] at h)
      have CF : Hid (∀ (S : Option Addr) (W : World) (x : Nat), RowsAt W A g → Holds W S ((opensT g.length).map Bo) → x < g.length → Calls Try.prog 46 #[.slice A g.length c, .slice S g.length g.length, .int .i64 e, .int .i64 x] W fun e_1 w' => ∃ v, e_1 = .returned v ∧ w'.ownsRow W.heap.size 3 1 v (firstF g (opensT g.length) e x).length ((firstF g (opensT g.length) e x).map Iv) ∧ Below W.heap.size W w') := Lib.hid (fun S W x h1 h2 h3 => by
        have h := first_c A S c g.length g (opensT g.length) e x W h1 h2 hv (opens_len _) he h3
        rwa [opens_len] at h)
      have HRg : Hid (∀ x ∈ girF g (opensT g.length), 0 ≤ x ∧ x < g.length) := Lib.hid (fun x hx => by
        have hw : girF g (opensT g.length) ≠ [] := fun h => by rw [h] at hx; cases hx
        have := (gir_closed hv hw).walk.ok x hx
        exact ⟨this.1, this.2.1⟩)
      have hl24 : (girF g (opensT g.length)).length ≤ 24 := gir_few (sh := opensT g.length) hv
      have CW : Hid (∀ W, Below w.heap.size w W → Calls Try.prog 44 #[.slice A g.length c] W fun e w' => ∃ u, e = .returned u ∧ w'.ownsRow W.heap.size 3 1 u (girF g (opensT g.length)).length ((girF g (opensT g.length)).map Iv) ∧ Below W.heap.size W w') := Lib.hid (fun W hW => refWalk_c A c g W (hh.keep hW) hv)
      have HH := Lib.hid hh
      have hg24 := validG_len hv
      clear hh hz hv hin
      go_enter Try.func23, Try.ntmps23
      go_wp2_with fail
      refine CV.out.mono ?_
      rintro x w1 ⟨rfl, rfl⟩
      clear CV
      go_upto_region 5 with fail
      obtain ⟨mk, hmk⟩ := make_fun g.length hg24
      have HMk := Lib.hid (fun W => (hmk W).2)
      have hmk1 := fun W => (hmk W).1
      clear hmk
      have HBd : Hid (Below w.heap.size w w.drew) := Lib.hid HB0.out.drew
      have HBm : Hid (Below w.heap.size w (mk w.drew)) := Lib.hid (HBd.out.trans ((HMk.out w.drew).2.mono HBd.out.size))
      go_cut [6, 7] (fun vw vo wx => ∃ AW cW S, vw = .slice AW (girF g (opensT g.length)).length cW ∧ vo = .slice (some ⟨S, 0, none⟩) g.length g.length ∧ Hid (wx.ownsRow w.heap.size 3 1 vw (girF g (opensT g.length)).length ((girF g (opensT g.length)).map Iv)) ∧ Hid (Holds wx (some ⟨S, 0, none⟩) ((opensT g.length).map Bo)) ∧ Hid (Below w.heap.size w wx))
      case first =>
        go_region_with (first | (go_at_call 44; refine (CW.out _ (by first | exact HBd.out | exact HBm.out)).mono ?_; rintro x w2 ⟨u, rfl, hu, hb2⟩))
        all_goals
          have HU2 := Lib.hid hu
          have HL2 := Lib.hid hb2
          clear hu hb2
          obtain ⟨AW, cW, rfl, hhW⟩ := own_is HU2.out
          clear hhW
          go_wp2_with fail
          go_meet
          case rel =>
            first
            | (have hq := HMk.out w2; have hb : Hid (Below w.heap.size w w2) := Lib.hid (HBd.out.trans (HL2.out.mono HBd.out.size)); exact ⟨AW, cW, w2.heap.size, rfl, rfl, Lib.hid (ownsRow_below (ownsRow_base HU2.out HBd.out.size) hq.2), Lib.hid hq.1, Lib.hid (hb.out.trans (hq.2.mono hb.out.size))⟩)
            | (have hq := HMk.out w.drew; exact ⟨AW, cW, w.heap.size, rfl, rfl, Lib.hid (ownsRow_base HU2.out HBm.out.size), Lib.hid (Holds.keep hq.1 HL2.out), Lib.hid (HBm.out.trans (HL2.out.mono HBm.out.size))⟩)
      case rest =>
        obtain ⟨AW, cW, S, rfl, rfl, HW, HS, HB⟩ := hcut
        have HNear : Hid (nearP g e = (nearK g (opensT g.length) (girF g (opensT g.length)) e (girF g (opensT g.length)).length).2) := Lib.hid rfl
        have HFm : Hid (fillM g e = fillK (firstF g (opensT g.length) e (atI (girF g (opensT g.length)) (nearP g e)).toNat) (girF g (opensT g.length)) (nearP g e).toNat (girF g (opensT g.length)).length) := Lib.hid rfl
        have HG := Lib.hid (HH.out.keep HB.out)
        have HHW : Hid (Holds wc AW ((girF g (opensT g.length)).map Iv)) := Lib.hid (by
          obtain ⟨A9, c9, h8, h9⟩ := own_is HW.out
          injection h8 with h8
          rw [h8]; exact h9)
        obtain ⟨l, hl⟩ : ∃ l, girF g (opensT g.length) = l := ⟨_, rfl⟩
        rw [hl] at HNear HFm HW HHW HRg hl24
        rw [hl]
        clear hl CW HMk hmk1 HBd HBm HB0 HH
        go_wp2
        go_loopw [8, 9, 10] (fun bv av i wr => ∃ (k : Nat) (b a : Int), bv = .int .i64 b ∧ av = .int .i64 a ∧ i = .int .i64 k ∧ k ≤ l.length ∧ Hid (nearK g (opensT g.length) l e k = (b, a)) ∧ Hid (Below wc.heap.size wc wr)) (fun _ _ i _ => l.length - (intOf i).toNat)
        case atStart => exact ⟨0, -1, -1, rfl, rfl, rfl, Nat.zero_le _, Lib.hid rfl, Lib.hid (Below.refl _ _)⟩
        case round =>
          obtain ⟨k, b, a, rfl, rfl, rfl, hk, HK, HBr⟩ := hrel
          by_cases hlt : k < l.length
          · obtain ⟨bW, oW, rfl, e0⟩ := (HHW.out.keep HBr.out).iv hlt
            have hrg := HRg.out _ (List.getElem_mem hlt)
            obtain ⟨xn, hxn⟩ := Int.eq_ofNat_of_zero_le hrg.1
            have hxg : xn < g.length := by omega
            have HStep := Lib.hid (fun d => near_step (d := d) HK.out hlt hxn)
            have HAt := Lib.hid (near_at HK.out)
            rw [hxn] at e0
            clear hrg hxn
            have CDx := Lib.hid (CD.out (some ⟨S, 0, none⟩) wr xn (HG.out.keep HBr.out) (HS.out.keep HBr.out) hxg)
            go_wp2_with fail
            refine CDx.out.mono ?_
            rintro x w2 ⟨v, rfl, hv2, hb2⟩
            obtain ⟨q, cq, rfl, _, _⟩ := own_at hv2 (show 0 < g.length by omega)
            have hdl : e < (distF g (opensT g.length) xn).length := by have := hv2.1; rw [List.length_map] at this; omega
            have e1 := (own_get hv2 (i := e) (u := Iv (distF g (opensT g.length) xn)[e]) (by rw [List.getElem?_map, List.getElem?_eq_getElem hdl]; rfl)).1
            have hda : dAt (distF g (opensT g.length) xn) e = (distF g (opensT g.length) xn)[e] := by unfold dAt; rw [List.getD_eq_getElem?_getD, List.getElem?_eq_getElem hdl]; rfl
            have HB2 := Lib.hid (HBr.out.trans (hb2.mono HBr.out.size))
            have e2 : w2.cell? ⟨bW, oW + k, none⟩ = some (.int .i64 xn) := (hb2.cell (p := ⟨bW, oW + k, none⟩) (World.block_lt_of_cell? _ _ e0)).trans e0
            have HSt := Lib.hid (HStep.out _ hda)
            clear hv2 hb2 CDx HBr HK HStep e0 hda
            generalize (distF g (opensT g.length) xn)[e] = d at *
            clear hdl
            by_cases c0 : 0 ≤ d
            · by_cases c1 : b < 0
              · have HR : Hid (nearK g (opensT g.length) l e (k + 1) = (d, (k : Int))) := Lib.hid (HSt.out.trans (if_pos (⟨c0, .inl c1⟩)))
                clear HSt HAt
                go_wp2_with fail
                go_quiet (fail)
                go_wp2
                go_roundw
                case rel => exact ⟨k + 1, d, (k : Int), rfl, rfl, by go_num, by omega, HR, Lib.hid (below_drewN HB2.out _)⟩
                case measure => simp [intOf]; omega
              · have HP := HAt.out (by omega)
                have f1 : decide (b < 0) = false := decide_eq_false c1
                by_cases c2 : d < b
                · have HR : Hid (nearK g (opensT g.length) l e (k + 1) = (d, (k : Int))) := Lib.hid (HSt.out.trans (if_pos (⟨c0, .inr (.inl c2)⟩)))
                  clear HP
                  clear HSt HAt
                  go_wp2_with fail
                  go_quiet (fail)
                  go_wp2
                  go_roundw
                  case rel => exact ⟨k + 1, d, (k : Int), rfl, rfl, by go_num, by omega, HR, Lib.hid (below_drewN HB2.out _)⟩
                  case measure => simp [intOf]; omega
                · have f2 : decide (d < b) = false := decide_eq_false c2
                  by_cases c3 : d = b
                  · subst c3
                    obtain ⟨p, hp, rfl⟩ := HP
                    have hpl : p < l.length := by omega
                    obtain ⟨bW', oW', hA, e3⟩ := (HHW.out.keep HB2.out).iv hpl
                    injection hA with hA
                    injection hA with q1 q2
                    subst q1 q2
                    rw [Fl.atI_get hpl] at HSt
                    generalize l[p] = y at *
                    by_cases c4 : (xn : Int) < y
                    · have HR : Hid (nearK g (opensT g.length) l e (k + 1) = (d, (k : Int))) := Lib.hid (HSt.out.trans (if_pos (⟨c0, .inr (.inr ⟨rfl, c4⟩)⟩)))
                      clear HSt HAt
                      go_wp2_with fail
                      go_quiet (fail)
                      go_wp2
                      go_roundw
                      case rel => exact ⟨k + 1, d, (k : Int), rfl, rfl, by go_num, by omega, HR, Lib.hid (below_drewN HB2.out _)⟩
                      case measure => simp [intOf]; omega
                    · have f4 : decide ((xn : Int) < y) = false := decide_eq_false c4
                      have HR : Hid (nearK g (opensT g.length) l e (k + 1) = (d, (p : Int))) := Lib.hid (HSt.out.trans (if_neg (fun h => by
                          rcases h.2 with h | h | h
                          · exact c1 h
                          · exact c2 h
                          · exact c4 h.2)))
                      clear HSt HAt
                      go_wp2_with fail
                      go_quiet (fail)
                      go_wp2
                      go_roundw
                      case rel => exact ⟨k + 1, d, (p : Int), rfl, rfl, by go_num, by omega, HR, Lib.hid (below_drewN HB2.out _)⟩
                      case measure => simp [intOf]; omega
                  · have f3 : (d == b) = false := by rw [beq_eq_false_iff_ne]; exact c3
                    clear HP
                    have HR : Hid (nearK g (opensT g.length) l e (k + 1) = (b, a)) := Lib.hid (HSt.out.trans (if_neg (fun h => by
                        rcases h.2 with h | h | h
                        · exact c1 h
                        · exact c2 h
                        · exact c3 h.1)))
                    clear HSt HAt
                    go_wp2_with fail
                    go_quiet (fail)
                    go_wp2
                    go_roundw
                    case rel => exact ⟨k + 1, b, a, rfl, rfl, by go_num, by omega, HR, Lib.hid (below_drewN HB2.out _)⟩
                    case measure => simp [intOf]; omega
            · have f0 : decide (0 ≤ d) = false := decide_eq_false c0
              have HR : Hid (nearK g (opensT g.length) l e (k + 1) = (b, a)) := Lib.hid (HSt.out.trans (if_neg (fun h => c0 h.1)))
              clear HSt HAt
              go_wp2_with fail
              go_quiet (fail)
              go_wp2
              go_roundw
              case rel => exact ⟨k + 1, b, a, rfl, rfl, by go_num, by omega, HR, Lib.hid (below_drewN HB2.out _)⟩
              case measure => simp [intOf]; omega
          · obtain rfl : k = l.length := by omega
            have HNp : Hid (nearP g e = a) := Lib.hid (by rw [HNear.out, HK.out])
            have HBw := Lib.hid (HB.out.trans (HBr.out.mono HB.out.size))
            rcases near_neg HK.out with ⟨hb0, ha0⟩ | ⟨rfl, rfl⟩
            · obtain ⟨p, hp, rfl⟩ := near_at HK.out hb0
              obtain ⟨bW, oW, rfl, e0⟩ := (HHW.out.keep HBr.out).iv hp
              have hrg := HRg.out _ (List.getElem_mem hp)
              obtain ⟨gn, hgn⟩ := Int.eq_ofNat_of_zero_le hrg.1
              have hgg : gn < g.length := by omega
              have HPt := Lib.hid (near_path HV.out he HK.out hp hgn hgg)
              have HFm2 : Hid (fillM g e = fillK (firstF g (opensT g.length) e gn) l p l.length) := Lib.hid (by rw [HFm.out, HNp.out, Fl.atI_get hp, hgn, Int.toNat_natCast, Int.toNat_natCast])
              have CFx := Lib.hid (CF.out (some ⟨S, 0, none⟩) wr gn (HG.out.keep HBr.out) (HS.out.keep HBr.out) hgg)
              have hP25 : (firstF g (opensT g.length) e gn).length ≤ 25 := firstF_short HV.out hgg
              rw [hgn] at e0
              have h0P := HPt.out.pos
              have h0e : atI (firstF g (opensT g.length) e gn) 0 = (e : Int) := path_at HPt.out.first
              have HWr := Lib.hid (HHW.out.keep HBr.out)
              clear hrg hgn HPt HFm CD CF HK HBr HNear ha0
              go_wp2_with fail
              refine CFx.out.mono ?_
              rintro x wd ⟨v, rfl, hvd, hbd⟩
              obtain ⟨AP, cP, rfl, hhP⟩ := own_is hvd
              have HP := Lib.hid hhP
              have HWd := Lib.hid (HWr.out.keep hbd)
              have HBd := Lib.hid (HBw.out.trans (hbd.mono HBw.out.size))
              clear hvd hbd hhP CFx HWr HBw e0
              obtain ⟨P, hPe⟩ : ∃ P, firstF g (opensT g.length) e gn = P := ⟨_, rfl⟩
              rw [hPe] at HFm2 hP25 h0P h0e HP
              rw [hPe]
              clear hPe
              have HO0 : Hid (wd.ownsRow wd.heap.size 42 3 (.slice none 0 0) (fillK P l p 0).length (moveCells (fillK P l p 0))) := Lib.hid (World.ownsRow_nil _ _ _ _)
              have HBd0 := Lib.hid (Below.refl wd.heap.size wd)
              go_wp2
              go_loopw [13, 14] (fun ov kv wr => ∃ k : Nat, kv = .int .i64 k ∧ k ≤ l.length ∧ Hid (wr.ownsRow wd.heap.size 42 3 ov (fillK P l p k).length (moveCells (fillK P l p k))) ∧ Hid (Below wd.heap.size wd wr)) (fun _ kv _ => l.length - (intOf kv).toNat)
              case atStart => exact ⟨0, rfl, Nat.zero_le _, HO0, HBd0⟩
              case round =>
                clear HO0 HBd0
                obtain ⟨k, rfl, hk, HO, HBk⟩ := hrel
                by_cases hkl : k < l.length
                · have HNext : Hid (fillK P l p (k + 1) = fillK P l p k ++ [⟨k, -1, (e : Int)⟩] ++ legA P k (P.length - 1) ++ legB l p k (l.length - 1 - k)) := Lib.hid (by rw [fillK_next, h0e])
                  have hkb : (fillK P l p k).length ≤ 1152 := Nat.le_trans (fillK_len P l p hP25 hl24 k) (by omega)
                  obtain ⟨iM, hiM, hzM, hsM, hbM⟩ := info_parts Try.infoMove
                  obtain ⟨L0, hL0⟩ : ∃ L0, fillK P l p k ++ [(⟨k, -1, (e : Int)⟩ : MoveD)] = L0 := ⟨_, rfl⟩
                  have HC1 := Lib.hid (cells_one hL0.symm)
                  rw [hL0] at HNext
                  have hl0b : L0.length ≤ 1200 := by rw [HC1.out.2]; omega
                  clear hL0
                  generalize fillK P l p k = LK at *
                  have hob := HO.out.lt
                  have hszv := HBk.out.size
                  go_wp2_with (at_builtin; refine wpList_append_own _ rfl _ _ 37 rfl wd.heap.size 42 iM (.agg #[.int .i64 0, .int .i64 0, .int .i64 0]) 3 24 Try.underlying37 hiM hzM hsM hbM rfl (by decide) _ _ _ rfl (HO.out.alloc _) ⟨wr.heap.size, 0, none⟩ 1 1 [.int .i64 (k : Int), .int .i64 (-1), .int .i64 (e : Int)] rfl rfl (World.news_of_block (heap_alloc_new _ _)) (by simp [Value.oneCell']) (by unfold maxLen; omega) (by omega) (by simp; omega) ?_)
                  intro v8 w8 own8 hg8 _
                  have HO8 : Hid (w8.ownsRow wd.heap.size 42 3 v8 (L0 ++ legA P k (1 - 1)).length (moveCells (L0 ++ legA P k (1 - 1)))) := Lib.hid (by rw [show legA P k (1 - 1) = [] from rfl, List.append_nil, HC1.out.1, HC1.out.2]; exact own8)
                  have HB8 := Lib.hid ((HBk.out.alloc hszv (.cells #[.int .i64 (k : Int), .int .i64 (-1), .int .i64 (e : Int)] 42)).grown hg8 (by simp; omega) (fun k hk => (hob k hk).1))
                  clear own8 hg8 HO HBk hob HC1 hkb hszv
                  go_wp2
                  go_loopw [13, 15] (fun ov iv wr => ∃ i : Nat, iv = .int .i64 i ∧ 1 ≤ i ∧ i ≤ P.length ∧ Hid (wr.ownsRow wd.heap.size 42 3 ov (L0 ++ legA P k (i - 1)).length (moveCells (L0 ++ legA P k (i - 1)))) ∧ Hid (Below wd.heap.size wd wr)) (fun _ iv _ => P.length - (intOf iv).toNat)
                  case atStart => exact ⟨1, rfl, Nat.le_refl _, by omega, HO8, HB8⟩
                  case round =>
                    clear HO8 HB8
                    obtain ⟨i, rfl, hi1, hi2, HO, HBj⟩ := hrel
                    by_cases hil : i < P.length
                    · obtain ⟨bP, oP, rfl, e2⟩ := (HP.out.keep HBj.out).iv hil
                      obtain ⟨b', o', hA, e1⟩ := (HP.out.keep HBj.out).iv (show i - 1 < P.length by omega)
                      injection hA with hA
                      injection hA with q1 q2
                      subst q1 q2
                      obtain ⟨yA, hyA⟩ : ∃ y, atI P ((i - 1 : Nat) : Int) = y := ⟨_, rfl⟩
                      obtain ⟨yB, hyB⟩ : ∃ y, atI P (i : Int) = y := ⟨_, rfl⟩
                      rw [← Fl.atI_get hil, hyB] at e2
                      rw [← Fl.atI_get (show i - 1 < P.length by omega), hyA] at e1
                      have hsub1 : (i : Int) - 1 = ((i - 1 : Nat) : Int) := by omega
                      have hwi : IntKind.i64.wrap ((i - 1 : Nat) : Int) = ((i - 1 : Nat) : Int) := IntWalk.i64_in _ (by omega)
                      have hip : i - 1 < P.length := by omega
                      have HNxt := Lib.hid (cells_one (show L0 ++ legA P k (i + 1 - 1) = (L0 ++ legA P k (i - 1)) ++ [⟨k, yA, yB⟩] from by rw [show i + 1 - 1 = i - 1 + 1 by omega, legA_succ, ← List.append_assoc, show i - 1 + 1 = i by omega, hyA, hyB]))
                      have hlj : (L0 ++ legA P k (i - 1)).length ≤ 2000 := by rw [List.length_append, legA_len]; omega
                      have hob := HO.out.lt
                      have hszv := HBj.out.size
                      have HOd := Lib.hid HO.out.drew
                      have HNew : Hid (∀ (Wx : World) ob, (Wx.alloc ob).heap[Wx.heap.size]? = some ob) := Lib.hid (fun Wx ob => heap_alloc_new Wx ob)
                      clear hyA hyB HO
                      generalize hLL : (L0 ++ legA P k (i - 1)).length = nL at *
                      go_upto_region 24 with fail
                      go_region_law (first | (refine step_append_lies _ (by rfl) _ _ _ (by rfl) wd.heap.size 42 iM (.agg #[.int .i64 0, .int .i64 0, .int .i64 0]) 3 24 Try.underlying37 hiM hzM hsM hbM rfl (by decide) _ _ _ (by rfl) (HOd.out.alloc _) ⟨_, 0, none⟩ 1 1 [.int .i64 (k : Int), .int .i64 yA, .int .i64 yB] (by rfl) (by rfl) (World.news_of_block (cs := #[.int .i64 (k : Int), .int .i64 yA, .int .i64 yB]) (t := 42) (fr := (0, 0)) (HNew.out _ _)) (by simp [Value.oneCell']) (by omega) (by unfold maxLen; omega) (by omega) (by have := HBj.out.size; simp; omega) _ rfl ?_; intro g1 cap1 wn hown1 hgrow hat hlt; have HOn := Lib.hid hown1; have HGn := Lib.hid hgrow; clear hown1 hgrow hat hlt))
                      all_goals
                        have HO2 : Hid (wn.ownsRow wd.heap.size 42 3 (.slice (some ⟨g1, 0, none⟩) (nL + 1) cap1) (L0 ++ legA P k (i + 1 - 1)).length (moveCells (L0 ++ legA P k (i + 1 - 1)))) := Lib.hid (by rw [HNxt.out.1, HNxt.out.2]; exact HOn.out)
                        have HB2 : Hid (Below wd.heap.size wd wn) := Lib.hid (((HBj.out.drew).alloc (by simp; omega) _).grown HGn.out (by simp; omega) (fun k hk => (hob k hk).1))
                        clear HOn HGn HOd hob HBj HNxt
                        go_wp2
                        go_roundw
                        case rel => exact ⟨i + 1, by go_num, by omega, by omega, HO2, HB2⟩
                        case measure => simp [intOf]; omega
                    · obtain rfl : i = P.length := by omega
                      obtain ⟨L1, hL1⟩ : ∃ L1, L0 ++ legA P k (P.length - 1) = L1 := ⟨_, rfl⟩
                      have hl1 : L1.length ≤ 1300 := by rw [← hL1, List.length_append, legA_len]; omega
                      rw [hL1] at HNext HO
                      clear hL1
                      have HO8 : Hid (wr.ownsRow wd.heap.size 42 3 u13 (L1 ++ legB l p k (1 - 1)).length (moveCells (L1 ++ legB l p k (1 - 1)))) := Lib.hid (by rw [show legB l p k (1 - 1) = [] from rfl, List.append_nil]; exact HO.out)
                      have HB8 := HBj
                      have hsubk : (l.length : Int) - (k : Int) = ((l.length - k : Nat) : Int) := by omega
                      have hkn : 1 ≤ l.length - k := by omega
                      clear HO HBj
                      go_wp2
                      go_loopw [13, 16] (fun ov iv wr => ∃ i : Nat, iv = .int .i64 i ∧ 1 ≤ i ∧ i ≤ (l.length - k) ∧ Hid (wr.ownsRow wd.heap.size 42 3 ov (L1 ++ legB l p k (i - 1)).length (moveCells (L1 ++ legB l p k (i - 1)))) ∧ Hid (Below wd.heap.size wd wr)) (fun _ iv _ => (l.length - k) - (intOf iv).toNat)
                      case atStart => exact ⟨1, rfl, Nat.le_refl _, by omega, HO8, HB8⟩
                      case round =>
                        clear HO8 HB8
                        obtain ⟨i, rfl, hi1, hi2, HO, HBj⟩ := hrel
                        by_cases hil : i < (l.length - k)
                        · have hl0 : 0 < l.length := by omega
                          have hil24 : i < 24 := by omega
                          have hu1 : (p + (i - 1)) % l.length < l.length := Nat.mod_lt _ hl0
                          have hu2 : (p + i) % l.length < l.length := Nat.mod_lt _ hl0
                          obtain ⟨b'', o'', hA, e1⟩ := (HWd.out.keep HBj.out).iv hu1
                          injection hA with hA
                          injection hA with q1 q2
                          subst q1 q2
                          obtain ⟨b', o', hA, e2⟩ := (HWd.out.keep HBj.out).iv hu2
                          injection hA with hA
                          injection hA with q1 q2
                          subst q1 q2
                          obtain ⟨yA, hyA⟩ : ∃ y, wv l (p + (i - 1)) = y := ⟨_, rfl⟩
                          obtain ⟨yB, hyB⟩ : ∃ y, wv l (p + i) = y := ⟨_, rfl⟩
                          rw [← wv_get hl0, hyA] at e1
                          rw [← wv_get hl0, hyB] at e2
                          obtain ⟨z1, hz1⟩ : ∃ z, (p + (i - 1)) % l.length = z := ⟨_, rfl⟩
                          obtain ⟨z2, hz2⟩ : ∃ z, (p + i) % l.length = z := ⟨_, rfl⟩
                          have hm1 : ((p : Int) + (i : Int) - 1).tmod (l.length : Int) = (z1 : Int) := by
                            rw [Int.tmod_eq_emod_of_nonneg (by omega), ← hz1, Int.natCast_emod]
                            congr 1
                            omega
                          have hm2 : ((p : Int) + (i : Int)).tmod (l.length : Int) = (z2 : Int) := by
                            rw [Int.tmod_eq_emod_of_nonneg (by omega), ← hz2, Int.natCast_emod]
                            congr 1
                          have hlne : ¬ l = [] := fun h => by rw [h] at hl0; simp at hl0
                          have hwp : IntKind.i64.wrap ((p : Int) + (i : Int)) = (p : Int) + (i : Int) := IntWalk.i64_in _ (by omega)
                          have hwq : IntKind.i64.wrap ((p : Int) + (i : Int) - 1) = (p : Int) + (i : Int) - 1 := IntWalk.i64_in _ (by omega)
                          have hwz1 : IntKind.i64.wrap (z1 : Int) = (z1 : Int) := IntWalk.i64_in _ (by omega)
                          have hwz2 : IntKind.i64.wrap (z2 : Int) = (z2 : Int) := IntWalk.i64_in _ (by omega)
                          rw [hz1] at hu1 e1
                          rw [hz2] at hu2 e2
                          clear hz1 hz2
                          have HNxt := Lib.hid (cells_one (show L1 ++ legB l p k (i + 1 - 1) = (L1 ++ legB l p k (i - 1)) ++ [⟨k, yA, yB⟩] from by rw [show i + 1 - 1 = i - 1 + 1 by omega, legB_succ, ← List.append_assoc, show i - 1 + 1 = i by omega, hyA, hyB]))
                          have hlj : (L1 ++ legB l p k (i - 1)).length ≤ 2000 := by rw [List.length_append, legB_len]; omega
                          have hob := HO.out.lt
                          have hszv := HBj.out.size
                          have HOd := Lib.hid HO.out.drew
                          have HNew : Hid (∀ (Wx : World) ob, (Wx.alloc ob).heap[Wx.heap.size]? = some ob) := Lib.hid (fun Wx ob => heap_alloc_new Wx ob)
                          clear hyA hyB HO
                          generalize hLL : (L1 ++ legB l p k (i - 1)).length = nL at *
                          go_upto_region 28 with fail
                          go_region_law (first | (refine step_append_lies _ (by rfl) _ _ _ (by rfl) wd.heap.size 42 iM (.agg #[.int .i64 0, .int .i64 0, .int .i64 0]) 3 24 Try.underlying37 hiM hzM hsM hbM rfl (by decide) _ _ _ (by rfl) (HOd.out.alloc _) ⟨_, 0, none⟩ 1 1 [.int .i64 (k : Int), .int .i64 yA, .int .i64 yB] (by rfl) (by rfl) (World.news_of_block (cs := #[.int .i64 (k : Int), .int .i64 yA, .int .i64 yB]) (t := 42) (fr := (0, 0)) (HNew.out _ _)) (by simp [Value.oneCell']) (by omega) (by unfold maxLen; omega) (by omega) (by have := HBj.out.size; simp; omega) _ rfl ?_; intro g1 cap1 wn hown1 hgrow hat hlt; have HOn := Lib.hid hown1; have HGn := Lib.hid hgrow; clear hown1 hgrow hat hlt))
                          all_goals
                            have HO2 : Hid (wn.ownsRow wd.heap.size 42 3 (.slice (some ⟨g1, 0, none⟩) (nL + 1) cap1) (L1 ++ legB l p k (i + 1 - 1)).length (moveCells (L1 ++ legB l p k (i + 1 - 1)))) := Lib.hid (by rw [HNxt.out.1, HNxt.out.2]; exact HOn.out)
                            have HB2 : Hid (Below wd.heap.size wd wn) := Lib.hid (((HBj.out.drew).alloc (by simp; omega) _).grown HGn.out (by simp; omega) (fun k hk => (hob k hk).1))
                            clear HOn HGn HOd hob HBj HNxt
                            go_wp2
                            go_roundw
                            case rel => exact ⟨i + 1, by go_num, by omega, by omega, HO2, HB2⟩
                            case measure => simp [intOf]; omega
                        · obtain rfl : i = (l.length - k) := by omega
                          have HO9 : Hid (wr.ownsRow wd.heap.size 42 3 u13 (fillK P l p (k + 1)).length (moveCells (fillK P l p (k + 1)))) := Lib.hid (by
                            rw [HNext.out, show l.length - 1 - k = l.length - k - 1 by omega]; exact HO.out)
                          clear HO
                          go_wp2
                          go_roundw
                          case rel => exact ⟨k + 1, by go_num, by omega, HO9, HBj⟩
                          case measure => simp [intOf]; omega
                · obtain rfl : k = l.length := by omega
                  have HRes : Hid (FillRes g e w.heap.size (.returned (.tuple #[u13, .int .i64 0])) wr) := Lib.hid (.inr (.inr (.inr ⟨HV.out, by omega, by rw [Int.toNat_natCast, HNp.out]; omega, u13, rfl, by rw [Int.toNat_natCast, HFm2.out]; exact ownsRow_base HO.out HBd.out.size⟩)))
                  have HBz := Lib.hid (HBd.out.trans (HBk.out.mono HBd.out.size))
                  clear HO
                  go_wp2
                  go_ret2
                  exact ⟨HBz.out, HRes.out⟩
            · go_wp2
              go_ret2
              exact ⟨HBw.out, fil_none HV.out (by omega) (by rw [HNp.out]; omega)⟩
    · have HOut : Hid (FillRes g v w.heap.size (.returned (.tuple #[.slice none 0 0, .int .i64 19])) w) := Lib.hid (.inr (.inl ⟨HV.out, hin, rfl⟩))
      clear hh hz hv
      by_cases hv0 : v < 0
      · go_enter Try.func23, Try.ntmps23
        go_wp2_with fail
        refine CV.out.mono ?_
        rintro x w1 ⟨rfl, rfl⟩
        clear CV
        go_wp2
        go_ret2
        exact ⟨HB0.out, HOut.out⟩
      · obtain ⟨e, rfl⟩ := Int.eq_ofNat_of_zero_le (show 0 ≤ v by omega)
        have hle : g.length ≤ e := by omega
        clear hin
        go_enter Try.func23, Try.ntmps23
        go_wp2_with fail
        refine CV.out.mono ?_
        rintro x w1 ⟨rfl, rfl⟩
        clear CV
        go_wp2
        go_ret2
        exact ⟨HB0.out, HOut.out⟩
end Go.Proofs.Ytfgpenekmokdiaa
