/- Joined texts. -/
import Derived.Test.YtfgpenekmokdiaaMzAV
import Derived.Test.YtfgpenekmokdiaaMzAW
import Derived.Test.YtfgpenekmokdiaaMzAZ
import Derived.Test.YtfgpenekmokdiaaMzBC
import Derived.Test.YtfgpenekmokdiaaMzAL
import Derived.Test.YtfgpenekmokdiaaMzAR
namespace Go.Proofs.Ytfgpenekmokdiaa
open Go Go.RowKit Fl

theorem srtL_mem (l : List Int) (z : Int) : z ∈ srtL l ↔ z ∈ l := (List.mergeSort_perm l _).mem_iff
theorem srtL_sorted (l : List Int) : (srtL l).Pairwise (· ≤ ·) := by
  have h := List.pairwise_mergeSort (le := fun x y : Int => decide (x ≤ y)) (fun a b c h1 h2 => by simp at h1 h2 ⊢; omega) (fun a b => by simp; omega) l
  exact h.imp (fun h => of_decide_eq_true h)
theorem patT_ok {g : GraphD} {e x : Nat} (hg : validG g = true) (he : e < g.length) (hx : x < g.length) : patL g (opensT g.length) (e : Int) (x : Int) = firstF g (opensT g.length) e x ∧ twoE g (opensT g.length).length (e : Int) (x : Int) = 0 := by
  have h0 : twoE g (opensT g.length).length (e : Int) (x : Int) = 0 := by
    unfold twoE chkG
    rw [hg, opens_len]
    simp
    omega
  refine ⟨?_, h0⟩
  unfold patL
  rw [if_pos h0, Int.toNat_natCast, Int.toNat_natCast]
set_option maxRecDepth 100000 in
set_option maxHeartbeats 4000000 in
theorem shortest_c (A W : Option Addr) (c cw e : Nat) (g : GraphD) (l : List Int) (w : World) (hh : RowsAt w A g) (hW : Holds w W (l.map Iv)) (hg : validG g = true) (he : e < g.length) (hl : l.length ≤ 24) (hr : ∀ x ∈ l, 0 ≤ x ∧ x < g.length) :
    Calls Try.prog 51 #[.slice A g.length c, .int .i64 e, .slice W l.length cw] w fun x w' => ∃ u, x = .returned u ∧ w'.ownsRow w.heap.size 3 1 u (bstK g (opensT g.length) e (srtL l) l.length).length ((bstK g (opensT g.length) e (srtL l) l.length).map Iv) ∧ Below w.heap.size w w' := by
  have HH := Lib.hid hh
  have HW := Lib.hid hW
  have HZ := Lib.hid (Sized.valid hg)
  have HPk := Lib.hid (fun (x : Nat) hx => patT_ok (x := x) hg he hx)
  have HB0 := Lib.hid ((Below.refl w.heap.size w).alloc (Nat.le_refl _) (.cells #[.slice W l.length cw] 23))
  have hc0 : (w.alloc (.cells #[.slice W l.length cw] 23)).cell? ⟨w.heap.size, 0, none⟩ = some (.slice W l.length cw) := by rw [cell_of_row _ _ 0 _ _ _ (heap_alloc_new w _)]; rfl
  have CS := Lib.hid (sorted_c W cw w.heap.size l (w.alloc (.cells #[.slice W l.length cw] 23)) hc0 (hW.keep HB0.out) (by omega))
  have CV := Lib.hid (values_c W l.length cw w)
  have hsl := srtL_length l
  have HR : Hid (∀ x ∈ srtL l, 0 ≤ x ∧ x < g.length) := Lib.hid (fun x hx => hr x ((srtL_mem l x).1 hx))
  have hg24 := validG_len hg
  have CNn := Lib.hid (fun wr => noneShut_c A g.length c wr hg24)
  have HSu : Hid (∀ k, bstK g (opensT g.length) e (srtL l) (k + 1) = if 0 < (firstF g (opensT g.length) e (atI (srtL l) k).toNat).length ∧ ((bstK g (opensT g.length) e (srtL l) k).length = 0 ∨ (firstF g (opensT g.length) e (atI (srtL l) k).toNat).length < (bstK g (opensT g.length) e (srtL l) k).length) then firstF g (opensT g.length) e (atI (srtL l) k).toNat else bstK g (opensT g.length) e (srtL l) k) := Lib.hid (fun k => rfl)
  have HFs := Lib.hid (fun (x : Nat) (hx : x < g.length) => firstF_short (s := opensT g.length) (a := e) hg hx)
  have HBz : Hid (bstK g (opensT g.length) e (srtL l) 0 = []) := Lib.hid rfl
  have hbig : ∀ k, k ≤ l.length → (bstK g (opensT g.length) e (srtL l) k).length ≤ 25 := by
    intro k
    induction k with
    | zero => intro _; rw [HBz.out]; simp
    | succ k ih =>
      intro hk
      rw [HSu.out k]
      split
      · have hkl : k < (srtL l).length := by omega
        rw [Fl.atI_get hkl]
        have := HR.out _ (List.getElem_mem hkl)
        exact HFs.out _ (by omega)
      · exact ih (by omega)
  have HBig := Lib.hid hbig
  clear hh hW hg hr hc0 hbig
  obtain ⟨S, hS⟩ : ∃ S, srtL l = S := ⟨_, rfl⟩
  rw [hS] at CS hsl HR HSu HBz HBig ⊢
  clear hS
  generalize hbs : bstK g (opensT g.length) e S = BS at *
  clear hbs
  go_enter Try.func51, Try.ntmps51
  go_wp2_with fail
  refine CV.out.mono ?_
  rintro x w1 ⟨rfl, rfl⟩
  clear CV
  go_wp2_with fail
  generalize w.alloc (.cells #[.slice W l.length cw] 23) = w1 at *
  refine CS.out.mono ?_
  rintro x w2 ⟨u, rfl, hu, hb2⟩
  obtain ⟨A5, c5, rfl, hS5⟩ := own_is hu
  have HS5 := Lib.hid hS5
  have HB2 := Lib.hid (HB0.out.trans (hb2.mono HB0.out.size))
  clear hu hb2 CS hS5
  have HO0 : Hid (w2.ownsRow w2.heap.size 3 1 (.slice none 0 0) (BS 0).length ((BS 0).map Iv)) := Lib.hid (by rw [HBz.out]; exact World.ownsRow_nil _ _ _ _)
  go_wp2
  go_loopw [7, 16] (fun sv i wr => ∃ k : Nat, i = .int .i64 k ∧ k ≤ l.length ∧ Hid (wr.ownsRow w2.heap.size 3 1 sv (BS k).length ((BS k).map Iv)) ∧ Hid (Below w2.heap.size w2 wr)) (fun _ i _ => l.length - (intOf i).toNat)
  case atStart => exact ⟨0, rfl, Nat.zero_le _, HO0, Lib.hid (Below.refl _ _)⟩
  case round =>
    clear HO0
    obtain ⟨k, rfl, hk, HO, HB⟩ := hrel
    by_cases hlt : k < l.length
    · have hkS : k < S.length := by omega
      obtain ⟨b5, o5, rfl, e5⟩ := (HS5.out.keep HB.out).iv hkS
      have hrg := HR.out _ (List.getElem_mem hkS)
      have HSk := Lib.hid (HSu.out k)
      rw [Fl.atI_get hkS] at HSk
      obtain ⟨x, hx⟩ := Int.eq_ofNat_of_zero_le hrg.1
      have hxg : x < g.length := by omega
      rw [hx] at e5 HSk
      rw [Int.toNat_natCast] at HSk
      obtain ⟨hp1, hp2⟩ := HPk.out x hxg
      have hfs := HFs.out x hxg
      have hbk := HBig.out k hk
      have HBw : Hid (Below w.heap.size w wr) := Lib.hid (HB2.out.trans (HB.out.mono HB2.out.size))
      obtain ⟨A7, c7, rfl, hc7, _⟩ := own_cap HO.out
      clear hrg hx
      go_wp2_with fail
      refine (CNn.out wr).mono ?_
      rintro y w3 ⟨B, d, rfl, hs3, hb3⟩
      have CP := devPath_c A B c d g (opensT g.length) e x w3 (HH.out.keep (HBw.out.trans (hb3.mono HBw.out.size))) hs3 HZ.out
      rw [hp1, hp2, opens_len] at CP
      have HCP := Lib.hid CP
      have HO3 := Lib.hid (ownsRow_below HO.out hb3)
      have HB3 := Lib.hid (HB.out.trans (hb3.mono HB.out.size))
      clear CP hs3 hb3 hp1 hp2 HO HB HBw
      obtain ⟨F, hF⟩ : ∃ F, firstF g (opensT g.length) e x = F := ⟨_, rfl⟩
      rw [hF] at HCP HSk hfs
      clear hF
      go_wp2_with fail
      refine HCP.out.mono ?_
      rintro y w4 ⟨u4, rfl, hu4, hb4⟩
      have HO4 := Lib.hid (ownsRow_below HO3.out hb4)
      have HU4 := Lib.hid (ownsRow_base hu4 (base2 := w2.heap.size) HB3.out.size)
      have HB4 := Lib.hid (HB3.out.trans (hb4.mono HB3.out.size))
      obtain ⟨A6, c6, rfl, hc6, _⟩ := own_cap HU4.out
      clear hu4 hb4 HCP HO3 HB3
      by_cases hcond : 0 < F.length ∧ ((BS k).length = 0 ∨ F.length < (BS k).length)
      · have HE : Hid (BS (k + 1) = F) := Lib.hid (by rw [HSk.out, if_pos hcond])
        clear HSk
        have h1 : 0 < F.length := hcond.1
        generalize BS k = Bk at *
        by_cases h2 : Bk.length = 0
        · have h3 : ((Bk.length : Int) == 0) = true := by rw [beq_iff_eq]; omega
          clear hcond
          go_wp2
          go_roundw
          case rel => exact ⟨k + 1, by go_num, by omega, by rw [HE.out]; exact HU4, HB4⟩
          case measure => simp [intOf]; omega
        · have h3 : ((Bk.length : Int) == 0) = false := by rw [beq_eq_false_iff_ne]; omega
          have h4 : F.length < Bk.length := by omega
          clear hcond
          go_wp2
          go_roundw
          case rel => exact ⟨k + 1, by go_num, by omega, by rw [HE.out]; exact HU4, HB4⟩
          case measure => simp [intOf]; omega
      · have HE : Hid (BS (k + 1) = BS k) := Lib.hid (by rw [HSk.out, if_neg hcond])
        clear HSk
        by_cases h1 : 0 < F.length
        · have h3 : ¬ (BS k).length = 0 := fun h => hcond ⟨h1, .inl h⟩
          have h4 : ¬ F.length < (BS k).length := fun h => hcond ⟨h1, .inr h⟩
          generalize BS k = Bk at *
          have h5 : ((Bk.length : Int) == 0) = false := by rw [beq_eq_false_iff_ne]; omega
          clear hcond
          go_wp2
          go_roundw
          case rel => exact ⟨k + 1, by go_num, by omega, by rw [HE.out]; exact HO4, HB4⟩
          case measure => simp [intOf]; omega
        · clear hcond
          generalize BS k = Bk at *
          go_wp2
          go_roundw
          case rel => exact ⟨k + 1, by go_num, by omega, by rw [HE.out]; exact HO4, HB4⟩
          case measure => simp [intOf]; omega
    · obtain rfl : k = l.length := by omega
      have HOw := Lib.hid (ownsRow_base HO.out (base2 := w.heap.size) HB2.out.size)
      have HBw := Lib.hid (HB2.out.trans (HB.out.mono HB2.out.size))
      clear HO
      go_wp2
      go_ret
      exact ⟨_, rfl, HOw.out, HBw.out⟩
end Go.Proofs.Ytfgpenekmokdiaa
namespace Go.Proofs.Ytfgpenekmokdiaa
open Go Go.RowKit Fl

theorem Try.infoMove : (Try.prog.info? 42).map (fun i => (i.zero, i.size, i.bytes)) = some (some (.agg #[.int .i64 0, .int .i64 0, .int .i64 0]), 3, 24) := by kernel_rfl
/-- What Fill returns. -/
def FillRes (g : GraphD) (v : Int) (B : Nat) (e : Ending) (w' : World) : Prop :=
  (validG g = false ∧ e = .returned (.tuple #[.slice none 0 0, .int .i64 20])) ∨ (validG g = true ∧ ¬ (0 ≤ v ∧ v < g.length) ∧ e = .returned (.tuple #[.slice none 0 0, .int .i64 19])) ∨
  (validG g = true ∧ (0 ≤ v ∧ v < g.length) ∧ nearP g v.toNat < 0 ∧ e = .returned (.tuple #[.slice none 0 0, .int .i64 25])) ∨
  (validG g = true ∧ (0 ≤ v ∧ v < g.length) ∧ 0 ≤ nearP g v.toNat ∧ ∃ u, e = .returned (.tuple #[u, .int .i64 0]) ∧ w'.ownsRow B 42 3 u (fillM g v.toNat).length (moveCells (fillM g v.toNat)))
theorem fil_bad {g : GraphD} {v : Int} {B : Nat} {w' : World} (h : validG g = false) : FillRes g v B (.returned (.tuple #[.slice none 0 0, .int .i64 20])) w' := .inl ⟨h, rfl⟩
theorem fil_range {g : GraphD} {v : Int} {B : Nat} {w' : World} (h : validG g = true) (hv : ¬ (0 ≤ v ∧ v < g.length)) : FillRes g v B (.returned (.tuple #[.slice none 0 0, .int .i64 19])) w' := .inr (.inl ⟨h, hv, rfl⟩)
theorem fil_none {g : GraphD} {n : Nat} {B : Nat} {w' : World} (h : validG g = true) (hv : n < g.length) (hp : nearP g n < 0) : FillRes g (n : Int) B (.returned (.tuple #[.slice none 0 0, .int .i64 25])) w' := .inr (.inr (.inl ⟨h, by omega, by rw [Int.toNat_natCast]; exact hp, rfl⟩))
theorem fil_some {g : GraphD} {n : Nat} {B : Nat} {w' : World} {u : Value} {M : List MoveD} (h : validG g = true) (hv : n < g.length) (hp : 0 ≤ nearP g n) (hM : M = fillM g n) (ho : w'.ownsRow B 42 3 u M.length (moveCells M)) : FillRes g (n : Int) B (.returned (.tuple #[u, .int .i64 0])) w' := .inr (.inr (.inr ⟨h, by omega, by rw [Int.toNat_natCast]; exact hp, u, rfl, by rw [Int.toNat_natCast, ← hM]; exact ho⟩))
/-- What the walk of Fill rests on where there is a nearest vertex. -/
structure FillWay (g : GraphD) (e : Nat) (w P : List Int) (p : Nat) : Prop where
  pl : p < w.length
  two : 2 ≤ w.length
  few : w.length ≤ 24
  ppos : 0 < P.length
  pfew : P.length ≤ 25
  last : P[P.length - 1]? = some (atI w p)
  nodup : w.Nodup
  moves : legsK (wayL P w p) w.length = fillM g e
theorem fill_way {g : GraphD} {e : Nat} (hg : validG g = true) (he : e < g.length) :
    (nearP g e < 0 ∧ bstK g (opensT g.length) e (srtL (girF g (opensT g.length))) (girF g (opensT g.length)).length = []) ∨
    (0 ≤ nearP g e ∧ ∃ p : Nat, FillWay g e (girF g (opensT g.length)) (bstK g (opensT g.length) e (srtL (girF g (opensT g.length))) (girF g (opensT g.length)).length) p) := by
  have hrng : ∀ x ∈ girF g (opensT g.length), 0 ≤ x ∧ x < g.length := fun x hx => by
    have hw : girF g (opensT g.length) ≠ [] := fun h => by rw [h] at hx; cases hx
    have := (gir_closed hg hw).walk.ok x hx
    exact ⟨this.1, this.2.1⟩
  have hb := best_near (sh := opensT g.length) hg he hrng (srtL_mem (girF g (opensT g.length))) (srtL_sorted _)
  rw [srtL_length] at hb
  have hnp : (nearK g (opensT g.length) (girF g (opensT g.length)) e (girF g (opensT g.length)).length).2 = nearP g e := rfl
  rw [hnp] at hb
  by_cases h : nearP g e < 0
  · exact .inl ⟨h, hb.1 h⟩
  · right
    refine ⟨by omega, ?_⟩
    obtain ⟨p, hp⟩ := Int.eq_ofNat_of_zero_le (show 0 ≤ nearP g e by omega)
    refine ⟨p, ?_⟩
    obtain ⟨h1, h2, h3⟩ := hb.2 p hp
    have hw : girF g (opensT g.length) ≠ [] := fun h => by rw [h] at h1; simp at h1
    have hgo := hrng _ (List.getElem_mem h1)
    have hat : atI (girF g (opensT g.length)) (p : Int) = (girF g (opensT g.length))[p] := Fl.atI_get h1
    have hfm : fillM g e = fillK (firstF g (opensT g.length) e (atI (girF g (opensT g.length)) (p : Int)).toNat) (girF g (opensT g.length)) p (girF g (opensT g.length)).length := by
      unfold fillM
      rw [hp, Int.toNat_natCast]; rfl
    rw [h2]
    unfold farI at h3
    have hgt := gir_two hg hw
    have hgf := gir_few (sh := opensT g.length) hg
    have hgn := gir_nodup (s := opensT g.length) hg
    rw [← hat] at hgo
    clear hat hb hnp h hrng h2 hp
    generalize girF g (opensT g.length) = W at *
    obtain ⟨x, hx⟩ := Int.eq_ofNat_of_zero_le hgo.1
    rw [hx, Int.toNat_natCast] at h3 hfm ⊢
    have hpath : PathOk g (opensT g.length) e x (firstF g (opensT g.length) e x) := by
      rcases first_cases (s := opensT g.length) hg he (show x < g.length by omega) with ⟨_, h4⟩ | h4
      · omega
      · exact h4
    have hlast := hpath.last
    have hlw : atI (firstF g (opensT g.length) e x) (((firstF g (opensT g.length) e x).length - 1 : Nat) : Int) = wv W p := by rw [path_at hlast, wv, Nat.mod_eq_of_lt h1, hx]
    exact ⟨h1, hgt, hgf, hpath.pos, firstF_short hg (by omega), by rw [hx]; exact hlast, hgn, (legs_fill h1 hpath.pos hlw _ (Nat.le_refl _)).trans hfm.symm⟩
set_option maxRecDepth 100000 in
set_option maxHeartbeats 8000000 in
theorem devFill_c (A : Option Addr) (c : Nat) (v : Int) (g : GraphD) (w : World) (hh : RowsAt w A g) (hz : Sized g) :
    Calls Try.prog 26 #[.slice A g.length c, .int .i64 v] w fun x w' => Below w.heap.size w w' ∧ FillRes g v w.heap.size x w' := by
  have CV := Lib.hid (devValid_c A c g w hh hz.1 hz.2)
  have HB0 := Lib.hid (Below.refl w.heap.size w)
  rcases hv : validG g with _ | _
  · have HV := Lib.hid hv
    rw [hv] at CV
    clear hh hz hv
    go_enter Try.func26, Try.ntmps26
    go_wp2_with fail
    refine CV.out.mono ?_
    rintro x w1 ⟨rfl, rfl⟩
    clear CV
    go_wp2
    go_ret2
    exact ⟨HB0.out, fil_bad HV.out⟩
  · have HV := Lib.hid hv
    rw [hv] at CV
    have CI := Lib.hid (isVertex_c A g.length c v w)
    by_cases hin : 0 ≤ v ∧ v < g.length
    · rw [decide_eq_true hin] at CI
      obtain ⟨e, rfl⟩ := Int.eq_ofNat_of_zero_le hin.1
      have he : e < g.length := by omega
      have CW := Lib.hid (firstWalkT_c A c g w hh hv)
      have HH := Lib.hid hh
      have HFW := Lib.hid (fill_way hv he)
      have HF := Lib.hid (gir_few (sh := opensT g.length) hv)
      have HRg : Hid (∀ x ∈ girF g (opensT g.length), 0 ≤ x ∧ x < g.length) := Lib.hid (fun x hx => by
        have hw : girF g (opensT g.length) ≠ [] := fun h => by rw [h] at hx; cases hx
        have := (gir_closed hv hw).walk.ok x hx
        exact ⟨this.1, this.2.1⟩)
      have CSh := Lib.hid (fun (W : Option Addr) (cw : Nat) (V : World) (h1 : RowsAt V A g) (h2 : Holds V W ((girF g (opensT g.length)).map Iv)) => shortest_c A W c cw e g (girF g (opensT g.length)) V h1 h2 hv he HF.out HRg.out)
      clear hh hz hv hin
      obtain ⟨Pp, hPp⟩ : ∃ Pp, bstK g (opensT g.length) e (srtL (girF g (opensT g.length))) (girF g (opensT g.length)).length = Pp := ⟨_, rfl⟩
      rw [hPp] at HFW CSh
      clear hPp HRg
      obtain ⟨l, hl⟩ : ∃ l, girF g (opensT g.length) = l := ⟨_, rfl⟩
      rw [hl] at CW HFW HF CSh
      clear hl
      go_enter Try.func26, Try.ntmps26
      go_wp2_with fail
      refine CV.out.mono ?_
      rintro x w1 ⟨rfl, rfl⟩
      clear CV
      go_wp2_with fail
      refine CI.out.mono ?_
      rintro x w1 ⟨rfl, rfl⟩
      clear CI
      go_wp2_with fail
      refine CW.out.mono ?_
      rintro x w2 ⟨u2, rfl, hu2, hb2⟩
      obtain ⟨AW, cW, rfl, hcW, hhW⟩ := own_cap hu2
      have HB2 := Lib.hid hb2
      have HW2 := Lib.hid hu2
      have CS := Lib.hid (CSh.out AW cW w2 (HH.out.keep hb2) hhW)
      clear hu2 hb2 hhW CW CSh
      go_wp2_with fail
      refine CS.out.mono ?_
      rintro x w3 ⟨u3, rfl, hu3, hb3⟩
      obtain ⟨AP, cP, rfl, hcP, hhP⟩ := own_cap hu3
      have HB3 := Lib.hid (HB2.out.trans (hb3.mono HB2.out.size))
      have HW3 := Lib.hid (ownsRow_below HW2.out hb3)
      have HP3 := Lib.hid hhP
      clear hu3 hb3 hhP CS HB2 HW2
      rcases HFW.out with ⟨hneg, hnil⟩ | ⟨hpos, p, hfw⟩
      · have HN := Lib.hid hneg
        subst hnil
        clear hneg HFW
        go_wp2
        go_ret2
        exact ⟨HB3.out, fil_none HV.out he HN.out⟩
      · have HN := Lib.hid hpos
        have HFw := Lib.hid hfw
        have hp1 := hfw.pl
        have hp2 := hfw.two
        have hp3 := hfw.few
        have hp4 := hfw.ppos
        have hp5 := hfw.pfew
        have hne : ((Pp.length : Int) == 0) = false := by rw [beq_eq_false_iff_ne]; omega
        obtain ⟨bP, oP, rfl, _⟩ := HP3.out.iv hp4
        obtain ⟨hlt1, hlt2⟩ := List.getElem?_eq_some_iff.1 hfw.last
        obtain ⟨b', o', hA', e1⟩ := HP3.out.iv hlt1
        injection hA' with hA'
        injection hA' with q1 q2
        subst q1 q2
        rw [hlt2, Fl.atI_get hp1] at e1
        have hhW3 : Holds w3 AW (l.map Iv) := by
          obtain ⟨A9, c9, h8, h9⟩ := own_is HW3.out
          injection h8 with h8
          rw [h8]; exact h9
        have CB := Lib.hid (beginWith_c AW cW p l l[p] w3 hhW3 hcW (by omega) hp1 rfl (fun j h hj e => (List.pairwise_iff_getElem.1 hfw.nodup j p h hp1 hj) e))
        clear hpos hfw HFW hlt2 hhW3
        go_wp2_with fail
        refine CB.out.mono ?_
        rintro x w5 ⟨u5, rfl, hu5, hb5⟩
        obtain ⟨q5, c5, rfl, hq5, hc5⟩ := own_at hu5 (by omega)
        have hh5 : Holds w5 (some ⟨q5, 0, none⟩) ((l.drop p ++ l.take p).map Iv) := by
          obtain ⟨A9, c9, h8, h9⟩ := own_is hu5
          injection h8 with h8
          rw [h8]; exact h9
        have HB5 := Lib.hid (HB3.out.trans (hb5.mono HB3.out.size))
        have HP5 := Lib.hid (HP3.out.keep hb5)
        have hk1 : ¬ c5 = 1 := by omega
        have hk2 : ¬ c5 < 1 := by omega
        have hk3 : 1 ≤ c5 := by omega
        have hk4 : 1 ≤ l.length := by omega
        have hd1 := holds_behind hh5 1
        rw [Nat.zero_add] at hd1
        have CC := Lib.hid (concat2_c (w := w5) (W := w5.alloc (.cells #[.slice (some ⟨bP, oP, none⟩) Pp.length cP, .slice (some ⟨q5, 1, none⟩) (l.length - 1) (c5 - 1)] 23)) (heap_alloc_new w5 _) ((Below.refl _ w5).alloc (Nat.le_refl _) _) rfl (by rw [List.length_drop, turn_len l p (by omega)]) HP5.out hd1 (by omega) (by omega))
        rw [show Pp ++ (l.drop p ++ l.take p).drop 1 = wayL Pp l p from rfl] at CC
        have hnW := wayL_length (P := Pp) (w := l) (p := p) hp1
        clear hu5 hb5 CB hh5 hd1 HP3 HB3 e1
        go_wp2_with fail
        refine CC.out.mono ?_
        rintro x w7 ⟨u7, rfl, hu7, hb7⟩
        obtain ⟨q, cap, rfl, hq7, hcap⟩ := own_at hu7 (by omega)
        have HW7 : Hid (∀ j (h : j < (wayL Pp l p).length), w7.cell? ⟨q, j, none⟩ = some (.int .i64 (atI (wayL Pp l p) j)) ∧ q < w7.heap.size) := Lib.hid (fun j h => by
          have h2 := own_get hu7 (i := j) (u := Iv (wayL Pp l p)[j]) (by rw [List.getElem?_map, List.getElem?_eq_getElem h]; rfl)
          rw [Fl.atI_get h]
          exact ⟨h2.1, World.block_lt_of_cell? _ _ h2.1⟩)
        have HB7 := Lib.hid (HB5.out.trans (hb7.mono HB5.out.size))
        have HMv := Lib.hid HFw.out.moves
        obtain ⟨nW, hnw⟩ : ∃ nW, Pp.length + (l.length - 1) = nW := ⟨_, rfl⟩
        rw [hnw] at hnW hcap ⊢
        have hnb : nW ≤ 48 ∧ l.length ≤ nW := by omega
        obtain ⟨WW, hWW⟩ : ∃ WW, wayL Pp l p = WW := ⟨_, rfl⟩
        rw [hWW] at HW7 HMv hnW
        have HnW := Lib.hid hnW
        clear hu7 hb7 CC hWW HFw HB5 HP5 hnW hnw
        have HO0 : Hid (w7.ownsRow w7.heap.size 42 3 (.slice none 0 0) (legsK WW 0).length (moveCells (legsK WW 0))) := Lib.hid (World.ownsRow_nil _ _ _ _)
        go_wp2
        go_loopw [9, 10, 46] (fun wv mv tv wr => ∃ k : Nat, tv = .int .i64 k ∧ k ≤ l.length ∧ wv = .slice (some ⟨q, 0, none⟩) (nW - k) cap ∧ Hid (wr.ownsRow w7.heap.size 42 3 mv (legsK WW k).length (moveCells (legsK WW k))) ∧ Hid (Below w7.heap.size w7 wr)) (fun _ _ tv _ => l.length - (intOf tv).toNat)
        case atStart => exact ⟨0, rfl, Nat.zero_le _, rfl, HO0, Lib.hid (Below.refl _ _)⟩
        case round =>
          clear HO0
          obtain ⟨k, rfl, hk, rfl, HO, HB⟩ := hrel
          by_cases hlt : k < l.length
          · have HSt : Hid (∀ j, stepM k WW j = ⟨k, if j = 0 then -1 else atI WW ((j - 1 : Nat) : Int), atI WW j⟩) := Lib.hid (fun j => rfl)
            have HLs : Hid (∀ j, legM k WW (j + 1) = legM k WW j ++ [stepM k WW j]) := Lib.hid (fun j => legM_succ k WW j)
            have HLl : Hid (∀ j, (legM k WW j).length = j) := Lib.hid (fun j => legM_length k WW j)
            have HL0 : Hid (legM k WW 0 = []) := Lib.hid rfl
            have HK1 : Hid (legsK WW (k + 1) = legsK WW k ++ legM k WW (nW - k)) := Lib.hid (by rw [← HnW.out]; rfl)
            have hkb : (legsK WW k).length ≤ 48 * 24 := Nat.le_trans (legsK_len WW k) (by rw [HnW.out]; exact Nat.mul_le_mul hnb.1 (by omega))
            have hsub : ((nW - k : Nat) : Int) - 1 = ((nW - (k + 1) : Nat) : Int) := by omega
            have hsn : 1 ≤ nW - k := by omega
            have HOi : Hid (wr.ownsRow w7.heap.size 42 3 u10 (legsK WW k ++ legM k WW 0).length (moveCells (legsK WW k ++ legM k WW 0))) := Lib.hid (by rw [HL0.out, List.append_nil]; exact HO.out)
            generalize legsK WW k = LK at *
            clear HO
            go_wp2
            go_loopw [10, 12, 51] (fun mv fv jv wv => ∃ j : Nat, jv = .int .i64 j ∧ j ≤ nW - k ∧ fv = .int .i64 (if j = 0 then -1 else atI WW ((j - 1 : Nat) : Int)) ∧ Hid (wv.ownsRow w7.heap.size 42 3 mv (LK ++ legM k WW j).length (moveCells (LK ++ legM k WW j))) ∧ Hid (Below w7.heap.size w7 wv)) (fun _ _ jv _ => nW - k - (intOf jv).toNat)
            case atStart => exact ⟨0, rfl, Nat.zero_le _, rfl, HOi, HB⟩
            case round =>
              clear HOi HB
              obtain ⟨j, rfl, hj, rfl, HO, HB⟩ := hrel
              by_cases hjl : j < nW - k
              · obtain ⟨e1, hqw⟩ := HW7.out j (by rw [HnW.out]; omega)
                have e2 : wr.cell? ⟨q, j, none⟩ = some (.int .i64 (atI WW j)) := (HB.out.cell (p := ⟨q, j, none⟩) hqw).trans e1
                have HNx : Hid (moveCells (LK ++ legM k WW (j + 1)) = moveCells (LK ++ legM k WW j) ++ [.int .i64 (k : Int), .int .i64 (if j = 0 then -1 else atI WW ((j - 1 : Nat) : Int)), .int .i64 (atI WW j)]) := Lib.hid (by rw [HLs.out, ← List.append_assoc, moveCells_append, HSt.out]; rfl)
                have HNl : Hid ((LK ++ legM k WW (j + 1)).length = (LK ++ legM k WW j).length + 1) := Lib.hid (by rw [HLs.out, ← List.append_assoc, List.length_append]; rfl)
                have hfx : (if j + 1 = 0 then (-1 : Int) else atI WW ((j + 1 - 1 : Nat) : Int)) = atI WW j := by rw [if_neg (by omega), Nat.add_sub_cancel]
                have HFx := Lib.hid hfx
                have hln : (LK ++ legM k WW j).length ≤ 2000 := by rw [List.length_append, HLl.out]; omega
                have hob := HO.out.lt
                have hszv := HB.out.size
                clear e1 hfx
                obtain ⟨iM, hiM, hzM, hsM, hbM⟩ := info_parts Try.infoMove
                obtain ⟨L2, hL2⟩ : ∃ L2, LK ++ legM k WW (j + 1) = L2 := ⟨_, rfl⟩
                rw [hL2] at HNx HNl
                have HL2 := Lib.hid hL2
                clear hL2
                generalize LK ++ legM k WW j = L1 at *
                generalize (if j = 0 then (-1 : Int) else atI WW ((j - 1 : Nat) : Int)) = fv at *
                generalize atI WW (j : Int) = tv at *
                go_wp2_with (at_builtin; refine wpList_append_own _ rfl _ _ 37 rfl w7.heap.size 42 iM (.agg #[.int .i64 0, .int .i64 0, .int .i64 0]) 3 24 Try.underlying37 hiM hzM hsM hbM rfl (by decide) _ _ _ rfl (HO.out.alloc _) ⟨wr.heap.size, 0, none⟩ 1 1 [.int .i64 (k : Int), .int .i64 fv, .int .i64 tv] rfl rfl (World.news_of_block (heap_alloc_new _ _)) (by simp [Value.oneCell']) (by unfold maxLen; omega) (by omega) (by simp; omega) ?_)
                intro v8 w8 own8 hg8 _
                have HO8 : Hid (w8.ownsRow w7.heap.size 42 3 v8 L2.length (moveCells L2)) := Lib.hid (by rw [HNx.out, HNl.out]; exact own8)
                have HB8 := Lib.hid ((HB.out.alloc hszv (.cells #[.int .i64 (k : Int), .int .i64 fv, .int .i64 tv] 42)).grown hg8 (by simp; omega) (fun k hk => (hob k hk).1))
                clear own8 hg8 HO HB hob
                go_wp2
                go_roundw
                case rel => exact ⟨j + 1, by go_num, by omega, by rw [HFx.out], by rw [HL2.out]; exact HO8, HB8⟩
                case measure => simp [intOf]; omega
              · obtain rfl : j = nW - k := by omega
                have HO8 : Hid (wr.ownsRow w7.heap.size 42 3 u10 (legsK WW (k + 1)).length (moveCells (legsK WW (k + 1)))) := Lib.hid (by rw [HK1.out]; exact HO.out)
                clear HO
                go_wp2
                go_roundw
                case rel => exact ⟨k + 1, by go_num, by omega, by congr 1, HO8, HB⟩
                case measure => simp [intOf]; omega
          · obtain rfl : k = l.length := by omega
            have HOw := Lib.hid (ownsRow_base HO.out HB7.out.size)
            have HBw := Lib.hid (HB7.out.trans (HB.out.mono HB7.out.size))
            clear HO
            go_wp2
            go_ret2
            exact ⟨HBw.out, fil_some HV.out he HN.out HMv.out HOw.out⟩
    · rw [decide_eq_false hin] at CI
      clear hh hz hv
      go_enter Try.func26, Try.ntmps26
      go_wp2_with fail
      refine CV.out.mono ?_
      rintro x w1 ⟨rfl, rfl⟩
      clear CV
      go_wp2_with fail
      refine CI.out.mono ?_
      rintro x w1 ⟨rfl, rfl⟩
      clear CI
      go_wp2
      go_ret2
      exact ⟨HB0.out, fil_range HV.out hin⟩
end Go.Proofs.Ytfgpenekmokdiaa
