/- Joined texts. -/
import Derived.Test.YtjbhmeeebacnpaaMzAH
import Derived.Test.YtjbhmeeebacnpaaMzAG
namespace Go.Proofs.Ytjbhmeeebacnpaa
open Go Go.RowKit Fl

theorem bestK_succ {row dist : List Int} {k : Nat} (h : k < row.length) : bestK row dist (k + 1) = if 0 ≤ atI dist row[k] ∧ (bestK row dist k < 0 ∨ atI dist row[k] < atI dist (bestK row dist k)) then row[k] else bestK row dist k := by
  have e : row.getD k 0 = row[k] := by rw [List.getD_eq_getElem?_getD, List.getElem?_eq_getElem h]; rfl
  rw [bestK]
  simp only [e]
theorem atI_nat {l : List Int} {y : Nat} (h : y < l.length) : atI l (y : Int) = l[y] := by unfold atI; rw [Int.toNat_natCast, List.getD_eq_getElem?_getD, List.getElem?_eq_getElem h]; rfl
theorem Holds.news {w : World} {b o : Nat} {xs : List Value} (h : Holds w (some ⟨b, o, none⟩) xs) {m : Nat} : ∀ j u, (xs.take m)[j]? = some u → w.cell? ((⟨b, o, none⟩ : Addr).add j) = some u := fun j u hu => by
  have hadd : (⟨b, o, none⟩ : Addr).add j = ⟨b, o + j, none⟩ := by unfold Addr.add; split <;> simp_all
  rw [List.getElem?_take] at hu
  split at hu
  · obtain ⟨hj, hu⟩ := List.getElem?_eq_some_iff.1 hu
    obtain ⟨b', o', hA, _, hc⟩ := h.at_ (by omega)
    injection hA with hA
    injection hA with h1 h2
    subst h1 h2
    rw [hadd, hc j hj, hu]
  · cases hu
set_option maxRecDepth 100000 in
set_option maxHeartbeats 4000000 in
theorem through_c (A B : Option Addr) (c d : Nat) (g : GraphD) (s : List Bool) (v : Nat) (w : World) (hh : RowsAt w A g) (hs : Holds w B (s.map Bo)) (hg : validG g = true) (hsl : s.length = g.length) (hv : v < g.length) :
    Calls Try.prog 71 #[.slice A g.length c, .slice B s.length d, .int .i64 v] w fun e w' => ∃ u, e = .returned u ∧ w'.ownsRow w.heap.size 3 1 u (thrF g s v).length ((thrF g s v).map Iv) ∧ Below w.heap.size w w' := by
  have hvs : v < s.length := by omega
  obtain ⟨bs, os, rfl, hsc⟩ := hs.bo hvs
  have hat : atB s v = s[v] := by unfold atB; rw [List.getD_eq_getElem?_getD, List.getElem?_eq_getElem hvs]; rfl
  have CD := Lib.hid (dist_c A (some ⟨bs, os, none⟩) c d g s v w hh hs hg hsl hv)
  have CF := Lib.hid (fun W a (hW : Below w.heap.size w W) ha => first_c A (some ⟨bs, os, none⟩) c d g s a v W (hh.keep hW) (hs.keep hW) hg hsl ha hv)
  have HBK := Lib.hid (bestK_ok (dist := distF g s v) hg hv)
  have HRow := Lib.hid (rowOk_row hg hv)
  have HDL := Lib.hid (distF_length g s v)
  have HTrue : Hid (atB s v = true → thrF g s v = []) := Lib.hid (fun h => by unfold thrF; rw [if_pos h])
  have HT : Hid (atB s v = false → thrF g s v = if bestK (rowG g v) (distF g s v) (rowG g v).length < 0 then [] else (v : Int) :: (firstF g s (bestK (rowG g v) (distF g s v) (rowG g v).length).toNat v).dropLast) := Lib.hid (fun h => by unfold thrF; rw [h]; rfl)
  have HFd : Hid (∀ a, firstF g s a v = if (distF g s v).getD a (-1) < 0 then [] else pathF (hopsL g (distF g s v)) ((distF g s v).getD a (-1)).toNat a) := Lib.hid (fun a => rfl)
  have hFsh := fun a => firstF_short (s := s) (a := a) hg hv
  have HFS := Lib.hid hFsh
  have HH := Lib.hid hh
  have HR24 := Lib.hid (validG_short hg)
  clear hh hs hg hsl hFsh
  rcases hsv : s[v] with _ | _
  · rw [hsv] at hat hsc
    replace HT := Lib.hid (HT.out hat)
    clear HTrue hat
    generalize thrF g s v = res at *
    generalize distF g s v = dist at *
    go_enter Try.func71, Try.ntmps71
    go_wp2_with fail
    refine CD.out.mono ?_
    rintro e w2 ⟨vd, rfl, ownD, hb2⟩
    obtain ⟨AD, cD, rfl, hD⟩ := own_is ownD
    have HD := Lib.hid hD
    have HB2 := Lib.hid hb2
    obtain ⟨bg, og, A1, c1, rfl, e1, h1⟩ := (HH.out.keep HB2.out).one hv
    have hrow : rowG g v = g[v] := rowG_at hv
    have hrl24 := HR24.out _ (List.getElem_mem hv)
    rw [hrow] at HBK HRow HT
    have H1 := Lib.hid h1
    clear CD ownD hD hb2 hsc hsv h1 hrow
    generalize g[v] = r at *
    go_wp2
    go_loopw [8, 9] (fun u i wr => ∃ (k : Nat) (z : Int), i = .int .i64 k ∧ k ≤ r.length ∧ u = .int .i64 z ∧ Hid (z = bestK r dist k) ∧ Hid (∃ n, wr = w2.drewN n)) (fun _ i _ => r.length - (intOf i).toNat)
    case atStart => exact ⟨0, -1, rfl, Nat.zero_le _, rfl, Lib.hid rfl, Lib.hid ⟨0, rfl⟩⟩
    case round =>
      obtain ⟨k, z, rfl, hk, rfl, HZ, HW⟩ := hrel
      have hbk := HBK.out k hk
      rw [← HZ.out] at hbk
      obtain ⟨n0, hn0⟩ := HW.out
      subst hn0
      by_cases hlt : k < r.length
      · obtain ⟨br, or_, rfl, e2⟩ := H1.out.iv hlt
        have HS := Lib.hid (bestK_succ (dist := dist) hlt)
        rw [← HZ.out] at HS
        obtain ⟨x0, x1, x2⟩ := HRow.out r[k] (List.getElem_mem hlt)
        generalize r[k] = x at *
        obtain ⟨y, rfl⟩ := Int.eq_ofNat_of_zero_le x0
        have hyn : y < g.length := by omega
        have hyd : y < dist.length := by have := HDL.out; omega
        obtain ⟨bd, od, rfl, ed⟩ := HD.out.iv hyd
        rw [atI_nat hyd] at HS
        clear x0 x1 x2 HZ
        by_cases hd0 : 0 ≤ dist[y]
        · have hdd : decide (0 ≤ dist[y]) = true := by simpa using hd0
          rcases hbk with rfl | ⟨hz0, hz1, hz2⟩
          · have HS2 : Hid ((y : Int) = bestK r dist (k + 1)) := Lib.hid (by rw [HS.out, if_pos ⟨hd0, .inl (by omega)⟩])
            clear hd0 HS
            generalize dist[y] = dy at *
            go_wp2
            go_quiet (fail)
            go_wp2
            go_roundw
            case rel => exact ⟨k + 1, y, by go_num, by omega, rfl, HS2, Lib.hid ⟨_, rfl⟩⟩
            case measure => simp [intOf]; omega
          · obtain ⟨b, rfl⟩ := Int.eq_ofNat_of_zero_le hz0
            have hbn : b < g.length := by omega
            have hbd : b < dist.length := by have := HDL.out; omega
            obtain ⟨bd2, od2, hBeq, eb⟩ := HD.out.iv hbd
            injection hBeq with hBeq
            injection hBeq with hB1 hB2
            subst hB1 hB2
            rw [atI_nat hbd] at HS
            have hbneg : decide ((b : Int) < 0) = false := by simp
            clear hz0 hz1 hz2
            by_cases hlt2 : dist[y] < dist[b]
            · have HS2 : Hid ((y : Int) = bestK r dist (k + 1)) := Lib.hid (by rw [HS.out, if_pos ⟨hd0, .inr hlt2⟩])
              have hdl : decide (dist[y] < dist[b]) = true := by simpa using hlt2
              clear hd0 HS hlt2
              generalize dist[y] = dy at *
              generalize dist[b] = db at *
              go_wp2
              go_quiet (fail)
              go_wp2
              go_roundw
              case rel => exact ⟨k + 1, y, by go_num, by omega, rfl, HS2, Lib.hid ⟨_, rfl⟩⟩
              case measure => simp [intOf]; omega
            · have HS2 : Hid ((b : Int) = bestK r dist (k + 1)) := Lib.hid (by rw [HS.out, if_neg]; rintro ⟨_, h | h⟩ <;> omega)
              have hdl : decide (dist[y] < dist[b]) = false := by simpa using hlt2
              clear hd0 HS hlt2
              generalize dist[y] = dy at *
              generalize dist[b] = db at *
              go_wp2
              go_quiet (fail)
              go_wp2
              go_roundw
              case rel => exact ⟨k + 1, b, by go_num, by omega, rfl, HS2, Lib.hid ⟨_, rfl⟩⟩
              case measure => simp [intOf]; omega
        · have hdd : decide (0 ≤ dist[y]) = false := by simpa using hd0
          have HS2 : Hid (z = bestK r dist (k + 1)) := Lib.hid (by rw [HS.out, if_neg]; rintro ⟨h, _⟩; omega)
          clear hd0 HS hbk
          generalize dist[y] = dy at *
          go_wp2
          go_quiet (fail)
          go_wp2
          go_roundw
          case rel => exact ⟨k + 1, z, by go_num, by omega, rfl, HS2, Lib.hid ⟨_, rfl⟩⟩
          case measure => simp [intOf]; omega
      · obtain rfl : k = r.length := by omega
        rw [← HZ.out] at HT
        have HBd := Lib.hid (below_drewN HB2.out n0)
        rcases hbk with rfl | ⟨hz0, hz1, hz2⟩
        · have HR : Hid (res = []) := Lib.hid (by rw [HT.out]; rfl)
          clear HT HZ
          go_wp2
          go_ret
          exact ⟨_, rfl, by rw [HR.out]; exact World.ownsRow_nil _ _ _ _, HBd.out⟩
        · obtain ⟨b, rfl⟩ := Int.eq_ofNat_of_zero_le hz0
          have hbn : b < g.length := by omega
          have hbd : b < dist.length := by have := HDL.out; omega
          rw [atI_nat hbd] at hz2
          have hneg : decide ((b : Int) < 0) = false := by simp
          have HR : Hid (res = (v : Int) :: (firstF g s b v).dropLast) := Lib.hid (by rw [HT.out, if_neg (by omega)]; rfl)
          have hpl : 0 < (firstF g s b v).length := by
            rw [HFd.out b, List.getD_eq_getElem?_getD, List.getElem?_eq_getElem hbd, if_neg (by simpa using hz2), pathF_length]
            omega
          have hpl2 := HFS.out b
          have HC := Lib.hid (CF.out (w2.drewN n0) b HBd.out hbn)
          clear HT HZ CF hz0 hz1 hz2 HFS HFd
          generalize firstF g s b v = p at *
          obtain ⟨m, hm⟩ : ∃ m, p.length = m + 1 := ⟨p.length - 1, by omega⟩
          rw [hm] at HC
          go_wp2_with fail
          refine HC.out.mono ?_
          rintro e w3 ⟨vp, rfl, ownP, hb3⟩
          obtain ⟨gp, cp, rfl, hgp, hcp⟩ := own_at ownP (by omega)
          have hP := ownsRow_holds ownP
          have HP := Lib.hid hP
          have HB3 := Lib.hid (HBd.out.trans (hb3.mono HBd.out.size))
          clear HC ownP hb3 hP hpl
          have own4 : (w3.alloc (.cells #[.int .i64 v] 3)).ownsRow w3.heap.size 3 1 (.slice (some ⟨w3.heap.size, 0, none⟩) 1 1) 1 [Iv v] := own_one (heap_alloc_new w3 _) (Nat.le_refl _)
          have HO4 := Lib.hid own4
          have HB4 : Hid (Below w3.heap.size w3 (w3.alloc (.cells #[.int .i64 v] 3))) := Lib.hid ((Below.refl _ _).alloc (Nat.le_refl _) _)
          have HDr : Hid (p.dropLast.length = m ∧ (p.map Iv).take m = p.dropLast.map Iv) := Lib.hid ⟨by simp [hm], by rw [← List.map_take, List.dropLast_eq_take, hm]; rfl⟩
          have hm24 : m ≤ 24 := by omega
          clear own4
          obtain ⟨i0, hi, hz0, hz1, hz2⟩ := info_parts Try.infoIntG
          go_wp2_with (at_builtin; refine wpList_append_own _ rfl _ _ 25 rfl w3.heap.size 3 i0 (.int .i64 0) 1 8 Try.underlying25 hi hz0 hz1 hz2 rfl (by decide) _ _ _ rfl HO4.out ⟨gp, 0, none⟩ m cp ((p.map Iv).take m) rfl ?c1 ?c2 ?c3 ?c4 ?c5 ?c6 ?_)
          case c1 => simp; omega
          case c2 => exact (HP.out.keep HB4.out).news
          case c3 => intro u hu; obtain ⟨q, _, rfl⟩ := List.mem_map.1 (List.mem_of_mem_take hu); rfl
          case c4 => unfold maxLen; omega
          case c5 => omega
          case c6 => simp
          intro v8 w8 own8 hg8 _
          have hb8 : Below w3.heap.size w3 w8 := HB4.out.grown hg8 (by simp) (fun k hk => own_base HO4.out k hk)
          have HO8 : Hid (w8.ownsRow w3.heap.size 3 1 v8 res.length (res.map Iv)) := Lib.hid (by
            rw [HR.out]
            rw [HDr.out.2] at own8
            have e : ((v : Int) :: p.dropLast).length = 1 + m := by rw [List.length_cons, HDr.out.1]; omega
            rw [e]
            exact own8)
          clear own8 hg8
          go_wp2
          go_ret
          exact ⟨_, rfl, ownsRow_base HO8.out HB3.out.size, HB3.out.trans (hb8.mono HB3.out.size)⟩
  · rw [hsv] at hat hsc
    have HR := Lib.hid (HTrue.out hat)
    clear HT HTrue hat CD CF
    go_enter Try.func71, Try.ntmps71
    go_wp2
    go_ret
    exact ⟨_, rfl, by rw [HR.out]; exact World.ownsRow_nil _ _ _ _, Below.refl _ _⟩
end Go.Proofs.Ytjbhmeeebacnpaa
namespace Go.Proofs.Ytjbhmeeebacnpaa
open Go Go.RowKit Fl

theorem girK_succ (g : GraphD) (s : List Bool) (k : Nat) : girK g s (k + 1) = if 0 < (thrF g s k).length ∧ ((girK g s k).length = 0 ∨ (thrF g s k).length < (girK g s k).length) then thrF g s k else girK g s k := rfl
def GirthPost (w : World) (l : List Int) (e : Ending) (w' : World) : Prop := ∃ v, e = .returned (.tuple #[.int .i64 l.length, v, .int .i64 0]) ∧ w'.ownsRow w.heap.size 3 1 v l.length (l.map Iv) ∧ Below w.heap.size w w'
set_option maxRecDepth 100000 in
set_option maxHeartbeats 4000000 in
theorem girth_c (A B : Option Addr) (c d : Nat) (g : GraphD) (s : List Bool) (w : World) (hh : RowsAt w A g) (hs : Holds w B (s.map Bo)) (hg : validG g = true) (hsl : s.length = g.length) :
    Calls Try.prog 61 #[.slice A g.length c, .slice B s.length d] w (GirthPost w (girF g s)) := by
  have hl24 := validG_len hg
  have hr24 := validG_short hg
  have CC := Lib.hid (refCheck_c A B c d s.length g w hh (by omega) (fun r hr => by have := hr24 r hr; omega))
  rw [show chkG g s.length = 0 by unfold chkG; rw [hg, hsl]; simp] at CC
  have CT := Lib.hid (fun W v (hW : Below w.heap.size w W) hv => through_c A B c d g s v W (hh.keep hW) (hs.keep hW) hg hsl hv)
  have HSh := Lib.hid (fun k hk => girK_short (s := s) hg k hk)
  have HTh := Lib.hid (fun v hv => thrF_short (s := s) (v := v) hg hv)
  have HF : Hid (girF g s = girK g s g.length) := Lib.hid rfl
  clear hh hs hg hsl hr24
  generalize girF g s = res at *
  go_enter Try.func61, Try.ntmps61
  go_wp2_with fail
  refine CC.out.mono ?_
  rintro e w1 ⟨rfl, rfl⟩
  go_wp2
  go_loopw [8, 9] (fun u i wr => ∃ (k : Nat), i = .int .i64 k ∧ k ≤ g.length ∧ Hid (wr.ownsRow w.heap.size 3 1 u (girK g s k).length ((girK g s k).map Iv)) ∧ Below w.heap.size w wr) (fun _ i _ => g.length - (intOf i).toNat)
  case atStart => exact ⟨0, rfl, Nat.zero_le _, Lib.hid (World.ownsRow_nil _ _ _ _), Below.refl _ _⟩
  case round =>
    obtain ⟨k, rfl, hk, HO, hb⟩ := hrel
    have hbl := HSh.out k hk
    by_cases hlt : k < g.length
    · have HS := Lib.hid (girK_succ g s k)
      have htl := HTh.out k hlt
      have HC := Lib.hid (CT.out wr k hb hlt)
      have hsz := hb.size
      generalize thrF g s k = t at *
      generalize hbo : girK g s k = bo at *
      clear hbo
      obtain ⟨AB, cB, rfl, _⟩ := own_is HO.out
      go_wp2_with fail
      refine HC.out.mono ?_
      rintro e w2 ⟨vt, rfl, ownT, hb2⟩
      obtain ⟨AT, cT, rfl, _⟩ := own_is ownT
      have HT := Lib.hid ownT
      have HB2 := Lib.hid (hb.trans (hb2.mono hsz))
      have HO2 := Lib.hid (ownsRow_below HO.out hb2)
      clear HC ownT hb2 HO hb
      by_cases hsel : 0 < t.length ∧ (bo.length = 0 ∨ t.length < bo.length)
      · rw [if_pos hsel] at HS
        have HT2 := Lib.hid (ownsRow_base HT.out hsz)
        have hcase : decide (0 < t.length) = true ∧ (((bo.length : Int) == 0) = true ∨ ((bo.length : Int) == 0) = false ∧ decide (t.length < bo.length) = true) := by
          refine ⟨by simpa using hsel.1, ?_⟩
          rcases Nat.eq_zero_or_pos bo.length with h | h
          · left; rw [h]; rfl
          · right; exact ⟨by rw [beq_eq_false_iff_ne]; omega, by have := hsel.2; simp; omega⟩
        obtain ⟨hd1, hd2⟩ := hcase
        have hpos := hsel.1
        clear hsel
        rcases hd2 with hd2 | ⟨hd2, hd3⟩
        all_goals
          go_wp2
          go_roundw
          case rel => exact ⟨k + 1, by go_num, by omega, Lib.hid (by rw [HS.out]; exact HT2.out), HB2.out⟩
          case measure => simp [intOf]; omega
      · rw [if_neg hsel] at HS
        have hcase : decide (0 < t.length) = false ∨ decide (0 < t.length) = true ∧ ((bo.length : Int) == 0) = false ∧ decide (t.length < bo.length) = false := by
          rcases Nat.eq_zero_or_pos t.length with h | h
          · left; rw [decide_eq_false_iff_not]; omega
          · right; exact ⟨by simpa using h, by rw [beq_eq_false_iff_ne]; intro e; exact hsel ⟨h, .inl (by omega)⟩, by simp; rcases Nat.lt_or_ge t.length bo.length with h2 | h2; exact absurd ⟨h, .inr h2⟩ hsel; exact h2⟩
        clear hsel
        rcases hcase with hd1 | ⟨hd1, hd2, hd3⟩
        all_goals
          go_wp2
          go_roundw
          case rel => exact ⟨k + 1, by go_num, by omega, Lib.hid (by rw [HS.out]; exact HO2.out), HB2.out⟩
          case measure => simp [intOf]; omega
    · obtain rfl : k = g.length := by omega
      rw [← HF.out] at HO hbl
      obtain ⟨AB, cB, rfl, _⟩ := own_is HO.out
      go_wp2
      go_ret3
      exact ⟨_, rfl, HO.out, hb⟩
end Go.Proofs.Ytjbhmeeebacnpaa
namespace Go.Proofs.Ytjbhmeeebacnpaa
open Go Go.RowKit Fl

set_option maxRecDepth 100000 in
set_option maxHeartbeats 8000000 in
theorem fleet_c (Ab An As Ar : Option Addr) (cb cn cs cr : Nat) (N : NetD) (w : World) (hN : NetAt w Ab An As Ar N) (hok : NetOk N) (hcr : N.robots.length ≤ cr) :
    Calls Try.prog 49 #[.agg #[.slice Ab N.blocks.length cb, .slice An N.next.length cn, .slice As N.spurs.length cs, .slice Ar N.robots.length cr, Iv N.queue, Iv N.aging, Iv N.detours, Iv N.patience]] w (FleetPost w N) := by
  have CV := Lib.hid (fun W (hW : Below w.heap.size w W) => validNet_c Ab An As Ar cb cn cs cr N W (hN.keep hW) hok hcr)
  have CCe := Lib.hid (fun W (hW : Below w.heap.size w W) => cells_c Ab An As Ar cb cn cs cr N W (hN.keep hW) hok.few')
  have CG := Lib.hid (fun W B d (hW : Below w.heap.size w W) (hB : Holds W B ((opens N.blocks.length).map Bo)) => girth_c An B cn d N.next (opens N.blocks.length) W (hN.next.keep hW) hB hok.graph (by simp [opens, hok.lanes]))
  have CS := Lib.hid (fun W B d (hW : Below w.heap.size w W) (hB : Holds W B ((opens (cellsN N).toNat).map Bo)) => slots_c Ab An As Ar B cb cn cs cr d N (opens (cellsN N).toNat) W (hN.keep hW) hB hok.spurs6 (by have := cellsN_le hok.few'; simp [opens]; omega) (by simpa [opens] using hok.spurIn))
  have hce := cellsN_le hok.few'
  have hsl := openSum_bounds (s := opens (cellsN N).toNat) (l := N.spurs) hok.few'.2.2 N.spurs.length (Nat.le_refl _)
  have hgl := girK_short (s := opens N.blocks.length) hok.graph N.next.length (Nat.le_refl _)
  have h24 := hok.few
  have h6 := hok.spurs6
  have e1 : (opens N.blocks.length).length = N.blocks.length := by simp [opens]
  have e2 : (opens (cellsN N).toNat).length = (cellsN N).toNat := by simp [opens]
  rw [e1] at CG
  rw [e2] at CS
  obtain ⟨nc, hnc⟩ : ∃ nc, nc = (cellsN N).toNat := ⟨_, rfl⟩
  rw [show cellsN N = (nc : Int) by omega] at CCe
  have hnc48 : nc ≤ 48 := by omega
  rw [← hnc] at CS hsl
  have HSl : Hid (slotsN N = openSum (opens nc) N.spurs N.spurs.length) := Lib.hid (by rw [hnc]; rfl)
  have HGi : Hid (girN N = girF N.next (opens N.blocks.length)) := Lib.hid rfl
  have hgl2 : (girN N).length ≤ 25 := hgl
  rw [← HSl.out] at CS hsl
  rw [← HGi.out] at CG
  have h2o := heap_alloc2_old w (.cells (netCells Ab An As Ar cb cn cs cr N) 29) (.cells #[.int .i64 0, .slice none 0 0, .int .i64 0, .int .i64 0] 81)
  have h2n := heap_alloc2_new w (.cells (netCells Ab An As Ar cb cn cs cr N) 29) (.cells #[.int .i64 0, .slice none 0 0, .int .i64 0, .int .i64 0] 81)
  have hB0 : Below w.heap.size w ((w.alloc (.cells (netCells Ab An As Ar cb cn cs cr N) 29)).alloc (.cells #[.int .i64 0, .slice none 0 0, .int .i64 0, .int .i64 0] 81)) := ((Below.refl _ _).alloc (Nat.le_refl _) _).alloc (by simp) _
  have hX0 := boxAt_of h2o
  obtain ⟨x0, x1, x2, x3, x4, x5, x6, x7⟩ := boxAt_of h2o
  have hsz0 : ((w.alloc (.cells (netCells Ab An As Ar cb cn cs cr N) 29)).alloc (.cells #[.int .i64 0, .slice none 0 0, .int .i64 0, .int .i64 0] 81)).heap.size = w.heap.size + 2 := by simp
  have HX0 := Lib.hid hX0
  have HP0 := Lib.hid h2n
  clear hN hok h2o h2n hX0 hnc
  go_enter Try.func49, Try.ntmps49
  go_wp2_with fail
  generalize (w.alloc (.cells (netCells Ab An As Ar cb cn cs cr N) 29)).alloc (.cells #[.int .i64 0, .slice none 0 0, .int .i64 0, .int .i64 0] 81) = w0 at *
  have HB0 := Lib.hid hB0
  have hsz1 : w.heap.size < w0.heap.size := by omega
  refine (CV.out w0 hB0).mono ?_
  rintro e w1 ⟨rfl, hb1⟩
  have HB1 := Lib.hid (hB0.trans (hb1.mono hB0.size))
  have HX1 := Lib.hid (HX0.out.keep hsz1 hb1)
  have HP1 : Hid (w1.heap[w.heap.size + 1]? = some (.cells #[.int .i64 0, .slice none 0 0, .int .i64 0, .int .i64 0] 81 (0, 0))) := Lib.hid ((hb1.block _ (by omega)).trans HP0.out)
  have hsz2 : w.heap.size + 2 ≤ w1.heap.size := by have := hb1.size; omega
  clear x0 x1 x2 x3 x4 x5 x6 x7 hb1 CV HX0 HP0 hB0 HB0 hsz0 hsz1
  have CGH : Hid (∀ W, Below w1.heap.size w1 W → W.heap[w1.heap.size]? = some (.cells (madeCells #[.bool false] N.blocks.length) 4 (0, 0)) → Calls Try.prog 61 #[.slice An N.next.length cn, .slice (some ⟨w1.heap.size, 0, none⟩) N.blocks.length N.blocks.length] W (GirthPost W (girN N))) := Lib.hid (fun W h1 h2 => CG.out W _ _ (HB1.out.trans (h1.mono HB1.out.size)) (holds_row h2 (made_bools _)))
  have HW := Lib.hid (fun W (hW : Below w1.heap.size w1 W) => HX1.out.keep (by omega) hW)
  obtain ⟨x0, x1, x2, x3, x4, x5, x6, x7⟩ := HX1.out
  clear CG
  go_wp2_with fail
  go_upto_region 3 with fail
  go_cut [4, 5, 6] (fun g c e wx => g = .int .i64 (girN N).length ∧ e = .int .i64 0 ∧ (∃ A cc, c = .slice A (girN N).length cc) ∧ Hid (wx.ownsRow w1.heap.size 3 1 c (girN N).length ((girN N).map Iv)) ∧ Below w1.heap.size w1 wx)
  case first =>
    have mk := make_bools N.blocks.length (by omega)
    have x0a : ∀ ob, (w1.alloc ob).cell? ⟨w.heap.size, 0, none⟩ = some (.slice Ab N.blocks.length cb) := fun ob => (HW.out _ ((Below.refl _ _).alloc (Nat.le_refl _) ob)).c0
    have x1a : ∀ ob, (w1.alloc ob).cell? ⟨w.heap.size, 1, none⟩ = some (.slice An N.next.length cn) := fun ob => (HW.out _ ((Below.refl _ _).alloc (Nat.le_refl _) ob)).c1
    clear x2 x3 x4 x5 x6 x7
    go_region_with (go_at_call 61; refine (CGH.out _ (((Below.refl _ _).alloc (Nat.le_refl _) _).drew) (heap_alloc_new w1 _)).mono ?_; rintro e w2 ⟨v, rfl, own2, hb2⟩)
    all_goals
      have HO2 : Hid (w2.ownsRow w1.heap.size 3 1 v (girN N).length ((girN N).map Iv)) := Lib.hid (ownsRow_base own2 (by simp))
      have HB2 := Lib.hid ((((Below.refl w1.heap.size w1).alloc (Nat.le_refl _) _).drew).trans (hb2.mono (by simp)))
      have HS2 := Lib.hid (own_is own2)
      clear own2 hb2
      go_wp2_with fail
      go_meet
      case rel =>
        obtain ⟨A, c, e, _⟩ := HS2.out
        exact ⟨rfl, rfl, ⟨A, c, e⟩, HO2, HB2.out⟩
  case rest =>
    obtain ⟨rfl, rfl, ⟨Ac, cc, rfl⟩, HOc, hbc⟩ := hcut
    have HBc := Lib.hid (HB1.out.trans (hbc.mono HB1.out.size))
    have HPc : Hid (wc.heap[w.heap.size + 1]? = some (.cells zeroCap 81 (0, 0))) := Lib.hid ((hbc.block _ (by omega)).trans HP1.out)
    have HWc := Lib.hid (fun W (hW : Below wc.heap.size wc W) => HW.out W (hbc.trans (hW.mono hbc.size)))
    have hszc : w.heap.size + 2 ≤ wc.heap.size := by have := hbc.size; omega
    have HOc2 := Lib.hid (fun W (hW : Below wc.heap.size wc W) => ownsRow_below HOc.out hW)
    have CC2 : Hid (∀ W, Below wc.heap.size wc W → Calls Try.prog 9 #[.agg #[.slice Ab N.blocks.length cb, .slice An N.next.length cn, .slice As N.spurs.length cs, .slice Ar N.robots.length cr, Iv N.queue, Iv N.aging, Iv N.detours, Iv N.patience]] W fun e w' => e = .returned (.int .i64 nc) ∧ Below wc.heap.size wc w' ∧ Below W.heap.size W w') := Lib.hid (fun W hW => (CCe.out W (HBc.out.trans (hW.mono HBc.out.size))).mono fun e w' ⟨h1, h2⟩ => ⟨h1, hW.trans (h2.mono hW.size), h2⟩)
    have CS2 : Hid (∀ W q, Below wc.heap.size wc W → W.heap[q]? = some (.cells (madeCells #[.bool false] nc) 4 (0, 0)) → Calls Try.prog 62 #[.agg #[.slice Ab N.blocks.length cb, .slice An N.next.length cn, .slice As N.spurs.length cs, .slice Ar N.robots.length cr, Iv N.queue, Iv N.aging, Iv N.detours, Iv N.patience], .slice (some ⟨q, 0, none⟩) nc nc] W fun e w' => e = .returned (.int .i64 (slotsN N)) ∧ Below wc.heap.size wc w' ∧ Below W.heap.size W w') := Lib.hid (fun W q hW hq => by
      have h := CS.out W (some ⟨q, 0, none⟩) nc (HBc.out.trans (hW.mono HBc.out.size)) (holds_row hq (made_bools _))
      exact h.mono fun e w' ⟨h1, h2⟩ => ⟨h1, hW.trans (h2.mono hW.size), h2⟩)
    have mk := make_bools nc (by omega)
    obtain ⟨gl, hgl0⟩ : ∃ gl, gl = (girN N).length := ⟨_, rfl⟩
    rw [← hgl0] at hgl2 ⊢
    have HGL := Lib.hid hgl0
    clear hbc x0 x1 x2 x3 x4 x5 x6 x7 CCe CS HW hgl0
    obtain ⟨x0, x1, x2, x3, x4, x5, x6, x7⟩ := HWc.out _ (Below.refl _ _)
    go_wp2_with fail
    go_cut [7] (fun p wx => ∃ Y, p = .pointer (some ⟨Y, 0, none⟩) ∧ wc.heap.size ≤ Y ∧ Hid (wx.heap[Y]? = some (.cells #[.int .i64 gl, .slice Ac gl cc, Iv (slotsN N), .int .i64 0] 81 (0, 0))) ∧ Below wc.heap.size wc wx)
    case first =>
      go_region_held3 (fun W => W.cell? ⟨w.heap.size, 0, none⟩ = some (.slice Ab N.blocks.length cb) ∧ W.cell? ⟨w.heap.size, 1, none⟩ = some (.slice An N.next.length cn) ∧ W.cell? ⟨w.heap.size, 2, none⟩ = some (.slice As N.spurs.length cs) ∧ W.cell? ⟨w.heap.size, 3, none⟩ = some (.slice Ar N.robots.length cr) ∧ W.cell? ⟨w.heap.size, 4, none⟩ = some (Iv N.queue) ∧ W.cell? ⟨w.heap.size, 5, none⟩ = some (Iv N.aging) ∧ W.cell? ⟨w.heap.size, 6, none⟩ = some (Iv N.detours) ∧ W.cell? ⟨w.heap.size, 7, none⟩ = some (Iv N.patience)) (first | exact box8 (HWc.out _ (by repeat (first | assumption | (with_reducible exact Below.refl _ _) | (with_reducible refine Below.drew ?_) | (with_reducible refine below_push ?_ _) | (with_reducible refine below_put ?_ (by first | exact Nat.le_refl _ | omega)))))) (first | (go_at_call 9; refine (CC2.out _ (by repeat (first | assumption | (with_reducible exact Below.refl _ _) | (with_reducible refine Below.drew ?_) | (with_reducible refine below_push ?_ _) | (with_reducible refine below_put ?_ (by first | exact Nat.le_refl _ | omega))))).mono ?_; rintro e w2 ⟨rfl, hbw2, hbl2⟩; have hs2w := hbw2.size; have hY2 : w2.heap[wc.heap.size]? = some (.cells zeroCap 81 (0, 0)) := (hbl2.block _ (by simp)).trans (heap_alloc_new wc _); have HY2 := Lib.hid hY2; obtain ⟨z20, z21, z22, z23, f20, f21, f22, f23⟩ := row4_c hY2; clear hY2; have hs2 := hbl2.size) | (go_at_call 9; refine (CC2.out _ (by repeat (first | assumption | (with_reducible exact Below.refl _ _) | (with_reducible refine Below.drew ?_) | (with_reducible refine below_push ?_ _) | (with_reducible refine below_put ?_ (by first | exact Nat.le_refl _ | omega))))).mono ?_; rintro e w2 ⟨rfl, hbw2, hbl2⟩; have hs2w := hbw2.size) | (go_at_call 62; refine (CS2.out _ _ (by repeat (first | assumption | (with_reducible exact Below.refl _ _) | (with_reducible refine Below.drew ?_) | (with_reducible refine below_push ?_ _) | (with_reducible refine below_put ?_ (by first | exact Nat.le_refl _ | omega)))) (by first | exact heap_alloc_new _ _ | exact heap_alloc2_old _ _ _ | exact heap_alloc2_new _ _ _)).mono ?_; rintro e w3 ⟨rfl, hbw3, hbl3⟩; have hY3 : w3.heap[wc.heap.size]? = some (.cells zeroCap 81 (0, 0)) := (hbl3.block _ (by simp at hs2 ⊢; omega)).trans ((heap_alloc_old w2 _ (block_lt HY2.out)).trans HY2.out); have HY3 := Lib.hid hY3; obtain ⟨z30, z31, z32, z33, f30, f31, f32, f33⟩ := row4_c hY3; clear hY3 z20 z21 z22 z23 f20 f21 f22 f23) | (go_at_call 62; refine (CS2.out _ _ (by repeat (first | assumption | (with_reducible exact Below.refl _ _) | (with_reducible refine Below.drew ?_) | (with_reducible refine below_push ?_ _) | (with_reducible refine below_put ?_ (by first | exact Nat.le_refl _ | omega)))) (by first | exact heap_alloc_new _ _ | exact heap_alloc2_old _ _ _ | exact heap_alloc2_new _ _ _)).mono ?_; rintro e w3 ⟨rfl, hbw3, hbl3⟩; have hY3 : w3.heap[w2.heap.size]? = some (.cells zeroCap 81 (0, 0)) := (hbl3.block _ (by simp <;> omega)).trans (heap_alloc2_old _ _ _); have HY3 := Lib.hid hY3; obtain ⟨z30, z31, z32, z33, f30, f31, f32, f33⟩ := row4_c hY3; clear hY3) | (go_at_call 62; refine (CS2.out _ _ (by repeat (first | assumption | (with_reducible exact Below.refl _ _) | (with_reducible refine Below.drew ?_) | (with_reducible refine below_push ?_ _) | (with_reducible refine below_put ?_ (by first | exact Nat.le_refl _ | omega)))) (by first | exact heap_alloc_new _ _ | exact heap_alloc2_old _ _ _ | exact heap_alloc2_new _ _ _)).mono ?_; rintro e w3 ⟨rfl, hbw3, hbl3⟩; have hY3 : w3.heap[w2.heap.size + 1]? = some (.cells zeroCap 81 (0, 0)) := (hbl3.block _ (by simp <;> omega)).trans (heap_alloc2_new _ _ _); have HY3 := Lib.hid hY3; obtain ⟨z30, z31, z32, z33, f30, f31, f32, f33⟩ := row4_c hY3; clear hY3) | (go_at_call 62; refine (CS2.out _ _ (by repeat (first | assumption | (with_reducible exact Below.refl _ _) | (with_reducible refine Below.drew ?_) | (with_reducible refine below_push ?_ _) | (with_reducible refine below_put ?_ (by first | exact Nat.le_refl _ | omega)))) (by first | exact heap_alloc_new _ _ | exact heap_alloc2_old _ _ _ | exact heap_alloc2_new _ _ _)).mono ?_; rintro e w3 ⟨rfl, hbw3, hbl3⟩))
      all_goals
        go_wp2_with fail
        go_meet
        case rel =>
          refine ⟨_, rfl, ?_, ?_, ?_⟩
          · first
            | (with_reducible exact Nat.le_refl _)
            | (with_reducible exact hbw3.size)
            | omega
          · first
            | (with_reducible exact Lib.hid (heap_alloc_new w3 _))
            | (with_reducible exact Lib.hid (set4_at HY3.out))
          · first
            | (with_reducible exact below_push hbw3 _)
            | (with_reducible exact below_set4 hbw3 (Nat.le_refl _))
            | (with_reducible exact below_set4 hbw3 hs2w)
            | (with_reducible exact below_set4 hbw3 (Nat.le_succ_of_le hs2w))
    case rest =>
      obtain ⟨Y, rfl, hY, HYc, hbd⟩ := hcut
      have HBd := Lib.hid (HBc.out.trans (hbd.mono HBc.out.size))
      have HPd : Hid (wc.heap[w.heap.size + 1]? = some (.cells zeroCap 81 (0, 0))) := Lib.hid ((hbd.block _ (by omega)).trans HPc.out)
      have HOd := Lib.hid (HOc2.out _ hbd)
      have hPY : w.heap.size + 1 ≠ Y := by omega
      have HYb : Hid (Y < wc.heap.size) := Lib.hid (block_lt HYc.out)
      obtain ⟨y0, y1, y2, y3, _, _, _, yf3⟩ := row4_c HYc.out
      have hwY : w.heap.size ≤ Y := by omega
      have HSet1 := Lib.hid (fun v => below_put (i := 3) (v := v) HBd.out hwY)
      have HSet2 := Lib.hid (fun v u => below_put (i := 3) (v := u) (HSet1.out v) hwY)
      have HPs1 := Lib.hid (fun v => (Below.heap_setCell wc ⟨Y, 3, none⟩ v (w.heap.size + 1) hPY).trans HPd.out)
      have HPs2 := Lib.hid (fun v u => (Below.heap_setCell (wc.setCell ⟨Y, 3, none⟩ v) ⟨Y, 3, none⟩ u (w.heap.size + 1) hPY).trans (HPs1.out v))
      clear x0 x1 x2 x3 x4 x5 x6 x7
      have HOd2 := HOd.out
      rw [← HGL.out] at HOd2
      have HFin1 : Hid (∀ v a b c d, Below w.heap.size w (((((wc.setCell ⟨Y, 3, none⟩ v).setCell ⟨w.heap.size + 1, 0, none⟩ a).setCell ⟨w.heap.size + 1, 1, none⟩ b).setCell ⟨w.heap.size + 1, 2, none⟩ c).setCell ⟨w.heap.size + 1, 3, none⟩ d) ∧ (((((wc.setCell ⟨Y, 3, none⟩ v).setCell ⟨w.heap.size + 1, 0, none⟩ a).setCell ⟨w.heap.size + 1, 1, none⟩ b).setCell ⟨w.heap.size + 1, 2, none⟩ c).setCell ⟨w.heap.size + 1, 3, none⟩ d).ownsRow w.heap.size 3 1 (.slice Ac gl cc) gl ((girN N).map Iv)) := Lib.hid (fun v a b c d => ⟨below_set4 (HSet1.out v) (by omega), own_other (own_other (ownsRow_base HOd2 HB1.out.size) HYc.out (by decide) (fun b hb => Below.heap_setCell _ _ _ _ hb)) (HPs1.out v) (by decide) (fun b hb => heap_set4 hb)⟩)
      have HFin2 : Hid (∀ v u a b c d, Below w.heap.size w ((((((wc.setCell ⟨Y, 3, none⟩ v).setCell ⟨Y, 3, none⟩ u).setCell ⟨w.heap.size + 1, 0, none⟩ a).setCell ⟨w.heap.size + 1, 1, none⟩ b).setCell ⟨w.heap.size + 1, 2, none⟩ c).setCell ⟨w.heap.size + 1, 3, none⟩ d) ∧ ((((((wc.setCell ⟨Y, 3, none⟩ v).setCell ⟨Y, 3, none⟩ u).setCell ⟨w.heap.size + 1, 0, none⟩ a).setCell ⟨w.heap.size + 1, 1, none⟩ b).setCell ⟨w.heap.size + 1, 2, none⟩ c).setCell ⟨w.heap.size + 1, 3, none⟩ d).ownsRow w.heap.size 3 1 (.slice Ac gl cc) gl ((girN N).map Iv)) := Lib.hid (fun v u a b c d => ⟨below_set4 (HSet2.out v u) (by omega), own_other (own_other (own_other (ownsRow_base HOd2 HB1.out.size) HYc.out (by decide) (fun b hb => Below.heap_setCell _ _ _ _ hb)) (set1_at HYc.out) (by decide) (fun b hb => Below.heap_setCell _ _ _ _ hb)) (HPs2.out v u) (by decide) (fun b hb => heap_set4 hb)⟩)
      obtain ⟨sl, hsl0⟩ : ∃ sl, sl = slotsN N := ⟨_, rfl⟩
      rw [← hsl0] at hsl y2
      have HSL := Lib.hid hsl0
      clear hsl0 HSet1 HSet2 HOd HYc HOd2
      obtain ⟨p0, p1, p2, p3, pf0, pf1, pf2, pf3⟩ := row4_c HPd.out
      have hYP : Y ≠ w.heap.size + 1 := fun e => hPY e.symm
      by_cases hg0 : 0 < gl
      · have hd : decide ((0 : Int) < (gl : Int)) = true := by simp; exact hg0
        have HM1 : Hid (sl < (gl : Int) - 1 → capN gl sl = sl) := Lib.hid (fun h => by unfold capN; rw [if_pos hg0]; omega)
        have HM2 : Hid ((gl : Int) - 1 ≤ sl → capN gl sl = (gl : Int) - 1) := Lib.hid (fun h => by unfold capN; rw [if_pos hg0]; omega)
        go_wp2
        · have e := HM1.out (by assumption)
          refine bodyPost_ret (fleet_ret _ (set4_at (HPs2.out _ _)) rfl _ _ rfl rfl) rfl ?_
          refine ⟨.slice Ac gl cc, ?_, by rw [← HGL.out]; exact (HFin2.out _ _ _ _ _ _).2, (HFin2.out _ _ _ _ _ _).1⟩
          rw [← HSL.out, ← HGL.out, e]
          rfl
        · have e := HM2.out (by assumption)
          refine bodyPost_ret (fleet_ret _ (set4_at (HPs2.out _ _)) rfl _ _ rfl rfl) rfl ?_
          refine ⟨.slice Ac gl cc, ?_, by rw [← HGL.out]; exact (HFin2.out _ _ _ _ _ _).2, (HFin2.out _ _ _ _ _ _).1⟩
          rw [← HSL.out, ← HGL.out, e]
          rfl
      · have hd : decide ((0 : Int) < (gl : Int)) = false := by simp; omega
        have e : capN gl sl = sl := by unfold capN; rw [if_neg hg0]
        have HM := Lib.hid e
        clear e
        go_wp2
        refine bodyPost_ret (fleet_ret _ (set4_at (HPs1.out _)) rfl _ _ rfl rfl) rfl ?_
        refine ⟨.slice Ac gl cc, ?_, by rw [← HGL.out]; exact (HFin1.out _ _ _ _ _).2, (HFin1.out _ _ _ _ _).1⟩
        rw [← HSL.out, ← HGL.out, HM.out]
        rfl
end Go.Proofs.Ytjbhmeeebacnpaa
