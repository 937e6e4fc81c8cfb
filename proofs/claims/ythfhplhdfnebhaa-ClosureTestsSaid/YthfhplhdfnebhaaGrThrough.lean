/- Contracts of the reference's through and Girth of layer 6: a shortest closed walk through a vertex; one of the whole graph. -/
import Derived.Test.YthfhplhdfnebhaaGrFirst
import Derived.Test.YthfhplhdfnebhaaGrValid
namespace Go.Proofs.Ythfhplhdfnebhaa
open Go Go.RowKit Fl

theorem bestK_succ {row dist : List Int} {k : Nat} (h : k < row.length) : bestK row dist (k + 1) = if 0 ≤ atI dist row[k] ∧ (bestK row dist k < 0 ∨ atI dist row[k] < atI dist (bestK row dist k)) then row[k] else bestK row dist k := by
  have e : row.getD k 0 = row[k] := by rw [List.getD_eq_getElem?_getD, List.getElem?_eq_getElem h]; rfl
  rw [bestK]
  simp only [e]
theorem atI_nat {l : List Int} {y : Nat} (h : y < l.length) : atI l (y : Int) = l[y] := by unfold atI; rw [Int.toNat_natCast, List.getD_eq_getElem?_getD, List.getElem?_eq_getElem h]; rfl
theorem Holds.news {w : World} {b o : Nat} {xs : List Value} (h : Holds w (some ⟨b, o, none⟩) xs) {m : Nat} : ∀ j u, (xs.take m)[j]? = some u → w.cell? ((⟨b, o, none⟩ : Addr).add j) = some u := fun j u hu => by
  have hadd : (⟨b, o, none⟩ : Addr).add j = ⟨b, o + j, none⟩ := by unfold Addr.add; split <;> simp_all
  rw [List.getElem?_take] at hu
  split at hu
  · obtain ⟨hj, hu⟩ := List.getElem?_eq_some_iff.1 hu
    obtain ⟨b', o', hA, _, hc⟩ := h.at_ (by omega)
    injection hA with hA
    injection hA with h1 h2
    subst h1 h2
    rw [hadd, hc j hj, hu]
  · cases hu
set_option maxRecDepth 100000 in
set_option maxHeartbeats 4000000 in
theorem through_c (A B : Option Addr) (c d : Nat) (g : GraphD) (s : List Bool) (v : Nat) (w : World) (hh : RowsAt w A g) (hs : Holds w B (s.map Bo)) (hg : validG g = true) (hsl : s.length = g.length) (hv : v < g.length) :
    Calls Try.prog 50 #[.slice A g.length c, .slice B s.length d, .int .i64 v] w fun e w' => ∃ u, e = .returned u ∧ w'.ownsRow w.heap.size 3 1 u (thrF g s v).length ((thrF g s v).map Iv) ∧ Below w.heap.size w w' := by
  have hvs : v < s.length := by omega
  obtain ⟨bs, os, rfl, hsc⟩ := hs.bo hvs
  have hat : atB s v = s[v] := by unfold atB; rw [List.getD_eq_getElem?_getD, List.getElem?_eq_getElem hvs]; rfl
  have CD := Lib.hid (dist_c A (some ⟨bs, os, none⟩) c d g s v w hh hs hg hsl hv)
  have CF := Lib.hid (fun W a (hW : Below w.heap.size w W) ha => first_c A (some ⟨bs, os, none⟩) c d g s a v W (hh.keep hW) (hs.keep hW) hg hsl ha hv)
  have HBK := Lib.hid (bestK_ok (dist := distF g s v) hg hv)
  have HRow := Lib.hid (rowOk_row hg hv)
  have HDL := Lib.hid (distF_length g s v)
  have HTrue : Hid (atB s v = true → thrF g s v = []) := Lib.hid (fun h => by unfold thrF; rw [if_pos h])
  have HT : Hid (atB s v = false → thrF g s v = if bestK (rowG g v) (distF g s v) (rowG g v).length < 0 then [] else (v : Int) :: (firstF g s (bestK (rowG g v) (distF g s v) (rowG g v).length).toNat v).dropLast) := Lib.hid (fun h => by unfold thrF; rw [h]; rfl)
  have HFd : Hid (∀ a, firstF g s a v = if (distF g s v).getD a (-1) < 0 then [] else pathF (hopsL g (distF g s v)) ((distF g s v).getD a (-1)).toNat a) := Lib.hid (fun a => rfl)
  have hFsh := fun a => firstF_short (s := s) (a := a) hg hv
  have HFS := Lib.hid hFsh
  have HH := Lib.hid hh
  have HR24 := Lib.hid (validG_short hg)
  clear hh hs hg hsl hFsh
  rcases hsv : s[v] with _ | _
  · rw [hsv] at hat hsc
    replace HT := Lib.hid (HT.out hat)
    clear HTrue hat
    generalize thrF g s v = res at *
    generalize distF g s v = dist at *
    go_enter Try.func50, Try.ntmps50
    go_wp2_with fail
    refine CD.out.mono ?_
    rintro e w2 ⟨vd, rfl, ownD, hb2⟩
    obtain ⟨AD, cD, rfl, hD⟩ := own_is ownD
    have HD := Lib.hid hD
    have HB2 := Lib.hid hb2
    obtain ⟨bg, og, A1, c1, rfl, e1, h1⟩ := (HH.out.keep HB2.out).one hv
    have hrow : rowG g v = g[v] := rowG_at hv
    have hrl24 := HR24.out _ (List.getElem_mem hv)
    rw [hrow] at HBK HRow HT
    have H1 := Lib.hid h1
    clear CD ownD hD hb2 hsc hsv h1 hrow
    generalize g[v] = r at *
    go_wp2
    go_loopw [8, 9] (fun u i wr => ∃ (k : Nat) (z : Int), i = .int .i64 k ∧ k ≤ r.length ∧ u = .int .i64 z ∧ Hid (z = bestK r dist k) ∧ Hid (∃ n, wr = w2.drewN n)) (fun _ i _ => r.length - (intOf i).toNat)
    case atStart => exact ⟨0, -1, rfl, Nat.zero_le _, rfl, Lib.hid rfl, Lib.hid ⟨0, rfl⟩⟩
    case round =>
      obtain ⟨k, z, rfl, hk, rfl, HZ, HW⟩ := hrel
      have hbk := HBK.out k hk
      rw [← HZ.out] at hbk
      obtain ⟨n0, hn0⟩ := HW.out
      subst hn0
      by_cases hlt : k < r.length
      · obtain ⟨br, or_, rfl, e2⟩ := H1.out.iv hlt
        have HS := Lib.hid (bestK_succ (dist := dist) hlt)
        rw [← HZ.out] at HS
        obtain ⟨x0, x1, x2⟩ := HRow.out r[k] (List.getElem_mem hlt)
        generalize r[k] = x at *
        obtain ⟨y, rfl⟩ := Int.eq_ofNat_of_zero_le x0
        have hyn : y < g.length := by omega
        have hyd : y < dist.length := by have := HDL.out; omega
        obtain ⟨bd, od, rfl, ed⟩ := HD.out.iv hyd
        rw [atI_nat hyd] at HS
        clear x0 x1 x2 HZ
        by_cases hd0 : 0 ≤ dist[y]
        · have hdd : decide (0 ≤ dist[y]) = true := by simpa using hd0
          rcases hbk with rfl | ⟨hz0, hz1, hz2⟩
          · have HS2 : Hid ((y : Int) = bestK r dist (k + 1)) := Lib.hid (by rw [HS.out, if_pos ⟨hd0, .inl (by omega)⟩])
            clear hd0 HS
            generalize dist[y] = dy at *
            go_wp2
            go_quiet (fail)
            go_wp2
            go_roundw
            case rel => exact ⟨k + 1, y, by go_num, by omega, rfl, HS2, Lib.hid ⟨_, rfl⟩⟩
            case measure => simp [intOf]; omega
          · obtain ⟨b, rfl⟩ := Int.eq_ofNat_of_zero_le hz0
            have hbn : b < g.length := by omega
            have hbd : b < dist.length := by have := HDL.out; omega
            obtain ⟨bd2, od2, hBeq, eb⟩ := HD.out.iv hbd
            injection hBeq with hBeq
            injection hBeq with hB1 hB2
            subst hB1 hB2
            rw [atI_nat hbd] at HS
            have hbneg : decide ((b : Int) < 0) = false := by simp
            clear hz0 hz1 hz2
            by_cases hlt2 : dist[y] < dist[b]
            · have HS2 : Hid ((y : Int) = bestK r dist (k + 1)) := Lib.hid (by rw [HS.out, if_pos ⟨hd0, .inr hlt2⟩])
              have hdl : decide (dist[y] < dist[b]) = true := by simpa using hlt2
              clear hd0 HS hlt2
              generalize dist[y] = dy at *
              generalize dist[b] = db at *
              go_wp2
              go_quiet (fail)
              go_wp2
              go_roundw
              case rel => exact ⟨k + 1, y, by go_num, by omega, rfl, HS2, Lib.hid ⟨_, rfl⟩⟩
              case measure => simp [intOf]; omega
            · have HS2 : Hid ((b : Int) = bestK r dist (k + 1)) := Lib.hid (by rw [HS.out, if_neg]; rintro ⟨_, h | h⟩ <;> omega)
              have hdl : decide (dist[y] < dist[b]) = false := by simpa using hlt2
              clear hd0 HS hlt2
              generalize dist[y] = dy at *
              generalize dist[b] = db at *
              go_wp2
              go_quiet (fail)
              go_wp2
              go_roundw
              case rel => exact ⟨k + 1, b, by go_num, by omega, rfl, HS2, Lib.hid ⟨_, rfl⟩⟩
              case measure => simp [intOf]; omega
        · have hdd : decide (0 ≤ dist[y]) = false := by simpa using hd0
          have HS2 : Hid (z = bestK r dist (k + 1)) := Lib.hid (by rw [HS.out, if_neg]; rintro ⟨h, _⟩; omega)
          clear hd0 HS hbk
          generalize dist[y] = dy at *
          go_wp2
          go_quiet (fail)
          go_wp2
          go_roundw
          case rel => exact ⟨k + 1, z, by go_num, by omega, rfl, HS2, Lib.hid ⟨_, rfl⟩⟩
          case measure => simp [intOf]; omega
      · obtain rfl : k = r.length := by omega
        rw [← HZ.out] at HT
        have HBd := Lib.hid (below_drewN HB2.out n0)
        rcases hbk with rfl | ⟨hz0, hz1, hz2⟩
        · have HR : Hid (res = []) := Lib.hid (by rw [HT.out]; rfl)
          clear HT HZ
          go_wp2
          go_ret
          exact ⟨_, rfl, by rw [HR.out]; exact World.ownsRow_nil _ _ _ _, HBd.out⟩
        · obtain ⟨b, rfl⟩ := Int.eq_ofNat_of_zero_le hz0
          have hbn : b < g.length := by omega
          have hbd : b < dist.length := by have := HDL.out; omega
          rw [atI_nat hbd] at hz2
          have hneg : decide ((b : Int) < 0) = false := by simp
          have HR : Hid (res = (v : Int) :: (firstF g s b v).dropLast) := Lib.hid (by rw [HT.out, if_neg (by omega)]; rfl)
          have hpl : 0 < (firstF g s b v).length := by
            rw [HFd.out b, List.getD_eq_getElem?_getD, List.getElem?_eq_getElem hbd, if_neg (by simpa using hz2), pathF_length]
            omega
          have hpl2 := HFS.out b
          have HC := Lib.hid (CF.out (w2.drewN n0) b HBd.out hbn)
          clear HT HZ CF hz0 hz1 hz2 HFS HFd
          generalize firstF g s b v = p at *
          obtain ⟨m, hm⟩ : ∃ m, p.length = m + 1 := ⟨p.length - 1, by omega⟩
          rw [hm] at HC
          go_wp2_with fail
          refine HC.out.mono ?_
          rintro e w3 ⟨vp, rfl, ownP, hb3⟩
          obtain ⟨gp, cp, rfl, hgp, hcp⟩ := own_at ownP (by omega)
          have hP := ownsRow_holds ownP
          have HP := Lib.hid hP
          have HB3 := Lib.hid (HBd.out.trans (hb3.mono HBd.out.size))
          clear HC ownP hb3 hP hpl
          have own4 : (w3.alloc (.cells #[.int .i64 v] 3)).ownsRow w3.heap.size 3 1 (.slice (some ⟨w3.heap.size, 0, none⟩) 1 1) 1 [Iv v] := own_one (heap_alloc_new w3 _) (Nat.le_refl _)
          have HO4 := Lib.hid own4
          have HB4 : Hid (Below w3.heap.size w3 (w3.alloc (.cells #[.int .i64 v] 3))) := Lib.hid ((Below.refl _ _).alloc (Nat.le_refl _) _)
          have HDr : Hid (p.dropLast.length = m ∧ (p.map Iv).take m = p.dropLast.map Iv) := Lib.hid ⟨by simp [hm], by rw [← List.map_take, List.dropLast_eq_take, hm]; rfl⟩
          have hm24 : m ≤ 24 := by omega
          clear own4
          obtain ⟨i0, hi, hz0, hz1, hz2⟩ := info_parts Try.infoIntG
          go_wp2_with (at_builtin; refine wpList_append_own _ rfl _ _ 25 rfl w3.heap.size 3 i0 (.int .i64 0) 1 8 Try.underlying25 hi hz0 hz1 hz2 rfl (by decide) _ _ _ rfl HO4.out ⟨gp, 0, none⟩ m cp ((p.map Iv).take m) rfl ?c1 ?c2 ?c3 ?c4 ?c5 ?c6 ?_)
          case c1 => simp; omega
          case c2 => exact (HP.out.keep HB4.out).news
          case c3 => intro u hu; obtain ⟨q, _, rfl⟩ := List.mem_map.1 (List.mem_of_mem_take hu); rfl
          case c4 => unfold maxLen; omega
          case c5 => omega
          case c6 => simp
          intro v8 w8 own8 hg8 _
          have hb8 : Below w3.heap.size w3 w8 := HB4.out.grown hg8 (by simp) (fun k hk => own_base HO4.out k hk)
          have HO8 : Hid (w8.ownsRow w3.heap.size 3 1 v8 res.length (res.map Iv)) := Lib.hid (by
            rw [HR.out]
            rw [HDr.out.2] at own8
            have e : ((v : Int) :: p.dropLast).length = 1 + m := by rw [List.length_cons, HDr.out.1]; omega
            rw [e]
            exact own8)
          clear own8 hg8
          go_wp2
          go_ret
          exact ⟨_, rfl, ownsRow_base HO8.out HB3.out.size, HB3.out.trans (hb8.mono HB3.out.size)⟩
  · rw [hsv] at hat hsc
    have HR := Lib.hid (HTrue.out hat)
    clear HT HTrue hat CD CF
    go_enter Try.func50, Try.ntmps50
    go_wp2
    go_ret
    exact ⟨_, rfl, by rw [HR.out]; exact World.ownsRow_nil _ _ _ _, Below.refl _ _⟩
end Go.Proofs.Ythfhplhdfnebhaa
