/- Contract of the landed Footprint. -/
import Derived.Test.YtjbhmeeebacnpaaPkSmall
namespace Go.Proofs.Ytjbhmeeebacnpaa
open Go Go.RowKit Fl

set_option maxRecDepth 100000 in
set_option maxHeartbeats 2000000 in
theorem devFp_c (b : BodD) (w : World) : Calls Try.prog 19 #[BV b] w fun e w' => ∃ u, e = .returned u ∧ w'.ownsRow w.heap.size 3 1 u (fpB b).length ((fpB b).map (fun z => Value.int .i64 z)) ∧ Below w.heap.size w w' := by
  have HB := Lib.hid (below_newB w (.cells (BC b) 40))
  have HX := Lib.hid (BodAt.new w b)
  have HF := Lib.hid (fun W => floor_c b W)
  have HT := Lib.hid (fun W => transit_c b W)
  have HL : Hid (∀ (W : World) (xs : Array Value), w.heap.size ≤ W.heap.size → xs.size ≤ 10 → (W.alloc (.cells xs 3)).ownsRow w.heap.size 3 1 (.slice (some ⟨W.heap.size, 0, none⟩) xs.size xs.size) xs.size xs.toList) := Lib.hid (fun W xs h1 h2 => by
    have h := World.ownsRow_lit (base := w.heap.size) (e := 3) (size := 1) W xs xs.size h1 (by unfold maxLen; omega) (by omega)
    exact h)
  obtain ⟨u, hu⟩ : ∃ u, floorB b = u := ⟨_, rfl⟩
  obtain ⟨v, hv⟩ : ∃ v, (b.dst != -1) = v := ⟨_, rfl⟩
  obtain ⟨fp, hfp⟩ : ∃ fp, fpB b = fp := ⟨_, rfl⟩
  rw [hfp]
  have hT2 : (floorB b && b.dst != -1) = (u && v) := by rw [hu, hv]
  rw [hu, hv] at HT
  rw [hu] at HF
  clear hT2
  have HE : Hid (fpB b = fp ∧ floorB b = u ∧ (b.dst != -1) = v) := Lib.hid ⟨hfp, hu, hv⟩
  clear hfp hu hv
  obtain ⟨cel, dst, srv, flt⟩ := b
  dsimp only at HE
  rcases u with _ | _
  · have hq : fp = [] := by
      rw [← HE.out.1]
      have h := HE.out.2.1
      unfold floorB at h
      exact if_pos (by simpa using h)
    subst hq
    clear HE
    go_enter Try.func19, Try.ntmps19
    go_wp2_with fail
    refine (HF.out _).mono ?_
    rintro e w2 ⟨rfl, hb2⟩
    have HB2 := Lib.hid (HB.out.trans (hb2.mono HB.out.size))
    clear hb2
    go_wp2
    go_ret
    exact ⟨_, rfl, World.ownsRow_nil _ _ _ _, HB2.out⟩
  · have h1 : cel ≠ -1 := by
      have h := HE.out.2.1
      unfold floorB at h
      simpa using h
    rcases v with _ | _
    · have hq : fp = [cel] := by
        rw [← HE.out.1]
        have h := HE.out.2.2
        unfold fpB
        rw [if_neg h1, if_pos (.inl (by simpa using h))]
      subst hq
      clear HE h1
      go_enter Try.func19, Try.ntmps19
      go_wp2_with fail
      refine (HF.out _).mono ?_
      rintro e w2 ⟨rfl, hb2⟩
      have HB2 := Lib.hid (HB.out.trans (hb2.mono HB.out.size))
      have HX2 := Lib.hid (HX.out.keep hb2)
      obtain ⟨x0, x1, x2, x3⟩ := HX2.out.cell
      clear hb2
      go_wp2_with fail
      refine (HT.out _).mono ?_
      rintro e w3 ⟨rfl, hb3⟩
      have HB3 := Lib.hid (HB2.out.trans (hb3.mono HB2.out.size))
      have HX3 := Lib.hid (HX2.out.keep hb3)
      obtain ⟨x0, x1, x2, x3⟩ := HX3.out.cell
      clear hb3 HB2
      go_wp2
      go_ret
      exact ⟨_, rfl, HL.out _ #[.int .i64 cel] HB3.out.size (by simp), HB3.out.alloc HB3.out.size _⟩
    · have h2 : dst ≠ -1 := by
        have h := HE.out.2.2
        simpa using h
      by_cases h3 : dst = cel
      · have hq : fp = [cel] := by
          rw [← HE.out.1]
          unfold fpB
          rw [if_neg h1, if_pos (.inr h3)]
        subst hq
        have h3' : (dst == cel) = true := by simpa using h3
        clear HE h1 h2 h3
        go_enter Try.func19, Try.ntmps19
        go_wp2_with fail
        refine (HF.out _).mono ?_
        rintro e w2 ⟨rfl, hb2⟩
        have HB2 := Lib.hid (HB.out.trans (hb2.mono HB.out.size))
        have HX2 := Lib.hid (HX.out.keep hb2)
        obtain ⟨x0, x1, x2, x3⟩ := HX2.out.cell
        clear hb2
        go_wp2_with fail
        refine (HT.out _).mono ?_
        rintro e w3 ⟨rfl, hb3⟩
        have HB3 := Lib.hid (HB2.out.trans (hb3.mono HB2.out.size))
        have HX3 := Lib.hid (HX2.out.keep hb3)
        obtain ⟨x0, x1, x2, x3⟩ := HX3.out.cell
        clear hb3 HB2
        go_wp2
        go_ret
        exact ⟨_, rfl, HL.out _ #[.int .i64 cel] HB3.out.size (by simp), HB3.out.alloc HB3.out.size _⟩
      · have hq : fp = [min cel dst, max cel dst] := by
          rw [← HE.out.1]
          unfold fpB
          rw [if_neg h1, if_neg (fun h => h.elim h2 h3)]
        subst hq
        have h3' : (dst == cel) = false := by simpa using h3
        clear HE h1 h2 h3
        go_enter Try.func19, Try.ntmps19
        go_wp2_with fail
        refine (HF.out _).mono ?_
        rintro e w2 ⟨rfl, hb2⟩
        have HB2 := Lib.hid (HB.out.trans (hb2.mono HB.out.size))
        have HX2 := Lib.hid (HX.out.keep hb2)
        obtain ⟨x0, x1, x2, x3⟩ := HX2.out.cell
        clear hb2
        go_wp2_with fail
        refine (HT.out _).mono ?_
        rintro e w3 ⟨rfl, hb3⟩
        have HB3 := Lib.hid (HB2.out.trans (hb3.mono HB2.out.size))
        have HX3 := Lib.hid (HX2.out.keep hb3)
        obtain ⟨x0, x1, x2, x3⟩ := HX3.out.cell
        clear hb3 HB2
        go_wp2
        go_ret
        exact ⟨_, rfl, HL.out _ #[.int .i64 (min cel dst), .int .i64 (max cel dst)] HB3.out.size (by simp), HB3.out.alloc HB3.out.size _⟩
end Go.Proofs.Ytjbhmeeebacnpaa
