/- Contract of the reference's Parse. -/
import Derived.Test.YtpglhidhghhmoaaDoorLyRefOne
namespace Go.Proofs.YtpglhidhghhmoaaDoor
open Go.RowKit Fl
attribute [local go_sem] bget

set_option maxRecDepth 100000 in
set_option maxHeartbeats 4000000 in
theorem refParse_c (A : Option Addr) (c : Nat) (ls : List LineI) (w : World) (hr : RawAt w A ls) (hl : ls.length ≤ 2000000000000) (hf : ∀ x ∈ ls, x.2.length ≤ 8796093021952) (hs : ∀ x ∈ ls, ∀ f ∈ x.2, f.length ≤ 9223372036854775000) :
    Calls Tryd.prog 10 #[.slice A ls.length c] w (ParsePost w (parseT ls)) := by
  have HR := Lib.hid hr
  have HF := Lib.hid hf
  have HS := Lib.hid hs
  clear hr hf hs
  obtain ⟨i0, hi, hz0, hz1, hz2⟩ := info_parts Tryd.infoDecl
  go_enter Tryd.func10, Tryd.ntmps10
  go_wp2
  go_loopw [5, 6] (fun v i wr => ∃ (k : Nat) (ds : List DeclD), i = .int .i64 k ∧ k ≤ ls.length ∧ ds.length = k ∧ Hid (DeclsOwn wr w.heap.size v ds) ∧ Below w.heap.size w wr ∧ Hid (parseT ls = parseA ds (ls.drop k))) (fun _ i _ => ls.length - (intOf i).toNat)
  case atStart => exact ⟨0, [], rfl, Nat.zero_le _, rfl, Lib.hid ⟨[], rfl, ⟨rfl, .inl ⟨rfl, rfl⟩⟩, by simp⟩, Below.refl _ _, Lib.hid rfl⟩
  case round =>
    obtain ⟨k, ds, rfl, hk, hdl, HO, hb, HA⟩ := hrel
    by_cases hlt : k < ls.length
    · obtain ⟨b, o, A', c', rfl, e0, e1, hlc, hh⟩ := (HR.out.keep hb).line hlt
      have HL := Lib.hid (refOne_c ls[k].1 A' c' ls[k].2 wr hh (HF.out _ (List.getElem_mem hlt)) (HS.out _ (List.getElem_mem hlt)))
      have HPE := Lib.hid (fun (e : Nat) (h : parse1 ls[k] = .error e) => parseA_err (acc := ds) hlt h)
      have HPO := Lib.hid (fun (d : DeclD) (h : parse1 ls[k] = .ok d) => parseA_ok (acc := ds) hlt h)
      clear hh hlc
      generalize hx : ls[k] = x at *
      obtain ⟨xn, xf⟩ := x
      clear hx
      simp only at e0 e1 HL HPE HPO
      have hbb := World.block_lt_of_cell? _ _ e0
      have HE0 := Lib.hid e0
      rcases hR1 : parse1 (xn, xf) with er | d
      · have hne : ((er : Int) != 0) = true := by have := parse1_errs hR1; rw [bne_iff_ne]; omega
        have HA2 := Lib.hid (HA.out.trans (HPE.out er hR1))
        rw [hR1] at HL
        clear hR1 HPE HPO HA
        go_wp2_with fail
        refine HL.out.mono ?_
        rintro e w2 ⟨hb2, rfl⟩
        have c0 : ∀ ob, (w2.alloc ob).cell? ⟨b, o + k * 2, none⟩ = some (.int .i64 xn) := fun ob => ((hb2.alloc hb2.size ob).cell (p := ⟨b, o + k * 2, none⟩) hbb).trans HE0.out
        have hbz := hb.trans (hb2.mono hb.size)
        have HB2 := Lib.hid (fun ob => hbz.alloc hbz.size ob)
        clear hb2 HL hb hbz e0 e1
        go_wp2
        go_quiet (fail)
        go_wp2
        go_ret3
        exact ⟨below_drewN (HB2.out _) _, by rw [HA2.out]; rfl⟩
      · have HA2 := Lib.hid (HA.out.trans (HPO.out d hR1))
        rw [hR1] at HL
        clear hR1 HPE HPO HA
        go_wp2_with fail
        refine HL.out.mono ?_
        rintro e w2 ⟨hb2, nv, xv, rfl, hn2, hx2⟩
        obtain ⟨A1, c1, rfl⟩ := own_slice hn2
        obtain ⟨A2, c2, rfl⟩ := own_slice hx2
        obtain ⟨fvs, hfl, hown, hfv⟩ := HO.out.keep hb2
        rw [hdl] at hown
        have hb3 : Below w.heap.size w (w2.alloc (.cells #[.int .i64 d.word, .int .i64 d.line, .slice A1 d.names.length c1, .slice A2 d.nums.length c2] 53)) := (hb.trans (hb2.mono hb.size)).alloc (Nat.le_trans hb.size hb2.size) _
        have own3 := hown.alloc (.cells #[.int .i64 d.word, .int .i64 d.line, .slice A1 d.names.length c1, .slice A2 d.nums.length c2] 53)
        have HN3 := Lib.hid (ownsRow_base (hn2.alloc (.cells #[.int .i64 d.word, .int .i64 d.line, .slice A1 d.names.length c1, .slice A2 d.nums.length c2] 53)) hb.size)
        have HX3 := Lib.hid (ownsRow_base (hx2.alloc (.cells #[.int .i64 d.word, .int .i64 d.line, .slice A1 d.names.length c1, .slice A2 d.nums.length c2] 53)) hb.size)
        have HF3 := Lib.hid (fun (i : Nat) (fv : Value × Value) (d' : DeclD) (h1 : fvs[i]? = some fv) (h2 : ds[i]? = some d') => And.intro ((hfv i fv d' h1 h2).1.alloc (.cells #[.int .i64 d.word, .int .i64 d.line, .slice A1 d.names.length c1, .slice A2 d.nums.length c2] 53)) ((hfv i fv d' h1 h2).2.alloc (.cells #[.int .i64 d.word, .int .i64 d.line, .slice A1 d.names.length c1, .slice A2 d.nums.length c2] 53)))
        have HFL := Lib.hid hfl
        have HOwn := Lib.hid own3
        clear hb2 HL hb hn2 hx2 hfv hfl hown own3 HO e0 e1
        go_wp2_with (at_builtin; refine wpList_append_own _ rfl _ _ 27 rfl w.heap.size 53 i0 (.agg #[.int .i64 0, .int .i64 0, .slice none 0 0, .slice none 0 0]) 4 64 Tryd.underlying27 hi hz0 hz1 hz2 rfl (by decide) _ _ _ rfl (HOwn.out.alloc _) ⟨_, 0, none⟩ 1 1 [.int .i64 d.word, .int .i64 d.line, .slice A1 d.names.length c1, .slice A2 d.nums.length c2] rfl rfl ?c1 ?c2 ?c3 ?c4 ?c5 ?_)
        case c1 =>
          intro j u hu
          rcases j with _ | _ | _ | _ | j
          · simp at hu; subst hu; simp [go_sem]
          · simp at hu; subst hu; simp [go_sem]
          · simp at hu; subst hu; simp [go_sem]
          · simp at hu; subst hu; simp [go_sem]
          · simp at hu
        case c2 => intro u hu; simp at hu; rcases hu with rfl | rfl | rfl | rfl <;> rfl
        case c3 => unfold maxLen; omega
        case c4 => omega
        case c5 => have := hb3.size; simp at this ⊢; omega
        intro v' w3 own3 hg3 _
        have base3 := own_base HOwn.out
        have hb4 : Below w.heap.size w w3 := (hb3.alloc hb3.size _).grown hg3 (by have := hb3.size; simp at this ⊢; omega) base3
        have HO4 : Hid (DeclsOwn w3 w.heap.size v' (ds ++ [d])) := Lib.hid (by
          refine DeclsOwn.snoc HFL.out (by rw [hdl]; exact HOwn.out) HF3.out HN3.out HX3.out hg3 ?_
          rw [hdl]
          exact own3)
        clear hb3 own3 hg3 HOwn HF3 HN3 HX3 base3
        go_wp2
        go_roundw
        case rel => exact ⟨k + 1, ds ++ [d], by go_num, by omega, by simp; omega, HO4, hb4, HA2⟩
        case measure => simp [intOf]; omega
    · have HA2 := Lib.hid (HA.out.trans (parseA_end (by omega)))
      have HO2 := HO
      go_wp2
      go_ret3
      exact ⟨hb, by rw [HA2.out]; exact ⟨_, rfl, HO2.out⟩⟩
end Go.Proofs.YtpglhidhghhmoaaDoor
