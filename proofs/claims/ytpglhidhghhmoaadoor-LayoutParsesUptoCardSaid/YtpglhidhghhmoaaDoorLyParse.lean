/- Contract of layout.Parse: it reads all lines as declarations, or says the first error and its line. -/
import Derived.Test.YtpglhidhghhmoaaDoorLyParseLine
namespace Go.Proofs.YtpglhidhghhmoaaDoor
open Go.RowKit Fl
attribute [local go_sem] bget

/-- The cells of declarations: a word, a line and two slices for each. -/
def declCells : List DeclD → List (Value × Value) → List Value
  | d :: ds, fv :: fvs => .int .i64 d.word :: .int .i64 d.line :: fv.1 :: fv.2 :: declCells ds fvs
  | _, _ => []
theorem declCells_snoc : ∀ (ds : List DeclD) (fvs : List (Value × Value)) (d : DeclD) (fv : Value × Value), fvs.length = ds.length → declCells (ds ++ [d]) (fvs ++ [fv]) = declCells ds fvs ++ [.int .i64 d.word, .int .i64 d.line, fv.1, fv.2]
  | [], [], _, _, _ => rfl
  | [], _ :: _, _, _, h => by simp at h
  | _ :: _, [], _, _, h => by simp at h
  | a :: ds, b :: fvs, d, fv, h => by
    simp only [List.cons_append, declCells]
    rw [declCells_snoc ds fvs d fv (by simpa using h)]
theorem declCells_length : ∀ (ds : List DeclD) (fvs : List (Value × Value)), fvs.length = ds.length → (declCells ds fvs).length = ds.length * 4
  | [], [], _ => rfl
  | [], _ :: _, h => by simp at h
  | _ :: _, [], h => by simp at h
  | a :: ds, b :: fvs, h => by
    simp only [declCells, List.length_cons]
    rw [declCells_length ds fvs (by simpa using h)]; omega
/-- The slice v, a row of the call's own, holds the declarations ds. -/
def DeclsOwn (w : World) (base : Nat) (v : Value) (ds : List DeclD) : Prop :=
  ∃ fvs : List (Value × Value), fvs.length = ds.length ∧ w.ownsRow base 53 4 v ds.length (declCells ds fvs) ∧
    ∀ (i : Nat) (fv : Value × Value) (d : DeclD), fvs[i]? = some fv → ds[i]? = some d → w.ownsRow base 9 1 fv.1 d.names.length (d.names.map S) ∧ w.ownsRow base 3 1 fv.2 d.nums.length (d.nums.map I)
theorem DeclsOwn.keep {w w' : World} {base : Nat} {v : Value} {ds : List DeclD} (h : DeclsOwn w base v ds) (hb : Below w.heap.size w w') : DeclsOwn w' base v ds := by
  obtain ⟨fvs, hl, hown, hf⟩ := h
  exact ⟨fvs, hl, ownsRow_below hown hb, fun i fv d h1 h2 => ⟨ownsRow_below (hf i fv d h1 h2).1 hb, ownsRow_below (hf i fv d h1 h2).2 hb⟩⟩
theorem DeclsOwn.base {w : World} {base base2 : Nat} {v : Value} {ds : List DeclD} (h : DeclsOwn w base v ds) (hb : base2 ≤ base) : DeclsOwn w base2 v ds := by
  obtain ⟨fvs, hl, hown, hf⟩ := h
  exact ⟨fvs, hl, ownsRow_base hown hb, fun i fv d h1 h2 => ⟨ownsRow_base (hf i fv d h1 h2).1 hb, ownsRow_base (hf i fv d h1 h2).2 hb⟩⟩
theorem DeclsOwn.snoc {w w3 : World} {base : Nat} {v v' nv xv : Value} {ds : List DeclD} {d : DeclD} {fvs : List (Value × Value)} {cs : Array Value} {t : TypeId}
    (hl : fvs.length = ds.length) (hown : w.ownsRow base 53 4 v ds.length (declCells ds fvs))
    (hf : ∀ (i : Nat) (fv : Value × Value) (d : DeclD), fvs[i]? = some fv → ds[i]? = some d → w.ownsRow base 9 1 fv.1 d.names.length (d.names.map S) ∧ w.ownsRow base 3 1 fv.2 d.nums.length (d.nums.map I))
    (h1 : w.ownsRow base 9 1 nv d.names.length (d.names.map S)) (h2 : w.ownsRow base 3 1 xv d.nums.length (d.nums.map I))
    (hg : (w.alloc (.cells cs t)).grownBy w3 v.ownBlock) (h3 : w3.ownsRow base 53 4 v' (ds.length + 1) (declCells ds fvs ++ [.int .i64 d.word, .int .i64 d.line, nv, xv])) :
    DeclsOwn w3 base v' (ds ++ [d]) := by
  refine ⟨fvs ++ [(nv, xv)], by simp [hl], by rw [declCells_snoc ds fvs _ _ hl]; simpa using h3, fun i fv e g1 g2 => ?_⟩
  have keep1 : ∀ {fv : Value} {ss : List (List UInt8)}, w.ownsRow base 9 1 fv ss.length (ss.map S) → w3.ownsRow base 9 1 fv ss.length (ss.map S) := fun h => ownsRow_apart (h.alloc _) (hown.alloc _) (by decide) hg
  have keep2 : ∀ {fv : Value} {ss : List Int}, w.ownsRow base 3 1 fv ss.length (ss.map I) → w3.ownsRow base 3 1 fv ss.length (ss.map I) := fun h => ownsRow_apart (h.alloc _) (hown.alloc _) (by decide) hg
  rcases Nat.lt_or_ge i ds.length with hi | hi
  · rw [List.getElem?_append_left (by omega)] at g1 g2
    exact ⟨keep1 (hf i fv e g1 g2).1, keep2 (hf i fv e g1 g2).2⟩
  · rw [List.getElem?_append_right (by omega)] at g1 g2
    have hi0 : i - ds.length = 0 := by
      rcases Nat.eq_zero_or_pos (i - ds.length) with h | h
      · exact h
      · rw [List.getElem?_eq_none (by simp; omega)] at g2; cases g2
    rw [hl, hi0] at g1
    rw [hi0] at g2
    simp at g1 g2
    subst g1 g2
    exact ⟨keep1 h1, keep2 h2⟩
def ParsePost (w : World) (R : Except (Int × Nat) (List DeclD)) (e : Ending) (w' : World) : Prop :=
  Below w.heap.size w w' ∧ match R with
    | .ok ds => ∃ v, e = .returned (.tuple #[v, .int .i64 0, .int .i64 0]) ∧ DeclsOwn w' w.heap.size v ds
    | .error (n, k) => e = .returned (.tuple #[.slice none 0 0, .int .i64 n, .int .i64 k])
theorem Tryd.infoDecl : (Tryd.prog.info? 53).map (fun i => (i.zero, i.size, i.bytes)) = some (some (.agg #[.int .i64 0, .int .i64 0, .slice none 0 0, .slice none 0 0]), 4, 64) := by kernel_rfl
set_option maxRecDepth 100000 in
set_option maxHeartbeats 4000000 in
theorem parse_c (A : Option Addr) (c : Nat) (ls : List LineI) (w : World) (hg : Shapes w) (hr : RawAt w A ls) (hl : ls.length ≤ 4398046511104) (hf : ∀ x ∈ ls, x.2.length ≤ 8796093021952) (hs : ∀ x ∈ ls, ∀ f ∈ x.2, f.length ≤ 9223372036854775000) :
    Calls Tryd.prog 9 #[.slice A ls.length c] w (ParsePost w (parseT ls)) := by
  have HG := Lib.hid hg
  have HR := Lib.hid hr
  have HF := Lib.hid hf
  have HS := Lib.hid hs
  clear hg hr hf hs
  obtain ⟨i0, hi, hz0, hz1, hz2⟩ := info_parts Tryd.infoDecl
  go_enter Tryd.func9, Tryd.ntmps9
  go_wp2_with (refine wpList_make_own _ rfl _ _ 27 rfl w.heap.size 53 i0 (.agg #[.int .i64 0, .int .i64 0, .slice none 0 0, .slice none 0 0]) 4 Tryd.underlying27 hi hz0 hz1 .i64 .i64 _ ls.length rfl rfl rfl (by rw [hz2]; omega) (by unfold maxLen; omega) (Nat.le_refl _) ?_)
  intro w1 own1 hg1
  have hb1 : Below w.heap.size w w1 := (Below.refl _ _).grown hg1 (Nat.le_refl _) (fun k hk => by cases hk)
  obtain ⟨g, hgg⟩ : ∃ g, g = w.heap.size := ⟨_, rfl⟩
  rw [← hgg] at own1 ⊢
  have HGG := Lib.hid hgg
  clear hg1 hgg
  go_wp2
  go_loopw [5, 15] (fun v i wr => ∃ (k : Nat) (ds : List DeclD), v = .slice (some ⟨g, 0, none⟩) k ls.length ∧ i = .int .i64 k ∧ k ≤ ls.length ∧ ds.length = k ∧ Hid (DeclsOwn wr w.heap.size (.slice (some ⟨g, 0, none⟩) k ls.length) ds) ∧ Below w.heap.size w wr ∧ Hid (parseT ls = parseA ds (ls.drop k))) (fun _ i _ => ls.length - (intOf i).toNat)
  case atStart => exact ⟨0, [], rfl, rfl, Nat.zero_le _, rfl, Lib.hid ⟨[], rfl, ownsRow_base own1 (by have := HGG.out; omega), by simp⟩, hb1, Lib.hid rfl⟩
  case round =>
    clear hb1 own1
    obtain ⟨k, ds, rfl, rfl, hk, hdl, HO, hb, HA⟩ := hrel
    by_cases hlt : k < ls.length
    · obtain ⟨b, o, A', c', rfl, e0, e1, hlc, hh⟩ := (HR.out.keep hb).line hlt
      have HL := Lib.hid (fun (W : World) (hW : Shapes W) (hW2 : Holds W A' (ls[k].2.map S)) => parseLine_c ls[k].1 A' c' ls[k].2 W hW hW2 hlc (HF.out _ (List.getElem_mem hlt)) (HS.out _ (List.getElem_mem hlt)))
      have HGr := Lib.hid (HG.out.keep hb)
      have HHr := Lib.hid hh
      have HPE := Lib.hid (fun (e : Nat) (h : parse1 ls[k] = .error e) => parseA_err (acc := ds) hlt h)
      have HPO := Lib.hid (fun (d : DeclD) (h : parse1 ls[k] = .ok d) => parseA_ok (acc := ds) hlt h)
      clear hh hlc
      generalize hx : ls[k] = x at *
      obtain ⟨xn, xf⟩ := x
      clear hx
      simp only at e0 e1 HL HPE HPO HHr
      have hbx : Below wr.heap.size wr (wr.alloc (.cells #[.int .i64 xn, .slice A' xf.length c'] 58)) := (Below.refl _ _).alloc (Nat.le_refl _) _
      have HX := Lib.hid (heap_alloc_new wr (.cells #[.int .i64 xn, .slice A' xf.length c'] 58))
      rcases hR1 : parse1 (xn, xf) with er | d
      · have hne : ((er : Int) != 0) = true := by have := parse1_errs hR1; rw [bne_iff_ne]; omega
        have HA2 := Lib.hid (HA.out.trans (HPE.out er hR1))
        rw [hR1] at HL
        clear hR1 HPE HPO HA
        go_wp2_with fail
        generalize wr.alloc (.cells #[.int .i64 xn, .slice A' xf.length c'] 58) = wx at *
        refine (HL.out _ (HGr.out.keep hbx) (HHr.out.keep hbx)).mono ?_
        rintro e w2 ⟨hb2, rfl⟩
        have hX2 := (hb2.block _ (block_lt HX.out)).trans HX.out
        have c0 : ∀ ob, (w2.alloc ob).cell? ⟨wr.heap.size, 0, none⟩ = some (.int .i64 xn) := fun ob => by rw [cell_of_row (w2.alloc ob) _ 0 _ _ _ ((heap_alloc_old w2 ob (block_lt hX2)).trans hX2)]; rfl
        have hbz := hb.trans ((hbx.trans (hb2.mono hbx.size)).mono hb.size)
        have HB2 := Lib.hid (fun ob => hbz.alloc hbz.size ob)
        clear hX2 hb2 HL hb hbx HX hbz
        go_wp2
        go_quiet (fail)
        go_wp2
        go_ret3
        exact ⟨below_drewN (HB2.out _) _, by rw [HA2.out]; rfl⟩
      · have HA2 := Lib.hid (HA.out.trans (HPO.out d hR1))
        rw [hR1] at HL
        clear hR1 HPE HPO HA
        go_wp2_with fail
        generalize wr.alloc (.cells #[.int .i64 xn, .slice A' xf.length c'] 58) = wx at *
        refine (HL.out _ (HGr.out.keep hbx) (HHr.out.keep hbx)).mono ?_
        rintro e w2 ⟨hb2, nv, xv, rfl, hn2, hx2⟩
        obtain ⟨A1, c1, rfl⟩ := own_slice hn2
        obtain ⟨A2, c2, rfl⟩ := own_slice hx2
        have hbw : Below wr.heap.size wr w2 := hbx.trans (hb2.mono hbx.size)
        have hbn : w.heap.size ≤ wx.heap.size := Nat.le_trans hb.size hbx.size
        obtain ⟨fvs, hfl, hown, hfv⟩ := (HO.out.keep hbw)
        rw [hdl] at hown
        have hb3 : Below w.heap.size w (w2.alloc (.cells #[.int .i64 d.word, .int .i64 d.line, .slice A1 d.names.length c1, .slice A2 d.nums.length c2] 53)) := (hb.trans (hbw.mono hb.size)).alloc (Nat.le_trans hb.size hbw.size) _
        have own3 := hown.alloc (.cells #[.int .i64 d.word, .int .i64 d.line, .slice A1 d.names.length c1, .slice A2 d.nums.length c2] 53)
        have HN3 := Lib.hid (ownsRow_base (hn2.alloc (.cells #[.int .i64 d.word, .int .i64 d.line, .slice A1 d.names.length c1, .slice A2 d.nums.length c2] 53)) hbn)
        have HX3 := Lib.hid (ownsRow_base (hx2.alloc (.cells #[.int .i64 d.word, .int .i64 d.line, .slice A1 d.names.length c1, .slice A2 d.nums.length c2] 53)) hbn)
        have HF3 := Lib.hid (fun (i : Nat) (fv : Value × Value) (d' : DeclD) (h1 : fvs[i]? = some fv) (h2 : ds[i]? = some d') => And.intro ((hfv i fv d' h1 h2).1.alloc (.cells #[.int .i64 d.word, .int .i64 d.line, .slice A1 d.names.length c1, .slice A2 d.nums.length c2] 53)) ((hfv i fv d' h1 h2).2.alloc (.cells #[.int .i64 d.word, .int .i64 d.line, .slice A1 d.names.length c1, .slice A2 d.nums.length c2] 53)))
        have HFL := Lib.hid hfl
        have HOwn := Lib.hid own3
        clear hb2 HL hb hbx HX hn2 hx2 hfv hfl hown own3 hbw hbn HO
        go_wp2_with (at_builtin; go_loud (refine wpList_append_fits _ rfl _ _ 27 rfl w.heap.size 53 i0 4 Tryd.underlying27 hi hz1 g k ls.length (declCells ds fvs) rfl (HOwn.out.alloc _) ⟨_, 0, none⟩ 1 1 [.int .i64 d.word, .int .i64 d.line, .slice A1 d.names.length c1, .slice A2 d.nums.length c2] rfl rfl ?c1 ?c2 ?c3 ?_))
        case c1 =>
          intro j u hu
          rcases j with _ | _ | _ | _ | j
          · simp at hu; subst hu; simp [go_sem]
          · simp at hu; subst hu; simp [go_sem]
          · simp at hu; subst hu; simp [go_sem]
          · simp at hu; subst hu; simp [go_sem]
          · simp at hu
        case c2 => intro u hu; simp at hu; rcases hu with rfl | rfl | rfl | rfl <;> rfl
        case c3 => omega
        intro w3 own3 hg3
        have hb4 : Below w.heap.size w w3 := (hb3.alloc hb3.size _).grown hg3 (by have := hb3.size; rw [World.alloc]; simp at this ⊢; omega) (fun k hk => by injection hk with hk; have := HGG.out; omega)
        have HO4 : Hid (DeclsOwn w3 w.heap.size (.slice (some ⟨g, 0, none⟩) (k + 1) ls.length) (ds ++ [d])) := Lib.hid (by
          refine DeclsOwn.snoc HFL.out (by rw [hdl]; exact HOwn.out) HF3.out HN3.out HX3.out hg3 ?_
          rw [hdl]
          exact own3)
        clear hb3 own3 hg3 HOwn HF3 HN3 HX3
        go_wp2
        go_roundw
        case rel => exact ⟨k + 1, ds ++ [d], by go_num, by go_num, by omega, by simp; omega, HO4, hb4, HA2⟩
        case measure => simp [intOf]; omega
    · have HA2 := Lib.hid (HA.out.trans (parseA_end (by omega)))
      have HO2 := HO
      go_wp2
      go_ret3
      exact ⟨hb, by rw [HA2.out]; exact ⟨_, rfl, HO2.out⟩⟩
end Go.Proofs.YtpglhidhghhmoaaDoor
