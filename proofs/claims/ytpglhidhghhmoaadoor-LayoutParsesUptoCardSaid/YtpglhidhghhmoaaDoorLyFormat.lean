/- Contract of layout.Format on valid declarations: it writes their lines. -/
import Derived.Test.YtpglhidhghhmoaaDoorLyFormatFields
import Derived.Test.YtpglhidhghhmoaaDoorFdLinesMade
import Derived.Deep.RegionHeld3
import Derived.Deep.AppendLies
import Derived.Deep.DrawnRows
namespace Go.Proofs.YtpglhidhghhmoaaDoor
open Go.RowKit Fl
attribute [local go_sem] bget
attribute [local go_sem ↓] Go.wp_at_zero Go.wp_at_succ

/-- Declarations that Format takes. -/
structure FmtOk (d : DeclD) : Prop where
  valid : validB d = true
  names : d.names.length ≤ 1000000000
  nums : d.nums.length ≤ 1000000000
  ints : ∀ z ∈ d.nums, -9223372036854775808 ≤ z ∧ z ≤ 9223372036854775807
/-- The line of a declaration. -/
def lineOf (d : DeclD) : LineI := (d.line, wordText (wordN d.word) :: d.names ++ d.nums.map dec)
theorem FmtOk.short {d : DeclD} (h : FmtOk d) : ∀ f ∈ d.names, f.length ≤ 12 := fun f hf => by
  have h1 := h.valid
  unfold validB at h1
  simp only [Bool.and_eq_true] at h1
  have := List.all_eq_true.1 h1.2.2.1 f hf
  unfold name at this
  simp at this
  omega
theorem FmtOk.word {d : DeclD} (h : FmtOk d) : wordN d.word ≠ 0 := by
  have h1 := h.valid
  unfold validB at h1
  simp only [Bool.and_eq_true, decide_eq_true_eq] at h1
  exact h1.1
/-- The cells of lines with any numbers. -/
def lineCellsI : List LineI → List Value → List Value
  | l :: ls, fv :: fvs => .int .i64 l.1 :: fv :: lineCellsI ls fvs
  | _, _ => []
theorem lineCellsI_snoc : ∀ (ls : List LineI) (fvs : List Value) (l : LineI) (fv : Value), fvs.length = ls.length → lineCellsI (ls ++ [l]) (fvs ++ [fv]) = lineCellsI ls fvs ++ [.int .i64 l.1, fv]
  | [], [], _, _, _ => rfl
  | [], _ :: _, _, _, h => by simp at h
  | _ :: _, [], _, _, h => by simp at h
  | a :: ls, b :: fvs, l, fv, h => by
    simp only [List.cons_append, lineCellsI]
    rw [lineCellsI_snoc ls fvs l fv (by simpa using h)]
theorem lineCellsI_length : ∀ (ls : List LineI) (fvs : List Value), fvs.length = ls.length → (lineCellsI ls fvs).length = ls.length * 2
  | [], [], _ => rfl
  | [], _ :: _, h => by simp at h
  | _ :: _, [], h => by simp at h
  | a :: ls, b :: fvs, h => by
    simp only [lineCellsI, List.length_cons]
    rw [lineCellsI_length ls fvs (by simpa using h)]; omega
theorem lineCellsI_at : ∀ (ls : List LineI) (fvs : List Value) (k : Nat), fvs.length = ls.length → (h : k < ls.length) → ∃ fv, fvs[k]? = some fv ∧ (lineCellsI ls fvs)[k * 2]? = some (.int .i64 ls[k].1) ∧ (lineCellsI ls fvs)[k * 2 + 1]? = some fv
  | l :: ls, fv :: fvs, 0, _, _ => ⟨fv, rfl, rfl, rfl⟩
  | l :: ls, fv :: fvs, k + 1, hl, h => by
    obtain ⟨v, h1, h2, h3⟩ := lineCellsI_at ls fvs k (by simpa using hl) (by simpa using h)
    refine ⟨v, by simpa using h1, ?_, ?_⟩
    · rw [show (k + 1) * 2 = k * 2 + 1 + 1 by omega]; simpa [lineCellsI] using h2
    · rw [show (k + 1) * 2 + 1 = k * 2 + 1 + 1 + 1 by omega]; simpa [lineCellsI] using h3
  | [], _, k, _, h => by simp at h
  | _ :: _, [], _, hl, _ => by simp at hl
/-- The slice v, a row of the call's own, holds the lines ls. -/
def LinesOwnI (w : World) (base : Nat) (v : Value) (ls : List LineI) : Prop :=
  ∃ fvs : List Value, fvs.length = ls.length ∧ w.ownsRow base 58 2 v ls.length (lineCellsI ls fvs) ∧ ∀ (i : Nat) (fv : Value) (l : LineI), fvs[i]? = some fv → ls[i]? = some l → w.ownsRow base 9 1 fv l.2.length (l.2.map S)
theorem LinesOwnI.keep {w w' : World} {base : Nat} {v : Value} {ls : List LineI} (h : LinesOwnI w base v ls) (hb : Below w.heap.size w w') : LinesOwnI w' base v ls := by
  obtain ⟨fvs, hl, hown, hf⟩ := h
  exact ⟨fvs, hl, ownsRow_below hown hb, fun i fv l h1 h2 => ownsRow_below (hf i fv l h1 h2) hb⟩
theorem LinesOwnI.raw {w : World} {base : Nat} {A : Option Addr} {c n : Nat} {ls : List LineI} (h : LinesOwnI w base (.slice A n c) ls) : RawAt w A ls := by
  obtain ⟨fvs, hl, hown, hf⟩ := h
  obtain ⟨A1, c1, hv⟩ := own_slice hown
  injection hv with hA hn hc
  subst hA hn hc
  have hh := ownsRow_holds hown
  rcases Nat.eq_zero_or_pos ls.length with h0 | h0
  · exact .inl (List.eq_nil_of_length_eq_zero h0)
  · obtain ⟨b, o, hA, hlt, _⟩ := hh.at_ (by rw [lineCellsI_length ls fvs hl]; omega)
    refine .inr ⟨b, o, hA, hlt, fun k hk => ?_⟩
    obtain ⟨fv, g1, g2, g3⟩ := lineCellsI_at ls fvs k hl hk
    have hfo := hf k fv ls[k] g1 (List.getElem?_eq_getElem hk)
    obtain ⟨A', c', rfl, hcap⟩ := own_slice_cap hfo
    exact ⟨A', c', hh.get hA g2, by rw [Nat.add_assoc]; exact hh.get hA g3, hcap, ownsRow_holds hfo⟩
theorem LinesOwnI.snoc {w w2 w3 : World} {base : Nat} {v v' fv : Value} {ls : List LineI} {l : LineI} {fvs : List Value}
    (hl : fvs.length = ls.length) (hown : w2.ownsRow base 58 2 v ls.length (lineCellsI ls fvs)) (hf : ∀ (i : Nat) (fv : Value) (l : LineI), fvs[i]? = some fv → ls[i]? = some l → w.ownsRow base 9 1 fv l.2.length (l.2.map S))
    (hb : Below w.heap.size w w2) (hn : w2.ownsRow base 9 1 fv l.2.length (l.2.map S))
    (hg : w2.grownBy w3 v.ownBlock) (h3 : w3.ownsRow base 58 2 v' (ls.length + 1) (lineCellsI ls fvs ++ [.int .i64 l.1, fv])) : LinesOwnI w3 base v' (ls ++ [l]) := by
  refine ⟨fvs ++ [fv], by simp [hl], by rw [lineCellsI_snoc ls fvs _ _ hl]; simpa using h3, fun i gv m h1 h2 => ?_⟩
  have keep : ∀ {gv : Value} {ss : List (List UInt8)}, w2.ownsRow base 9 1 gv ss.length (ss.map S) → w3.ownsRow base 9 1 gv ss.length (ss.map S) := fun h => ownsRow_apart h hown (by decide) hg
  rcases Nat.lt_or_ge i ls.length with hi | hi
  · rw [List.getElem?_append_left (by omega)] at h1 h2
    exact keep (ownsRow_below (hf i gv m h1 h2) hb)
  · rw [List.getElem?_append_right (by omega)] at h1 h2
    have hi0 : i - ls.length = 0 := by
      rcases Nat.eq_zero_or_pos (i - ls.length) with h | h
      · exact h
      · rw [List.getElem?_eq_none (by simp; omega)] at h2; cases h2
    rw [hl, hi0] at h1
    rw [hi0] at h2
    simp at h1 h2
    subst h1 h2
    exact keep hn
def FmtPost (w : World) (ls : List LineI) (e : Ending) (w' : World) : Prop :=
  Below w.heap.size w w' ∧ ∃ v, e = .returned (.tuple #[v, .int .i64 0]) ∧ LinesOwnI w' w.heap.size v ls
set_option maxRecDepth 100000 in
set_option maxHeartbeats 4000000 in
theorem format_c (A : Option Addr) (c : Nat) (ds : List DeclD) (w : World) (hg : Shapes w) (hp : Pows w) (hd : DeclsAt w A ds) (hl : ds.length ≤ 1000000000) (hok : ∀ d ∈ ds, FmtOk d) :
    Calls Tryd.prog 14 #[.slice A ds.length c] w (FmtPost w (ds.map lineOf)) := by
  have HG := Lib.hid hg
  have HP := Lib.hid hp
  have HD := Lib.hid hd
  have HOK := Lib.hid hok
  clear hg hp hd hok
  obtain ⟨i0, hi, hz0, hz1, hz2⟩ := info_parts Tryd.infoLine
  go_enter Tryd.func14, Tryd.ntmps14
  go_wp2_with (refine wpList_make_own _ rfl _ _ 22 rfl w.heap.size 58 i0 (.agg #[.int .i64 0, .slice none 0 0]) 2 Tryd.underlying22 hi hz0 hz1 .i64 .i64 _ ds.length rfl rfl rfl (by rw [hz2]; omega) (by unfold maxLen; omega) (Nat.le_refl _) ?_)
  intro w1 own1 hg1
  have hb1 : Below w.heap.size w w1 := (Below.refl _ _).grown hg1 (Nat.le_refl _) (fun k hk => by cases hk)
  obtain ⟨g, hgg⟩ : ∃ g, g = w.heap.size := ⟨_, rfl⟩
  rw [← hgg] at own1 ⊢
  have HGG := Lib.hid hgg
  clear hg1 hgg
  go_wp2
  go_loopw [4, 14] (fun v i wr => ∃ (k : Nat), i = .int .i64 k ∧ k ≤ ds.length ∧ Hid (LinesOwnI wr w.heap.size v ((ds.take k).map lineOf)) ∧ Below w.heap.size w wr) (fun _ i _ => ds.length - (intOf i).toNat)
  case atStart => exact ⟨0, rfl, Nat.zero_le _, Lib.hid ⟨[], rfl, ownsRow_base own1 (by have := HGG.out; omega), by simp⟩, hb1⟩
  case round =>
    clear hb1 own1
    obtain ⟨k, rfl, hk, HO, hb⟩ := hrel
    by_cases hlt : k < ds.length
    · obtain ⟨b, o, A1, c1, A2, c2, rfl, e0, e1, e2, e3, h1, h2⟩ := (HD.out.keep hb).one hlt
      have hF := HOK.out ds[k] (List.getElem_mem hlt)
      have HT : Hid ((ds.take (k + 1)).map lineOf = (ds.take k).map lineOf ++ [lineOf ds[k]]) := Lib.hid (by rw [List.take_succ_eq_append_getElem hlt, List.map_append]; rfl)
      have HLt : Hid (((ds.take k).map lineOf).length = k) := Lib.hid (by rw [List.length_map, List.length_take]; omega)
      have hF2 := hF.short
      have HV := Lib.hid (fun W (hb : Below wr.heap.size wr W) (hW : Shapes W) => valid_c ds[k] A1 A2 c1 c2 W hW (h1.keep hb) (h2.keep hb) (by have := hF.names; omega) (by have := hF.nums; omega) (fun f hf => by have := hF2 f hf; unfold maxLen; omega))
      rw [hF.valid] at HV
      have HFF := Lib.hid (fun t W (hb : Below wr.heap.size wr W) (hW : Pows W) => formatFields_c t ds[k] A1 A2 c1 c2 W hW (h1.keep hb) (h2.keep hb) hF.names hF.nums (fun f hf => by have := hF2 f hf; omega) hF.ints)
      have hw0 := hF.word
      have HGr := Lib.hid (HG.out.keep hb)
      have HPr := Lib.hid (HP.out.keep hb)
      clear h1 h2 hF hF2
      generalize hd : ds[k] = d at *
      clear hd
      obtain ⟨dw, dl, ns, xs⟩ := d
      simp only at e0 e1 e2 e3 HV HFF hw0
      have HC := Lib.hid (fun W (hW : Shapes W) => shapeOfWord_c dw W hW)
      rw [shapeV_pos hw0, show decide (wordN dw ≠ 0) = true by simpa using hw0] at HC
      clear hw0
      go_wp2_with fail
      have hbx : Below wr.heap.size wr (wr.alloc (.cells #[.int .i64 dw, .int .i64 dl, .slice A1 ns.length c1, .slice A2 xs.length c2] 53)) := (Below.refl _ _).alloc (Nat.le_refl _) _
      have hX := heap_alloc_new wr (.cells #[.int .i64 dw, .int .i64 dl, .slice A1 ns.length c1, .slice A2 xs.length c2] 53)
      generalize wr.alloc (.cells #[.int .i64 dw, .int .i64 dl, .slice A1 ns.length c1, .slice A2 xs.length c2] 53) = wx at *
      refine (HV.out _ hbx (HGr.out.keep hbx)).mono ?_
      rintro e w2 ⟨rfl, hb2⟩
      have hb12 := hbx.trans (hb2.mono hbx.size)
      have hX2 := (hb2.block _ (block_lt hX)).trans hX
      have x0 : w2.cell? ⟨wr.heap.size, 0, none⟩ = some (.int .i64 dw) := by rw [cell_of_row w2 _ 0 _ _ _ hX2]; rfl
      have HB12 := Lib.hid hb12
      have HX2 := Lib.hid hX2
      clear hbx hX hb2 hX2 HV hb12
      go_wp2_with fail
      refine (HC.out _ (HGr.out.keep HB12.out)).mono ?_
      rintro e w3 ⟨rfl, hb3⟩
      have hb13 := HB12.out.trans (hb3.mono HB12.out.size)
      have hX3 := (hb3.block _ (block_lt HX2.out)).trans HX2.out
      clear HB12 HX2 hb3 HC x0
      obtain ⟨fvs, hfl, hown, hfv⟩ := HO.out.keep hb13
      rw [HLt.out] at hown
      obtain ⟨AO, cO, hvO⟩ := own_slice hown
      subst hvO
      have HOwn := Lib.hid hown
      have HFv := Lib.hid (fun i fv (l : LineI) g1 g2 => (hfv i fv l g1 g2))
      have HFl := Lib.hid hfl
      have HSz : Hid (w.heap.size ≤ wr.heap.size) := Lib.hid hb.size
      have HbW := Lib.hid hb
      have hb14 := fun ob => hb13.alloc hb13.size ob
      have hX4 := fun ob => (heap_alloc_old w3 ob (block_lt hX3)).trans hX3
      generalize hT : wordText (wordN dw) = T at *
      have HTT := Lib.hid hT
      clear hT hown hfv hfl
      go_wp2_with fail
      have hq := heap_alloc_new w3 (.cells #[.int .i64 (wordN dw), S T, .int .i64 (shapeN (wordN dw)), .int .i64 (shapeX (wordN dw)), .bool (decide (wordN dw = 2))] 77)
      have HB4 := Lib.hid (hb14 (.cells #[.int .i64 (wordN dw), S T, .int .i64 (shapeN (wordN dw)), .int .i64 (shapeX (wordN dw)), .bool (decide (wordN dw = 2))] 77))
      have HX4 := Lib.hid (hX4 (.cells #[.int .i64 (wordN dw), S T, .int .i64 (shapeN (wordN dw)), .int .i64 (shapeX (wordN dw)), .bool (decide (wordN dw = 2))] 77))
      have HOw4 := Lib.hid (HOwn.out.alloc (.cells #[.int .i64 (wordN dw), S T, .int .i64 (shapeN (wordN dw)), .int .i64 (shapeX (wordN dw)), .bool (decide (wordN dw = 2))] 77))
      have HFv4 := Lib.hid (fun i fv (l : LineI) g1 g2 => ((HFv.out i fv l g1 g2).alloc (.cells #[.int .i64 (wordN dw), S T, .int .i64 (shapeN (wordN dw)), .int .i64 (shapeX (wordN dw)), .bool (decide (wordN dw = 2))] 77)))
      clear hb14 hX4 hX3 hb13 HOwn HFv hb
      generalize w3.alloc (.cells #[.int .i64 (wordN dw), S T, .int .i64 (shapeN (wordN dw)), .int .i64 (shapeX (wordN dw)), .bool (decide (wordN dw = 2))] 77) = wy at *
      generalize w3.heap.size = q at *
      have q1 : wy.drew.cell? ⟨q, 1, none⟩ = some (S T) := by rw [cell_of_row wy.drew q 1 _ _ _ hq]; rfl
      have y0 : wy.drew.cell? ⟨wr.heap.size, 0, none⟩ = some (.int .i64 dw) := by rw [cell_of_row wy.drew _ 0 _ _ _ HX4.out]; rfl
      have y1 : wy.drew.cell? ⟨wr.heap.size, 1, none⟩ = some (.int .i64 dl) := by rw [cell_of_row wy.drew _ 1 _ _ _ HX4.out]; rfl
      have y2 : wy.drew.cell? ⟨wr.heap.size, 2, none⟩ = some (.slice A1 ns.length c1) := by rw [cell_of_row wy.drew _ 2 _ _ _ HX4.out]; rfl
      have y3 : wy.drew.cell? ⟨wr.heap.size, 3, none⟩ = some (.slice A2 xs.length c2) := by rw [cell_of_row wy.drew _ 3 _ _ _ HX4.out]; rfl
      have HBd := Lib.hid (HB4.out.drew)
      have HPd := Lib.hid (HPr.out.keep HBd.out)
      have hlt4 := block_lt HX4.out
      have hdr : Below wy.heap.size wy wy.drew := (Below.refl _ wy).drew
      have HDR := Lib.hid hdr
      clear hq hdr
      obtain ⟨FS, hFS⟩ : ∃ FS, FS = T :: ns ++ xs.map dec := ⟨_, rfl⟩
      have HFS := Lib.hid hFS
      have HCall := Lib.hid (HFF.out T wy.drew HBd.out HPd.out)
      rw [← HFS.out] at HCall
      clear hFS HFF
      go_region_law (first | (refine step_append_lies _ (by rfl) _ _ _ (by rfl) w.heap.size 58 i0 (.agg #[.int .i64 0, .slice none 0 0]) 2 32 Tryd.underlying22 hi hz0 hz1 hz2 rfl (by omega) (.slice AO k cO) k (lineCellsI ((ds.take k).map lineOf) fvs) (by rfl) (HOA.out.alloc _) ⟨_, 0, none⟩ 1 1 [.int .i64 dl, .slice A5 FS.length c5] (by rfl) (by rfl) (World.news_of_block (cs := #[.int .i64 dl, .slice A5 FS.length c5]) (t := 58) (fr := (0, 0)) (heap_alloc_new _ _)) (by simp [Value.oneCell']) (by omega) (by unfold maxLen; omega) (by omega) (HSA.out _) _ rfl ?_; intro gg cap wn1 hown1 hgrow hat hlt1; have HOW := Lib.hid hown1; have HGR := Lib.hid hgrow; clear hown1 hgrow hat hlt1) | (go_simp; go_at_call 30; refine HCall.out.mono ?_; rintro e w5 ⟨hb5, v5, rfl, own5⟩; obtain ⟨A5, c5, rfl⟩ := own_slice own5; have z1 := (hb5.cell (p := ⟨wr.heap.size, 1, none⟩) hlt4).trans y1; have HOA := Lib.hid (ownsRow_below (ownsRow_below HOw4.out HDR.out) hb5); have HB5 := Lib.hid (HBd.out.trans (hb5.mono HBd.out.size)); have Hb5 := Lib.hid hb5; have HSA : Hid (∀ ob, w.heap.size ≤ (w5.alloc ob).heap.size) := Lib.hid (fun ob => Nat.le_trans (Nat.le_trans HSz.out (HBd.out.trans (hb5.mono HBd.out.size)).size) (by simp)); have HO5 := Lib.hid own5; clear hb5 own5))
      all_goals
        have base9 := own_base HOA.out
        have hbn : Below w.heap.size w wn1 := (((HbW.out.trans (HB5.out.mono HSz.out)).alloc (by have := HSA.out (.cells #[] 0); have := HB5.out.size; have := HSz.out; omega) _)).grown HGR.out (HSA.out _) (fun k hk => base9 k hk)
        have HO9 : Hid (LinesOwnI wn1 w.heap.size (.slice (some ⟨gg, 0, none⟩) (k + 1) cap) ((ds.take (k + 1)).map lineOf)) := Lib.hid (by
          rw [HT.out]
          have hl2 : lineOf ⟨dw, dl, ns, xs⟩ = (dl, FS) := by unfold lineOf; rw [HTT.out, HFS.out]
          rw [hl2]
          refine LinesOwnI.snoc (w := wy) (w2 := w5.alloc _) HFl.out (by rw [HLt.out]; exact HOA.out.alloc _) HFv4.out ((HDR.out.trans (Hb5.out.mono HDR.out.size)).alloc (Nat.le_trans HDR.out.size Hb5.out.size) _) (ownsRow_base (HO5.out.alloc _) (Nat.le_trans HSz.out HBd.out.size)) HGR.out ?_
          rw [HLt.out]
          exact HOW.out)
        clear HOA HOW HGR HB5 Hb5 HO5 HSA base9
        go_wp2
        go_roundw
        case rel => exact ⟨k + 1, by go_num, by omega, HO9, hbn⟩
        case measure => simp [intOf]; omega
    · have HO2 : Hid (LinesOwnI wr w.heap.size u4 (ds.map lineOf)) := Lib.hid (by
        have h := HO.out
        rw [show k = ds.length by omega, List.take_length] at h
        exact h)
      obtain rfl : k = ds.length := by omega
      go_wp2
      go_ret2
      exact ⟨hb, _, rfl, HO2.out⟩
end Go.Proofs.YtpglhidhghhmoaaDoor
