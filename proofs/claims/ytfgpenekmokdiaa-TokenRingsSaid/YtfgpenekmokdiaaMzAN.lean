/- Joined texts. -/
import Derived.Test.YtfgpenekmokdiaaMzAM
import Derived.Test.YtfgpenekmokdiaaMzAG
import Derived.Test.YtfgpenekmokdiaaMzAC
import Derived.Test.YtfgpenekmokdiaaMzAD
import Derived.Deep.AppendLies
import Derived.Laws.Rows
import Derived.Laws.Tables
namespace Go.Proofs.Ytfgpenekmokdiaa
open Go Go.RowKit Fl

theorem moveCells_at {l : List MoveD} {k : Nat} (h : k < l.length) : (moveCells l)[k * 3]? = some (Iv l[k].tok) ∧ (moveCells l)[k * 3 + 1]? = some (Iv l[k].frm) ∧ (moveCells l)[k * 3 + 2]? = some (Iv l[k].dst) := by
  have e : moveCells l = moveCells (l.take k) ++ moveCells (l[k] :: l.drop (k + 1)) := by rw [← moveCells_append, ← List.drop_eq_getElem_cons h, List.take_append_drop]
  have hl : (moveCells (l.take k)).length = k * 3 := by rw [moveCells_length, List.length_take]; omega
  refine ⟨?_, ?_, ?_⟩
  · rw [e, List.getElem?_append_right (by omega), hl, Nat.sub_self]; rfl
  · rw [e, List.getElem?_append_right (by omega), hl, show k * 3 + 1 - k * 3 = 1 by omega]; rfl
  · rw [e, List.getElem?_append_right (by omega), hl, show k * 3 + 2 - k * 3 = 2 by omega]; rfl
theorem play_more {g : GraphD} {ms : List MoveD} {k : Nat} {ts : List Int} (h : k < ms.length) (hp : playL g [] (ms.take k) = some ts) : playL g [] (ms.take (k + 1)) = play1 g ts ms[k] := by
  rw [List.take_succ_eq_append_getElem h, playL_append, hp, Option.bind_some]
  simp only [playL]
  rcases play1 g ts ms[k] with _ | t <;> rfl
theorem play_bad {g : GraphD} {ms : List MoveD} {k : Nat} {ts : List Int} (h : k < ms.length) (hp : playL g [] (ms.take k) = some ts) (hb : play1 g ts ms[k] = none) : playL g [] ms = none := by
  have e : ms = ms.take k ++ ms.drop k := (List.take_append_drop k ms).symm
  rw [e, playL_append, hp, Option.bind_some, List.drop_eq_getElem_cons h]
  simp only [playL]
  rw [hb]; rfl
theorem own_otherP {w : World} {P k : Nat} {v u : Value} {n : Nat} {e : TypeId} {xs : List Value} (h : w.ownsRow (P + 1) e 1 v n xs) : (w.setCell ⟨P, k, none⟩ u).ownsRow (P + 1) e 1 v n xs := by
  obtain ⟨h1, hr⟩ := h
  refine ⟨h1, ?_⟩
  rcases hr with hr | ⟨q, cap, cur, hv, hq, hh, r⟩
  · exact .inl hr
  · exact .inr ⟨q, cap, cur, hv, hq, (Below.heap_setCell _ _ _ _ (show q ≠ P by omega)).trans hh, r⟩
/-- What Replay returns. -/
def RepRes (g : GraphD) (ms : List MoveD) (B : Nat) (e : Ending) (w' : World) : Prop :=
  (validG g = false ∧ e = .returned (.tuple #[.slice none 0 0, .int .i64 20])) ∨ (validG g = true ∧ 1200 < ms.length ∧ e = .returned (.tuple #[.slice none 0 0, .int .i64 14])) ∨
  (validG g = true ∧ ms.length ≤ 1200 ∧ playL g [] ms = none ∧ e = .returned (.tuple #[.slice none 0 0, .int .i64 24])) ∨
  (validG g = true ∧ ms.length ≤ 1200 ∧ ∃ ts u, playL g [] ms = some ts ∧ e = .returned (.tuple #[u, .int .i64 0]) ∧ w'.ownsRow B 3 1 u ts.length (ts.map Iv))
theorem rep_bad {g : GraphD} {ms : List MoveD} {B : Nat} {w' : World} (h : validG g = false) : RepRes g ms B (.returned (.tuple #[.slice none 0 0, .int .i64 20])) w' := .inl ⟨h, rfl⟩
theorem rep_many {g : GraphD} {ms : List MoveD} {B : Nat} {w' : World} (h : validG g = true) (hl : 1200 < ms.length) : RepRes g ms B (.returned (.tuple #[.slice none 0 0, .int .i64 14])) w' := .inr (.inl ⟨h, hl, rfl⟩)
theorem rep_none {g : GraphD} {ms : List MoveD} {B : Nat} {w' : World} (h : validG g = true) (hl : ms.length ≤ 1200) (hp : playL g [] ms = none) : RepRes g ms B (.returned (.tuple #[.slice none 0 0, .int .i64 24])) w' := .inr (.inr (.inl ⟨h, hl, hp, rfl⟩))
theorem rep_some {g : GraphD} {ms : List MoveD} {B : Nat} {w' : World} {ts : List Int} {u : Value} (h : validG g = true) (hl : ms.length ≤ 1200) (hp : playL g [] ms = some ts) (ho : w'.ownsRow B 3 1 u ts.length (ts.map Iv)) : RepRes g ms B (.returned (.tuple #[u, .int .i64 0])) w' := .inr (.inr (.inr ⟨h, hl, ts, u, hp, rfl, ho⟩))
set_option maxRecDepth 100000 in
set_option maxHeartbeats 8000000 in
theorem devReplay_c (A A1 : Option Addr) (c c1 : Nat) (g : GraphD) (ms : List MoveD) (w : World) (hh : RowsAt w A g) (h1 : Holds w A1 (moveCells ms)) (hz : Sized g) (hml : ms.length ≤ 1000000000000000000) :
    Calls Try.prog 27 #[.slice A g.length c, .slice A1 ms.length c1] w fun e w' => Below w.heap.size w w' ∧ RepRes g ms w.heap.size e w' := by
  have CV := Lib.hid (devValid_c A c g w hh hz.1 hz.2)
  rcases hv : validG g with _ | _
  · have HV := Lib.hid hv
    rw [hv] at CV
    have HB := Lib.hid (Below.refl w.heap.size w)
    clear hh h1 hz hv
    go_enter Try.func27, Try.ntmps27
    go_wp2_with fail
    refine CV.out.mono ?_
    rintro e w1 ⟨rfl, rfl⟩
    clear CV
    go_wp2
    go_ret2
    exact ⟨HB.out, rep_bad HV.out⟩
  · have HV := Lib.hid hv
    rw [hv] at CV
    rcases Nat.lt_or_ge 1200 ms.length with hmany | hfew
    · have HB := Lib.hid (Below.refl w.heap.size w)
      have hgt : (1200 : Int) < (ms.length : Int) := by omega
      clear hh h1 hz hv
      go_enter Try.func27, Try.ntmps27
      go_wp2_with fail
      refine CV.out.mono ?_
      rintro e w1 ⟨rfl, rfl⟩
      clear CV
      go_wp2
      go_ret2
      exact ⟨HB.out, rep_many HV.out hmany⟩
    · have HG := Lib.hid hh
      have H1 := Lib.hid h1
      have hle : ¬ (1200 : Int) < (ms.length : Int) := by omega
      have CE := Lib.hid (emptyBoard_c w)
      have hg24 := validG_len hv
      have HMs : Hid (∀ k (h : k < ms.length), (moveCells ms)[k * 3]? = some (Iv ms[k].tok) ∧ (moveCells ms)[k * 3 + 1]? = some (Iv ms[k].frm) ∧ (moveCells ms)[k * 3 + 2]? = some (Iv ms[k].dst)) := Lib.hid (fun k h => moveCells_at h)
      have HTE : Hid (playL g [] (ms.take ms.length) = playL g [] ms) := Lib.hid (by rw [List.take_length])
      clear hh h1 hz hv
      go_enter Try.func27, Try.ntmps27
      go_wp2_with fail
      refine CV.out.mono ?_
      rintro e w1 ⟨rfl, rfl⟩
      clear CV
      go_wp2_with fail
      refine CE.out.mono ?_
      rintro e w1 ⟨rfl, hb⟩
      have HNw := Lib.hid (board_new w1)
      have HN2 := Lib.hid ((board_new w1).row (B' := bdL []))
      have HB2 := Lib.hid (below_rowZ (G := w1.heap.size) (hb.alloc hb.size (.cells #[.int .i64 0, .int .i64 0, .int .i64 0, .int .i64 0, .int .i64 0, .int .i64 0, .int .i64 0, .int .i64 0, .int .i64 0, .int .i64 0, .int .i64 0, .int .i64 0, .int .i64 0, .int .i64 0, .int .i64 0, .int .i64 0, .int .i64 0, .int .i64 0, .int .i64 0, .int .i64 0, .int .i64 0, .int .i64 0, .int .i64 0, .int .i64 0] 58)) hb.size (bdC (bdL [])))
      have hs2 : w1.heap.size + 1 ≤ ((w1.alloc (.cells #[.int .i64 0, .int .i64 0, .int .i64 0, .int .i64 0, .int .i64 0, .int .i64 0, .int .i64 0, .int .i64 0, .int .i64 0, .int .i64 0, .int .i64 0, .int .i64 0, .int .i64 0, .int .i64 0, .int .i64 0, .int .i64 0, .int .i64 0, .int .i64 0, .int .i64 0, .int .i64 0, .int .i64 0, .int .i64 0, .int .i64 0, .int .i64 0] 58)).setRow w1.heap.size (bdC (bdL []))).heap.size := by simp [World.setRow]
      have hPw := Lib.hid hb.size
      clear hb CE
      go_wp2_with (first | refine store_board rfl _ _ rfl _ rfl rfl HNw.out (by simp) (bdL_length _) ?_)
      clear HNw hle
      generalize (w1.alloc (.cells #[.int .i64 0, .int .i64 0, .int .i64 0, .int .i64 0, .int .i64 0, .int .i64 0, .int .i64 0, .int .i64 0, .int .i64 0, .int .i64 0, .int .i64 0, .int .i64 0, .int .i64 0, .int .i64 0, .int .i64 0, .int .i64 0, .int .i64 0, .int .i64 0, .int .i64 0, .int .i64 0, .int .i64 0, .int .i64 0, .int .i64 0, .int .i64 0] 58)).setRow w1.heap.size (bdC (bdL [])) = w2 at *
      generalize w1.heap.size = P at *
      clear w1
      go_loopw [7, 19] (fun v i wr => ∃ (k : Nat) (ts : List Int), i = .int .i64 k ∧ k ≤ ms.length ∧ Hid (playL g [] (ms.take k) = some ts) ∧ Hid (AtOk g ts) ∧ Hid (wr.ownsRow (P + 1) 3 1 v ts.length (ts.map Iv)) ∧ Hid (BdAt wr P (bdL ts)) ∧ Hid (Below w.heap.size w wr) ∧ P + 1 ≤ wr.heap.size) (fun _ i _ => ms.length - (intOf i).toNat)
      case atStart => exact ⟨0, [], rfl, Nat.zero_le _, Lib.hid rfl, Lib.hid (AtOk.nil g), Lib.hid (World.ownsRow_nil _ _ _ _), HN2, HB2, hs2⟩
      case round =>
        clear HN2 HB2 hs2
        obtain ⟨k, ts, rfl, hk, HPl, HOk, HO, HN, HB, hs⟩ := hrel
        by_cases hlt : k < ms.length
        · obtain ⟨m0, m1, m2⟩ := HMs.out k hlt
          have HMore := Lib.hid (play_more hlt HPl.out)
          have HBad := Lib.hid (fun h => play_bad hlt HPl.out h)
          have h3 : k * 3 + 2 < (moveCells ms).length := (List.getElem?_eq_some_iff.1 m2).1
          obtain ⟨b1, o1, rfl, hbl1, hc⟩ := (H1.out.keep HB.out).at_ (show 0 < (moveCells ms).length by omega)
          have e0 : wr.cell? ⟨b1, o1 + k * 3, none⟩ = some (.int .i64 ms[k].tok) := by
            rw [hc (k * 3) (by omega)]; rw [List.getElem?_eq_getElem (by omega)] at m0; exact m0
          have e1 : wr.cell? ⟨b1, o1 + k * 3 + 1, none⟩ = some (.int .i64 ms[k].frm) := by
            rw [Nat.add_assoc, hc (k * 3 + 1) (by omega)]; rw [List.getElem?_eq_getElem (by omega)] at m1; exact m1
          have e2 : wr.cell? ⟨b1, o1 + k * 3 + 2, none⟩ = some (.int .i64 ms[k].dst) := by
            rw [Nat.add_assoc, hc (k * 3 + 2) (by omega)]; rw [List.getElem?_eq_getElem (by omega)] at m2; exact m2
          clear m0 m1 m2 hc h3 HPl
          generalize ms[k] = m at *
          obtain ⟨A8, c8, rfl, hcap8, hho⟩ := own_cap HO.out
          go_upto_region 10 with fail
          have hown := HO.out.lt
          have HNa := Lib.hid (HN.out.alloc (.cells #[.int .i64 m.tok, .int .i64 m.frm, .int .i64 m.dst] 42))
          have HOa := Lib.hid (HO.out.alloc (.cells #[.int .i64 m.tok, .int .i64 m.frm, .int .i64 m.dst] 42))
          have HBa := Lib.hid (HB.out.alloc HB.out.size (.cells #[.int .i64 m.tok, .int .i64 m.frm, .int .i64 m.dst] 42))
          have hMa := heap_alloc_new wr (.cells #[.int .i64 m.tok, .int .i64 m.frm, .int .i64 m.dst] 42)
          have hsa : (wr.alloc (.cells #[.int .i64 m.tok, .int .i64 m.frm, .int .i64 m.dst] 42)).heap.size = wr.heap.size + 1 := by simp
          generalize wr.alloc (.cells #[.int .i64 m.tok, .int .i64 m.frm, .int .i64 m.dst] 42) = wa at *
          obtain ⟨M, hM⟩ : ∃ M, M = wr.heap.size := ⟨_, rfl⟩
          rw [← hM] at hown hMa hsa hs ⊢
          have f0 : wa.cell? ⟨M, 0, none⟩ = some (.int .i64 m.tok) := by rw [cell_of_row _ _ 0 _ _ _ hMa]; rfl
          have f1 : wa.cell? ⟨M, 1, none⟩ = some (.int .i64 m.frm) := by rw [cell_of_row _ _ 1 _ _ _ hMa]; rfl
          have f2 : wa.cell? ⟨M, 2, none⟩ = some (.int .i64 m.dst) := by rw [cell_of_row _ _ 2 _ _ _ hMa]; rfl
          have hho2 : Holds wa A8 (ts.map Iv) := by
            obtain ⟨A9, c9, h8, h9⟩ := own_is HOa.out
            injection h8 with h8
            rw [h8]; exact h9
          have CP := Lib.hid (possible_c A A8 c c8 g ts m wa (HG.out.keep HBa.out) hho2 HV.out HOk.out)
          have h24 := HOk.out.few HV.out
          clear HN HO HB e0 e1 e2 hho hho2 hM hMa hbl1
          clear wr
          go_wp2_with (first | refine load_board rfl _ rfl _ rfl HNa.out (bdL_length _) ?_)
          refine CP.out.mono ?_
          rintro e w3 ⟨rfl, hb3⟩
          have HN3 := Lib.hid (HNa.out.keep hb3 HNa.out.lt)
          have HO3 := Lib.hid (ownsRow_below HOa.out hb3)
          have HB3 := Lib.hid (HBa.out.trans (hb3.mono HBa.out.size))
          have g0 := (hb3.cell (p := ⟨M, 0, none⟩) (by show M < _; omega)).trans f0
          have g1 := (hb3.cell (p := ⟨M, 1, none⟩) (by show M < _; omega)).trans f1
          have g2 := (hb3.cell (p := ⟨M, 2, none⟩) (by show M < _; omega)).trans f2
          have hs3 : M + 1 ≤ w3.heap.size := by have := hb3.size; omega
          clear CP hb3 HNa HOa HBa f0 f1 f2 hsa
          clear wa
          rcases hpl : play1 g ts m with _ | r
          · have HE := Lib.hid (HBad.out hpl)
            have hpb : possB g ts m = false := by unfold possB; rw [hpl]; rfl
            rw [hpb]
            clear hpl hpb HBad HMore
            go_wp2
            go_ret2
            exact ⟨HB3.out, rep_none HV.out hfew HE.out⟩
          · obtain ⟨hOk2, ⟨ht0, ht1, ht2⟩, hcase⟩ := play1_ok HOk.out hpl
            have HPl2 : Hid (playL g [] (ms.take (k + 1)) = some r) := Lib.hid (HMore.out.trans hpl)
            have HOk3 := Lib.hid hOk2
            have hpb : possB g ts m = true := by unfold possB; rw [hpl]; rfl
            rw [hpb]
            obtain ⟨tk, fr, tv⟩ := m
            dsimp only at ht0 ht1 ht2 hcase g0 g1 g2 ⊢
            obtain ⟨y, rfl⟩ := Int.eq_ofNat_of_zero_le ht0
            have hy24 : y < 24 := by omega
            clear hpl hpb HBad HMore hOk2
            rcases hcase with ⟨rfl, rfl, rfl⟩ | ⟨hk0, hkl, hfe, rfl⟩
            · have HAdd := Lib.hid (bdL_add ht2)
              go_wp2_with (at_builtin; refine app_int _ rfl _ _ rfl (P + 1) _ _ _ rfl (HO3.out.alloc _) w3.heap.size y rfl (by simp [go_sem]) (by omega) (by simp; omega) ?_)
              intro v8 w8 own8 hg8
              have hneP : some P ≠ (Value.slice A8 ts.length c8).ownBlock := fun e => by have := hown P e.symm; omega
              have hneM : some M ≠ (Value.slice A8 ts.length c8).ownBlock := fun e => by have := hown M e.symm; omega
              have hbM : w8.heap[M]? = w3.heap[M]? := (hg8.block M (by simp; omega) hneM).trans (Below.heap_alloc _ _ _ (by omega))
              have k0 : w8.cell? ⟨M, 0, none⟩ = some (.int .i64 ts.length) := (World.cell?_of_block (w := w3) hbM).trans g0
              have k2 : w8.cell? ⟨M, 2, none⟩ = some (.int .i64 y) := (World.cell?_of_block (w := w3) hbM).trans g2
              have HN8 := Lib.hid ((HN3.out.alloc (.cells #[.int .i64 (y : Int)] 3)).grown hg8 hneP)
              have HB8 : Hid (Below w.heap.size w w8) := Lib.hid ((HB3.out.alloc HB3.out.size _).grown hg8 (by have := HB3.out.size; simp; omega) (fun k hk => by have := hown k hk; have := hPw.out; omega))
              have HO8 : Hid (w8.ownsRow (P + 1) 3 1 v8 (ts ++ [(y : Int)]).length ((ts ++ [(y : Int)]).map Iv)) := Lib.hid (by rw [List.length_append, List.map_append]; exact own8)
              have hs8 : P + 1 ≤ w8.heap.size := by have := hg8.size; simp at this; omega
              obtain ⟨cv, c4, f4⟩ : ∃ cv, w8.cell? ⟨P, y, none⟩ = some cv ∧ w8.frozen? ⟨P, y, none⟩ = false := ⟨_, HN8.out.cell (k := y) (by rw [bdL_length]; exact hy24)⟩
              have HN9 : Hid (BdAt (w8.setCell ⟨P, y, none⟩ (.int .i64 ts.length)) P (bdL (ts ++ [(y : Int)]))) := Lib.hid (by rw [← HAdd.out]; exact HN8.out.set y _)
              have HB9 := Lib.hid (below_put (i := y) (v := .int .i64 ts.length) HB8.out hPw.out)
              have HO9 := Lib.hid (own_otherP (k := y) (u := .int .i64 ts.length) HO8.out)
              have hs9 : P + 1 ≤ (w8.setCell ⟨P, y, none⟩ (.int .i64 ts.length)).heap.size := by simp [World.setCell]; omega
              clear own8 hg8 hneP hneM hbM HN8 HB8 HO8 g0 g1 g2 HO3 HN3 HB3 HAdd
              go_wp2
              go_roundw
              case rel => exact ⟨k + 1, ts ++ [(y : Int)], by go_num, by omega, HPl2, HOk3, HO9, HN9, HB9, hs9⟩
              case measure => simp [intOf]; omega
            · obtain ⟨kn, rfl⟩ := Int.eq_ofNat_of_zero_le hk0
              have hkn : kn < ts.length := by omega
              rw [Fl.atI_get hkn] at hfe
              have hrg := HOk.out.rng _ (List.getElem_mem hkn)
              obtain ⟨f, hf⟩ := Int.eq_ofNat_of_zero_le hrg.1
              have hfg : f < 24 := by omega
              rw [hf] at hfe
              subst hfe
              have HMv := Lib.hid (bdL_move HOk.out.nodup hkn hf ht2)
              obtain ⟨q, cap, hv8, hqP, hcap⟩ := own_at HO3.out (show 0 < ts.length by omega)
              injection hv8 with hv8 _ hv9
              subst hv8 hv9
              have hqM : ¬ q = M := fun e => by have := hown q rfl; omega
              have hMq : ¬ M = q := fun e => hqM e.symm
              have hPM : ¬ P = M := by omega
              have hMP : ¬ M = P := by omega
              have hqP2 : ¬ q = P := by omega
              have hPq : ¬ P = q := by omega
              have hfm : ((f : Int) == -1) = false := by rw [beq_eq_false_iff_ne]; omega
              obtain ⟨cq, d1, d2⟩ : ∃ cq, w3.cell? ⟨q, kn, none⟩ = some cq ∧ w3.frozen? ⟨q, kn, none⟩ = false := ⟨_, own_get HO3.out (i := kn) (u := Iv ts[kn]) (by simp [hkn])⟩
              obtain ⟨cf, d3, d4⟩ : ∃ cf, w3.cell? ⟨P, f, none⟩ = some cf ∧ w3.frozen? ⟨P, f, none⟩ = false := ⟨_, HN3.out.cell (k := f) (by rw [bdL_length]; exact hfg)⟩
              obtain ⟨cv, d5, d6⟩ : ∃ cv, w3.cell? ⟨P, y, none⟩ = some cv ∧ w3.frozen? ⟨P, y, none⟩ = false := ⟨_, HN3.out.cell (k := y) (by rw [bdL_length]; exact hy24)⟩
              have hfy : ¬ f = y := fun e => ht2 (by rw [← e, ← hf]; exact List.getElem_mem hkn)
              have hyf : ¬ y = f := fun e => hfy e.symm
              have HN9 : Hid (BdAt (((w3.setCell ⟨q, kn, none⟩ (.int .i64 y)).setCell ⟨P, f, none⟩ (.int .i64 (-1))).setCell ⟨P, y, none⟩ (.int .i64 kn)) P (bdL (ts.set kn (y : Int)))) := Lib.hid (by
                rw [← HMv.out]
                exact ((HN3.out.put hPq).set f _).set y _)
              have HB9 := Lib.hid (below_put (i := y) (v := .int .i64 kn) (below_put (i := f) (v := .int .i64 (-1)) (below_put (i := kn) (v := .int .i64 y) HB3.out (show w.heap.size ≤ q by have := hPw.out; omega)) hPw.out) hPw.out)
              have HO9 : Hid ((((w3.setCell ⟨q, kn, none⟩ (.int .i64 y)).setCell ⟨P, f, none⟩ (.int .i64 (-1))).setCell ⟨P, y, none⟩ (.int .i64 kn)).ownsRow (P + 1) 3 1 (.slice (some ⟨q, 0, none⟩) ts.length c8) (ts.set kn (y : Int)).length ((ts.set kn (y : Int)).map Iv)) := Lib.hid (by
                rw [List.length_set, List.map_set]
                exact own_otherP (own_otherP (own_put HO3.out)))
              have hs9 : P + 1 ≤ ((((w3.setCell ⟨q, kn, none⟩ (.int .i64 y)).setCell ⟨P, f, none⟩ (.int .i64 (-1))).setCell ⟨P, y, none⟩ (.int .i64 kn))).heap.size := by simp [World.setCell]; omega
              clear HO3 HN3 HB3 HMv hf hrg hk0 hkl
              go_wp2
              go_roundw
              case rel => exact ⟨k + 1, ts.set kn (y : Int), by go_num, by omega, HPl2, HOk3, HO9, HN9, HB9, hs9⟩
              case measure => simp [intOf]; omega
        · obtain rfl : k = ms.length := by omega
          have HE := Lib.hid (HTE.out.symm.trans HPl.out)
          have HOw := Lib.hid (ownsRow_base HO.out (base2 := w.heap.size) (by have := hPw.out; omega))
          clear HO HPl
          go_wp2
          go_ret2
          exact ⟨HB.out, rep_some HV.out hfew HE.out HOw.out⟩
theorem devReplayT_c : DevReplayT := fun A A1 c c1 g ms ts w hh hg h1 hl hp => by
  refine (devReplay_c A A1 c c1 g ms w hh h1 (Sized.valid hg) (by omega)).mono ?_
  rintro e w' ⟨hb, hr⟩
  rcases hr with ⟨h, _⟩ | ⟨_, h, _⟩ | ⟨_, _, h, _⟩ | ⟨_, _, ts', u, h, he, ho⟩
  · rw [hg] at h; cases h
  · omega
  · rw [hp] at h; cases h
  · rw [hp] at h
    injection h with h
    subst h
    exact ⟨⟨u, he, ho⟩, hb⟩
end Go.Proofs.Ytfgpenekmokdiaa
namespace Go.Proofs.Ytfgpenekmokdiaa.Fl

theorem path_own {g : GraphD} {s : List Bool} {u v : Nat} : PathG (woG g s) s u v ↔ PathG g s u v := by
  constructor
  · intro h
    induction h with
    | refl h1 h2 => exact .refl (by rwa [woG_length] at h1) h2
    | step p e h1 h2 ih => exact .step ih ((woG_edge (by have := p.right.1; rwa [woG_length] at this)).1 e).1 (by rwa [woG_length] at h1) h2
  · intro h
    induction h with
    | refl h1 h2 => exact .refl (by rwa [woG_length]) h2
    | step p e h1 h2 ih => exact .step ih ((woG_edge p.right.1).2 ⟨e, p.right.2, h2⟩) (by rwa [woG_length]) h2
theorem both_own {g : GraphD} {s : List Bool} {u v : Nat} : both (woG g s) s u v ↔ both g s u v := by
  unfold both
  rw [path_own, path_own]

/-- Vertices that were left, A, and those of the way to the last one, S; z: those that no search enters. -/
structure Dfs (g : GraphD) (z : List Bool) (A S : List Nat) : Prop where
  nodup : (A ++ S).Nodup
  fresh : ∀ x ∈ A ++ S, x < g.length ∧ atB z x = false
  done : ∀ x ∈ A, ∀ y, EdgeG g x y → atB z y = true ∨ y ∈ A ++ S
  up : S.Pairwise (PathG g z)
  kos : ∀ x ∈ A, (∃ t ∈ S, both g z x t) ∨ ∀ y, PathG g z x y → ∃ x' A1 A2, A = A1 ++ x' :: A2 ∧ both g z x x' ∧ y ∈ A1 ++ [x']
theorem Dfs.nil (g : GraphD) (z : List Bool) : Dfs g z [] [] := ⟨by simp, by simp, by simp, .nil, by simp⟩
theorem Dfs.start {g : GraphD} {z : List Bool} {A : List Nat} {v : Nat} (h : Dfs g z A []) (hv : v < g.length) (hz : atB z v = false) (hn : v ∉ A) : Dfs g z A [v] := by
  have h1 := h.nodup
  have h2 := h.fresh
  have h3 := h.done
  have h4 := h.kos
  simp only [List.append_nil] at h1 h2 h3
  refine ⟨?_, ?_, fun x hx y he => ?_, List.pairwise_singleton _ _, fun x hx => ?_⟩
  · rw [List.nodup_append]
    exact ⟨h1, by simp, fun a ha b hb => by simp at hb; subst hb; exact fun e => hn (e ▸ ha)⟩
  · intro x hx
    rcases List.mem_append.1 hx with hx | hx
    · exact h2 x hx
    · simp at hx; subst hx; exact ⟨hv, hz⟩
  · rcases h3 x hx y he with h | h
    · exact .inl h
    · exact .inr (by simp [h])
  · rcases h4 x hx with ⟨t, ht, _⟩ | h
    · simp at ht
    · exact .inr h
theorem Dfs.push {g : GraphD} {z : List Bool} {A C : List Nat} {v y : Nat} (h : Dfs g z A (C ++ [v])) (he : EdgeG g v y) (hy : y < g.length) (hz : atB z y = false) (hn : y ∉ A ++ (C ++ [v])) : Dfs g z A (C ++ [v] ++ [y]) := by
  have hv := h.fresh v (by simp)
  refine ⟨?_, ?_, fun x hx u hu => ?_, ?_, fun x hx => ?_⟩
  · rw [← List.append_assoc, List.nodup_append]
    exact ⟨h.nodup, by simp, fun a ha b hb => by simp at hb; subst hb; exact fun e => hn (e ▸ ha)⟩
  · intro x hx
    rw [← List.append_assoc] at hx
    rcases List.mem_append.1 hx with hx | hx
    · exact h.fresh x hx
    · simp at hx; subst hx; exact ⟨hy, hz⟩
  · rcases h.done x hx u hu with h | h
    · exact .inl h
    · right; rw [← List.append_assoc]; exact List.mem_append_left _ h
  · rw [List.pairwise_append]
    refine ⟨h.up, List.pairwise_singleton _ _, fun a ha b hb => ?_⟩
    simp at hb
    subst hb
    have hav : PathG g z a v := by
      rcases List.mem_append.1 ha with ha | ha
      · exact (List.pairwise_append.1 h.up).2.2 a ha v (by simp)
      · simp at ha; subst ha; exact .refl hv.1 hv.2
    exact hav.step he hy hz
  · rcases h.kos x hx with ⟨t, ht, hb⟩ | h
    · exact .inl ⟨t, List.mem_append_left _ ht, hb⟩
    · exact .inr h
theorem Dfs.leave {g : GraphD} {z : List Bool} {A C : List Nat} {v : Nat} (h : Dfs g z A (C ++ [v])) (hd : ∀ y, EdgeG g v y → atB z y = true ∨ y ∈ A ++ (C ++ [v])) : Dfs g z (A ++ [v]) C := by
  have hv := h.fresh v (by simp)
  have hmem : ∀ x, x ∈ A ++ [v] ++ C ↔ x ∈ A ++ (C ++ [v]) := fun x => by
    simp only [List.mem_append, List.mem_singleton]
    constructor
    · rintro ((h | h) | h)
      · exact .inl h
      · exact .inr (.inr h)
      · exact .inr (.inl h)
    · rintro (h | h | h)
      · exact .inl (.inl h)
      · exact .inr h
      · exact .inl (.inr h)
  have hdone : ∀ x ∈ A ++ [v], ∀ y, EdgeG g x y → atB z y = true ∨ y ∈ A ++ [v] ++ C := fun x hx y he => by
    rcases List.mem_append.1 hx with hx | hx
    · rcases h.done x hx y he with h | h
      · exact .inl h
      · exact .inr ((hmem y).2 h)
    · simp at hx
      subst hx
      rcases hd y he with h | h
      · exact .inl h
      · exact .inr ((hmem y).2 h)
  have hup := List.pairwise_append.1 h.up
  refine ⟨?_, fun x hx => h.fresh x ((hmem x).1 hx), hdone, hup.1, fun x hx => ?_⟩
  · have h1 := h.nodup
    have hp : (A ++ [v] ++ C).Perm (A ++ (C ++ [v])) := by
      rw [List.append_assoc]
      exact List.Perm.append_left A List.perm_append_comm
    exact hp.nodup_iff.2 h1
  · by_cases hc : ∃ t ∈ C, both g z x t
    · exact .inl hc
    · right
      have key : both g z x v → ∀ y, PathG g z x y → ∃ x' A1 A2, A ++ [v] = A1 ++ x' :: A2 ∧ both g z x x' ∧ y ∈ A1 ++ [x'] := fun hxv y hy => by
        have hvy : PathG g z v y := hxv.2.trans hy
        have hP : y ∈ A ++ [v] ∧ PathG g z v y := by
          refine PathG.closed (P := fun a => a ∈ A ++ [v] ∧ PathG g z v a) ⟨by simp, .refl hv.1 hv.2⟩ (fun a b ⟨ha, hva⟩ e hb hbz => ?_) hvy
          have hvb := hva.step e hb hbz
          refine ⟨?_, hvb⟩
          rcases hdone a ha b e with h5 | h5
          · rw [hbz] at h5; cases h5
          · rcases List.mem_append.1 h5 with h5 | h5
            · exact h5
            · exact absurd ⟨b, h5, hxv.1.trans hvb, (hup.2.2 b h5 v (by simp)).trans hxv.2⟩ hc
        exact ⟨v, A, [], rfl, hxv, hP.1⟩
      rcases List.mem_append.1 hx with hx | hx
      · rcases h.kos x hx with ⟨t, ht, hb⟩ | h5
        · rcases List.mem_append.1 ht with ht | ht
          · exact absurd ⟨t, ht, hb⟩ hc
          · simp at ht; subst ht; exact key hb
        · intro y hy
          obtain ⟨x', A1, A2, h6, h7, h8⟩ := h5 y hy
          exact ⟨x', A1, A2 ++ [v], by rw [h6]; simp, h7, h8⟩
      · simp at hx
        subst hx
        exact key (.self hv.1 hv.2)
/-- Nothing leads out of what was left when no way is open. -/
theorem Dfs.closed {g : GraphD} {z : List Bool} {A : List Nat} (h : Dfs g z A []) {x y : Nat} (hx : x ∈ A) (he : EdgeG g x y) (hz : atB z y = false) : y ∈ A := by
  rcases h.done x hx y he with h | h
  · rw [hz] at h; cases h
  · simpa using h
theorem nodup_after {A1 A2 B1 B2 : List Nat} {v x : Nat} (hn : (A1 ++ x :: A2).Nodup) (he : A1 ++ x :: A2 = B1 ++ v :: B2) (hv : v ∈ A1) : x ∈ B2 := by
  obtain ⟨C1, C2, rfl⟩ := List.append_of_mem hv
  have e : C1 ++ v :: (C2 ++ x :: A2) = B1 ++ v :: B2 := by rw [← he]; simp
  rw [he] at hn
  have h1 : v ∉ B1 := fun h => by
    have := (List.nodup_append.1 hn).2.2 v h v (by simp)
    exact this rfl
  have h2 : v ∉ C1 := fun h => by
    rw [← e] at hn
    have := (List.nodup_append.1 hn).2.2 v h v (by simp)
    exact this rfl
  have h3 : ∀ (P Q R T : List Nat), v ∉ P → v ∉ Q → P ++ v :: R = Q ++ v :: T → R = T := by
    intro P
    induction P with
    | nil =>
      intro Q R T _ hQ h
      cases Q with
      | nil => simpa using h
      | cons q Q => simp at h; exact absurd h.1.symm (by intro h; subst h; simp at hQ)
    | cons p P ih =>
      intro Q R T hP hQ h
      cases Q with
      | nil => simp at h; exact absurd h.1 (by intro h; subst h; simp at hP)
      | cons q Q =>
        simp at h
        exact ih Q R T (fun h => hP (by simp [h])) (fun h => hQ (by simp [h])) h.2
  rw [← h3 C1 B1 _ _ h2 h1 e]
  simp
/-- What a search against the edges finds from the last vertex without a name: its component. -/
theorem kos_comp {g : GraphD} {s M : List Bool} {L L1 L2 l : List Nat} {v : Nat} (hg : validG g = true) (hL : Dfs g s L []) (hall : ∀ x, x < g.length → atB s x = false → x ∈ L) (hsp : L = L1 ++ v :: L2) (hM : ∀ x, atB s x = true → atB M x = true)
    (hu : ∀ x y, both g s x y → atB M x = true → atB M y = true) (h2 : ∀ x ∈ L2, atB M x = true) (hv : atB M v = false) (hl : Dfs (revG g) M l []) (hlv : v ∈ l) (hp : ∀ x ∈ l, PathG (revG g) M v x) (x : Nat) : x ∈ l ↔ both g s v x := by
  constructor
  · intro hx
    have h3 : PathG g s x v := (path_rev hg).2 (PathG.mono hM (hp x hx))
    have hxM := (hl.fresh x (by simpa using hx)).2
    have hxL := hall x h3.left.1 h3.left.2
    rcases hL.kos x hxL with ⟨t, ht, _⟩ | h4
    · simp at ht
    · obtain ⟨x', A1, A2, h5, h6, h7⟩ := h4 v h3
      have hx' : atB M x' = false := by
        rcases e : atB M x' with _ | _
        · rfl
        · rw [hu x' x h6.symm e] at hxM; cases hxM
      rcases List.mem_append.1 h7 with h7 | h7
      · have hn := hL.nodup
        rw [List.append_nil, h5] at hn
        have := nodup_after hn (h5.symm.trans hsp) h7
        rw [h2 x' this] at hx'
        cases hx'
      · simp at h7
        subst h7
        exact h6.symm
  · intro hb
    have key : ∀ a, PathG (revG g) s v a → PathG g s v a → a ∈ l := by
      intro a h
      induction h with
      | refl _ _ => exact fun _ => hlv
      | step p e h5 h6 ih =>
        rename_i b a
        intro hva
        have hbr := p.right
        rw [revG_length] at hbr h5
        have eab : EdgeG g a b := ((revG_edge hbr.1).1 e).2
        have hvb : PathG g s v b := hva.step eab hbr.1 hbr.2
        have haM : atB M a = false := by
          have hba : both g s a v := ⟨(path_rev hg).2 (p.step e (by rwa [revG_length]) h6), hva⟩
          rcases e2 : atB M a with _ | _
          · rfl
          · rw [hu a v hba e2] at hv; cases hv
        exact hl.closed (ih hvb) e haM
    exact key x ((path_rev hg).1 hb.2) hb.1
end Go.Proofs.Ytfgpenekmokdiaa.Fl
namespace Go.Proofs.Ytfgpenekmokdiaa
open Go Go.RowKit

/-- What may follow: a jump to one of two labels with a smaller measure, or a return. -/
def ContTwo (l0 l1 : Nat) (J0 J1 : Nat → Act → World → Prop) (Q : Exit → Act → World → Prop) (m : Nat) (K : Exit → Act → World → Prop) : Prop :=
  (∀ m' a w, m' < m → J0 m' a w → K (.goto l0) a w) ∧ (∀ m' a w, m' < m → J1 m' a w → K (.goto l1) a w) ∧ (∀ a w, Q .ret a w → K .ret a w)
def postTwo (l0 l1 : Nat) (J0 J1 : Nat → Act → World → Prop) (Q : Exit → Act → World → Prop) (B : Nat → Prop) : Exit → Act → World → Prop
  | .goto l, a, w => (l = l0 ∧ ∃ m, B m ∧ J0 m a w) ∨ (l = l1 ∧ ∃ m, B m ∧ J1 m a w)
  | .ret, a, w => Q .ret a w
  | _, _, _ => False
theorem wp_scope_two {P : Program} {Q : Exit → Act → World → Prop} {a : Act} {w : World} {c r0 r1 : Code} (l0 l1 : Nat) (hf0 : findLabel c l0 = some (.seq .skip r0)) (hf1 : findLabel c l1 = some (.seq .skip r1)) (J0 J1 : Nat → Act → World → Prop)
    (pass1 : ∀ m a w, J1 m a w → ∀ K, ContTwo l0 l1 J0 J1 Q m K → r1.wp P K a w)
    (pass0 : (∀ m a w, J1 m a w → ∀ K, ContTwo l0 l1 J0 J1 Q m K → r1.wp P K a w) → ∀ m a w, J0 m a w → ∀ K, ContTwo l0 l1 J0 J1 Q m K → r0.wp P K a w)
    (first : (∀ m a w, J0 m a w → ∀ K, ContTwo l0 l1 J0 J1 Q m K → r0.wp P K a w) → ∀ K, (∀ m, ContTwo l0 l1 J0 J1 Q m K) → c.wp P K a w) : (Code.scope c).wp P Q a w := by
  intro b k cs
  have hg0 : gotoIn l0 (.inScope c :: k) = some (.code (.seq .skip r0) :: .inScope c :: k) := by simp [gotoIn, hf0]
  have hg1 : gotoIn l1 (.inScope c :: k) = some (.code (.seq .skip r1) :: .inScope c :: k) := by simp [gotoIn, hf1]
  have p0 := pass0 pass1
  have cont : ∀ m, ContTwo l0 l1 J0 J1 Q m (postTwo l0 l1 J0 J1 Q (· < m)) := fun m =>
    ⟨fun m' a w h h' => .inl ⟨rfl, m', h, h'⟩, fun m' a w h h' => .inr ⟨rfl, m', h, h'⟩, fun _ _ h => h⟩
  have step : ∀ (B : Nat → Prop) (r : Code) (a : Act) (w : World), (∀ n, B n → ∀ a w, (J0 n a w → ∃ e a' w', Q e a' w' ∧ Arrives P (lone (b.at a (.code (.seq .skip r0) :: .inScope c :: k)) cs w) b k cs e a' w') ∧ (J1 n a w → ∃ e a' w', Q e a' w' ∧ Arrives P (lone (b.at a (.code (.seq .skip r1) :: .inScope c :: k)) cs w) b k cs e a' w')) →
      r.wp P (postTwo l0 l1 J0 J1 Q B) a w → ∃ e a' w', Q e a' w' ∧ Arrives P (lone (b.at a (.code r :: .inScope c :: k)) cs w) b k cs e a' w' := fun B r a w ih hr => by
    obtain ⟨e, a₁, w₁, hq, harr⟩ := hr b (.inScope c :: k) cs
    cases e with
    | goto l' =>
      rcases hq with ⟨rfl, m, hm, hJ⟩ | ⟨rfl, m, hm, hJ⟩
      · obtain ⟨e₂, a₂, w₂, hq₂, harr₂⟩ := (ih m hm a₁ w₁).1 hJ
        exact ⟨e₂, a₂, w₂, hq₂, .of_steps (harr _ hg0) harr₂⟩
      · obtain ⟨e₂, a₂, w₂, hq₂, harr₂⟩ := (ih m hm a₁ w₁).2 hJ
        exact ⟨e₂, a₂, w₂, hq₂, .of_steps (harr _ hg1) harr₂⟩
    | ret => exact ⟨_, a₁, w₁, hq, harr⟩
    | normal => exact hq.elim
    | exit id => exact hq.elim
    | panic ch => exact hq.elim
    | outgrown => exact hq.elim
  have key : ∀ n a w, (J0 n a w → ∃ e a' w', Q e a' w' ∧ Arrives P (lone (b.at a (.code (.seq .skip r0) :: .inScope c :: k)) cs w) b k cs e a' w') ∧ (J1 n a w → ∃ e a' w', Q e a' w' ∧ Arrives P (lone (b.at a (.code (.seq .skip r1) :: .inScope c :: k)) cs w) b k cs e a' w') := by
    intro n
    induction n using Nat.strongRecOn with
    | _ n ih =>
      intro a w
      exact ⟨fun hJ => step (· < n) _ a w ih (wp_seq (wp_skip (p0 n a w hJ _ (cont n)))), fun hJ => step (· < n) _ a w ih (wp_seq (wp_skip (pass1 n a w hJ _ (cont n))))⟩
  obtain ⟨e, a₂, w₂, hq, harr⟩ := step (fun _ => True) c a w (fun n _ => key n) (first p0 _ fun m => ⟨fun m' a w _ h' => .inl ⟨rfl, m', trivial, h'⟩, fun m' a w _ h' => .inr ⟨rfl, m', trivial, h'⟩, fun _ _ h => h⟩)
  exact ⟨e, a₂, w₂, hq, .of_steps (.one step_scope) harr⟩
end Go.Proofs.Ytfgpenekmokdiaa
namespace Go.Proofs.Ytfgpenekmokdiaa
open Go Go.RowKit Fl

def ArrC (w : World) (G : Nat) (t : TypeId) (l : List Value) : Prop := w.heap[G]? = some (.cells l.toArray t (0, 0))
theorem ArrC.lt {w : World} {G : Nat} {t : TypeId} {l : List Value} (h : ArrC w G t l) : G < w.heap.size := block_lt h
theorem ArrC.cell {w : World} {G : Nat} {t : TypeId} {l : List Value} (h : ArrC w G t l) {k : Nat} {u : Value} (hk : l[k]? = some u) : w.cell? ⟨G, k, none⟩ = some u ∧ w.frozen? ⟨G, k, none⟩ = false := by
  refine ⟨?_, ?_⟩
  · rw [cell_of_row w G k _ _ _ h]
    simpa using hk
  · unfold ArrC at h
    simp [World.frozen?, h]
theorem ArrC.set {w : World} {G : Nat} {t : TypeId} {l : List Value} (h : ArrC w G t l) (k : Nat) (u : Value) : ArrC (w.setCell ⟨G, k, none⟩ u) G t (l.set k u) := by
  unfold ArrC at h ⊢
  have e : (l.set k u).toArray = l.toArray.setIfInBounds k u := by
    apply Array.ext'
    simp
  rw [e]
  simp [World.setCell, Array.getElem?_modify]
  exact ⟨_, h, by simp⟩
theorem ArrC.same {w w' : World} {G : Nat} {t : TypeId} {l : List Value} (h : ArrC w G t l) (e : w'.heap[G]? = w.heap[G]?) : ArrC w' G t l := e.trans h
theorem ArrC.alloc {w : World} {G : Nat} {t : TypeId} {l : List Value} (h : ArrC w G t l) (o : Obj) : ArrC (w.alloc o) G t l := h.same (Below.heap_alloc _ _ _ h.lt)
theorem ArrC.put {w : World} {G H k : Nat} {t : TypeId} {l : List Value} {v : Value} (h : ArrC w G t l) (hn : G ≠ H) : ArrC (w.setCell ⟨H, k, none⟩ v) G t l := h.same (Below.heap_setCell _ _ _ _ hn)
theorem ArrC.grown {w w' : World} {G : Nat} {t : TypeId} {l : List Value} {row : Option Nat} (h : ArrC w G t l) (hg : w.grownBy w' row) (hn : some G ≠ row) : ArrC w' G t l := h.same (hg.block G h.lt hn)
theorem ArrC.not {w : World} {G b o : Nat} {t : TypeId} {M : List Bool} (h : ArrC w G t (M.map Bo)) {u : Value} (hc : w.cell? ⟨b, o, none⟩ = some u) (hu : ∀ z : Bool, u ≠ .bool z) : b ≠ G := by
  intro e
  subst e
  rw [cell_of_row w b o _ _ _ h] at hc
  rw [List.getElem?_toArray, List.getElem?_map] at hc
  rcases hx : M[o]? with _ | x
  · rw [hx] at hc; cases hc
  · rw [hx] at hc
    injection hc with hc
    exact hu x hc.symm
/-- Numbers of tries. -/
def trL (f : Nat → Nat) : List Value := (List.range 24).map fun x => Iv (f x)
theorem trL_at {f : Nat → Nat} {k : Nat} (h : k < 24) : (trL f)[k]? = some (.int .i64 (f k)) := by simp [trL, h]
def upF (f : Nat → Nat) (v k : Nat) : Nat → Nat := fun x => if x = v then k else f x
theorem trL_set {f : Nat → Nat} {v k : Nat} : (trL f).set v (.int .i64 k) = trL (upF f v k) := by
  refine List.ext_getElem (by simp [trL]) fun i h1 h2 => ?_
  rw [List.getElem_set]
  by_cases h : v = i
  · subst h; rw [if_pos rfl]; simp [trL, upF]
  · rw [if_neg h]
    have h' : ¬ i = v := fun e => h e.symm
    simp [trL, upF, h']
theorem atB_set {M : List Bool} {v x : Nat} (hv : v < M.length) : atB (M.set v true) x = true ↔ x = v ∨ atB M x = true := by
  unfold atB
  rw [List.getD_eq_getElem?_getD, List.getD_eq_getElem?_getD, List.getElem?_set]
  by_cases h : v = x
  · subst h; simp [hv]
  · rw [if_neg h]
    constructor
    · exact .inr
    · rintro (e | e)
      · exact absurd e.symm h
      · exact e
theorem set_self {M : List Bool} {v : Nat} (hv : v < M.length) (h : atB M v = true) : M.set v true = M := by
  refine List.ext_getElem (by simp) fun i h1 h2 => ?_
  rw [List.getElem_set]
  by_cases e : v = i
  · subst e; rw [if_pos rfl]; rw [atB_at hv] at h; exact h.symm
  · rw [if_neg e]

/-! ### Rows of vertices -/
def nI (l : List Nat) : List Value := l.map fun x : Nat => Iv (x : Int)
def IRow (w : World) (base : Nat) (v : Value) (l : List Nat) : Prop := w.ownsRow base 3 1 v l.length (nI l)
theorem IRow.nil (w : World) (base : Nat) : IRow w base (.slice none 0 0) [] := World.ownsRow_nil _ _ _ _
theorem IRow.same {w w' : World} {base : Nat} {v : Value} {l : List Nat} (h : IRow w base v l) (hs : ∀ k, v.ownBlock = some k → w'.heap[k]? = w.heap[k]?) : IRow w' base v l := by
  obtain ⟨h1, hr⟩ := h
  refine ⟨h1, ?_⟩
  rcases hr with hr | ⟨g, cap, cur, hv, hgb, hh, hrest⟩
  · exact .inl hr
  · exact .inr ⟨g, cap, cur, hv, hgb, (hs g (by rw [hv]; rfl)).trans hh, hrest⟩
theorem IRow.lt {w : World} {base : Nat} {v : Value} {l : List Nat} (h : IRow w base v l) {k : Nat} (hk : v.ownBlock = some k) : k < w.heap.size ∧ base ≤ k := by
  obtain ⟨_, hr⟩ := h
  rcases hr with ⟨rfl, _⟩ | ⟨g, cap, cur, rfl, hgb, hh, _⟩
  · simp [Value.ownBlock] at hk
  · simp [Value.ownBlock] at hk
    subst hk
    exact ⟨block_lt hh, hgb⟩
theorem IRow.is {w : World} {base : Nat} {v : Value} {l : List Nat} (h : IRow w base v l) : ∃ A c, v = .slice A l.length c := by
  obtain ⟨A, c, h1, _⟩ := own_is h
  exact ⟨A, c, h1⟩
/-- The last one, and the row without it. -/
theorem IRow.last {w : World} {base x : Nat} {v : Value} {l : List Nat} (h : IRow w base v (l ++ [x])) : ∃ q cap, v = .slice (some ⟨q, 0, none⟩) (l.length + 1) cap ∧ l.length + 1 ≤ cap ∧ w.cell? ⟨q, l.length, none⟩ = some (.int .i64 x) ∧ IRow w base (.slice (some ⟨q, 0, none⟩) l.length cap) l := by
  obtain ⟨h1, hr⟩ := h
  rcases hr with ⟨_, h0⟩ | ⟨g, cap, cur, hv, hgb, hh, hnc, hcm, hcs, hx⟩
  · simp at h0
  · simp only [List.length_append, List.length_singleton] at hv hnc hx
    have e1 := cell_of_row w g l.length cur _ (0, 0) hh
    have hlen : l.length < cur.size := by
      have := congrArg List.length hx
      simp [nI] at this
      omega
    refine ⟨g, cap, hv, hnc, ?_, by simp [nI], .inr ⟨g, cap, cur, rfl, hgb, hh, by omega, hcm, hcs, ?_⟩⟩
    · rw [e1]
      have e2 : (cur.toList.take ((l.length + 1) * 1))[l.length]? = (nI (l ++ [x]))[l.length]? := by rw [hx]
      rw [List.getElem?_take, if_pos (by omega)] at e2
      simpa [nI] using e2
    · have e2 := congrArg (List.take l.length) hx
      rw [List.take_take] at e2
      have e3 : min l.length ((l.length + 1) * 1) = l.length * 1 := by omega
      rw [e3] at e2
      rw [e2]
      simp [nI]
theorem nI_append (l : List Nat) (x : Nat) : nI (l ++ [x]) = nI l ++ [.int .i64 x] := by simp [nI]
/-- What an append to one row leaves of another one. -/
theorem two_app {W wn : World} {base gg : Nat} {o : Obj} {u1 u2 : Value} {L2 : List Nat} (h2 : IRow W base u2 L2) (ha : ∀ b, u1.ownBlock = some b → u2.ownBlock ≠ some b) (hg : (W.alloc o).grownBy wn u1.ownBlock) (hat : u1.ownBlock = some gg ∨ gg = (W.alloc o).heap.size) :
    IRow wn base u2 L2 ∧ u2.ownBlock ≠ some gg := by
  refine ⟨h2.same fun k hk => ?_, fun e => ?_⟩
  · rw [hg.block k (by have := (h2.lt hk).1; simp; omega) (fun e => ha k e.symm hk), Below.heap_alloc _ _ _ (h2.lt hk).1]
  · rcases hat with h | h
    · exact ha gg h e
    · have := (h2.lt e).1
      simp at h
      omega
section
variable {ops : Array Oper} {rest : List Oper} {o : Oper} {a : Act} {Q : Exit → Act → World → Prop}
theorem app_vert (w : World) (hgd : o.guard = none) (s x : Operand) (ho : o.op = .call { callee := .builtin .append, args := #[s, x], argTypes := #[23, 23] }) (base : Nat) (v : Value) (l : List Nat) (hs : a.eval s = v) (hown : IRow w base v l)
    (B : Nat) (z : Nat) (hx : a.eval x = .slice (some ⟨B, 0, none⟩) 1 1) (hc : w.cell? ⟨B, 0, none⟩ = some (.int .i64 z)) (hn : l.length ≤ 1000000000) (hbase : base ≤ w.heap.size)
    (h : ∀ g cap w', IRow w' base (.slice (some ⟨g, 0, none⟩) (l.length + 1) cap) (l ++ [z]) → w.grownBy w' v.ownBlock → (v.ownBlock = some g ∨ g = w.heap.size) → wpList Try.prog ops Q rest (a.put o.dst (.slice (some ⟨g, 0, none⟩) (l.length + 1) cap)) w') : wpList Try.prog ops Q (o :: rest) a w := by
  obtain ⟨i0, hi, hz0, hz1, hz2⟩ := info_parts Try.infoIntG
  refine wpList_append_lies w hgd s x 23 ho base 3 i0 (.int .i64 0) 1 8 Try.underlying23 hi hz0 hz1 hz2 rfl (by omega) v l.length (nI l) hs hown ⟨B, 0, none⟩ 1 1 [.int .i64 z] hx rfl (fun j u hu => ?_) (by simp [Value.oneCell']) (by omega) (by unfold maxLen; omega) (by omega) hbase _ rfl (fun g cap w' g1 g2 g3 _ => h g cap w' ?_ g2 g3)
  · rcases j with _ | j
    · simp at hu; subst hu; simpa [Addr.add] using hc
    · simp at hu
  · unfold IRow
    rw [nI_append, List.length_append, List.length_singleton]
    exact g1
end
end Go.Proofs.Ytfgpenekmokdiaa
namespace Go.Proofs.Ytfgpenekmokdiaa
open Go Go.RowKit Fl

def cntT (g : GraphD) (f : Nat → Nat) : Nat := ((List.range g.length).map fun x => (rowG g x).length - f x).sum
theorem sum_less {f f' : Nat → Nat} {v : Nat} : ∀ {l : List Nat}, (∀ x, f' x ≤ f x) → f' v < f v → v ∈ l → (l.map f').sum < (l.map f).sum
  | [], _, _, h => by simp at h
  | x :: l, h, hv, hm => by
    have hle : ∀ l : List Nat, (l.map f').sum ≤ (l.map f).sum := fun l => by
      induction l with
      | nil => simp
      | cons y l ih => have := h y; simp; omega
    have h1 := h x
    have h2 := hle l
    simp only [List.map_cons, List.sum_cons]
    rcases List.mem_cons.1 hm with rfl | hm
    · omega
    · have := sum_less h hv hm
      omega
theorem cntT_step {g : GraphD} {f : Nat → Nat} {v : Nat} (hv : v < g.length) (hf : f v < (rowG g v).length) : cntT g (upF f v (f v + 1)) < cntT g f := by
  unfold cntT
  refine sum_less (f := fun x => (rowG g x).length - f x) (f' := fun x => (rowG g x).length - upF f v (f v + 1) x) (v := v) (fun x => ?_) ?_ (List.mem_range.2 hv)
  · unfold upF
    split
    · rename_i h; subst h; show _ - (f x + 1) ≤ _; omega
    · exact Nat.le_refl _
  · show _ - upF f v (f v + 1) v < _ - f v
    unfold upF
    rw [if_pos rfl]
    omega
/-- Marks M: what is seen. -/
structure SrS (g : GraphD) (z : List Bool) (A0 : List Nat) (v0 v : Nat) (C l : List Nat) (M : List Bool) (f : Nat → Nat) : Prop where
  dfs : Dfs g z (A0 ++ l) (C ++ [v])
  ml : M.length = 24
  mks : ∀ x, atB M x = true ↔ atB z x = true ∨ x ∈ A0 ++ l ++ (C ++ [v])
  tr : ∀ x, x < g.length → f x ≤ (rowG g x).length ∧ ∀ k, k < f x → ∀ y, (rowG g x)[k]? = some y → atB M y.toNat = true
  pth : ∀ x ∈ l ++ (C ++ [v]), PathG g z v0 x
  has : v0 ∈ l ++ (C ++ [v])
/-- The last one's first untried edge leads to what is seen. -/
theorem SrS.tick {g : GraphD} {z : List Bool} {A0 : List Nat} {v0 v : Nat} {C l : List Nat} {M : List Bool} {f : Nat → Nat} (h : SrS g z A0 v0 v C l M f) {y : Int} (hlt : f v < (rowG g v).length) (hy : (rowG g v)[f v]? = some y) (hm : atB M y.toNat = true) : SrS g z A0 v0 v C l M (upF f v (f v + 1)) := by
  refine ⟨h.dfs, h.ml, h.mks, fun x hx => ?_, h.pth, h.has⟩
  unfold upF
  by_cases e : x = v
  · subst e
    rw [if_pos rfl]
    refine ⟨hlt, fun k hk u hu => ?_⟩
    rcases Nat.lt_succ_iff_lt_or_eq.1 hk with h1 | rfl
    · exact (h.tr x hx).2 k h1 u hu
    · rw [hy] at hu
      injection hu with hu
      subst hu
      exact hm
  · rw [if_neg e]
    exact h.tr x hx
/-- .. to what is not: the search goes on there. -/
theorem SrS.push {g : GraphD} {z : List Bool} {A0 : List Nat} {v0 v : Nat} {C l : List Nat} {M : List Bool} {f : Nat → Nat} (h : SrS g z A0 v0 v C l M f) {y : Nat} (hlt : f v < (rowG g v).length) (hy : (rowG g v)[f v]? = some (y : Int)) (hyg : y < g.length) (hy24 : y < 24) (hm : atB M y = false) :
    SrS g z A0 v0 y (C ++ [v]) l (M.set y true) (upF f v (f v + 1)) := by
  have hn : ¬ (atB z y = true ∨ y ∈ A0 ++ l ++ (C ++ [v])) := fun e => by rw [(h.mks y).2 e] at hm; cases hm
  have hz : atB z y = false := by
    rcases e : atB z y with _ | _
    · rfl
    · exact absurd (.inl e) hn
  have he : EdgeG g v y := List.mem_of_getElem? hy
  have hset : ∀ x, atB (M.set y true) x = true ↔ x = y ∨ atB M x = true := fun x => atB_set (by rw [h.ml]; exact hy24)
  have hv0 := (h.dfs.fresh v (by simp))
  refine ⟨h.dfs.push he hyg hz (fun e => hn (.inr (by simpa using e))), by simp [h.ml], fun x => ?_, fun x hx => ?_, fun x hx => ?_, ?_⟩
  · rw [hset, h.mks]
    simp only [List.mem_append, List.mem_singleton]
    constructor
    · rintro (e | e | (e | e) | e | e)
      · exact .inr (.inr (.inr e))
      · exact .inl e
      · exact .inr (.inl (.inl e))
      · exact .inr (.inl (.inr e))
      · exact .inr (.inr (.inl (.inl e)))
      · exact .inr (.inr (.inl (.inr e)))
    · rintro (e | (e | e) | (e | e) | e)
      · exact .inr (.inl e)
      · exact .inr (.inr (.inl (.inl e)))
      · exact .inr (.inr (.inl (.inr e)))
      · exact .inr (.inr (.inr (.inl e)))
      · exact .inr (.inr (.inr (.inr e)))
      · exact .inl e
  · unfold upF
    by_cases e : x = v
    · subst e
      rw [if_pos rfl]
      refine ⟨hlt, fun k hk u hu => (hset _).2 ?_⟩
      rcases Nat.lt_succ_iff_lt_or_eq.1 hk with h1 | rfl
      · exact .inr ((h.tr x hx).2 k h1 u hu)
      · rw [hy] at hu
        injection hu with hu
        subst hu
        exact .inl (by simp)
    · rw [if_neg e]
      exact ⟨(h.tr x hx).1, fun k hk u hu => (hset _).2 (.inr ((h.tr x hx).2 k hk u hu))⟩
  · have hvp : PathG g z v0 v := h.pth v (by simp)
    rcases List.mem_append.1 hx with hx | hx
    · exact h.pth x (List.mem_append_left _ hx)
    · rcases List.mem_append.1 hx with hx | hx
      · exact h.pth x (List.mem_append_right _ hx)
      · simp at hx; subst hx; exact hvp.step he hyg hz
  · have := h.has
    rcases List.mem_append.1 this with hx | hx
    · exact List.mem_append_left _ hx
    · exact List.mem_append_right _ (List.mem_append_left _ hx)
/-- When all its edges are tried, the last one can be left. -/
theorem SrS.left {g : GraphD} {z : List Bool} {A0 : List Nat} {v0 v : Nat} {C l : List Nat} {M : List Bool} {f : Nat → Nat} (h : SrS g z A0 v0 v C l M f) (hge : (rowG g v).length ≤ f v) : Dfs g z (A0 ++ (l ++ [v])) C := by
  have hv := h.dfs.fresh v (by simp)
  rw [← List.append_assoc]
  refine h.dfs.leave fun y he => ?_
  obtain ⟨k, hk, e⟩ := List.mem_iff_getElem.1 he
  have := (h.tr v hv.1).2 k (by omega) y (by rw [List.getElem?_eq_getElem hk, e])
  have h2 := (h.mks y).1 (by simpa using this)
  rcases h2 with h2 | h2
  · exact .inl h2
  · exact .inr (by simpa using h2)
theorem SrS.pop {g : GraphD} {z : List Bool} {A0 : List Nat} {v0 v u : Nat} {C l : List Nat} {M : List Bool} {f : Nat → Nat} (h : SrS g z A0 v0 v (C ++ [u]) l M f) (hge : (rowG g v).length ≤ f v) : SrS g z A0 v0 u C (l ++ [v]) M f := by
  refine ⟨h.left hge, h.ml, fun x => ?_, h.tr, fun x hx => h.pth x ?_, ?_⟩
  · rw [h.mks]
    simp only [List.mem_append, List.mem_singleton]
    constructor
    · rintro (e | (e | e) | (e | e) | e)
      · exact .inl e
      · exact .inr (.inl (.inl e))
      · exact .inr (.inl (.inr (.inl e)))
      · exact .inr (.inr (.inl e))
      · exact .inr (.inr (.inr e))
      · exact .inr (.inl (.inr (.inr e)))
    · rintro (e | (e | e | e) | e | e)
      · exact .inl e
      · exact .inr (.inl (.inl e))
      · exact .inr (.inl (.inr e))
      · exact .inr (.inr (.inr e))
      · exact .inr (.inr (.inl (.inl e)))
      · exact .inr (.inr (.inl (.inr e)))
  · simp only [List.mem_append, List.mem_singleton] at hx ⊢
    rcases hx with (e | e) | e | e
    · exact .inl e
    · exact .inr (.inr e)
    · exact .inr (.inl (.inl e))
    · exact .inr (.inl (.inr e))
  · have := h.has
    simp only [List.mem_append, List.mem_singleton] at this ⊢
    rcases this with e | (e | e) | e
    · exact .inl (.inl e)
    · exact .inr (.inl e)
    · exact .inr (.inr e)
    · exact .inl (.inr e)
/-- What a search from v0 leaves: the list l and the marks M. -/
structure SrEnd (g : GraphD) (z : List Bool) (A0 : List Nat) (v0 : Nat) (M0 : List Bool) (l : List Nat) (M : List Bool) : Prop where
  dfs : Dfs g z (A0 ++ l) []
  ml : M.length = 24
  mks : ∀ x, atB M x = true ↔ atB M0 x = true ∨ x ∈ l
  pth : ∀ x ∈ l, PathG g z v0 x
  has : v0 ∈ l
theorem SrS.end_ {g : GraphD} {z : List Bool} {A0 : List Nat} {v0 v : Nat} {l : List Nat} {M M0 : List Bool} {f : Nat → Nat} (h : SrS g z A0 v0 v [] l M f) (hge : (rowG g v).length ≤ f v) (h0 : ∀ x, atB M0 x = true ↔ atB z x = true ∨ x ∈ A0) : SrEnd g z A0 v0 M0 (l ++ [v]) M := by
  refine ⟨h.left hge, h.ml, fun x => ?_, fun x hx => h.pth x (by simpa using hx), by simpa using h.has⟩
  rw [h.mks, h0]
  simp only [List.mem_append, List.mem_singleton, List.nil_append]
  constructor
  · rintro (e | (e | e) | e)
    · exact .inl (.inl e)
    · exact .inl (.inr e)
    · exact .inr (.inl e)
    · exact .inr (.inr e)
  · rintro ((e | e) | e | e)
    · exact .inl e
    · exact .inr (.inl (.inl e))
    · exact .inr (.inl (.inr e))
    · exact .inr (.inr e)
theorem SrS.start {g : GraphD} {z : List Bool} {A0 : List Nat} {v0 : Nat} {M0 : List Bool} (hd : Dfs g z A0 []) (hv : v0 < g.length) (h24 : v0 < 24) (ml : M0.length = 24) (h0 : ∀ x, atB M0 x = true ↔ atB z x = true ∨ x ∈ A0) (hn : atB M0 v0 = false) : SrS g z A0 v0 v0 [] [] (M0.set v0 true) (fun _ => 0) := by
  have hn' : ¬ (atB z v0 = true ∨ v0 ∈ A0) := fun e => by rw [(h0 v0).2 e] at hn; cases hn
  have hz : atB z v0 = false := by
    rcases e : atB z v0 with _ | _
    · rfl
    · exact absurd (.inl e) hn'
  refine ⟨?_, by simp [ml], fun x => ?_, fun x _ => ⟨Nat.zero_le _, fun k hk => by omega⟩, ?_, by simp⟩
  · simp only [List.append_nil, List.nil_append]
    exact hd.start hv hz fun e => hn' (.inr e)
  · rw [atB_set (by rw [ml]; exact h24), h0]
    simp only [List.append_nil, List.nil_append, List.mem_append, List.mem_singleton]
    constructor
    · rintro (e | e | e)
      · exact .inr (.inr e)
      · exact .inl e
      · exact .inr (.inl e)
    · rintro (e | e | e)
      · exact .inr (.inl e)
      · exact .inr (.inr e)
      · exact .inl e
  · intro x hx
    simp at hx
    subst hx
    exact .refl hv hz
theorem SrS.lens {g : GraphD} {z : List Bool} {A0 : List Nat} {v0 v : Nat} {C l : List Nat} {M : List Bool} {f : Nat → Nat} (h : SrS g z A0 v0 v C l M f) : l.length + C.length + 1 ≤ g.length ∧ v < g.length := by
  have hn := h.dfs.nodup
  have hs : (A0 ++ l ++ (C ++ [v])).length ≤ (List.range g.length).length := by
    refine List.Nodup.length_le_of_subset hn fun x hx => ?_
    exact List.mem_range.2 (h.dfs.fresh x hx).1
  simp at hs
  exact ⟨by omega, (h.dfs.fresh v (by simp)).1⟩
end Go.Proofs.Ytfgpenekmokdiaa
