/- Joined texts. -/
import Derived.Test.YtfgpenekmokdiaaMzBB
import Derived.Test.YtfgpenekmokdiaaMzBA
namespace Go.Proofs.Ytfgpenekmokdiaa
open Go Go.RowKit Fl

/-- What moves keep. -/
structure AtOk (g : GraphD) (ts : List Int) : Prop where
  rng : ∀ x ∈ ts, 0 ≤ x ∧ x < g.length
  nodup : ts.Nodup
theorem AtOk.nil (g : GraphD) : AtOk g [] := ⟨by simp, .nil⟩
theorem AtOk.few {g : GraphD} {ts : List Int} (hg : validG g = true) (h : AtOk g ts) : ts.length ≤ 24 := by
  have h1 := nodup_len g.length (ts.map Int.toNat) (by
    show (ts.map Int.toNat).Pairwise (· ≠ ·)
    rw [List.pairwise_map, List.pairwise_iff_getElem]
    intro i j hi hj hij e
    have a := h.rng _ (List.getElem_mem hi)
    have b := h.rng _ (List.getElem_mem hj)
    exact (List.pairwise_iff_getElem.1 h.nodup i j hi hj hij) (by omega)) (fun z hz => by
    obtain ⟨x, hx, rfl⟩ := List.mem_map.1 hz
    have a := h.rng x hx
    omega)
  rw [List.length_map] at h1
  have := validG_len hg
  omega
theorem play1_ok {g : GraphD} {ts r : List Int} {m : MoveD} (h : AtOk g ts) (hp : play1 g ts m = some r) : AtOk g r ∧ (0 ≤ m.dst ∧ m.dst < g.length ∧ m.dst ∉ ts) ∧
    ((m.frm = -1 ∧ m.tok = ts.length ∧ r = ts ++ [m.dst]) ∨ (0 ≤ m.tok ∧ m.tok < ts.length ∧ m.frm = atI ts m.tok ∧ r = ts.set m.tok.toNat m.dst)) := by
  unfold play1 at hp
  by_cases h0 : m.dst < 0 ∨ g.length ≤ m.dst ∨ m.dst ∈ ts
  · rw [if_pos h0] at hp; cases hp
  · rw [if_neg h0] at hp
    have hto : 0 ≤ m.dst ∧ m.dst < g.length ∧ m.dst ∉ ts := ⟨by omega, by omega, fun hm => h0 (.inr (.inr hm))⟩
    by_cases h1 : m.frm = -1 ∧ m.tok = ts.length
    · rw [if_pos h1] at hp
      injection hp with hp
      subst hp
      refine ⟨⟨fun x hx => ?_, ?_⟩, hto, .inl ⟨h1.1, h1.2, rfl⟩⟩
      · rcases List.mem_append.1 hx with hx | hx
        · exact h.rng x hx
        · obtain rfl := List.mem_singleton.1 hx
          exact ⟨hto.1, hto.2.1⟩
      · rw [List.nodup_append]
        refine ⟨h.nodup, by simp, fun a ha b hb => ?_⟩
        obtain rfl := List.mem_singleton.1 hb
        exact fun e => hto.2.2 (e ▸ ha)
    · rw [if_neg h1] at hp
      by_cases h2 : 0 ≤ m.tok ∧ m.tok < ts.length ∧ m.frm = atI ts m.tok ∧ m.dst ∈ rowG g m.frm.toNat
      · rw [if_pos h2] at hp
        injection hp with hp
        subst hp
        refine ⟨⟨fun x hx => ?_, set_nodup h.nodup hto.2.2⟩, hto, .inr ⟨h2.1, h2.2.1, h2.2.2.1, rfl⟩⟩
        rcases List.mem_or_eq_of_mem_set hx with hx | rfl
        · exact h.rng x hx
        · exact ⟨hto.1, hto.2.1⟩
      · rw [if_neg h2] at hp; cases hp
def possB (g : GraphD) (ts : List Int) (m : MoveD) : Bool := (play1 g ts m).isSome
theorem poss_to {g : GraphD} {ts : List Int} {m : MoveD} (h : m.dst < 0 ∨ g.length ≤ m.dst ∨ m.dst ∈ ts) : possB g ts m = false := by
  unfold possB play1; rw [if_pos h]; rfl
theorem poss_enter {g : GraphD} {ts : List Int} {m : MoveD} (hts : AtOk g ts) (h : ¬ (m.dst < 0 ∨ g.length ≤ m.dst ∨ m.dst ∈ ts)) (h1 : m.frm = -1) : possB g ts m = decide (m.tok = ts.length) := by
  unfold possB play1
  rw [if_neg h]
  by_cases h2 : m.tok = ts.length
  · rw [if_pos ⟨h1, h2⟩, decide_eq_true h2]; rfl
  · rw [if_neg (fun h3 => h2 h3.2), if_neg (fun h3 => by
      obtain ⟨a, b, c, _⟩ := h3
      obtain ⟨i, hi⟩ := Int.eq_ofNat_of_zero_le a
      rw [hi] at b c
      have hl : i < ts.length := by omega
      rw [Fl.atI_get hl] at c
      have := (hts.rng _ (List.getElem_mem hl)).1
      omega), decide_eq_false h2]
    rfl
theorem poss_go {g : GraphD} {ts : List Int} {m : MoveD} (h : ¬ (m.dst < 0 ∨ g.length ≤ m.dst ∨ m.dst ∈ ts)) (h1 : m.frm ≠ -1) : possB g ts m = decide (0 ≤ m.tok ∧ m.tok < ts.length ∧ m.frm = atI ts m.tok ∧ m.dst ∈ rowG g m.frm.toNat) := by
  unfold possB play1
  rw [if_neg h, if_neg (fun h3 => h1 h3.1)]
  by_cases h2 : 0 ≤ m.tok ∧ m.tok < ts.length ∧ m.frm = atI ts m.tok ∧ m.dst ∈ rowG g m.frm.toNat
  · rw [if_pos h2, decide_eq_true h2]; rfl
  · rw [if_neg h2, decide_eq_false h2]; rfl
set_option maxRecDepth 100000 in
set_option maxHeartbeats 4000000 in
theorem possible_c (A A1 : Option Addr) (c c1 : Nat) (g : GraphD) (ts : List Int) (m : MoveD) (w : World) (hh : RowsAt w A g) (h1 : Holds w A1 (ts.map Iv)) (hg : validG g = true) (hts : AtOk g ts) :
    Calls Try.prog 53 #[.slice A g.length c, .agg (bdC (bdL ts)), .slice A1 ts.length c1, .agg #[.int .i64 m.tok, .int .i64 m.frm, .int .i64 m.dst]] w fun e w' => e = .returned (.bool (possB g ts m)) ∧ Below w.heap.size w w' := by
  obtain ⟨tk, fr, tv⟩ := m
  have HP0 := Lib.hid (poss_to (g := g) (ts := ts) (m := ⟨tk, fr, tv⟩))
  have HP1 := Lib.hid (poss_enter (m := ⟨tk, fr, tv⟩) hts)
  have HP2 := Lib.hid (poss_go (g := g) (ts := ts) (m := ⟨tk, fr, tv⟩))
  have HTs := Lib.hid hts
  have h24 := hts.few hg
  have hg24 := validG_len hg
  have HG := Lib.hid hh
  have H1 := Lib.hid h1
  have HV := Lib.hid (validG_short hg)
  have HIff := Lib.hid (onF_iff (ts := ts) (x := tv))
  dsimp only at HP0 HP1 HP2 ⊢
  generalize possB g ts ⟨tk, fr, tv⟩ = res at *
  have HB0 := Lib.hid (((Below.refl w.heap.size w).alloc (Nat.le_refl _) (.cells (bdC (bdL ts)) 58)).alloc (by simp) (.cells #[.int .i64 tk, .int .i64 fr, .int .i64 tv] 42))
  have HN0 := Lib.hid ((board_box w (bdL ts)).alloc (.cells #[.int .i64 tk, .int .i64 fr, .int .i64 tv] 42))
  have HM0 := heap_alloc_new (w.alloc (.cells (bdC (bdL ts)) 58)) (.cells #[.int .i64 tk, .int .i64 fr, .int .i64 tv] 42)
  rw [show (w.alloc (.cells (bdC (bdL ts)) 58)).heap.size = w.heap.size + 1 from by simp] at HM0
  clear hh h1 hts hg
  go_enter Try.func53, Try.ntmps53
  go_wp2_with fail
  obtain ⟨G, hG⟩ : ∃ G, G = w.heap.size := ⟨_, rfl⟩
  rw [← hG] at HB0 HN0 HM0 ⊢
  have HGG := Lib.hid hG
  clear hG
  generalize (w.alloc (.cells (bdC (bdL ts)) 58)).alloc (.cells #[.int .i64 tk, .int .i64 fr, .int .i64 tv] 42) = w2 at *
  have f0 : w2.cell? ⟨G + 1, 0, none⟩ = some (.int .i64 tk) := by rw [cell_of_row _ _ 0 _ _ _ HM0]; rfl
  have f1 : w2.cell? ⟨G + 1, 1, none⟩ = some (.int .i64 fr) := by rw [cell_of_row _ _ 1 _ _ _ HM0]; rfl
  have f2 : w2.cell? ⟨G + 1, 2, none⟩ = some (.int .i64 tv) := by rw [cell_of_row _ _ 2 _ _ _ HM0]; rfl
  have HBw : Hid (∀ n, Below w.heap.size w (w2.drewN n)) := Lib.hid (fun n => HGG.out ▸ below_drewN HB0.out n)
  have HBw0 : Hid (Below w.heap.size w w2) := Lib.hid (HGG.out ▸ HB0.out)
  have HG2 := Lib.hid (HG.out.keep HBw0.out)
  have H12 := Lib.hid (H1.out.keep HBw0.out)
  have CI := Lib.hid (isVertex_c A g.length c tv w2)
  clear HM0 HB0 HG H1
  by_cases hin : 0 ≤ tv ∧ tv < g.length
  · rw [decide_eq_true hin] at CI
    obtain ⟨t, rfl⟩ := Int.eq_ofNat_of_zero_le hin.1
    have ht24 : t < 24 := by omega
    obtain ⟨cu, c1', f4⟩ : ∃ z : Int, w2.cell? ⟨G, t, none⟩ = some (.int .i64 z) ∧ z = onF ts t := ⟨_, by
      have h := (HN0.out.cell (k := t) (by rw [bdL_length]; exact ht24)).1
      have h2 := bdL_at (ts := ts) ht24
      rw [List.getElem?_eq_getElem (by rw [bdL_length]; exact ht24)] at h2
      injection h2 with h2
      rw [h, h2], rfl⟩
    by_cases hfr : cu = -1
    · subst hfr
      have hno : ¬ ((t : Int) < 0 ∨ (g.length : Int) ≤ (t : Int) ∨ (t : Int) ∈ ts) := by
        rintro (h | h | h)
        · omega
        · omega
        · exact HIff.out.1 f4.symm h
      by_cases h1 : fr = -1
      · have HE := Lib.hid (HP1.out hno h1)
        subst h1
        clear HP0 HP1 HP2 HIff hno f4
        go_wp2_with fail
        refine CI.out.mono ?_
        rintro e w3 ⟨rfl, rfl⟩
        clear CI
        go_wp2
        go_ret
        exact ⟨gr_bool (by rw [HE.out]; rfl), HBw0.out⟩
      · have HE := Lib.hid (HP2.out hno h1)
        have hne : (fr == -1) = false := by rw [beq_eq_false_iff_ne]; exact h1
        clear HP0 HP1 HP2 HIff hno f4
        by_cases hk0 : 0 ≤ tk
        · by_cases hkl : tk < ts.length
          · obtain ⟨kn, rfl⟩ := Int.eq_ofNat_of_zero_le hk0
            have hkn : kn < ts.length := by omega
            obtain ⟨b1, o1, rfl, e1⟩ := H12.out.iv hkn
            have hat : atI ts (kn : Int) = ts[kn] := Fl.atI_get hkn
            have hrg := HTs.out.rng _ (List.getElem_mem hkn)
            rw [hat] at HE
            clear hat
            by_cases hf : ts[kn] = fr
            · obtain ⟨fn, rfl⟩ := Int.eq_ofNat_of_zero_le (show 0 ≤ fr by omega)
              have hfg : fn < g.length := by omega
              obtain ⟨bg, og, A3, c3, rfl, e3, h3⟩ := HG2.out.one hfg
              have h24r := HV.out _ (List.getElem_mem hfg)
              rw [hf, Int.toNat_natCast, rowG_at hfg] at HE
              rw [hf] at e1
              have CR := Lib.hid (fun (m : Nat) => contains_c A3 c3 g[fn] t (w2.drewN m) (h3.drewN m) h24r)
              have HEr : Hid (res = decide ((t : Int) ∈ g[fn])) := Lib.hid (by rw [HE.out]; exact decide_eq_decide.2 ⟨fun h => h.2.2.2, fun h => ⟨hk0, hkl, rfl, h⟩⟩)
              clear h3 HE hrg hf
              generalize g[fn] = row at *
              generalize decide ((t : Int) ∈ row) = bb at *
              have hkl2 : decide (kn < ts.length) = true := decide_eq_true hkn
              have hfeq : ((fn : Int) == (fn : Int)) = true := by simp
              go_wp2_with fail
              refine CI.out.mono ?_
              rintro e w3 ⟨rfl, rfl⟩
              clear CI
              go_wp2_with fail
              go_quiet (first | (go_at_call 60; with_reducible exact Calls.quiet_of_same (CR.out _)))
              go_wp2
              go_ret
              exact ⟨gr_bool HEr.out.symm, HBw.out _⟩
            · have HEr : Hid (res = false) := Lib.hid (by rw [HE.out]; exact decide_eq_false fun h => hf h.2.2.1.symm)
              have hfe : (ts[kn] == fr) = false := by rw [beq_eq_false_iff_ne]; exact hf
              clear HE hrg hf
              generalize ts[kn] = xk at *
              go_wp2_with fail
              refine CI.out.mono ?_
              rintro e w3 ⟨rfl, rfl⟩
              clear CI
              go_wp2_with fail
              go_quiet (fail)
              go_wp2
              go_ret
              exact ⟨gr_bool HEr.out.symm, HBw.out _⟩
          · have HEr : Hid (res = false) := Lib.hid (by rw [HE.out]; exact decide_eq_false fun h => hkl h.2.1)
            have hd1 : decide (tk < (ts.length : Int)) = false := decide_eq_false hkl
            clear HE
            go_wp2_with fail
            refine CI.out.mono ?_
            rintro e w3 ⟨rfl, rfl⟩
            clear CI
            go_wp2_with fail
            go_quiet (fail)
            go_wp2
            go_ret
            exact ⟨gr_bool HEr.out.symm, HBw.out _⟩
        · have HEr : Hid (res = false) := Lib.hid (by rw [HE.out]; exact decide_eq_false fun h => hk0 h.1)
          clear HE
          go_wp2_with fail
          refine CI.out.mono ?_
          rintro e w3 ⟨rfl, rfl⟩
          clear CI
          go_wp2_with fail
          go_quiet (fail)
          go_wp2
          go_ret
          exact ⟨gr_bool HEr.out.symm, HBw.out _⟩
    · have HE := Lib.hid (HP0.out (.inr (.inr (by
        rcases onF_cases ts (t : Int) with ⟨h1, _⟩ | ⟨i, hi, h1, _⟩
        · exact absurd (f4.trans h1) hfr
        · exact h1 ▸ List.getElem_mem hi))))
      have hne : (cu != -1) = true := by simpa using hfr
      clear HP0 HP1 HP2 HIff hfr f4
      go_wp2_with fail
      refine CI.out.mono ?_
      rintro e w3 ⟨rfl, rfl⟩
      clear CI
      go_wp2
      go_ret
      exact ⟨gr_bool HE.out.symm, HBw0.out⟩
  · have HE := Lib.hid (HP0.out (by omega))
    rw [decide_eq_false hin] at CI
    clear HP0 HP1 HP2 HIff
    go_wp2_with fail
    refine CI.out.mono ?_
    rintro e w3 ⟨rfl, rfl⟩
    clear CI
    go_wp2
    go_ret
    exact ⟨gr_bool HE.out.symm, HBw0.out⟩
end Go.Proofs.Ytfgpenekmokdiaa
namespace Go.Proofs.Ytfgpenekmokdiaa
open Go Go.RowKit Fl

theorem moveCells_at {l : List MoveD} {k : Nat} (h : k < l.length) : (moveCells l)[k * 3]? = some (Iv l[k].tok) ∧ (moveCells l)[k * 3 + 1]? = some (Iv l[k].frm) ∧ (moveCells l)[k * 3 + 2]? = some (Iv l[k].dst) := by
  have e : moveCells l = moveCells (l.take k) ++ moveCells (l[k] :: l.drop (k + 1)) := by rw [← moveCells_append, ← List.drop_eq_getElem_cons h, List.take_append_drop]
  have hl : (moveCells (l.take k)).length = k * 3 := by rw [moveCells_length, List.length_take]; omega
  refine ⟨?_, ?_, ?_⟩
  · rw [e, List.getElem?_append_right (by omega), hl, Nat.sub_self]; rfl
  · rw [e, List.getElem?_append_right (by omega), hl, show k * 3 + 1 - k * 3 = 1 by omega]; rfl
  · rw [e, List.getElem?_append_right (by omega), hl, show k * 3 + 2 - k * 3 = 2 by omega]; rfl
theorem play_more {g : GraphD} {ms : List MoveD} {k : Nat} {ts : List Int} (h : k < ms.length) (hp : playL g [] (ms.take k) = some ts) : playL g [] (ms.take (k + 1)) = play1 g ts ms[k] := by
  rw [List.take_succ_eq_append_getElem h, playL_append, hp, Option.bind_some]
  simp only [playL]
  rcases play1 g ts ms[k] with _ | t <;> rfl
theorem play_bad {g : GraphD} {ms : List MoveD} {k : Nat} {ts : List Int} (h : k < ms.length) (hp : playL g [] (ms.take k) = some ts) (hb : play1 g ts ms[k] = none) : playL g [] ms = none := by
  have e : ms = ms.take k ++ ms.drop k := (List.take_append_drop k ms).symm
  rw [e, playL_append, hp, Option.bind_some, List.drop_eq_getElem_cons h]
  simp only [playL]
  rw [hb]; rfl
theorem own_otherP {w : World} {P k : Nat} {v u : Value} {n : Nat} {e : TypeId} {xs : List Value} (h : w.ownsRow (P + 1) e 1 v n xs) : (w.setCell ⟨P, k, none⟩ u).ownsRow (P + 1) e 1 v n xs := by
  obtain ⟨h1, hr⟩ := h
  refine ⟨h1, ?_⟩
  rcases hr with hr | ⟨q, cap, cur, hv, hq, hh, r⟩
  · exact .inl hr
  · exact .inr ⟨q, cap, cur, hv, hq, (Below.heap_setCell _ _ _ _ (show q ≠ P by omega)).trans hh, r⟩
/-- What Replay returns. -/
def RepRes (g : GraphD) (ms : List MoveD) (B : Nat) (e : Ending) (w' : World) : Prop :=
  (validG g = false ∧ e = .returned (.tuple #[.slice none 0 0, .int .i64 20])) ∨ (validG g = true ∧ 1200 < ms.length ∧ e = .returned (.tuple #[.slice none 0 0, .int .i64 14])) ∨
  (validG g = true ∧ ms.length ≤ 1200 ∧ playL g [] ms = none ∧ e = .returned (.tuple #[.slice none 0 0, .int .i64 24])) ∨
  (validG g = true ∧ ms.length ≤ 1200 ∧ ∃ ts u, playL g [] ms = some ts ∧ e = .returned (.tuple #[u, .int .i64 0]) ∧ w'.ownsRow B 3 1 u ts.length (ts.map Iv))
theorem rep_bad {g : GraphD} {ms : List MoveD} {B : Nat} {w' : World} (h : validG g = false) : RepRes g ms B (.returned (.tuple #[.slice none 0 0, .int .i64 20])) w' := .inl ⟨h, rfl⟩
theorem rep_many {g : GraphD} {ms : List MoveD} {B : Nat} {w' : World} (h : validG g = true) (hl : 1200 < ms.length) : RepRes g ms B (.returned (.tuple #[.slice none 0 0, .int .i64 14])) w' := .inr (.inl ⟨h, hl, rfl⟩)
theorem rep_none {g : GraphD} {ms : List MoveD} {B : Nat} {w' : World} (h : validG g = true) (hl : ms.length ≤ 1200) (hp : playL g [] ms = none) : RepRes g ms B (.returned (.tuple #[.slice none 0 0, .int .i64 24])) w' := .inr (.inr (.inl ⟨h, hl, hp, rfl⟩))
theorem rep_some {g : GraphD} {ms : List MoveD} {B : Nat} {w' : World} {ts : List Int} {u : Value} (h : validG g = true) (hl : ms.length ≤ 1200) (hp : playL g [] ms = some ts) (ho : w'.ownsRow B 3 1 u ts.length (ts.map Iv)) : RepRes g ms B (.returned (.tuple #[u, .int .i64 0])) w' := .inr (.inr (.inr ⟨h, hl, ts, u, hp, rfl, ho⟩))
set_option maxRecDepth 100000 in
set_option maxHeartbeats 8000000 in
theorem devReplay_c (A A1 : Option Addr) (c c1 : Nat) (g : GraphD) (ms : List MoveD) (w : World) (hh : RowsAt w A g) (h1 : Holds w A1 (moveCells ms)) (hz : Sized g) (hml : ms.length ≤ 1000000000000000000) :
    Calls Try.prog 27 #[.slice A g.length c, .slice A1 ms.length c1] w fun e w' => Below w.heap.size w w' ∧ RepRes g ms w.heap.size e w' := by
  have CV := Lib.hid (devValid_c A c g w hh hz.1 hz.2)
  rcases hv : validG g with _ | _
  · have HV := Lib.hid hv
    rw [hv] at CV
    have HB := Lib.hid (Below.refl w.heap.size w)
    clear hh h1 hz hv
    go_enter Try.func27, Try.ntmps27
    go_wp2_with fail
    refine CV.out.mono ?_
    rintro e w1 ⟨rfl, rfl⟩
    clear CV
    go_wp2
    go_ret2
    exact ⟨HB.out, rep_bad HV.out⟩
  · have HV := Lib.hid hv
    rw [hv] at CV
    rcases Nat.lt_or_ge 1200 ms.length with hmany | hfew
    · have HB := Lib.hid (Below.refl w.heap.size w)
      have hgt : (1200 : Int) < (ms.length : Int) := by omega
      clear hh h1 hz hv
      go_enter Try.func27, Try.ntmps27
      go_wp2_with fail
      refine CV.out.mono ?_
      rintro e w1 ⟨rfl, rfl⟩
      clear CV
      go_wp2
      go_ret2
      exact ⟨HB.out, rep_many HV.out hmany⟩
    · have HG := Lib.hid hh
      have H1 := Lib.hid h1
      have hle : ¬ (1200 : Int) < (ms.length : Int) := by omega
      have CE := Lib.hid (emptyBoard_c w)
      have hg24 := validG_len hv
      have HMs : Hid (∀ k (h : k < ms.length), (moveCells ms)[k * 3]? = some (Iv ms[k].tok) ∧ (moveCells ms)[k * 3 + 1]? = some (Iv ms[k].frm) ∧ (moveCells ms)[k * 3 + 2]? = some (Iv ms[k].dst)) := Lib.hid (fun k h => moveCells_at h)
      have HTE : Hid (playL g [] (ms.take ms.length) = playL g [] ms) := Lib.hid (by rw [List.take_length])
      clear hh h1 hz hv
      go_enter Try.func27, Try.ntmps27
      go_wp2_with fail
      refine CV.out.mono ?_
      rintro e w1 ⟨rfl, rfl⟩
      clear CV
      go_wp2_with fail
      refine CE.out.mono ?_
      rintro e w1 ⟨rfl, hb⟩
      have HNw := Lib.hid (board_new w1)
      have HN2 := Lib.hid ((board_new w1).row (B' := bdL []))
      have HB2 := Lib.hid (below_rowZ (G := w1.heap.size) (hb.alloc hb.size (.cells #[.int .i64 0, .int .i64 0, .int .i64 0, .int .i64 0, .int .i64 0, .int .i64 0, .int .i64 0, .int .i64 0, .int .i64 0, .int .i64 0, .int .i64 0, .int .i64 0, .int .i64 0, .int .i64 0, .int .i64 0, .int .i64 0, .int .i64 0, .int .i64 0, .int .i64 0, .int .i64 0, .int .i64 0, .int .i64 0, .int .i64 0, .int .i64 0] 58)) hb.size (bdC (bdL [])))
      have hs2 : w1.heap.size + 1 ≤ ((w1.alloc (.cells #[.int .i64 0, .int .i64 0, .int .i64 0, .int .i64 0, .int .i64 0, .int .i64 0, .int .i64 0, .int .i64 0, .int .i64 0, .int .i64 0, .int .i64 0, .int .i64 0, .int .i64 0, .int .i64 0, .int .i64 0, .int .i64 0, .int .i64 0, .int .i64 0, .int .i64 0, .int .i64 0, .int .i64 0, .int .i64 0, .int .i64 0, .int .i64 0] 58)).setRow w1.heap.size (bdC (bdL []))).heap.size := by simp [World.setRow]
      have hPw := Lib.hid hb.size
      clear hb CE
      go_wp2_with (first | refine store_board rfl _ _ rfl _ rfl rfl HNw.out (by simp) (bdL_length _) ?_)
      clear HNw hle
      generalize (w1.alloc (.cells #[.int .i64 0, .int .i64 0, .int .i64 0, .int .i64 0, .int .i64 0, .int .i64 0, .int .i64 0, .int .i64 0, .int .i64 0, .int .i64 0, .int .i64 0, .int .i64 0, .int .i64 0, .int .i64 0, .int .i64 0, .int .i64 0, .int .i64 0, .int .i64 0, .int .i64 0, .int .i64 0, .int .i64 0, .int .i64 0, .int .i64 0, .int .i64 0] 58)).setRow w1.heap.size (bdC (bdL [])) = w2 at *
      generalize w1.heap.size = P at *
      clear w1
      go_loopw [7, 19] (fun v i wr => ∃ (k : Nat) (ts : List Int), i = .int .i64 k ∧ k ≤ ms.length ∧ Hid (playL g [] (ms.take k) = some ts) ∧ Hid (AtOk g ts) ∧ Hid (wr.ownsRow (P + 1) 3 1 v ts.length (ts.map Iv)) ∧ Hid (BdAt wr P (bdL ts)) ∧ Hid (Below w.heap.size w wr) ∧ P + 1 ≤ wr.heap.size) (fun _ i _ => ms.length - (intOf i).toNat)
      case atStart => exact ⟨0, [], rfl, Nat.zero_le _, Lib.hid rfl, Lib.hid (AtOk.nil g), Lib.hid (World.ownsRow_nil _ _ _ _), HN2, HB2, hs2⟩
      case round =>
        clear HN2 HB2 hs2
        obtain ⟨k, ts, rfl, hk, HPl, HOk, HO, HN, HB, hs⟩ := hrel
        by_cases hlt : k < ms.length
        · obtain ⟨m0, m1, m2⟩ := HMs.out k hlt
          have HMore := Lib.hid (play_more hlt HPl.out)
          have HBad := Lib.hid (fun h => play_bad hlt HPl.out h)
          have h3 : k * 3 + 2 < (moveCells ms).length := (List.getElem?_eq_some_iff.1 m2).1
          obtain ⟨b1, o1, rfl, hbl1, hc⟩ := (H1.out.keep HB.out).at_ (show 0 < (moveCells ms).length by omega)
          have e0 : wr.cell? ⟨b1, o1 + k * 3, none⟩ = some (.int .i64 ms[k].tok) := by
            rw [hc (k * 3) (by omega)]; rw [List.getElem?_eq_getElem (by omega)] at m0; exact m0
          have e1 : wr.cell? ⟨b1, o1 + k * 3 + 1, none⟩ = some (.int .i64 ms[k].frm) := by
            rw [Nat.add_assoc, hc (k * 3 + 1) (by omega)]; rw [List.getElem?_eq_getElem (by omega)] at m1; exact m1
          have e2 : wr.cell? ⟨b1, o1 + k * 3 + 2, none⟩ = some (.int .i64 ms[k].dst) := by
            rw [Nat.add_assoc, hc (k * 3 + 2) (by omega)]; rw [List.getElem?_eq_getElem (by omega)] at m2; exact m2
          clear m0 m1 m2 hc h3 HPl
          generalize ms[k] = m at *
          obtain ⟨A8, c8, rfl, hcap8, hho⟩ := own_cap HO.out
          go_upto_region 10 with fail
          have hown := HO.out.lt
          have HNa := Lib.hid (HN.out.alloc (.cells #[.int .i64 m.tok, .int .i64 m.frm, .int .i64 m.dst] 42))
          have HOa := Lib.hid (HO.out.alloc (.cells #[.int .i64 m.tok, .int .i64 m.frm, .int .i64 m.dst] 42))
          have HBa := Lib.hid (HB.out.alloc HB.out.size (.cells #[.int .i64 m.tok, .int .i64 m.frm, .int .i64 m.dst] 42))
          have hMa := heap_alloc_new wr (.cells #[.int .i64 m.tok, .int .i64 m.frm, .int .i64 m.dst] 42)
          have hsa : (wr.alloc (.cells #[.int .i64 m.tok, .int .i64 m.frm, .int .i64 m.dst] 42)).heap.size = wr.heap.size + 1 := by simp
          generalize wr.alloc (.cells #[.int .i64 m.tok, .int .i64 m.frm, .int .i64 m.dst] 42) = wa at *
          obtain ⟨M, hM⟩ : ∃ M, M = wr.heap.size := ⟨_, rfl⟩
          rw [← hM] at hown hMa hsa hs ⊢
          have f0 : wa.cell? ⟨M, 0, none⟩ = some (.int .i64 m.tok) := by rw [cell_of_row _ _ 0 _ _ _ hMa]; rfl
          have f1 : wa.cell? ⟨M, 1, none⟩ = some (.int .i64 m.frm) := by rw [cell_of_row _ _ 1 _ _ _ hMa]; rfl
          have f2 : wa.cell? ⟨M, 2, none⟩ = some (.int .i64 m.dst) := by rw [cell_of_row _ _ 2 _ _ _ hMa]; rfl
          have hho2 : Holds wa A8 (ts.map Iv) := by
            obtain ⟨A9, c9, h8, h9⟩ := own_is HOa.out
            injection h8 with h8
            rw [h8]; exact h9
          have CP := Lib.hid (possible_c A A8 c c8 g ts m wa (HG.out.keep HBa.out) hho2 HV.out HOk.out)
          have h24 := HOk.out.few HV.out
          clear HN HO HB e0 e1 e2 hho hho2 hM hMa hbl1
          clear wr
          go_wp2_with (first | refine load_board rfl _ rfl _ rfl HNa.out (bdL_length _) ?_)
          refine CP.out.mono ?_
          rintro e w3 ⟨rfl, hb3⟩
          have HN3 := Lib.hid (HNa.out.keep hb3 HNa.out.lt)
          have HO3 := Lib.hid (ownsRow_below HOa.out hb3)
          have HB3 := Lib.hid (HBa.out.trans (hb3.mono HBa.out.size))
          have g0 := (hb3.cell (p := ⟨M, 0, none⟩) (by show M < _; omega)).trans f0
          have g1 := (hb3.cell (p := ⟨M, 1, none⟩) (by show M < _; omega)).trans f1
          have g2 := (hb3.cell (p := ⟨M, 2, none⟩) (by show M < _; omega)).trans f2
          have hs3 : M + 1 ≤ w3.heap.size := by have := hb3.size; omega
          clear CP hb3 HNa HOa HBa f0 f1 f2 hsa
          clear wa
          rcases hpl : play1 g ts m with _ | r
          · have HE := Lib.hid (HBad.out hpl)
            have hpb : possB g ts m = false := by unfold possB; rw [hpl]; rfl
            rw [hpb]
            clear hpl hpb HBad HMore
            go_wp2
            go_ret2
            exact ⟨HB3.out, rep_none HV.out hfew HE.out⟩
          · obtain ⟨hOk2, ⟨ht0, ht1, ht2⟩, hcase⟩ := play1_ok HOk.out hpl
            have HPl2 : Hid (playL g [] (ms.take (k + 1)) = some r) := Lib.hid (HMore.out.trans hpl)
            have HOk3 := Lib.hid hOk2
            have hpb : possB g ts m = true := by unfold possB; rw [hpl]; rfl
            rw [hpb]
            obtain ⟨tk, fr, tv⟩ := m
            dsimp only at ht0 ht1 ht2 hcase g0 g1 g2 ⊢
            obtain ⟨y, rfl⟩ := Int.eq_ofNat_of_zero_le ht0
            have hy24 : y < 24 := by omega
            clear hpl hpb HBad HMore hOk2
            rcases hcase with ⟨rfl, rfl, rfl⟩ | ⟨hk0, hkl, hfe, rfl⟩
            · have HAdd := Lib.hid (bdL_add ht2)
              go_wp2_with (at_builtin; refine app_int _ rfl _ _ rfl (P + 1) _ _ _ rfl (HO3.out.alloc _) w3.heap.size y rfl (by simp [go_sem]) (by omega) (by simp; omega) ?_)
              intro v8 w8 own8 hg8
              have hneP : some P ≠ (Value.slice A8 ts.length c8).ownBlock := fun e => by have := hown P e.symm; omega
              have hneM : some M ≠ (Value.slice A8 ts.length c8).ownBlock := fun e => by have := hown M e.symm; omega
              have hbM : w8.heap[M]? = w3.heap[M]? := (hg8.block M (by simp; omega) hneM).trans (Below.heap_alloc _ _ _ (by omega))
              have k0 : w8.cell? ⟨M, 0, none⟩ = some (.int .i64 ts.length) := (World.cell?_of_block (w := w3) hbM).trans g0
              have k2 : w8.cell? ⟨M, 2, none⟩ = some (.int .i64 y) := (World.cell?_of_block (w := w3) hbM).trans g2
              have HN8 := Lib.hid ((HN3.out.alloc (.cells #[.int .i64 (y : Int)] 3)).grown hg8 hneP)
              have HB8 : Hid (Below w.heap.size w w8) := Lib.hid ((HB3.out.alloc HB3.out.size _).grown hg8 (by have := HB3.out.size; simp; omega) (fun k hk => by have := hown k hk; have := hPw.out; omega))
              have HO8 : Hid (w8.ownsRow (P + 1) 3 1 v8 (ts ++ [(y : Int)]).length ((ts ++ [(y : Int)]).map Iv)) := Lib.hid (by rw [List.length_append, List.map_append]; exact own8)
              have hs8 : P + 1 ≤ w8.heap.size := by have := hg8.size; simp at this; omega
              obtain ⟨cv, c4, f4⟩ : ∃ cv, w8.cell? ⟨P, y, none⟩ = some cv ∧ w8.frozen? ⟨P, y, none⟩ = false := ⟨_, HN8.out.cell (k := y) (by rw [bdL_length]; exact hy24)⟩
              have HN9 : Hid (BdAt (w8.setCell ⟨P, y, none⟩ (.int .i64 ts.length)) P (bdL (ts ++ [(y : Int)]))) := Lib.hid (by rw [← HAdd.out]; exact HN8.out.set y _)
              have HB9 := Lib.hid (below_put (i := y) (v := .int .i64 ts.length) HB8.out hPw.out)
              have HO9 := Lib.hid (own_otherP (k := y) (u := .int .i64 ts.length) HO8.out)
              have hs9 : P + 1 ≤ (w8.setCell ⟨P, y, none⟩ (.int .i64 ts.length)).heap.size := by simp [World.setCell]; omega
              clear own8 hg8 hneP hneM hbM HN8 HB8 HO8 g0 g1 g2 HO3 HN3 HB3 HAdd
              go_wp2
              go_roundw
              case rel => exact ⟨k + 1, ts ++ [(y : Int)], by go_num, by omega, HPl2, HOk3, HO9, HN9, HB9, hs9⟩
              case measure => simp [intOf]; omega
            · obtain ⟨kn, rfl⟩ := Int.eq_ofNat_of_zero_le hk0
              have hkn : kn < ts.length := by omega
              rw [Fl.atI_get hkn] at hfe
              have hrg := HOk.out.rng _ (List.getElem_mem hkn)
              obtain ⟨f, hf⟩ := Int.eq_ofNat_of_zero_le hrg.1
              have hfg : f < 24 := by omega
              rw [hf] at hfe
              subst hfe
              have HMv := Lib.hid (bdL_move HOk.out.nodup hkn hf ht2)
              obtain ⟨q, cap, hv8, hqP, hcap⟩ := own_at HO3.out (show 0 < ts.length by omega)
              injection hv8 with hv8 _ hv9
              subst hv8 hv9
              have hqM : ¬ q = M := fun e => by have := hown q rfl; omega
              have hMq : ¬ M = q := fun e => hqM e.symm
              have hPM : ¬ P = M := by omega
              have hMP : ¬ M = P := by omega
              have hqP2 : ¬ q = P := by omega
              have hPq : ¬ P = q := by omega
              have hfm : ((f : Int) == -1) = false := by rw [beq_eq_false_iff_ne]; omega
              obtain ⟨cq, d1, d2⟩ : ∃ cq, w3.cell? ⟨q, kn, none⟩ = some cq ∧ w3.frozen? ⟨q, kn, none⟩ = false := ⟨_, own_get HO3.out (i := kn) (u := Iv ts[kn]) (by simp [hkn])⟩
              obtain ⟨cf, d3, d4⟩ : ∃ cf, w3.cell? ⟨P, f, none⟩ = some cf ∧ w3.frozen? ⟨P, f, none⟩ = false := ⟨_, HN3.out.cell (k := f) (by rw [bdL_length]; exact hfg)⟩
              obtain ⟨cv, d5, d6⟩ : ∃ cv, w3.cell? ⟨P, y, none⟩ = some cv ∧ w3.frozen? ⟨P, y, none⟩ = false := ⟨_, HN3.out.cell (k := y) (by rw [bdL_length]; exact hy24)⟩
              have hfy : ¬ f = y := fun e => ht2 (by rw [← e, ← hf]; exact List.getElem_mem hkn)
              have hyf : ¬ y = f := fun e => hfy e.symm
              have HN9 : Hid (BdAt (((w3.setCell ⟨q, kn, none⟩ (.int .i64 y)).setCell ⟨P, f, none⟩ (.int .i64 (-1))).setCell ⟨P, y, none⟩ (.int .i64 kn)) P (bdL (ts.set kn (y : Int)))) := Lib.hid (by
                rw [← HMv.out]
                exact ((HN3.out.put hPq).set f _).set y _)
              have HB9 := Lib.hid (below_put (i := y) (v := .int .i64 kn) (below_put (i := f) (v := .int .i64 (-1)) (below_put (i := kn) (v := .int .i64 y) HB3.out (show w.heap.size ≤ q by have := hPw.out; omega)) hPw.out) hPw.out)
              have HO9 : Hid ((((w3.setCell ⟨q, kn, none⟩ (.int .i64 y)).setCell ⟨P, f, none⟩ (.int .i64 (-1))).setCell ⟨P, y, none⟩ (.int .i64 kn)).ownsRow (P + 1) 3 1 (.slice (some ⟨q, 0, none⟩) ts.length c8) (ts.set kn (y : Int)).length ((ts.set kn (y : Int)).map Iv)) := Lib.hid (by
                rw [List.length_set, List.map_set]
                exact own_otherP (own_otherP (own_put HO3.out)))
              have hs9 : P + 1 ≤ ((((w3.setCell ⟨q, kn, none⟩ (.int .i64 y)).setCell ⟨P, f, none⟩ (.int .i64 (-1))).setCell ⟨P, y, none⟩ (.int .i64 kn))).heap.size := by simp [World.setCell]; omega
              clear HO3 HN3 HB3 HMv hf hrg hk0 hkl
              go_wp2
              go_roundw
              case rel => exact ⟨k + 1, ts.set kn (y : Int), by go_num, by omega, HPl2, HOk3, HO9, HN9, HB9, hs9⟩
              case measure => simp [intOf]; omega
        · obtain rfl : k = ms.length := by omega
          have HE := Lib.hid (HTE.out.symm.trans HPl.out)
          have HOw := Lib.hid (ownsRow_base HO.out (base2 := w.heap.size) (by have := hPw.out; omega))
          clear HO HPl
          go_wp2
          go_ret2
          exact ⟨HB.out, rep_some HV.out hfew HE.out HOw.out⟩
theorem devReplayT_c : DevReplayT := fun A A1 c c1 g ms ts w hh hg h1 hl hp => by
  refine (devReplay_c A A1 c c1 g ms w hh h1 (Sized.valid hg) (by omega)).mono ?_
  rintro e w' ⟨hb, hr⟩
  rcases hr with ⟨h, _⟩ | ⟨_, h, _⟩ | ⟨_, _, h, _⟩ | ⟨_, _, ts', u, h, he, ho⟩
  · rw [hg] at h; cases h
  · omega
  · rw [hp] at h; cases h
  · rw [hp] at h
    injection h with h
    subst h
    exact ⟨⟨u, he, ho⟩, hb⟩
end Go.Proofs.Ytfgpenekmokdiaa
