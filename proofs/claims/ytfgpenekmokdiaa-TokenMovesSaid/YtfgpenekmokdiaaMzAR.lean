/- Joined texts. -/
import Derived.Test.YtfgpenekmokdiaaMzAN
import Derived.Test.YtfgpenekmokdiaaMzAQ
import Derived.Test.YtfgpenekmokdiaaMzAG
import Derived.Test.YtfgpenekmokdiaaMzAF
import Derived.Test.YtfgpenekmokdiaaMzAH
namespace Go.Proofs.Ytfgpenekmokdiaa
open Go Go.RowKit Fl

set_option maxRecDepth 100000 in
set_option maxHeartbeats 4000000 in
theorem devFree_c (A A1 A2 : Option Addr) (c c1 c2 : Nat) (g : GraphD) (ts ws : List Int) (w : World) (hh : RowsAt w A g) (h1 : Holds w A1 (ts.map Iv)) (h2 : Holds w A2 (ws.map Iv)) (hz : Sized g) :
    Calls Try.prog 13 #[.slice A g.length c, .slice A1 ts.length c1, .slice A2 ws.length c2] w (FreePost g ts ws w) := by
  have CP := Lib.hid (place_c A A1 A2 c c1 c2 g ts ws w hh h1 h2 hz)
  have H2 := Lib.hid h2
  clear hh h1 h2 hz
  unfold FreePost
  rcases hp : posB g ts ws with _ | _
  · go_enter Try.func13, Try.ntmps13
    go_wp2_with fail
    refine CP.out.mono ?_
    rintro e w1 ⟨⟨B, rfl, hBl, _⟩, hb⟩
    rw [hp]
    have HNw := Lib.hid (board_new w1)
    have HB := Lib.hid (below_rowZ (G := w1.heap.size) (hb.alloc hb.size (.cells #[.int .i64 0, .int .i64 0, .int .i64 0, .int .i64 0, .int .i64 0, .int .i64 0, .int .i64 0, .int .i64 0, .int .i64 0, .int .i64 0, .int .i64 0, .int .i64 0, .int .i64 0, .int .i64 0, .int .i64 0, .int .i64 0, .int .i64 0, .int .i64 0, .int .i64 0, .int .i64 0, .int .i64 0, .int .i64 0, .int .i64 0, .int .i64 0] 58)) hb.size (bdC B))
    clear hb CP hp
    go_wp2_with (first | refine store_board rfl _ _ rfl _ rfl rfl HNw.out (by simp) hBl ?_)
    go_ret2
    exact ⟨HB.out, rfl⟩
  · have hpo := posB_iff.1 hp
    have HPo := Lib.hid hpo
    have hlen := hpo.len
    have h24 := hpo.few
    have HLen := Lib.hid hlen
    have hw24 : ws.length ≤ 24 := by omega
    have hg24 := validG_len hpo.graph
    clear hpo hlen h24
    go_enter Try.func13, Try.ntmps13
    go_wp2_with fail
    refine CP.out.mono ?_
    rintro e w1 ⟨⟨B, rfl, hBl, hBe⟩, hb⟩
    rw [hp]
    obtain rfl := hBe hp
    have HNw := Lib.hid (board_new w1)
    have HN2 := Lib.hid ((board_new w1).row (B' := bdL ts))
    have HB2 := Lib.hid (below_rowZ (G := w1.heap.size) (hb.alloc hb.size (.cells #[.int .i64 0, .int .i64 0, .int .i64 0, .int .i64 0, .int .i64 0, .int .i64 0, .int .i64 0, .int .i64 0, .int .i64 0, .int .i64 0, .int .i64 0, .int .i64 0, .int .i64 0, .int .i64 0, .int .i64 0, .int .i64 0, .int .i64 0, .int .i64 0, .int .i64 0, .int .i64 0, .int .i64 0, .int .i64 0, .int .i64 0, .int .i64 0] 58)) hb.size (bdC (bdL ts)))
    have hs2 : w1.heap.size + 1 ≤ ((w1.alloc (.cells #[.int .i64 0, .int .i64 0, .int .i64 0, .int .i64 0, .int .i64 0, .int .i64 0, .int .i64 0, .int .i64 0, .int .i64 0, .int .i64 0, .int .i64 0, .int .i64 0, .int .i64 0, .int .i64 0, .int .i64 0, .int .i64 0, .int .i64 0, .int .i64 0, .int .i64 0, .int .i64 0, .int .i64 0, .int .i64 0, .int .i64 0, .int .i64 0] 58)).setRow w1.heap.size (bdC (bdL ts))).heap.size := by simp [World.setRow]
    have hPw : w.heap.size ≤ w1.heap.size := hb.size
    clear hb CP hp hBe
    go_wp2_with (first | refine store_board rfl _ _ rfl _ rfl rfl HNw.out (by simp) hBl ?_)
    clear HNw hBl
    generalize (w1.alloc (.cells #[.int .i64 0, .int .i64 0, .int .i64 0, .int .i64 0, .int .i64 0, .int .i64 0, .int .i64 0, .int .i64 0, .int .i64 0, .int .i64 0, .int .i64 0, .int .i64 0, .int .i64 0, .int .i64 0, .int .i64 0, .int .i64 0, .int .i64 0, .int .i64 0, .int .i64 0, .int .i64 0, .int .i64 0, .int .i64 0, .int .i64 0, .int .i64 0] 58)).setRow w1.heap.size (bdC (bdL ts)) = w2 at *
    generalize w1.heap.size = P at *
    clear w1
    go_loopw [10, 24] (fun v i wr => ∃ k : Nat, i = .int .i64 k ∧ k ≤ ws.length ∧ Hid (wr.ownsRow (P + 1) 3 1 v (freeL ts ws k).length ((freeL ts ws k).map Iv)) ∧ Hid (BdAt wr P (bdL ts)) ∧ Hid (Below w.heap.size w wr) ∧ P + 1 ≤ wr.heap.size) (fun _ i _ => ws.length - (intOf i).toNat)
    case atStart => exact ⟨0, rfl, Nat.zero_le _, Lib.hid (World.ownsRow_nil _ _ _ _), HN2, HB2, hs2⟩
    case round =>
      clear HN2 HB2 hs2
      obtain ⟨k, rfl, hk, HO, HN, HB, hs⟩ := hrel
      by_cases hlt : k < ws.length
      · have HS := Lib.hid (freeL_succ ts ws k)
        rw [Fl.atI_get hlt] at HS
        have hfl := freeL_len ts ws k
        have HW := Lib.hid (HPo.out.wantAt hlt)
        obtain ⟨b2, o2, rfl, e2⟩ := (H2.out.keep HB.out).iv hlt
        generalize ws[k] = y at *
        by_cases hy : y = -1
        · have HE : Hid (freeL ts ws (k + 1) = freeL ts ws k) := Lib.hid (by rw [HS.out, if_neg (fun h => by omega), List.append_nil])
          subst hy
          clear HS HW
          go_wp2
          go_roundw
          case rel => exact ⟨k + 1, by go_num, by omega, Lib.hid (by rw [HE.out]; exact HO.out), HN, HB, hs⟩
          case measure => simp [intOf]; omega
        · obtain ⟨v, rfl, hv⟩ : ∃ v : Nat, y = (v : Int) ∧ v < g.length := by
            rcases HW.out with h | h
            · exact absurd h hy
            · exact h
          have hne : ((v : Int) == -1) = false := by rw [beq_eq_false_iff_ne]; exact hy
          have hne2 : ((v : Int) != -1) = true := by rw [bne_iff_ne]; exact hy
          have CI := Lib.hid (inTheWay_c (bdL ts) v (onF ts v) wr (bdL_length _) (.inr ⟨v, rfl, bdL_at (by omega)⟩))
          have HIff := Lib.hid (onF_iff (ts := ts) (x := (v : Int)))
          generalize onF ts (v : Int) = q at *
          by_cases hq : q = -1
          · have HE : Hid (freeL ts ws (k + 1) = freeL ts ws k ++ [(k : Int)]) := Lib.hid (by rw [HS.out, if_pos ⟨by omega, HIff.out.1 hq⟩])
            subst hq
            clear HS HW hy HIff
            go_wp2_with (first | refine load_boardG rfl _ rfl _ rfl HN.out (bdL_length _) ?_)
            refine CI.out.mono ?_
            rintro e w3 ⟨rfl, hb3⟩
            have hsz3 := hb3.size
            have HO3 := Lib.hid (ownsRow_below HO.out hb3)
            have HN3 := Lib.hid (HN.out.keep hb3 (by omega))
            have HB3 := Lib.hid (HB.out.trans (hb3.mono HB.out.size))
            have hb := own_base HO3.out
            clear CI hb3 HO HN HB
            generalize freeL ts ws k = xs at *
            go_wp2_with (at_builtin; refine app_int _ rfl _ _ rfl (P + 1) _ _ _ rfl (HO3.out.alloc _) w3.heap.size k rfl (by simp [go_sem]) (by omega) (by simp; omega) ?_)
            intro v8 w8 own8 hg8
            have HN8 := Lib.hid ((HN3.out.alloc (.cells #[.int .i64 k] 3)).grown hg8 (fun e => by have := hb P e.symm; omega))
            have HB8 : Hid (Below w.heap.size w w8) := Lib.hid ((HB3.out.alloc HB3.out.size _).grown hg8 (by have := HB3.out.size; simp; omega) (fun k hk => by have := hb k hk; omega))
            have HO8 : Hid (w8.ownsRow (P + 1) 3 1 v8 (freeL ts ws (k + 1)).length ((freeL ts ws (k + 1)).map Iv)) := Lib.hid (by rw [HE.out, List.length_append, List.map_append]; exact own8)
            have hs8 : P + 1 ≤ w8.heap.size := by have := hg8.size; simp at this; omega
            clear own8 hg8 hb HO3 HN3 HB3
            go_wp2
            go_roundw
            case rel => exact ⟨k + 1, by go_num, by omega, HO8, HN8, HB8, hs8⟩
            case measure => simp [intOf]; omega
          · have HE : Hid (freeL ts ws (k + 1) = freeL ts ws k) := Lib.hid (by rw [HS.out, if_neg (fun h => hq (HIff.out.2 h.2)), List.append_nil])
            have hqn : (q == -1) = false := by rw [beq_eq_false_iff_ne]; exact hq
            clear HS HW hy HIff hq
            go_wp2_with (first | refine load_boardG rfl _ rfl _ rfl HN.out (bdL_length _) ?_)
            refine CI.out.mono ?_
            rintro e w3 ⟨rfl, hb3⟩
            have hsz3 := hb3.size
            have HO3 := Lib.hid (ownsRow_below HO.out hb3)
            have HN3 := Lib.hid (HN.out.keep hb3 (by omega))
            have HB3 := Lib.hid (HB.out.trans (hb3.mono HB.out.size))
            clear CI hb3 HO HN HB
            go_wp2
            go_roundw
            case rel => exact ⟨k + 1, by go_num, by omega, Lib.hid (by rw [HE.out]; exact HO3.out), HN3, HB3, by omega⟩
            case measure => simp [intOf]; omega
      · obtain rfl : k = ws.length := by omega
        have HOw := Lib.hid (ownsRow_base HO.out (base2 := w.heap.size) (by omega))
        clear HO
        go_wp2
        go_ret2
        exact ⟨HB.out, _, rfl, by rw [HLen.out]; exact HOw.out⟩
set_option maxHeartbeats 1000000 in
theorem wants_c (x : Int) (w : World) : Calls Try.prog 43 #[.int .i64 x] w fun e w' => e = .returned (.bool (x != -1)) ∧ w' = w := by
  go_enter Try.func43, Try.ntmps43
  go_wp2
  go_ret
  exact ⟨rfl, rfl⟩
set_option maxRecDepth 100000 in
set_option maxHeartbeats 4000000 in
/-- Whether a token wants a vertex. -/
theorem idxWants_c (A : Option Addr) (c : Nat) (r : List Int) (w : World) (hr : Holds w A (r.map Iv)) (hl : r.length ≤ 1000000) :
    Calls Try.prog 62 #[.slice A r.length c, .func (.func 43) #[] #[]] w fun e w' => (∃ k : Int, e = .returned (.int .i64 k) ∧ decide (0 ≤ k) = r.any (fun x => x != -1)) ∧ Below w.heap.size w w' := by
  have HR := Lib.hid hr
  have HX : Hid (∀ j (h : j < r.length), r[j] ≠ -1 → r.any (fun x => x != -1) = true) := Lib.hid (fun j h hx => List.any_eq_true.2 ⟨_, List.getElem_mem h, by simpa using hx⟩)
  have HE : Hid ((∀ i (h : i < r.length), r[i] = -1) → r.any (fun x => x != -1) = false) := Lib.hid (fun h => by
    rw [List.any_eq_false]
    intro x hx
    obtain ⟨i, hi, rfl⟩ := List.mem_iff_getElem.1 hx
    simp [h i hi])
  clear hr
  generalize r.any (fun x => x != -1) = R at *
  go_enter Try.func62, Try.ntmps62
  go_wp2
  go_loopw [8] (fun iv wr => ∃ (i : Nat), iv = .int .i64 i ∧ i ≤ r.length ∧ Hid (∀ j (h : j < r.length), j < i → r[j] = -1) ∧ Hid (Below w.heap.size w wr)) (fun iv _ => r.length - (intOf iv).toNat)
  case atStart => exact ⟨0, rfl, Nat.zero_le _, Lib.hid (fun j _ h => by omega), Lib.hid (Below.refl _ _)⟩
  case round =>
    obtain ⟨i, rfl, hi, HP, HB⟩ := hrel
    by_cases hlt : i < r.length
    · obtain ⟨b, o, rfl, e1⟩ := (HR.out.keep HB.out).iv hlt
      have HXi := Lib.hid (HX.out i hlt)
      have HPi : Hid (r[i] = -1 → ∀ j (h : j < r.length), j < i + 1 → r[j] = -1) := Lib.hid (fun h0 j h h2 => by
        rcases Nat.lt_succ_iff_lt_or_eq.1 h2 with h3 | rfl
        · exact HP.out j h h3
        · exact h0)
      clear HP
      generalize r[i] = x at *
      by_cases hx : x = -1
      · have HQ := Lib.hid (HPi.out hx)
        have CN := Lib.hid (wants_c x wr)
        subst hx
        have hd : ((-1 : Int) != -1) = false := rfl
        rw [hd] at CN
        clear HPi HXi hd
        go_wp2_with (go_at_call 43; refine CN.out.mono ?_; rintro e w2 ⟨rfl, rfl⟩)
        go_roundw
        case rel => exact ⟨i + 1, by go_num, by omega, HQ, HB⟩
        case measure => simp [intOf]; omega
      · have HQ := Lib.hid (HXi.out hx)
        have CN := Lib.hid (wants_c x wr)
        rw [show (x != -1) = true by simpa using hx] at CN
        clear HPi HXi
        go_wp2_with (go_at_call 43; refine CN.out.mono ?_; rintro e w2 ⟨rfl, rfl⟩)
        go_ret
        exact ⟨⟨_, rfl, by rw [HQ.out]; exact decide_eq_true (by omega)⟩, HB.out⟩
    · obtain rfl : i = r.length := by omega
      have HQ := Lib.hid (HE.out fun i h => HP.out i h h)
      go_wp2
      go_ret
      exact ⟨⟨_, rfl, by rw [HQ.out]; rfl⟩, HB.out⟩
set_option maxHeartbeats 2000000 in
theorem anyWants_c (A : Option Addr) (c : Nat) (r : List Int) (w : World) (hr : Holds w A (r.map Iv)) (hl : r.length ≤ 1000000) :
    Calls Try.prog 42 #[.slice A r.length c, .func (.func 43) #[] #[]] w fun e w' => e = .returned (.bool (r.any (fun x => x != -1))) ∧ Below w.heap.size w w' := by
  have CI := Lib.hid (idxWants_c A c r w hr hl)
  clear hr
  generalize r.any (fun x => x != -1) = R at *
  go_enter Try.func42, Try.ntmps42
  go_wp2_with fail
  refine CI.out.mono ?_
  rintro e w1 ⟨⟨k, rfl, hk⟩, hb⟩
  have HB := Lib.hid hb
  have HK := Lib.hid hk
  clear hk hb CI
  go_wp2
  go_ret
  exact ⟨gr_bool HK.out, HB.out⟩
set_option maxRecDepth 100000 in
set_option maxHeartbeats 4000000 in
theorem devStuck_c (A A1 A2 : Option Addr) (c c1 c2 : Nat) (g : GraphD) (ts ws : List Int) (w : World) (hh : RowsAt w A g) (h1 : Holds w A1 (ts.map Iv)) (h2 : Holds w A2 (ws.map Iv)) (hz : Sized g) :
    Calls Try.prog 19 #[.slice A g.length c, .slice A1 ts.length c1, .slice A2 ws.length c2] w fun e w' => e = .returned (.bool (stuckB g ts ws)) ∧ Below w.heap.size w w' := by
  have CF := Lib.hid (devFree_c A A1 A2 c c1 c2 g ts ws w hh h1 h2 hz)
  have H2 := Lib.hid h2
  unfold FreePost at CF
  clear hh h1 h2 hz
  rcases hp : posB g ts ws with _ | _
  · have HE : Hid (stuckB g ts ws = false) := Lib.hid (by unfold stuckB; rw [hp]; rfl)
    rw [hp] at CF
    clear hp
    go_enter Try.func19, Try.ntmps19
    go_wp2_with fail
    refine CF.out.mono ?_
    rintro e w1 ⟨hb, he⟩
    rw [if_neg (by decide)] at he
    subst he
    have HB := Lib.hid hb
    clear hb CF
    go_wp2
    go_ret
    exact ⟨gr_bool HE.out.symm, HB.out⟩
  · have hpo := posB_iff.1 hp
    have hw24 : ws.length ≤ 24 := by have := hpo.few; have := hpo.len; omega
    have HE : Hid (stuckB g ts ws = (decide ((freeL ts ws ts.length).length = 0) && ws.any (fun x => x != -1))) := Lib.hid (by unfold stuckB; rw [hp, any_want hpo]; rfl)
    have hfl := freeL_len ts ws ts.length
    have ht24 := hpo.few
    rw [hp] at CF
    clear hp hpo
    go_enter Try.func19, Try.ntmps19
    go_wp2_with fail
    refine CF.out.mono ?_
    rintro e w1 ⟨hb, he⟩
    rw [if_pos trivial] at he
    obtain ⟨u, rfl, hu⟩ := he
    have HB := Lib.hid hb
    obtain ⟨A8, c8, rfl, _⟩ := own_is hu
    have CA := Lib.hid (anyWants_c A2 c2 ws w1 (H2.out.keep hb) (by omega))
    clear hb hu CF
    generalize (freeL ts ws ts.length).length = n at *
    generalize ws.any (fun x => x != -1) = R at *
    by_cases hn : n = 0
    · subst hn
      have HE2 : Hid (stuckB g ts ws = R) := Lib.hid (by rw [HE.out]; rfl)
      clear HE
      go_wp2_with fail
      refine CA.out.mono ?_
      rintro e w2 ⟨rfl, hb2⟩
      have HB2 := Lib.hid (HB.out.trans (hb2.mono HB.out.size))
      clear hb2 CA
      go_wp2
      go_ret
      exact ⟨gr_bool HE2.out.symm, HB2.out⟩
    · have HE2 : Hid (stuckB g ts ws = false) := Lib.hid (by rw [HE.out, decide_eq_false hn]; rfl)
      have hne : ((n : Int) == 0) = false := by rw [beq_eq_false_iff_ne]; omega
      clear HE CA
      go_wp2
      go_ret
      exact ⟨gr_bool HE2.out.symm, HB.out⟩
end Go.Proofs.Ytfgpenekmokdiaa
namespace Go.Proofs.Ytfgpenekmokdiaa
open Go Go.RowKit Fl

/-- Nothing is shut. -/
def opensT (n : Nat) : List Bool := List.replicate n false
def DevKnown12 : Prop := ∀ w : World, Calls Try.prog 10 #[] w fun e w' => e = .returned (.bool true) ∧ Below w.heap.size w w'
def DevFreeT : Prop := ∀ (A A1 A2 : Option Addr) (c c1 c2 : Nat) (g : GraphD) (ts ws : List Int) (w : World), RowsAt w A g → Holds w A1 (ts.map Iv) → Holds w A2 (ws.map Iv) → PosOk g ts ws → ts.length ≤ c1 → ws.length ≤ c2 →
  Calls Try.prog 13 #[.slice A g.length c, .slice A1 ts.length c1, .slice A2 ws.length c2] w fun e w' => (∃ u, e = .returned (.tuple #[u, .int .i64 0]) ∧ w'.ownsRow w.heap.size 3 1 u (freeL ts ws ts.length).length ((freeL ts ws ts.length).map Iv)) ∧ Below w.heap.size w w'
def DevStuckT : Prop := ∀ (A A1 A2 : Option Addr) (c c1 c2 : Nat) (g : GraphD) (ts ws : List Int) (w : World), RowsAt w A g → Holds w A1 (ts.map Iv) → Holds w A2 (ws.map Iv) → PosOk g ts ws → ts.length ≤ c1 → ws.length ≤ c2 →
  Calls Try.prog 19 #[.slice A g.length c, .slice A1 ts.length c1, .slice A2 ws.length c2] w fun e w' => e = .returned (.bool (stuckB g ts ws)) ∧ Below w.heap.size w w'
def DevValidT : Prop := ∀ (A A1 A2 : Option Addr) (c c1 c2 : Nat) (g : GraphD) (ts ws : List Int) (w : World), RowsAt w A g → Holds w A1 (ts.map Iv) → Holds w A2 (ws.map Iv) → PosOk g ts ws → ts.length ≤ c1 → ws.length ≤ c2 →
  Calls Try.prog 17 #[.slice A g.length c, .slice A1 ts.length c1, .slice A2 ws.length c2] w fun e w' => e = .returned (.bool true) ∧ Below w.heap.size w w'
/-- Ring of a position that has one. -/
def DevRingT : Prop := ∀ (A A1 A2 : Option Addr) (c c1 c2 : Nat) (g : GraphD) (ts ws : List Int) (w : World), RowsAt w A g → Holds w A1 (ts.map Iv) → Holds w A2 (ws.map Iv) → PosOk g ts ws → ts.length ≤ c1 → ws.length ≤ c2 → ringE ts ws = 0 →
  Calls Try.prog 15 #[.slice A g.length c, .slice A1 ts.length c1, .slice A2 ws.length c2] w fun e w' => (∃ u, e = .returned (.tuple #[u, .int .i64 0]) ∧ w'.ownsRow w.heap.size 3 1 u (ringL ts ws).length ((ringL ts ws).map Iv)) ∧ Below w.heap.size w w'
/-- Tight of a valid graph. -/
def DevTightT : Prop := ∀ (A : Option Addr) (c : Nat) (g : GraphD) (w : World), RowsAt w A g → validG g = true →
  (girF g (opensT g.length) = [] → Calls Try.prog 24 #[.slice A g.length c] w fun e w' => e = .returned (.tuple #[.slice none 0 0, .slice none 0 0, .int .i64 25]) ∧ Below w.heap.size w w') ∧
  (girF g (opensT g.length) ≠ [] → Calls Try.prog 24 #[.slice A g.length c] w fun e w' => (∃ u v, e = .returned (.tuple #[u, v, .int .i64 0]) ∧ w'.ownsRow w.heap.size 3 1 u (girF g (opensT g.length)).length ((girF g (opensT g.length)).map Iv) ∧ w'.ownsRow w.heap.size 3 1 v (girF g (opensT g.length)).length ((rotL (girF g (opensT g.length))).map Iv)) ∧ Below w.heap.size w w')
theorem opens_open (n v : Nat) : atB (opensT n) v = false := by
  unfold atB opensT
  rw [List.getD_eq_getElem?_getD, List.getElem?_replicate]
  split <;> rfl
theorem opens_len (n : Nat) : (opensT n).length = n := by simp [opensT]
theorem own_cap2 {w : World} {base n : Nat} {e : TypeId} {v : Value} {xs : List Value} (h : w.ownsRow base e 1 v n xs) : ∃ A c, v = .slice A n c ∧ n ≤ c ∧ Holds w A xs := own_cap h
end Go.Proofs.Ytfgpenekmokdiaa
namespace Go.Proofs.Ytfgpenekmokdiaa
open Go Go.RowKit Fl

def moveCells : List MoveD → List Value
  | [] => []
  | m :: l => Iv m.tok :: Iv m.frm :: Iv m.dst :: moveCells l
theorem moveCells_length : ∀ (l : List MoveD), (moveCells l).length = l.length * 3
  | [] => rfl
  | m :: l => by simp only [moveCells, List.length_cons]; rw [moveCells_length l]; omega
theorem moveCells_append : ∀ (a b : List MoveD), moveCells (a ++ b) = moveCells a ++ moveCells b
  | [], _ => rfl
  | x :: a, b => by simp only [List.cons_append, moveCells]; rw [moveCells_append a b]
theorem moveCells_take : ∀ (l : List MoveD) (q : Nat), moveCells (l.take q) = (moveCells l).take (q * 3)
  | _, 0 => by simp [moveCells]
  | [], q + 1 => by simp [moveCells]
  | m :: l, q + 1 => by
    rw [show (q + 1) * 3 = q * 3 + 1 + 1 + 1 by omega]
    simp only [List.take_succ_cons, moveCells]
    rw [moveCells_take l q]
/-- Replay of legal moves. -/
def DevReplayT : Prop := ∀ (A A1 : Option Addr) (c c1 : Nat) (g : GraphD) (ms : List MoveD) (ts : List Int) (w : World), RowsAt w A g → validG g = true → Holds w A1 (moveCells ms) → ms.length ≤ 1200 → playL g [] ms = some ts →
  Calls Try.prog 27 #[.slice A g.length c, .slice A1 ms.length c1] w fun e w' => (∃ u, e = .returned (.tuple #[u, .int .i64 0]) ∧ w'.ownsRow w.heap.size 3 1 u ts.length (ts.map Iv)) ∧ Below w.heap.size w w'
/-- Fill of a valid graph at a vertex. -/
def DevFillT : Prop := ∀ (A : Option Addr) (c e : Nat) (g : GraphD) (w : World), RowsAt w A g → validG g = true → e < g.length →
  (nearP g e < 0 → Calls Try.prog 26 #[.slice A g.length c, .int .i64 e] w fun x w' => x = .returned (.tuple #[.slice none 0 0, .int .i64 25]) ∧ Below w.heap.size w w') ∧
  (0 ≤ nearP g e → Calls Try.prog 26 #[.slice A g.length c, .int .i64 e] w fun x w' => (∃ u, x = .returned (.tuple #[u, .int .i64 0]) ∧ w'.ownsRow w.heap.size 42 3 u (fillM g e).length (moveCells (fillM g e))) ∧ Below w.heap.size w w')
theorem tokMoves_len (way w : List Int) (p k : Nat) : (tokMoves way w p k).length = 1 + (way.length - 1) + (w.length - 1 - k) := by
  unfold tokMoves
  rw [List.length_cons, List.length_append, List.length_map, List.length_map, List.length_range, List.length_range]
  omega
theorem fillK_len (way w : List Int) (p : Nat) (h1 : way.length ≤ 25) (h2 : w.length ≤ 24) : ∀ k, (fillK way w p k).length ≤ 48 * k
  | 0 => by simp [fillK]
  | k + 1 => by
    unfold fillK
    rw [List.length_append, tokMoves_len]
    have := fillK_len way w p h1 h2 k
    omega
theorem fillM_len {g : GraphD} {e : Nat} (hg : validG g = true) (h0 : 0 ≤ nearP g e) (h1 : nearP g e < (girF g (List.replicate g.length false)).length) : (fillM g e).length ≤ 1200 := by
  unfold fillM
  have hf := gir_few (sh := List.replicate g.length false) hg
  obtain ⟨p, hp⟩ := Int.eq_ofNat_of_zero_le h0
  have hpl : p < (girF g (List.replicate g.length false)).length := by omega
  have hw : girF g (List.replicate g.length false) ≠ [] := fun h => by rw [h] at hpl; simp at hpl
  have hx := (gir_closed hg hw).walk.ok _ (List.getElem_mem hpl)
  have hgl : (atI (girF g (List.replicate g.length false)) (nearP g e)).toNat < g.length := by
    rw [hp, Fl.atI_get hpl]
    have := hx.1; have := hx.2.1; omega
  have hs := firstF_short (s := List.replicate g.length false) (a := e) hg hgl
  have := fillK_len (firstF g (List.replicate g.length false) e (atI (girF g (List.replicate g.length false)) (nearP g e)).toNat) (girF g (List.replicate g.length false)) (nearP g e).toNat hs hf (girF g (List.replicate g.length false)).length
  omega
end Go.Proofs.Ytfgpenekmokdiaa
