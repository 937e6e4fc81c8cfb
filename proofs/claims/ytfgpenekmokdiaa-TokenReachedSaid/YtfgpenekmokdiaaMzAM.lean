/- Joined texts. -/
import Derived.Test.YtfgpenekmokdiaaMzAL
import Derived.Test.YtfgpenekmokdiaaMzAI
import Derived.Test.YtfgpenekmokdiaaMzAJ
namespace Go.Proofs.Ytfgpenekmokdiaa
open Go Go.RowKit Fl

set_option maxRecDepth 100000 in
set_option maxHeartbeats 4000000 in
theorem on_c (A1 : Option Addr) (c1 : Nat) (ts : List Int) (v : Int) (w : World) (h1 : Holds w A1 (ts.map Iv)) (hl : ts.length ≤ 1000) :
    Calls Try.prog 40 #[.slice A1 ts.length c1, .int .i64 v] w fun e w' => e = .returned (.int .i64 (onF ts v)) ∧ w' = w := by
  have H1 := Lib.hid h1
  have H0 : Hid (onF ts v = onA (ts.drop 0) 0 v) := Lib.hid rfl
  clear h1
  go_enter Try.func40, Try.ntmps40
  go_wp2
  go_loop [5] (fun i => ∃ k : Nat, i = .int .i64 k ∧ k ≤ ts.length ∧ Hid (onF ts v = onA (ts.drop k) k v)) (fun i => ts.length - (intOf i).toNat)
  case atStart => exact ⟨0, rfl, Nat.zero_le _, H0⟩
  case round =>
    clear H0
    obtain ⟨k, rfl, hk, HK⟩ := hrel
    by_cases hlt : k < ts.length
    · obtain ⟨b1, o1, rfl, e1⟩ := H1.out.iv hlt
      have HD := Lib.hid (onA_drop (v := v) hlt)
      generalize ts[k] = x at *
      by_cases hx : x = v
      · have HE : Hid (onF ts v = (k : Int)) := Lib.hid (by rw [HK.out, HD.out, if_pos hx])
        subst hx
        clear HK HD
        go_wp2
        go_ret
        exact ⟨gr_int HE.out.symm, rfl⟩
      · have HE : Hid (onF ts v = onA (ts.drop (k + 1)) (k + 1) v) := Lib.hid (by rw [HK.out, HD.out, if_neg hx])
        have hx1 : (x == v) = false := by simpa using hx
        clear HK HD
        go_wp2
        go_round
        case rel => exact ⟨k + 1, by go_num, by omega, HE⟩
        case measure => simp [intOf]; omega
    · obtain rfl : k = ts.length := by omega
      have HE : Hid (onF ts v = -1) := Lib.hid (by rw [HK.out, List.drop_length]; rfl)
      clear HK
      go_wp2
      go_ret
      exact ⟨gr_int HE.out.symm, rfl⟩
set_option maxRecDepth 100000 in
set_option maxHeartbeats 4000000 in
theorem free_c (A1 A2 : Option Addr) (c1 c2 : Nat) (ts ws : List Int) (w : World) (h1 : Holds w A1 (ts.map Iv)) (h2 : Holds w A2 (ws.map Iv)) (hlen : ts.length = ws.length) (h24 : ts.length ≤ 24) :
    Calls Try.prog 37 #[.slice A1 ts.length c1, .slice A2 ws.length c2] w fun e w' => ∃ u, e = .returned u ∧ w'.ownsRow w.heap.size 3 1 u (freeL ts ws ts.length).length ((freeL ts ws ts.length).map Iv) ∧ Below w.heap.size w w' := by
  have H1 := Lib.hid h1
  have H2 := Lib.hid h2
  have HL := Lib.hid hlen
  clear h1 h2 hlen
  go_enter Try.func37, Try.ntmps37
  go_wp2
  go_loopw [5, 6] (fun v i wr => ∃ k : Nat, i = .int .i64 k ∧ k ≤ ts.length ∧ Hid (wr.ownsRow w.heap.size 3 1 v (freeL ts ws k).length ((freeL ts ws k).map Iv)) ∧ Hid (Below w.heap.size w wr)) (fun _ i _ => ts.length - (intOf i).toNat)
  case atStart => exact ⟨0, rfl, Nat.zero_le _, Lib.hid (World.ownsRow_nil _ _ _ _), Lib.hid (Below.refl _ _)⟩
  case round =>
    obtain ⟨k, rfl, hk, HO, HB⟩ := hrel
    by_cases hlt : k < ts.length
    · have hlw : k < ws.length := by rw [← HL.out]; exact hlt
      have HS := Lib.hid (freeL_succ ts ws k)
      rw [Fl.atI_get hlw] at HS
      have hfl := freeL_len ts ws k
      obtain ⟨b2, o2, rfl, e2⟩ := (H2.out.keep HB.out).iv hlw
      have CH := Lib.hid (fun x => has_c A1 c1 ts x wr (H1.out.keep HB.out) (by omega))
      generalize ws[k] = y at *
      by_cases hy : 0 ≤ y
      · by_cases hm : y ∈ ts
        · have HE : Hid (freeL ts ws (k + 1) = freeL ts ws k) := Lib.hid (by rw [HS.out, if_neg (fun h => h.2 hm), List.append_nil])
          have C1 := Lib.hid (CH.out y)
          rw [decide_eq_true hm] at C1
          clear HS CH hm
          go_wp2_with fail
          refine C1.out.mono ?_
          rintro e w2 ⟨rfl, rfl⟩
          go_wp2
          go_roundw
          case rel => exact ⟨k + 1, by go_num, by omega, Lib.hid (by rw [HE.out]; exact HO.out), HB⟩
          case measure => simp [intOf]; omega
        · have HE : Hid (freeL ts ws (k + 1) = freeL ts ws k ++ [(k : Int)]) := Lib.hid (by rw [HS.out, if_pos ⟨hy, hm⟩])
          have C1 := Lib.hid (CH.out y)
          rw [decide_eq_false hm] at C1
          have hb := own_base HO.out
          have hsz := HB.out.size
          clear HS CH hm
          generalize freeL ts ws k = xs at *
          go_wp2_with fail
          refine C1.out.mono ?_
          rintro e w2 ⟨rfl, rfl⟩
          go_wp2_with (at_builtin; refine app_int _ rfl _ _ rfl w.heap.size _ _ _ rfl (HO.out.alloc _) wr.heap.size k rfl (by simp [go_sem]) (by omega) (by simp; omega) ?_)
          intro v8 w8 own8 hg8
          have HB8 : Hid (Below w.heap.size w w8) := Lib.hid ((HB.out.alloc hsz _).grown hg8 (by simp; omega) (fun k hk => hb k hk))
          have HO8 : Hid (w8.ownsRow w.heap.size 3 1 v8 (freeL ts ws (k + 1)).length ((freeL ts ws (k + 1)).map Iv)) := Lib.hid (by rw [HE.out, List.length_append, List.map_append]; exact own8)
          clear own8 hg8 hb HO HB
          go_wp2
          go_roundw
          case rel => exact ⟨k + 1, by go_num, by omega, HO8, HB8⟩
          case measure => simp [intOf]; omega
      · have HE : Hid (freeL ts ws (k + 1) = freeL ts ws k) := Lib.hid (by rw [HS.out, if_neg (fun h => hy h.1), List.append_nil])
        clear HS CH
        go_wp2
        go_roundw
        case rel => exact ⟨k + 1, by go_num, by omega, Lib.hid (by rw [HE.out]; exact HO.out), HB⟩
        case measure => simp [intOf]; omega
    · obtain rfl : k = ts.length := by omega
      go_wp2
      go_ret
      exact ⟨_, rfl, HO.out, HB.out⟩
/-- What Free returns. -/
def FreePost (g : GraphD) (ts ws : List Int) (w : World) (e : Ending) (w' : World) : Prop := Below w.heap.size w w' ∧ if posB g ts ws then ∃ u, e = .returned (.tuple #[u, .int .i64 0]) ∧ w'.ownsRow w.heap.size 3 1 u (freeL ts ws ts.length).length ((freeL ts ws ts.length).map Iv) else e = .returned (.tuple #[.slice none 0 0, .int .i64 20])
set_option maxRecDepth 100000 in
set_option maxHeartbeats 4000000 in
theorem refFree_c (A A1 A2 : Option Addr) (c c1 c2 : Nat) (g : GraphD) (ts ws : List Int) (w : World) (hh : RowsAt w A g) (h1 : Holds w A1 (ts.map Iv)) (h2 : Holds w A2 (ws.map Iv)) (hcap : ts.length ≤ c1) (hl : g.length ≤ 1000000000000000000) (hr : ∀ r ∈ g, r.length ≤ 1000000000000000000) :
    Calls Try.prog 14 #[.slice A g.length c, .slice A1 ts.length c1, .slice A2 ws.length c2] w (FreePost g ts ws w) := by
  have CV := Lib.hid (pos_c A A1 A2 c c1 c2 g ts ws w hh h1 h2 hcap hl hr)
  have H1 := Lib.hid h1
  have H2 := Lib.hid h2
  clear hh h1 h2 hr
  unfold FreePost
  rcases hp : posB g ts ws with _ | _
  · rw [hp] at CV
    clear hp
    go_enter Try.func14, Try.ntmps14
    go_wp2_with fail
    refine CV.out.mono ?_
    rintro e w1 ⟨rfl, n, rfl⟩
    have HB := Lib.hid (below_drewN (Below.refl w.heap.size w) n)
    go_wp2
    go_ret2
    exact ⟨HB.out, rfl⟩
  · have hpo := posB_iff.1 hp
    have CF := Lib.hid (fun n => free_c A1 A2 c1 c2 ts ws (w.drewN n) (H1.out.drewN n) (H2.out.drewN n) hpo.len hpo.few)
    rw [hp] at CV
    clear hp hpo
    go_enter Try.func14, Try.ntmps14
    go_wp2_with fail
    refine CV.out.mono ?_
    rintro e w1 ⟨rfl, n, rfl⟩
    have HB := Lib.hid (below_drewN (Below.refl w.heap.size w) n)
    go_wp2_with fail
    refine (CF.out n).mono ?_
    rintro e w2 ⟨u, rfl, hu, hb⟩
    have HB2 := Lib.hid (HB.out.trans (hb.mono HB.out.size))
    have HU := Lib.hid hu
    clear hu hb CF CV
    go_wp2
    go_ret2
    exact ⟨HB2.out, _, rfl, HU.out⟩
set_option maxRecDepth 100000 in
set_option maxHeartbeats 4000000 in
theorem refStuck_c (A A1 A2 : Option Addr) (c c1 c2 : Nat) (g : GraphD) (ts ws : List Int) (w : World) (hh : RowsAt w A g) (h1 : Holds w A1 (ts.map Iv)) (h2 : Holds w A2 (ws.map Iv)) (hcap : ts.length ≤ c1) (hl : g.length ≤ 1000000000000000000) (hr : ∀ r ∈ g, r.length ≤ 1000000000000000000) :
    Calls Try.prog 20 #[.slice A g.length c, .slice A1 ts.length c1, .slice A2 ws.length c2] w fun e w' => e = .returned (.bool (stuckB g ts ws)) ∧ Below w.heap.size w w' := by
  have CV := Lib.hid (pos_c A A1 A2 c c1 c2 g ts ws w hh h1 h2 hcap hl hr)
  have H1 := Lib.hid h1
  have H2 := Lib.hid h2
  have HSt : Hid (stuckB g ts ws = (posB g ts ws && decide ((freeL ts ws ts.length).length = 0) && ws.any (fun x => decide (0 ≤ x)))) := Lib.hid rfl
  clear hh h1 h2 hr
  rcases hp : posB g ts ws with _ | _
  · have HE : Hid (stuckB g ts ws = false) := Lib.hid (by rw [HSt.out, hp]; rfl)
    rw [hp] at CV
    clear hp HSt
    go_enter Try.func20, Try.ntmps20
    go_wp2_with fail
    refine CV.out.mono ?_
    rintro e w1 ⟨rfl, n, rfl⟩
    have HB := Lib.hid (below_drewN (Below.refl w.heap.size w) n)
    go_wp2
    go_ret
    exact ⟨gr_bool HE.out.symm, HB.out⟩
  · have hpo := posB_iff.1 hp
    have hwl : ws.length ≤ 24 := by rw [← hpo.len]; exact hpo.few
    have CF := Lib.hid (fun n => free_c A1 A2 c1 c2 ts ws (w.drewN n) (H1.out.drewN n) (H2.out.drewN n) hpo.len hpo.few)
    have HFl := Lib.hid (freeL_len ts ws ts.length)
    have HFw := Lib.hid hpo.few
    rw [hp] at CV HSt
    rw [Bool.true_and] at HSt
    clear hp hpo
    generalize freeL ts ws ts.length = fr at *
    go_enter Try.func20, Try.ntmps20
    go_wp2_with fail
    refine CV.out.mono ?_
    rintro e w1 ⟨rfl, n, rfl⟩
    have HB := Lib.hid (below_drewN (Below.refl w.heap.size w) n)
    go_wp2_with fail
    refine (CF.out n).mono ?_
    rintro e w2 ⟨u, rfl, hu, hb⟩
    obtain ⟨A3, c3, rfl, _⟩ := own_is hu
    have HB2 := Lib.hid (HB.out.trans (hb.mono HB.out.size))
    have H22 := Lib.hid (H2.out.keep HB2.out)
    clear hu hb CF CV
    by_cases hf : fr.length = 0
    · have hf1 : ¬ ((0 : Int) < (fr.length : Int)) := by omega
      rw [decide_eq_true hf, Bool.true_and] at HSt
      clear hf HFl
      generalize fr.length = fl at *
      go_wp2
      go_loop [7] (fun i => ∃ k : Nat, i = .int .i64 k ∧ k ≤ ws.length ∧ Hid (∀ j (h : j < ws.length), j < k → ¬ 0 ≤ ws[j])) (fun i => ws.length - (intOf i).toNat)
      case atStart => exact ⟨0, rfl, Nat.zero_le _, Lib.hid (fun j _ h => by omega)⟩
      case round =>
        obtain ⟨k, rfl, hk, HK⟩ := hrel
        by_cases hlt : k < ws.length
        · obtain ⟨b2, o2, rfl, e2⟩ := H22.out.iv hlt
          by_cases hy : 0 ≤ ws[k]
          · have HE : Hid (stuckB g ts ws = true) := Lib.hid (by rw [HSt.out, List.any_eq_true]; exact ⟨_, List.getElem_mem hlt, decide_eq_true hy⟩)
            clear HK HSt
            generalize ws[k] = y at *
            go_wp2
            go_ret
            exact ⟨gr_bool HE.out.symm, HB2.out⟩
          · have HK2 : Hid (∀ j (h : j < ws.length), j < k + 1 → ¬ 0 ≤ ws[j]) := Lib.hid (fun j h hj => by
              rcases Nat.lt_succ_iff_lt_or_eq.1 hj with h3 | rfl
              · exact HK.out j h h3
              · exact hy)
            clear HK
            generalize ws[k] = y at *
            go_wp2
            go_round
            case rel => exact ⟨k + 1, by go_num, by omega, HK2⟩
            case measure => simp [intOf]; omega
        · have HE : Hid (stuckB g ts ws = false) := Lib.hid (by
            rw [HSt.out, List.any_eq_false]
            intro x hx
            obtain ⟨j, hj, rfl⟩ := List.mem_iff_getElem.1 hx
            simpa using HK.out j hj (by omega))
          clear HK HSt
          go_wp2
          go_ret
          exact ⟨gr_bool HE.out.symm, HB2.out⟩
    · have hf1 : (0 : Int) < (fr.length : Int) := by omega
      have HE : Hid (stuckB g ts ws = false) := Lib.hid (by rw [HSt.out, decide_eq_false hf]; rfl)
      clear hf HFl HSt
      generalize fr.length = fl at *
      go_wp2
      go_ret
      exact ⟨gr_bool HE.out.symm, HB2.out⟩
end Go.Proofs.Ytfgpenekmokdiaa
namespace Go.Proofs.Ytfgpenekmokdiaa
open Go Go.RowKit Fl

set_option maxRecDepth 100000 in
set_option maxHeartbeats 4000000 in
theorem devFree_c (A A1 A2 : Option Addr) (c c1 c2 : Nat) (g : GraphD) (ts ws : List Int) (w : World) (hh : RowsAt w A g) (h1 : Holds w A1 (ts.map Iv)) (h2 : Holds w A2 (ws.map Iv)) (hz : Sized g) :
    Calls Try.prog 13 #[.slice A g.length c, .slice A1 ts.length c1, .slice A2 ws.length c2] w (FreePost g ts ws w) := by
  have CP := Lib.hid (place_c A A1 A2 c c1 c2 g ts ws w hh h1 h2 hz)
  have H2 := Lib.hid h2
  clear hh h1 h2 hz
  unfold FreePost
  rcases hp : posB g ts ws with _ | _
  · go_enter Try.func13, Try.ntmps13
    go_wp2_with fail
    refine CP.out.mono ?_
    rintro e w1 ⟨⟨B, rfl, hBl, _⟩, hb⟩
    rw [hp]
    have HNw := Lib.hid (board_new w1)
    have HB := Lib.hid (below_rowZ (G := w1.heap.size) (hb.alloc hb.size (.cells #[.int .i64 0, .int .i64 0, .int .i64 0, .int .i64 0, .int .i64 0, .int .i64 0, .int .i64 0, .int .i64 0, .int .i64 0, .int .i64 0, .int .i64 0, .int .i64 0, .int .i64 0, .int .i64 0, .int .i64 0, .int .i64 0, .int .i64 0, .int .i64 0, .int .i64 0, .int .i64 0, .int .i64 0, .int .i64 0, .int .i64 0, .int .i64 0] 58)) hb.size (bdC B))
    clear hb CP hp
    go_wp2_with (first | refine store_board rfl _ _ rfl _ rfl rfl HNw.out (by simp) hBl ?_)
    go_ret2
    exact ⟨HB.out, rfl⟩
  · have hpo := posB_iff.1 hp
    have HPo := Lib.hid hpo
    have hlen := hpo.len
    have h24 := hpo.few
    have HLen := Lib.hid hlen
    have hw24 : ws.length ≤ 24 := by omega
    have hg24 := validG_len hpo.graph
    clear hpo hlen h24
    go_enter Try.func13, Try.ntmps13
    go_wp2_with fail
    refine CP.out.mono ?_
    rintro e w1 ⟨⟨B, rfl, hBl, hBe⟩, hb⟩
    rw [hp]
    obtain rfl := hBe hp
    have HNw := Lib.hid (board_new w1)
    have HN2 := Lib.hid ((board_new w1).row (B' := bdL ts))
    have HB2 := Lib.hid (below_rowZ (G := w1.heap.size) (hb.alloc hb.size (.cells #[.int .i64 0, .int .i64 0, .int .i64 0, .int .i64 0, .int .i64 0, .int .i64 0, .int .i64 0, .int .i64 0, .int .i64 0, .int .i64 0, .int .i64 0, .int .i64 0, .int .i64 0, .int .i64 0, .int .i64 0, .int .i64 0, .int .i64 0, .int .i64 0, .int .i64 0, .int .i64 0, .int .i64 0, .int .i64 0, .int .i64 0, .int .i64 0] 58)) hb.size (bdC (bdL ts)))
    have hs2 : w1.heap.size + 1 ≤ ((w1.alloc (.cells #[.int .i64 0, .int .i64 0, .int .i64 0, .int .i64 0, .int .i64 0, .int .i64 0, .int .i64 0, .int .i64 0, .int .i64 0, .int .i64 0, .int .i64 0, .int .i64 0, .int .i64 0, .int .i64 0, .int .i64 0, .int .i64 0, .int .i64 0, .int .i64 0, .int .i64 0, .int .i64 0, .int .i64 0, .int .i64 0, .int .i64 0, .int .i64 0] 58)).setRow w1.heap.size (bdC (bdL ts))).heap.size := by simp [World.setRow]
    have hPw : w.heap.size ≤ w1.heap.size := hb.size
    clear hb CP hp hBe
    go_wp2_with (first | refine store_board rfl _ _ rfl _ rfl rfl HNw.out (by simp) hBl ?_)
    clear HNw hBl
    generalize (w1.alloc (.cells #[.int .i64 0, .int .i64 0, .int .i64 0, .int .i64 0, .int .i64 0, .int .i64 0, .int .i64 0, .int .i64 0, .int .i64 0, .int .i64 0, .int .i64 0, .int .i64 0, .int .i64 0, .int .i64 0, .int .i64 0, .int .i64 0, .int .i64 0, .int .i64 0, .int .i64 0, .int .i64 0, .int .i64 0, .int .i64 0, .int .i64 0, .int .i64 0] 58)).setRow w1.heap.size (bdC (bdL ts)) = w2 at *
    generalize w1.heap.size = P at *
    clear w1
    go_loopw [10, 24] (fun v i wr => ∃ k : Nat, i = .int .i64 k ∧ k ≤ ws.length ∧ Hid (wr.ownsRow (P + 1) 3 1 v (freeL ts ws k).length ((freeL ts ws k).map Iv)) ∧ Hid (BdAt wr P (bdL ts)) ∧ Hid (Below w.heap.size w wr) ∧ P + 1 ≤ wr.heap.size) (fun _ i _ => ws.length - (intOf i).toNat)
    case atStart => exact ⟨0, rfl, Nat.zero_le _, Lib.hid (World.ownsRow_nil _ _ _ _), HN2, HB2, hs2⟩
    case round =>
      clear HN2 HB2 hs2
      obtain ⟨k, rfl, hk, HO, HN, HB, hs⟩ := hrel
      by_cases hlt : k < ws.length
      · have HS := Lib.hid (freeL_succ ts ws k)
        rw [Fl.atI_get hlt] at HS
        have hfl := freeL_len ts ws k
        have HW := Lib.hid (HPo.out.wantAt hlt)
        obtain ⟨b2, o2, rfl, e2⟩ := (H2.out.keep HB.out).iv hlt
        generalize ws[k] = y at *
        by_cases hy : y = -1
        · have HE : Hid (freeL ts ws (k + 1) = freeL ts ws k) := Lib.hid (by rw [HS.out, if_neg (fun h => by omega), List.append_nil])
          subst hy
          clear HS HW
          go_wp2
          go_roundw
          case rel => exact ⟨k + 1, by go_num, by omega, Lib.hid (by rw [HE.out]; exact HO.out), HN, HB, hs⟩
          case measure => simp [intOf]; omega
        · obtain ⟨v, rfl, hv⟩ : ∃ v : Nat, y = (v : Int) ∧ v < g.length := by
            rcases HW.out with h | h
            · exact absurd h hy
            · exact h
          have hne : ((v : Int) == -1) = false := by rw [beq_eq_false_iff_ne]; exact hy
          have hne2 : ((v : Int) != -1) = true := by rw [bne_iff_ne]; exact hy
          have CI := Lib.hid (inTheWay_c (bdL ts) v (onF ts v) wr (bdL_length _) (.inr ⟨v, rfl, bdL_at (by omega)⟩))
          have HIff := Lib.hid (onF_iff (ts := ts) (x := (v : Int)))
          generalize onF ts (v : Int) = q at *
          by_cases hq : q = -1
          · have HE : Hid (freeL ts ws (k + 1) = freeL ts ws k ++ [(k : Int)]) := Lib.hid (by rw [HS.out, if_pos ⟨by omega, HIff.out.1 hq⟩])
            subst hq
            clear HS HW hy HIff
            go_wp2_with (first | refine load_boardG rfl _ rfl _ rfl HN.out (bdL_length _) ?_)
            refine CI.out.mono ?_
            rintro e w3 ⟨rfl, hb3⟩
            have hsz3 := hb3.size
            have HO3 := Lib.hid (ownsRow_below HO.out hb3)
            have HN3 := Lib.hid (HN.out.keep hb3 (by omega))
            have HB3 := Lib.hid (HB.out.trans (hb3.mono HB.out.size))
            have hb := own_base HO3.out
            clear CI hb3 HO HN HB
            generalize freeL ts ws k = xs at *
            go_wp2_with (at_builtin; refine app_int _ rfl _ _ rfl (P + 1) _ _ _ rfl (HO3.out.alloc _) w3.heap.size k rfl (by simp [go_sem]) (by omega) (by simp; omega) ?_)
            intro v8 w8 own8 hg8
            have HN8 := Lib.hid ((HN3.out.alloc (.cells #[.int .i64 k] 3)).grown hg8 (fun e => by have := hb P e.symm; omega))
            have HB8 : Hid (Below w.heap.size w w8) := Lib.hid ((HB3.out.alloc HB3.out.size _).grown hg8 (by have := HB3.out.size; simp; omega) (fun k hk => by have := hb k hk; omega))
            have HO8 : Hid (w8.ownsRow (P + 1) 3 1 v8 (freeL ts ws (k + 1)).length ((freeL ts ws (k + 1)).map Iv)) := Lib.hid (by rw [HE.out, List.length_append, List.map_append]; exact own8)
            have hs8 : P + 1 ≤ w8.heap.size := by have := hg8.size; simp at this; omega
            clear own8 hg8 hb HO3 HN3 HB3
            go_wp2
            go_roundw
            case rel => exact ⟨k + 1, by go_num, by omega, HO8, HN8, HB8, hs8⟩
            case measure => simp [intOf]; omega
          · have HE : Hid (freeL ts ws (k + 1) = freeL ts ws k) := Lib.hid (by rw [HS.out, if_neg (fun h => hq (HIff.out.2 h.2)), List.append_nil])
            have hqn : (q == -1) = false := by rw [beq_eq_false_iff_ne]; exact hq
            clear HS HW hy HIff hq
            go_wp2_with (first | refine load_boardG rfl _ rfl _ rfl HN.out (bdL_length _) ?_)
            refine CI.out.mono ?_
            rintro e w3 ⟨rfl, hb3⟩
            have hsz3 := hb3.size
            have HO3 := Lib.hid (ownsRow_below HO.out hb3)
            have HN3 := Lib.hid (HN.out.keep hb3 (by omega))
            have HB3 := Lib.hid (HB.out.trans (hb3.mono HB.out.size))
            clear CI hb3 HO HN HB
            go_wp2
            go_roundw
            case rel => exact ⟨k + 1, by go_num, by omega, Lib.hid (by rw [HE.out]; exact HO3.out), HN3, HB3, by omega⟩
            case measure => simp [intOf]; omega
      · obtain rfl : k = ws.length := by omega
        have HOw := Lib.hid (ownsRow_base HO.out (base2 := w.heap.size) (by omega))
        clear HO
        go_wp2
        go_ret2
        exact ⟨HB.out, _, rfl, by rw [HLen.out]; exact HOw.out⟩
set_option maxHeartbeats 1000000 in
theorem wants_c (x : Int) (w : World) : Calls Try.prog 43 #[.int .i64 x] w fun e w' => e = .returned (.bool (x != -1)) ∧ w' = w := by
  go_enter Try.func43, Try.ntmps43
  go_wp2
  go_ret
  exact ⟨rfl, rfl⟩
set_option maxRecDepth 100000 in
set_option maxHeartbeats 4000000 in
/-- Whether a token wants a vertex. -/
theorem idxWants_c (A : Option Addr) (c : Nat) (r : List Int) (w : World) (hr : Holds w A (r.map Iv)) (hl : r.length ≤ 1000000) :
    Calls Try.prog 62 #[.slice A r.length c, .func (.func 43) #[] #[]] w fun e w' => (∃ k : Int, e = .returned (.int .i64 k) ∧ decide (0 ≤ k) = r.any (fun x => x != -1)) ∧ Below w.heap.size w w' := by
  have HR := Lib.hid hr
  have HX : Hid (∀ j (h : j < r.length), r[j] ≠ -1 → r.any (fun x => x != -1) = true) := Lib.hid (fun j h hx => List.any_eq_true.2 ⟨_, List.getElem_mem h, by simpa using hx⟩)
  have HE : Hid ((∀ i (h : i < r.length), r[i] = -1) → r.any (fun x => x != -1) = false) := Lib.hid (fun h => by
    rw [List.any_eq_false]
    intro x hx
    obtain ⟨i, hi, rfl⟩ := List.mem_iff_getElem.1 hx
    simp [h i hi])
  clear hr
  generalize r.any (fun x => x != -1) = R at *
  go_enter Try.func62, Try.ntmps62
  go_wp2
  go_loopw [8] (fun iv wr => ∃ (i : Nat), iv = .int .i64 i ∧ i ≤ r.length ∧ Hid (∀ j (h : j < r.length), j < i → r[j] = -1) ∧ Hid (Below w.heap.size w wr)) (fun iv _ => r.length - (intOf iv).toNat)
  case atStart => exact ⟨0, rfl, Nat.zero_le _, Lib.hid (fun j _ h => by omega), Lib.hid (Below.refl _ _)⟩
  case round =>
    obtain ⟨i, rfl, hi, HP, HB⟩ := hrel
    by_cases hlt : i < r.length
    · obtain ⟨b, o, rfl, e1⟩ := (HR.out.keep HB.out).iv hlt
      have HXi := Lib.hid (HX.out i hlt)
      have HPi : Hid (r[i] = -1 → ∀ j (h : j < r.length), j < i + 1 → r[j] = -1) := Lib.hid (fun h0 j h h2 => by
        rcases Nat.lt_succ_iff_lt_or_eq.1 h2 with h3 | rfl
        · exact HP.out j h h3
        · exact h0)
      clear HP
      generalize r[i] = x at *
      by_cases hx : x = -1
      · have HQ := Lib.hid (HPi.out hx)
        have CN := Lib.hid (wants_c x wr)
        subst hx
        have hd : ((-1 : Int) != -1) = false := rfl
        rw [hd] at CN
        clear HPi HXi hd
        go_wp2_with (go_at_call 43; refine CN.out.mono ?_; rintro e w2 ⟨rfl, rfl⟩)
        go_roundw
        case rel => exact ⟨i + 1, by go_num, by omega, HQ, HB⟩
        case measure => simp [intOf]; omega
      · have HQ := Lib.hid (HXi.out hx)
        have CN := Lib.hid (wants_c x wr)
        rw [show (x != -1) = true by simpa using hx] at CN
        clear HPi HXi
        go_wp2_with (go_at_call 43; refine CN.out.mono ?_; rintro e w2 ⟨rfl, rfl⟩)
        go_ret
        exact ⟨⟨_, rfl, by rw [HQ.out]; exact decide_eq_true (by omega)⟩, HB.out⟩
    · obtain rfl : i = r.length := by omega
      have HQ := Lib.hid (HE.out fun i h => HP.out i h h)
      go_wp2
      go_ret
      exact ⟨⟨_, rfl, by rw [HQ.out]; rfl⟩, HB.out⟩
set_option maxHeartbeats 2000000 in
theorem anyWants_c (A : Option Addr) (c : Nat) (r : List Int) (w : World) (hr : Holds w A (r.map Iv)) (hl : r.length ≤ 1000000) :
    Calls Try.prog 42 #[.slice A r.length c, .func (.func 43) #[] #[]] w fun e w' => e = .returned (.bool (r.any (fun x => x != -1))) ∧ Below w.heap.size w w' := by
  have CI := Lib.hid (idxWants_c A c r w hr hl)
  clear hr
  generalize r.any (fun x => x != -1) = R at *
  go_enter Try.func42, Try.ntmps42
  go_wp2_with fail
  refine CI.out.mono ?_
  rintro e w1 ⟨⟨k, rfl, hk⟩, hb⟩
  have HB := Lib.hid hb
  have HK := Lib.hid hk
  clear hk hb CI
  go_wp2
  go_ret
  exact ⟨gr_bool HK.out, HB.out⟩
set_option maxRecDepth 100000 in
set_option maxHeartbeats 4000000 in
theorem devStuck_c (A A1 A2 : Option Addr) (c c1 c2 : Nat) (g : GraphD) (ts ws : List Int) (w : World) (hh : RowsAt w A g) (h1 : Holds w A1 (ts.map Iv)) (h2 : Holds w A2 (ws.map Iv)) (hz : Sized g) :
    Calls Try.prog 19 #[.slice A g.length c, .slice A1 ts.length c1, .slice A2 ws.length c2] w fun e w' => e = .returned (.bool (stuckB g ts ws)) ∧ Below w.heap.size w w' := by
  have CF := Lib.hid (devFree_c A A1 A2 c c1 c2 g ts ws w hh h1 h2 hz)
  have H2 := Lib.hid h2
  unfold FreePost at CF
  clear hh h1 h2 hz
  rcases hp : posB g ts ws with _ | _
  · have HE : Hid (stuckB g ts ws = false) := Lib.hid (by unfold stuckB; rw [hp]; rfl)
    rw [hp] at CF
    clear hp
    go_enter Try.func19, Try.ntmps19
    go_wp2_with fail
    refine CF.out.mono ?_
    rintro e w1 ⟨hb, he⟩
    rw [if_neg (by decide)] at he
    subst he
    have HB := Lib.hid hb
    clear hb CF
    go_wp2
    go_ret
    exact ⟨gr_bool HE.out.symm, HB.out⟩
  · have hpo := posB_iff.1 hp
    have hw24 : ws.length ≤ 24 := by have := hpo.few; have := hpo.len; omega
    have HE : Hid (stuckB g ts ws = (decide ((freeL ts ws ts.length).length = 0) && ws.any (fun x => x != -1))) := Lib.hid (by unfold stuckB; rw [hp, any_want hpo]; rfl)
    have hfl := freeL_len ts ws ts.length
    have ht24 := hpo.few
    rw [hp] at CF
    clear hp hpo
    go_enter Try.func19, Try.ntmps19
    go_wp2_with fail
    refine CF.out.mono ?_
    rintro e w1 ⟨hb, he⟩
    rw [if_pos trivial] at he
    obtain ⟨u, rfl, hu⟩ := he
    have HB := Lib.hid hb
    obtain ⟨A8, c8, rfl, _⟩ := own_is hu
    have CA := Lib.hid (anyWants_c A2 c2 ws w1 (H2.out.keep hb) (by omega))
    clear hb hu CF
    generalize (freeL ts ws ts.length).length = n at *
    generalize ws.any (fun x => x != -1) = R at *
    by_cases hn : n = 0
    · subst hn
      have HE2 : Hid (stuckB g ts ws = R) := Lib.hid (by rw [HE.out]; rfl)
      clear HE
      go_wp2_with fail
      refine CA.out.mono ?_
      rintro e w2 ⟨rfl, hb2⟩
      have HB2 := Lib.hid (HB.out.trans (hb2.mono HB.out.size))
      clear hb2 CA
      go_wp2
      go_ret
      exact ⟨gr_bool HE2.out.symm, HB2.out⟩
    · have HE2 : Hid (stuckB g ts ws = false) := Lib.hid (by rw [HE.out, decide_eq_false hn]; rfl)
      have hne : ((n : Int) == 0) = false := by rw [beq_eq_false_iff_ne]; omega
      clear HE CA
      go_wp2
      go_ret
      exact ⟨gr_bool HE2.out.symm, HB.out⟩
end Go.Proofs.Ytfgpenekmokdiaa
namespace Go.Proofs.Ytfgpenekmokdiaa
open Go Go.RowKit Fl

def moveCells : List MoveD → List Value
  | [] => []
  | m :: l => Iv m.tok :: Iv m.frm :: Iv m.dst :: moveCells l
theorem moveCells_length : ∀ (l : List MoveD), (moveCells l).length = l.length * 3
  | [] => rfl
  | m :: l => by simp only [moveCells, List.length_cons]; rw [moveCells_length l]; omega
theorem moveCells_append : ∀ (a b : List MoveD), moveCells (a ++ b) = moveCells a ++ moveCells b
  | [], _ => rfl
  | x :: a, b => by simp only [List.cons_append, moveCells]; rw [moveCells_append a b]
theorem moveCells_take : ∀ (l : List MoveD) (q : Nat), moveCells (l.take q) = (moveCells l).take (q * 3)
  | _, 0 => by simp [moveCells]
  | [], q + 1 => by simp [moveCells]
  | m :: l, q + 1 => by
    rw [show (q + 1) * 3 = q * 3 + 1 + 1 + 1 by omega]
    simp only [List.take_succ_cons, moveCells]
    rw [moveCells_take l q]
/-- Replay of legal moves. -/
def DevReplayT : Prop := ∀ (A A1 : Option Addr) (c c1 : Nat) (g : GraphD) (ms : List MoveD) (ts : List Int) (w : World), RowsAt w A g → validG g = true → Holds w A1 (moveCells ms) → ms.length ≤ 1200 → playL g [] ms = some ts →
  Calls Try.prog 27 #[.slice A g.length c, .slice A1 ms.length c1] w fun e w' => (∃ u, e = .returned (.tuple #[u, .int .i64 0]) ∧ w'.ownsRow w.heap.size 3 1 u ts.length (ts.map Iv)) ∧ Below w.heap.size w w'
/-- Fill of a valid graph at a vertex. -/
def DevFillT : Prop := ∀ (A : Option Addr) (c e : Nat) (g : GraphD) (w : World), RowsAt w A g → validG g = true → e < g.length →
  (nearP g e < 0 → Calls Try.prog 26 #[.slice A g.length c, .int .i64 e] w fun x w' => x = .returned (.tuple #[.slice none 0 0, .int .i64 25]) ∧ Below w.heap.size w w') ∧
  (0 ≤ nearP g e → Calls Try.prog 26 #[.slice A g.length c, .int .i64 e] w fun x w' => (∃ u, x = .returned (.tuple #[u, .int .i64 0]) ∧ w'.ownsRow w.heap.size 42 3 u (fillM g e).length (moveCells (fillM g e))) ∧ Below w.heap.size w w')
theorem tokMoves_len (way w : List Int) (p k : Nat) : (tokMoves way w p k).length = 1 + (way.length - 1) + (w.length - 1 - k) := by
  unfold tokMoves
  rw [List.length_cons, List.length_append, List.length_map, List.length_map, List.length_range, List.length_range]
  omega
theorem fillK_len (way w : List Int) (p : Nat) (h1 : way.length ≤ 25) (h2 : w.length ≤ 24) : ∀ k, (fillK way w p k).length ≤ 48 * k
  | 0 => by simp [fillK]
  | k + 1 => by
    unfold fillK
    rw [List.length_append, tokMoves_len]
    have := fillK_len way w p h1 h2 k
    omega
theorem fillM_len {g : GraphD} {e : Nat} (hg : validG g = true) (h0 : 0 ≤ nearP g e) (h1 : nearP g e < (girF g (List.replicate g.length false)).length) : (fillM g e).length ≤ 1200 := by
  unfold fillM
  have hf := gir_few (sh := List.replicate g.length false) hg
  obtain ⟨p, hp⟩ := Int.eq_ofNat_of_zero_le h0
  have hpl : p < (girF g (List.replicate g.length false)).length := by omega
  have hw : girF g (List.replicate g.length false) ≠ [] := fun h => by rw [h] at hpl; simp at hpl
  have hx := (gir_closed hg hw).walk.ok _ (List.getElem_mem hpl)
  have hgl : (atI (girF g (List.replicate g.length false)) (nearP g e)).toNat < g.length := by
    rw [hp, Fl.atI_get hpl]
    have := hx.1; have := hx.2.1; omega
  have hs := firstF_short (s := List.replicate g.length false) (a := e) hg hgl
  have := fillK_len (firstF g (List.replicate g.length false) e (atI (girF g (List.replicate g.length false)) (nearP g e)).toNat) (girF g (List.replicate g.length false)) (nearP g e).toNat hs hf (girF g (List.replicate g.length false)).length
  omega
end Go.Proofs.Ytfgpenekmokdiaa
namespace Go.Proofs.Ytfgpenekmokdiaa
open Go Go.RowKit Fl

/-- What moves keep. -/
structure AtOk (g : GraphD) (ts : List Int) : Prop where
  rng : ∀ x ∈ ts, 0 ≤ x ∧ x < g.length
  nodup : ts.Nodup
theorem AtOk.nil (g : GraphD) : AtOk g [] := ⟨by simp, .nil⟩
theorem AtOk.few {g : GraphD} {ts : List Int} (hg : validG g = true) (h : AtOk g ts) : ts.length ≤ 24 := by
  have h1 := nodup_len g.length (ts.map Int.toNat) (by
    show (ts.map Int.toNat).Pairwise (· ≠ ·)
    rw [List.pairwise_map, List.pairwise_iff_getElem]
    intro i j hi hj hij e
    have a := h.rng _ (List.getElem_mem hi)
    have b := h.rng _ (List.getElem_mem hj)
    exact (List.pairwise_iff_getElem.1 h.nodup i j hi hj hij) (by omega)) (fun z hz => by
    obtain ⟨x, hx, rfl⟩ := List.mem_map.1 hz
    have a := h.rng x hx
    omega)
  rw [List.length_map] at h1
  have := validG_len hg
  omega
theorem play1_ok {g : GraphD} {ts r : List Int} {m : MoveD} (h : AtOk g ts) (hp : play1 g ts m = some r) : AtOk g r ∧ (0 ≤ m.dst ∧ m.dst < g.length ∧ m.dst ∉ ts) ∧
    ((m.frm = -1 ∧ m.tok = ts.length ∧ r = ts ++ [m.dst]) ∨ (0 ≤ m.tok ∧ m.tok < ts.length ∧ m.frm = atI ts m.tok ∧ r = ts.set m.tok.toNat m.dst)) := by
  unfold play1 at hp
  by_cases h0 : m.dst < 0 ∨ g.length ≤ m.dst ∨ m.dst ∈ ts
  · rw [if_pos h0] at hp; cases hp
  · rw [if_neg h0] at hp
    have hto : 0 ≤ m.dst ∧ m.dst < g.length ∧ m.dst ∉ ts := ⟨by omega, by omega, fun hm => h0 (.inr (.inr hm))⟩
    by_cases h1 : m.frm = -1 ∧ m.tok = ts.length
    · rw [if_pos h1] at hp
      injection hp with hp
      subst hp
      refine ⟨⟨fun x hx => ?_, ?_⟩, hto, .inl ⟨h1.1, h1.2, rfl⟩⟩
      · rcases List.mem_append.1 hx with hx | hx
        · exact h.rng x hx
        · obtain rfl := List.mem_singleton.1 hx
          exact ⟨hto.1, hto.2.1⟩
      · rw [List.nodup_append]
        refine ⟨h.nodup, by simp, fun a ha b hb => ?_⟩
        obtain rfl := List.mem_singleton.1 hb
        exact fun e => hto.2.2 (e ▸ ha)
    · rw [if_neg h1] at hp
      by_cases h2 : 0 ≤ m.tok ∧ m.tok < ts.length ∧ m.frm = atI ts m.tok ∧ m.dst ∈ rowG g m.frm.toNat
      · rw [if_pos h2] at hp
        injection hp with hp
        subst hp
        refine ⟨⟨fun x hx => ?_, set_nodup h.nodup hto.2.2⟩, hto, .inr ⟨h2.1, h2.2.1, h2.2.2.1, rfl⟩⟩
        rcases List.mem_or_eq_of_mem_set hx with hx | rfl
        · exact h.rng x hx
        · exact ⟨hto.1, hto.2.1⟩
      · rw [if_neg h2] at hp; cases hp
def possB (g : GraphD) (ts : List Int) (m : MoveD) : Bool := (play1 g ts m).isSome
theorem poss_to {g : GraphD} {ts : List Int} {m : MoveD} (h : m.dst < 0 ∨ g.length ≤ m.dst ∨ m.dst ∈ ts) : possB g ts m = false := by
  unfold possB play1; rw [if_pos h]; rfl
theorem poss_enter {g : GraphD} {ts : List Int} {m : MoveD} (hts : AtOk g ts) (h : ¬ (m.dst < 0 ∨ g.length ≤ m.dst ∨ m.dst ∈ ts)) (h1 : m.frm = -1) : possB g ts m = decide (m.tok = ts.length) := by
  unfold possB play1
  rw [if_neg h]
  by_cases h2 : m.tok = ts.length
  · rw [if_pos ⟨h1, h2⟩, decide_eq_true h2]; rfl
  · rw [if_neg (fun h3 => h2 h3.2), if_neg (fun h3 => by
      obtain ⟨a, b, c, _⟩ := h3
      obtain ⟨i, hi⟩ := Int.eq_ofNat_of_zero_le a
      rw [hi] at b c
      have hl : i < ts.length := by omega
      rw [Fl.atI_get hl] at c
      have := (hts.rng _ (List.getElem_mem hl)).1
      omega), decide_eq_false h2]
    rfl
theorem poss_go {g : GraphD} {ts : List Int} {m : MoveD} (h : ¬ (m.dst < 0 ∨ g.length ≤ m.dst ∨ m.dst ∈ ts)) (h1 : m.frm ≠ -1) : possB g ts m = decide (0 ≤ m.tok ∧ m.tok < ts.length ∧ m.frm = atI ts m.tok ∧ m.dst ∈ rowG g m.frm.toNat) := by
  unfold possB play1
  rw [if_neg h, if_neg (fun h3 => h1 h3.1)]
  by_cases h2 : 0 ≤ m.tok ∧ m.tok < ts.length ∧ m.frm = atI ts m.tok ∧ m.dst ∈ rowG g m.frm.toNat
  · rw [if_pos h2, decide_eq_true h2]; rfl
  · rw [if_neg h2, decide_eq_false h2]; rfl
set_option maxRecDepth 100000 in
set_option maxHeartbeats 4000000 in
theorem possible_c (A A1 : Option Addr) (c c1 : Nat) (g : GraphD) (ts : List Int) (m : MoveD) (w : World) (hh : RowsAt w A g) (h1 : Holds w A1 (ts.map Iv)) (hg : validG g = true) (hts : AtOk g ts) :
    Calls Try.prog 53 #[.slice A g.length c, .agg (bdC (bdL ts)), .slice A1 ts.length c1, .agg #[.int .i64 m.tok, .int .i64 m.frm, .int .i64 m.dst]] w fun e w' => e = .returned (.bool (possB g ts m)) ∧ Below w.heap.size w w' := by
  obtain ⟨tk, fr, tv⟩ := m
  have HP0 := Lib.hid (poss_to (g := g) (ts := ts) (m := ⟨tk, fr, tv⟩))
  have HP1 := Lib.hid (poss_enter (m := ⟨tk, fr, tv⟩) hts)
  have HP2 := Lib.hid (poss_go (g := g) (ts := ts) (m := ⟨tk, fr, tv⟩))
  have HTs := Lib.hid hts
  have h24 := hts.few hg
  have hg24 := validG_len hg
  have HG := Lib.hid hh
  have H1 := Lib.hid h1
  have HV := Lib.hid (validG_short hg)
  have HIff := Lib.hid (onF_iff (ts := ts) (x := tv))
  dsimp only at HP0 HP1 HP2 ⊢
  generalize possB g ts ⟨tk, fr, tv⟩ = res at *
  have HB0 := Lib.hid (((Below.refl w.heap.size w).alloc (Nat.le_refl _) (.cells (bdC (bdL ts)) 58)).alloc (by simp) (.cells #[.int .i64 tk, .int .i64 fr, .int .i64 tv] 42))
  have HN0 := Lib.hid ((board_box w (bdL ts)).alloc (.cells #[.int .i64 tk, .int .i64 fr, .int .i64 tv] 42))
  have HM0 := heap_alloc_new (w.alloc (.cells (bdC (bdL ts)) 58)) (.cells #[.int .i64 tk, .int .i64 fr, .int .i64 tv] 42)
  rw [show (w.alloc (.cells (bdC (bdL ts)) 58)).heap.size = w.heap.size + 1 from by simp] at HM0
  clear hh h1 hts hg
  go_enter Try.func53, Try.ntmps53
  go_wp2_with fail
  obtain ⟨G, hG⟩ : ∃ G, G = w.heap.size := ⟨_, rfl⟩
  rw [← hG] at HB0 HN0 HM0 ⊢
  have HGG := Lib.hid hG
  clear hG
  generalize (w.alloc (.cells (bdC (bdL ts)) 58)).alloc (.cells #[.int .i64 tk, .int .i64 fr, .int .i64 tv] 42) = w2 at *
  have f0 : w2.cell? ⟨G + 1, 0, none⟩ = some (.int .i64 tk) := by rw [cell_of_row _ _ 0 _ _ _ HM0]; rfl
  have f1 : w2.cell? ⟨G + 1, 1, none⟩ = some (.int .i64 fr) := by rw [cell_of_row _ _ 1 _ _ _ HM0]; rfl
  have f2 : w2.cell? ⟨G + 1, 2, none⟩ = some (.int .i64 tv) := by rw [cell_of_row _ _ 2 _ _ _ HM0]; rfl
  have HBw : Hid (∀ n, Below w.heap.size w (w2.drewN n)) := Lib.hid (fun n => HGG.out ▸ below_drewN HB0.out n)
  have HBw0 : Hid (Below w.heap.size w w2) := Lib.hid (HGG.out ▸ HB0.out)
  have HG2 := Lib.hid (HG.out.keep HBw0.out)
  have H12 := Lib.hid (H1.out.keep HBw0.out)
  have CI := Lib.hid (isVertex_c A g.length c tv w2)
  clear HM0 HB0 HG H1
  by_cases hin : 0 ≤ tv ∧ tv < g.length
  · rw [decide_eq_true hin] at CI
    obtain ⟨t, rfl⟩ := Int.eq_ofNat_of_zero_le hin.1
    have ht24 : t < 24 := by omega
    obtain ⟨cu, c1', f4⟩ : ∃ z : Int, w2.cell? ⟨G, t, none⟩ = some (.int .i64 z) ∧ z = onF ts t := ⟨_, by
      have h := (HN0.out.cell (k := t) (by rw [bdL_length]; exact ht24)).1
      have h2 := bdL_at (ts := ts) ht24
      rw [List.getElem?_eq_getElem (by rw [bdL_length]; exact ht24)] at h2
      injection h2 with h2
      rw [h, h2], rfl⟩
    by_cases hfr : cu = -1
    · subst hfr
      have hno : ¬ ((t : Int) < 0 ∨ (g.length : Int) ≤ (t : Int) ∨ (t : Int) ∈ ts) := by
        rintro (h | h | h)
        · omega
        · omega
        · exact HIff.out.1 f4.symm h
      by_cases h1 : fr = -1
      · have HE := Lib.hid (HP1.out hno h1)
        subst h1
        clear HP0 HP1 HP2 HIff hno f4
        go_wp2_with fail
        refine CI.out.mono ?_
        rintro e w3 ⟨rfl, rfl⟩
        clear CI
        go_wp2
        go_ret
        exact ⟨gr_bool (by rw [HE.out]; rfl), HBw0.out⟩
      · have HE := Lib.hid (HP2.out hno h1)
        have hne : (fr == -1) = false := by rw [beq_eq_false_iff_ne]; exact h1
        clear HP0 HP1 HP2 HIff hno f4
        by_cases hk0 : 0 ≤ tk
        · by_cases hkl : tk < ts.length
          · obtain ⟨kn, rfl⟩ := Int.eq_ofNat_of_zero_le hk0
            have hkn : kn < ts.length := by omega
            obtain ⟨b1, o1, rfl, e1⟩ := H12.out.iv hkn
            have hat : atI ts (kn : Int) = ts[kn] := Fl.atI_get hkn
            have hrg := HTs.out.rng _ (List.getElem_mem hkn)
            rw [hat] at HE
            clear hat
            by_cases hf : ts[kn] = fr
            · obtain ⟨fn, rfl⟩ := Int.eq_ofNat_of_zero_le (show 0 ≤ fr by omega)
              have hfg : fn < g.length := by omega
              obtain ⟨bg, og, A3, c3, rfl, e3, h3⟩ := HG2.out.one hfg
              have h24r := HV.out _ (List.getElem_mem hfg)
              rw [hf, Int.toNat_natCast, rowG_at hfg] at HE
              rw [hf] at e1
              have CR := Lib.hid (fun (m : Nat) => contains_c A3 c3 g[fn] t (w2.drewN m) (h3.drewN m) h24r)
              have HEr : Hid (res = decide ((t : Int) ∈ g[fn])) := Lib.hid (by rw [HE.out]; exact decide_eq_decide.2 ⟨fun h => h.2.2.2, fun h => ⟨hk0, hkl, rfl, h⟩⟩)
              clear h3 HE hrg hf
              generalize g[fn] = row at *
              generalize decide ((t : Int) ∈ row) = bb at *
              have hkl2 : decide (kn < ts.length) = true := decide_eq_true hkn
              have hfeq : ((fn : Int) == (fn : Int)) = true := by simp
              go_wp2_with fail
              refine CI.out.mono ?_
              rintro e w3 ⟨rfl, rfl⟩
              clear CI
              go_wp2_with fail
              go_quiet (first | (go_at_call 60; with_reducible exact Calls.quiet_of_same (CR.out _)))
              go_wp2
              go_ret
              exact ⟨gr_bool HEr.out.symm, HBw.out _⟩
            · have HEr : Hid (res = false) := Lib.hid (by rw [HE.out]; exact decide_eq_false fun h => hf h.2.2.1.symm)
              have hfe : (ts[kn] == fr) = false := by rw [beq_eq_false_iff_ne]; exact hf
              clear HE hrg hf
              generalize ts[kn] = xk at *
              go_wp2_with fail
              refine CI.out.mono ?_
              rintro e w3 ⟨rfl, rfl⟩
              clear CI
              go_wp2_with fail
              go_quiet (fail)
              go_wp2
              go_ret
              exact ⟨gr_bool HEr.out.symm, HBw.out _⟩
          · have HEr : Hid (res = false) := Lib.hid (by rw [HE.out]; exact decide_eq_false fun h => hkl h.2.1)
            have hd1 : decide (tk < (ts.length : Int)) = false := decide_eq_false hkl
            clear HE
            go_wp2_with fail
            refine CI.out.mono ?_
            rintro e w3 ⟨rfl, rfl⟩
            clear CI
            go_wp2_with fail
            go_quiet (fail)
            go_wp2
            go_ret
            exact ⟨gr_bool HEr.out.symm, HBw.out _⟩
        · have HEr : Hid (res = false) := Lib.hid (by rw [HE.out]; exact decide_eq_false fun h => hk0 h.1)
          clear HE
          go_wp2_with fail
          refine CI.out.mono ?_
          rintro e w3 ⟨rfl, rfl⟩
          clear CI
          go_wp2_with fail
          go_quiet (fail)
          go_wp2
          go_ret
          exact ⟨gr_bool HEr.out.symm, HBw.out _⟩
    · have HE := Lib.hid (HP0.out (.inr (.inr (by
        rcases onF_cases ts (t : Int) with ⟨h1, _⟩ | ⟨i, hi, h1, _⟩
        · exact absurd (f4.trans h1) hfr
        · exact h1 ▸ List.getElem_mem hi))))
      have hne : (cu != -1) = true := by simpa using hfr
      clear HP0 HP1 HP2 HIff hfr f4
      go_wp2_with fail
      refine CI.out.mono ?_
      rintro e w3 ⟨rfl, rfl⟩
      clear CI
      go_wp2
      go_ret
      exact ⟨gr_bool HE.out.symm, HBw0.out⟩
  · have HE := Lib.hid (HP0.out (by omega))
    rw [decide_eq_false hin] at CI
    clear HP0 HP1 HP2 HIff
    go_wp2_with fail
    refine CI.out.mono ?_
    rintro e w3 ⟨rfl, rfl⟩
    clear CI
    go_wp2
    go_ret
    exact ⟨gr_bool HE.out.symm, HBw0.out⟩
end Go.Proofs.Ytfgpenekmokdiaa
