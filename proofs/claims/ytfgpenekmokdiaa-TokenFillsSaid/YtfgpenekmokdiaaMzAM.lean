/- Joined texts. -/
import Derived.Test.YtfgpenekmokdiaaMzAI
import Derived.Test.YtfgpenekmokdiaaMzAD
import Derived.Test.YtfgpenekmokdiaaMzAL
import Derived.BigQuiet
import Derived.Test.YtfgpenekmokdiaaMzAF
import Derived.Test.YtfgpenekmokdiaaMzAH
namespace Go.Proofs.Ytfgpenekmokdiaa
open Go Go.RowKit Fl

theorem posB_false {g : GraphD} {ts ws : List Int} {i : Nat} (hi : i < ts.length) (h : tokB g ts ws i = false) : posB g ts ws = false := by
  unfold posB
  have : (List.range ts.length).all (tokB g ts ws) = false := by
    rw [List.all_eq_false]
    exact ⟨i, List.mem_range.2 hi, by simp [h]⟩
  rw [this, Bool.and_false]
theorem range_all_succ {p : Nat → Bool} {k : Nat} (h : (List.range k).all p = true) (hk : p k = true) : (List.range (k + 1)).all p = true := by
  rw [List.range_succ, List.all_append, h]
  simp [hk]
theorem drew_add (w : World) (a b : Nat) : (w.drewN a).drewN b = w.drewN (a + b) := by simp [World.drewN, Nat.add_assoc]
theorem holds_front {w : World} {A : Option Addr} {xs : List Value} (h : Holds w A xs) (n : Nat) : Holds w A (xs.take n) := by
  rcases h with h | ⟨b, o, hA, hb, hc⟩
  · left; subst h; simp
  · right
    refine ⟨b, o, hA, hb, fun j hj => ?_⟩
    rw [List.length_take] at hj
    rw [hc j (by omega), List.getElem_take]
set_option maxRecDepth 100000 in
set_option maxHeartbeats 8000000 in
theorem pos_c (A A1 A2 : Option Addr) (c c1 c2 : Nat) (g : GraphD) (ts ws : List Int) (w : World) (hh : RowsAt w A g) (h1 : Holds w A1 (ts.map Iv)) (h2 : Holds w A2 (ws.map Iv)) (hcap : ts.length ≤ c1) (hl : g.length ≤ 1000000000000000000) (hr : ∀ r ∈ g, r.length ≤ 1000000000000000000) :
    Calls Try.prog 18 #[.slice A g.length c, .slice A1 ts.length c1, .slice A2 ws.length c2] w fun e w' => e = .returned (.bool (posB g ts ws)) ∧ ∃ n, w' = w.drewN n := by
  have CV := Lib.hid (refGValid_c A c g w hh hl hr)
  have HR := Lib.hid hr
  have HG := Lib.hid hh
  have H1 := Lib.hid h1
  have H2 := Lib.hid h2
  have HPos : Hid (posB g ts ws = (validG g && decide (ts.length = ws.length ∧ ts.length ≤ 24) && (List.range ts.length).all (tokB g ts ws))) := Lib.hid rfl
  have HFa := Lib.hid (fun i (hi : i < ts.length) (h : tokB g ts ws i = false) => posB_false hi h)
  clear hh h1 h2 hr
  go_enter Try.func18, Try.ntmps18
  go_wp2_with fail
  refine CV.out.mono ?_
  rintro e w1 ⟨rfl, rfl⟩
  clear CV
  rcases hv : validG g with _ | _
  · have HE : Hid (posB g ts ws = false) := Lib.hid (by rw [HPos.out, hv]; rfl)
    clear hv HPos
    go_wp2
    go_ret
    exact ⟨gr_bool HE.out.symm, 0, rfl⟩
  · by_cases hlen : ts.length = ws.length
    · by_cases h24 : ts.length ≤ 24
      · have HEnd : Hid ((List.range ts.length).all (tokB g ts ws) = true → posB g ts ws = true) := Lib.hid (fun h => by rw [HPos.out, hv, h, decide_eq_true ⟨hlen, h24⟩]; rfl)
        have HLen := Lib.hid hlen
        have hb1 : ((ts.length : Int) != (ws.length : Int)) = false := by rw [hlen]; simp
        have hb2 : ¬ ((24 : Int) < (ts.length : Int)) := by omega
        clear HPos hv hlen
        go_wp2
        clear hb1 hb2
        go_loopw [7] (fun i wr => ∃ k : Nat, i = .int .i64 k ∧ k ≤ ts.length ∧ Hid ((List.range k).all (tokB g ts ws) = true) ∧ Hid (∃ n, wr = w.drewN n)) (fun i _ => ts.length - (intOf i).toNat)
        case atStart => exact ⟨0, rfl, Nat.zero_le _, Lib.hid rfl, Lib.hid ⟨0, rfl⟩⟩
        case round =>
          obtain ⟨k, rfl, hk, HK, HW⟩ := hrel
          have HGr : Hid (RowsAt wr A g) := Lib.hid (by obtain ⟨n, e⟩ := HW.out; rw [e]; exact HG.out.keep (below_drewN (Below.refl _ _) n))
          have H1r : Hid (Holds wr A1 (ts.map Iv)) := Lib.hid (by obtain ⟨n, e⟩ := HW.out; rw [e]; exact H1.out.drewN n)
          have H2r : Hid (Holds wr A2 (ws.map Iv)) := Lib.hid (by obtain ⟨n, e⟩ := HW.out; rw [e]; exact H2.out.drewN n)
          have HWn : Hid (∀ m, ∃ n, wr.drewN m = w.drewN n) := Lib.hid (fun m => by obtain ⟨n, e⟩ := HW.out; exact ⟨n + m, by rw [e, drew_add]⟩)
          by_cases hlt : k < ts.length
          · have hlw : k < ws.length := by rw [← HLen.out]; exact hlt
            have HT : Hid (tokB g ts ws k = decide (0 ≤ ts[k] ∧ ts[k] < g.length ∧ ts[k] ∉ ts.take k ∧ (ws[k] = -1 ∨ ws[k] ∈ rowG g ts[k].toNat))) := Lib.hid (by unfold tokB; rw [Fl.atI_get hlt, Fl.atI_get hlw])
            obtain ⟨b1, o1, rfl, e1⟩ := H1r.out.iv hlt
            obtain ⟨b2, o2, rfl, e2⟩ := H2r.out.iv hlw
            have hkl : (ts.take k).length = k := by rw [List.length_take]; omega
            have CT : Hid (∀ m x, Calls Try.prog 32 #[.slice (some ⟨b1, o1, none⟩) k c1, .int .i64 x] (wr.drewN m) fun e w' => e = .returned (.bool (decide (x ∈ ts.take k))) ∧ w' = wr.drewN m) := Lib.hid (fun m x => by
              have h := has_c (some ⟨b1, o1, none⟩) c1 (ts.take k) x (wr.drewN m) (by
                have h0 := holds_front (H1r.out.drewN m) k
                rwa [← List.map_take] at h0) (by omega)
              rw [hkl] at h
              exact h.mono fun e w' q => ⟨q.1, q.2.symm⟩)
            have HGo : Hid (tokB g ts ws k = true → (List.range (k + 1)).all (tokB g ts ws) = true) := Lib.hid (fun h => range_all_succ HK.out h)
            have HNo := Lib.hid (HFa.out k hlt)
            have hc1 : (k : Int) ≤ (c1 : Int) := by omega
            clear HK hkl
            generalize ws[k] = y at *
            generalize hxk : ts[k] = x at *
            clear hxk
            by_cases hx0 : x < 0
            · have HE := Lib.hid (HNo.out (by rw [HT.out]; exact decide_eq_false (fun h => by omega)))
              clear HT HGo HNo
              go_wp2_with fail
              go_quiet (fail)
              go_wp2
              go_ret
              exact ⟨gr_bool HE.out.symm, HWn.out _⟩
            · obtain ⟨xn, rfl⟩ := Int.eq_ofNat_of_zero_le (show 0 ≤ x by omega)
              have hd0 : decide ((xn : Int) < 0) = false := decide_eq_false hx0
              by_cases hxl : xn < g.length
              · have hdl : decide (g.length ≤ xn) = false := decide_eq_false (by omega)
                obtain ⟨b0, o0, A3, c3, rfl, e3, h3⟩ := HGr.out.one hxl
                have h3l := HR.out _ (List.getElem_mem hxl)
                have CR : Hid (∀ m z, Calls Try.prog 32 #[.slice A3 g[xn].length c3, .int .i64 z] (wr.drewN m) fun e w' => e = .returned (.bool (decide (z ∈ g[xn]))) ∧ w' = wr.drewN m) := Lib.hid (fun m z => (has_c A3 c3 g[xn] z (wr.drewN m) (h3.drewN m) h3l).mono fun e w' q => ⟨q.1, q.2.symm⟩)
                rw [Int.toNat_natCast, rowG_at hxl] at HT
                clear h3
                generalize g[xn] = row at *
                by_cases hin : (xn : Int) ∈ ts.take k
                · have HE := Lib.hid (HNo.out (by rw [HT.out]; exact decide_eq_false (fun h => h.2.2.1 hin)))
                  have C1 : Hid (∀ m, Calls Try.prog 32 #[.slice (some ⟨b1, o1, none⟩) k c1, .int .i64 xn] (wr.drewN m) fun e w' => e = .returned (.bool true) ∧ w' = wr.drewN m) := Lib.hid (fun m => by
                    have h := CT.out m xn
                    rwa [decide_eq_true hin] at h)
                  clear HT HGo HNo CT CR hin
                  go_wp2_with fail
                  go_quiet (first | (go_at_call 32; with_reducible exact Calls.quiet_of_same (C1.out _)))
                  go_wp2
                  go_ret
                  exact ⟨gr_bool HE.out.symm, HWn.out _⟩
                · have C1 : Hid (∀ m, Calls Try.prog 32 #[.slice (some ⟨b1, o1, none⟩) k c1, .int .i64 xn] (wr.drewN m) fun e w' => e = .returned (.bool false) ∧ w' = wr.drewN m) := Lib.hid (fun m => by
                    have h := CT.out m xn
                    rwa [decide_eq_false hin] at h)
                  by_cases hy : y = -1
                  · have HK2 := Lib.hid (HGo.out (by rw [HT.out]; exact decide_eq_true ⟨by omega, by omega, hin, .inl hy⟩))
                    subst hy
                    clear HT HGo HNo CT CR hin
                    go_wp2_with fail
                    go_quiet (first | (go_at_call 32; with_reducible exact Calls.quiet_of_same (C1.out _)))
                    go_wp2
                    go_roundw
                    case rel => exact ⟨k + 1, by go_num, by omega, HK2, Lib.hid (HWn.out _)⟩
                    case measure => simp [intOf]; omega
                  · have hy1 : (y == -1) = false := by simpa using hy
                    have hyn : (y != -1) = true := by simpa using hy
                    by_cases hm : y ∈ row
                    · have HK2 := Lib.hid (HGo.out (by rw [HT.out]; exact decide_eq_true ⟨by omega, by omega, hin, .inr hm⟩))
                      have C2 : Hid (∀ m, Calls Try.prog 32 #[.slice A3 row.length c3, .int .i64 y] (wr.drewN m) fun e w' => e = .returned (.bool true) ∧ w' = wr.drewN m) := Lib.hid (fun m => by
                        have h := CR.out m y
                        rwa [decide_eq_true hm] at h)
                      clear HT HGo HNo CT CR hin hm
                      go_wp2_with fail
                      go_quiet (first | (go_at_call_of 32 xn; with_reducible exact Calls.quiet_of_same (C1.out _)) | (go_at_call_of 32 y; with_reducible exact Calls.quiet_of_same (C2.out _)))
                      go_wp2
                      go_roundw
                      case rel => exact ⟨k + 1, by go_num, by omega, HK2, Lib.hid (HWn.out _)⟩
                      case measure => simp [intOf]; omega
                    · have HE := Lib.hid (HNo.out (by rw [HT.out]; exact decide_eq_false (fun h => by
                        rcases h.2.2.2 with h | h
                        · exact hy h
                        · exact hm h)))
                      have C2 : Hid (∀ m, Calls Try.prog 32 #[.slice A3 row.length c3, .int .i64 y] (wr.drewN m) fun e w' => e = .returned (.bool false) ∧ w' = wr.drewN m) := Lib.hid (fun m => by
                        have h := CR.out m y
                        rwa [decide_eq_false hm] at h)
                      clear HT HGo HNo CT CR hin hm
                      go_wp2_with fail
                      go_quiet (first | (go_at_call_of 32 xn; with_reducible exact Calls.quiet_of_same (C1.out _)) | (go_at_call_of 32 y; with_reducible exact Calls.quiet_of_same (C2.out _)))
                      go_wp2
                      go_ret
                      exact ⟨gr_bool HE.out.symm, HWn.out _⟩
              · have HE := Lib.hid (HNo.out (by rw [HT.out]; exact decide_eq_false (fun h => by omega)))
                have hdl : decide (g.length ≤ xn) = true := decide_eq_true (by omega)
                clear HT HGo HNo
                go_wp2_with fail
                go_quiet (fail)
                go_wp2
                go_ret
                exact ⟨gr_bool HE.out.symm, HWn.out _⟩
          · obtain rfl : k = ts.length := by omega
            have HE := Lib.hid (HEnd.out HK.out)
            go_wp2
            go_ret
            exact ⟨gr_bool HE.out.symm, HW.out⟩
      · have HE : Hid (posB g ts ws = false) := Lib.hid (by rw [HPos.out, hv, decide_eq_false (fun h => h24 h.2)]; rfl)
        have hb1 : ((ts.length : Int) != (ws.length : Int)) = false := by rw [hlen]; simp
        have hb2 : (24 : Int) < (ts.length : Int) := by omega
        clear hv HPos hlen
        go_wp2
        go_ret
        exact ⟨gr_bool HE.out.symm, 0, rfl⟩
    · have HE : Hid (posB g ts ws = false) := Lib.hid (by rw [HPos.out, hv, decide_eq_false (fun h => hlen h.1)]; rfl)
      have hb1 : ((ts.length : Int) != (ws.length : Int)) = true := by rw [bne_iff_ne]; omega
      clear hv HPos
      go_wp2
      go_ret
      exact ⟨gr_bool HE.out.symm, 0, rfl⟩
end Go.Proofs.Ytfgpenekmokdiaa
namespace Go.Proofs.Ytfgpenekmokdiaa
open Go Go.RowKit Fl

theorem girK_succ (g : GraphD) (s : List Bool) (k : Nat) : girK g s (k + 1) = if 0 < (thrF g s k).length ∧ ((girK g s k).length = 0 ∨ (thrF g s k).length < (girK g s k).length) then thrF g s k else girK g s k := rfl
def GirthPost (w : World) (l : List Int) (e : Ending) (w' : World) : Prop := ∃ v, e = .returned (.tuple #[.int .i64 l.length, v, .int .i64 0]) ∧ w'.ownsRow w.heap.size 3 1 v l.length (l.map Iv) ∧ Below w.heap.size w w'
set_option maxRecDepth 100000 in
set_option maxHeartbeats 4000000 in
theorem girth_c (A B : Option Addr) (c d : Nat) (g : GraphD) (s : List Bool) (w : World) (hh : RowsAt w A g) (hs : Holds w B (s.map Bo)) (hg : validG g = true) (hsl : s.length = g.length) :
    Calls Try.prog 63 #[.slice A g.length c, .slice B s.length d] w (GirthPost w (girF g s)) := by
  have hl24 := validG_len hg
  have hr24 := validG_short hg
  have CC := Lib.hid (refCheck_c A B c d s.length g w hh (by omega) (fun r hr => by have := hr24 r hr; omega))
  rw [show chkG g s.length = 0 by unfold chkG; rw [hg, hsl]; simp] at CC
  have CT := Lib.hid (fun W v (hW : Below w.heap.size w W) hv => through_c A B c d g s v W (hh.keep hW) (hs.keep hW) hg hsl hv)
  have HSh := Lib.hid (fun k hk => girK_short (s := s) hg k hk)
  have HTh := Lib.hid (fun v hv => thrF_short (s := s) (v := v) hg hv)
  have HF : Hid (girF g s = girK g s g.length) := Lib.hid rfl
  clear hh hs hg hsl hr24
  generalize girF g s = res at *
  go_enter Try.func63, Try.ntmps63
  go_wp2_with fail
  refine CC.out.mono ?_
  rintro e w1 ⟨rfl, rfl⟩
  go_wp2
  go_loopw [8, 9] (fun u i wr => ∃ (k : Nat), i = .int .i64 k ∧ k ≤ g.length ∧ Hid (wr.ownsRow w.heap.size 3 1 u (girK g s k).length ((girK g s k).map Iv)) ∧ Below w.heap.size w wr) (fun _ i _ => g.length - (intOf i).toNat)
  case atStart => exact ⟨0, rfl, Nat.zero_le _, Lib.hid (World.ownsRow_nil _ _ _ _), Below.refl _ _⟩
  case round =>
    obtain ⟨k, rfl, hk, HO, hb⟩ := hrel
    have hbl := HSh.out k hk
    by_cases hlt : k < g.length
    · have HS := Lib.hid (girK_succ g s k)
      have htl := HTh.out k hlt
      have HC := Lib.hid (CT.out wr k hb hlt)
      have hsz := hb.size
      generalize thrF g s k = t at *
      generalize hbo : girK g s k = bo at *
      clear hbo
      obtain ⟨AB, cB, rfl, _⟩ := own_is HO.out
      go_wp2_with fail
      refine HC.out.mono ?_
      rintro e w2 ⟨vt, rfl, ownT, hb2⟩
      obtain ⟨AT, cT, rfl, _⟩ := own_is ownT
      have HT := Lib.hid ownT
      have HB2 := Lib.hid (hb.trans (hb2.mono hsz))
      have HO2 := Lib.hid (ownsRow_below HO.out hb2)
      clear HC ownT hb2 HO hb
      by_cases hsel : 0 < t.length ∧ (bo.length = 0 ∨ t.length < bo.length)
      · rw [if_pos hsel] at HS
        have HT2 := Lib.hid (ownsRow_base HT.out hsz)
        have hcase : decide (0 < t.length) = true ∧ (((bo.length : Int) == 0) = true ∨ ((bo.length : Int) == 0) = false ∧ decide (t.length < bo.length) = true) := by
          refine ⟨by simpa using hsel.1, ?_⟩
          rcases Nat.eq_zero_or_pos bo.length with h | h
          · left; rw [h]; rfl
          · right; exact ⟨by rw [beq_eq_false_iff_ne]; omega, by have := hsel.2; simp; omega⟩
        obtain ⟨hd1, hd2⟩ := hcase
        have hpos := hsel.1
        clear hsel
        rcases hd2 with hd2 | ⟨hd2, hd3⟩
        all_goals
          go_wp2
          go_roundw
          case rel => exact ⟨k + 1, by go_num, by omega, Lib.hid (by rw [HS.out]; exact HT2.out), HB2.out⟩
          case measure => simp [intOf]; omega
      · rw [if_neg hsel] at HS
        have hcase : decide (0 < t.length) = false ∨ decide (0 < t.length) = true ∧ ((bo.length : Int) == 0) = false ∧ decide (t.length < bo.length) = false := by
          rcases Nat.eq_zero_or_pos t.length with h | h
          · left; rw [decide_eq_false_iff_not]; omega
          · right; exact ⟨by simpa using h, by rw [beq_eq_false_iff_ne]; intro e; exact hsel ⟨h, .inl (by omega)⟩, by simp; rcases Nat.lt_or_ge t.length bo.length with h2 | h2; exact absurd ⟨h, .inr h2⟩ hsel; exact h2⟩
        clear hsel
        rcases hcase with hd1 | ⟨hd1, hd2, hd3⟩
        all_goals
          go_wp2
          go_roundw
          case rel => exact ⟨k + 1, by go_num, by omega, Lib.hid (by rw [HS.out]; exact HO2.out), HB2.out⟩
          case measure => simp [intOf]; omega
    · obtain rfl : k = g.length := by omega
      rw [← HF.out] at HO hbl
      obtain ⟨AB, cB, rfl, _⟩ := own_is HO.out
      go_wp2
      go_ret3
      exact ⟨_, rfl, HO.out, hb⟩
end Go.Proofs.Ytfgpenekmokdiaa
namespace Go.Proofs.Ytfgpenekmokdiaa
open Go Go.RowKit Fl

theorem chkG_cases (g : GraphD) (m : Nat) : (chkG g m = 0 ∧ validG g = true ∧ m = g.length) ∨ chkG g m = 19 ∨ chkG g m = 20 := by
  unfold chkG
  rcases h : validG g with _ | _
  · simp
  · by_cases e : m = g.length
    · left; simp [e]
    · right; left; simp [e]
/-- The error of From. -/
def fromE (g : GraphD) (m : Nat) (v : Int) : Int := if chkG g m = 0 then (if 0 ≤ v ∧ v < g.length then 0 else 19) else chkG g m
open Classical in
noncomputable def fromL (g : GraphD) (s : List Bool) (v : Int) : List Bool := if fromE g s.length v = 0 then reachL g s v.toNat else []
theorem fromL_ok {g : GraphD} {s : List Bool} {v : Int} (h : fromE g s.length v = 0) : fromL g s v = reachL g s v.toNat := by unfold fromL; rw [if_pos h]
theorem fromL_err {g : GraphD} {s : List Bool} {v : Int} (h : fromE g s.length v ≠ 0) : fromL g s v = [] := by unfold fromL; rw [if_neg h]
def FromPost (w : World) (l : List Bool) (k : Int) (e : Ending) (w' : World) : Prop := ∃ u, e = .returned (.tuple #[u, .int .i64 k]) ∧ w'.ownsRow w.heap.size 4 1 u l.length (l.map Bo) ∧ Below w.heap.size w w'
/-- All open vertices reach each other, and there is one. -/
def mutP (g : GraphD) (s : List Bool) : Prop := (∃ v, v < g.length ∧ atB s v = false) ∧ ∀ u v, u < g.length → v < g.length → atB s u = false → atB s v = false → PathG g s u v
open Classical in
noncomputable def mutB (g : GraphD) (s : List Bool) : Bool := decide (chkG g s.length = 0 ∧ mutP g s)
open Classical in
theorem mutB_iff (g : GraphD) (s : List Bool) : mutB g s = true ↔ chkG g s.length = 0 ∧ mutP g s := by unfold mutB; exact decide_eq_true_iff
theorem mutB_no {g : GraphD} {s : List Bool} (h : ¬ (chkG g s.length = 0 ∧ mutP g s)) : mutB g s = false := by
  rcases e : mutB g s with _ | _
  · rfl
  · exact absurd ((mutB_iff g s).1 e) h
end Go.Proofs.Ytfgpenekmokdiaa
namespace Go.Proofs.Ytfgpenekmokdiaa
open Go Go.RowKit Fl

def girL (g : GraphD) (s : List Bool) : List Int := if chkG g s.length = 0 then girF g s else []
def thrL (g : GraphD) (s : List Bool) (v : Int) : List Int := if fromE g s.length v = 0 then thrF g s v.toNat else []
open Classical in
noncomputable def clsB (g : GraphD) (s : List Bool) (l : List Int) : Bool := decide (chkG g s.length = 0 ∧ ClosedL g s l)
theorem clsB_iff {g : GraphD} {s : List Bool} {l : List Int} : clsB g s l = true ↔ chkG g s.length = 0 ∧ ClosedL g s l := by
  classical
  unfold clsB; exact decide_eq_true_iff
theorem clsB_no {g : GraphD} {s : List Bool} {l : List Int} (h : ¬ (chkG g s.length = 0 ∧ ClosedL g s l)) : clsB g s l = false := by
  rcases e : clsB g s l with _ | _
  · rfl
  · exact absurd (clsB_iff.1 e) h
def WalkPost (w : World) (l : List Int) (k : Int) (e : Ending) (w' : World) : Prop := ∃ u, e = .returned (.tuple #[.int .i64 l.length, u, .int .i64 k]) ∧ w'.ownsRow w.heap.size 3 1 u l.length (l.map Iv) ∧ Below w.heap.size w w'
set_option maxRecDepth 100000 in
set_option maxHeartbeats 4000000 in
theorem refGirth_c (A B : Option Addr) (c d : Nat) (g : GraphD) (s : List Bool) (w : World) (hh : RowsAt w A g) (hs : Holds w B (s.map Bo)) (hl : g.length ≤ 1000000000000000000) (hr : ∀ r ∈ g, r.length ≤ 1000000000000000000) :
    Calls Try.prog 63 #[.slice A g.length c, .slice B s.length d] w (WalkPost w (girL g s) (chkG g s.length)) := by
  have CC := Lib.hid (refCheck_c A B c d s.length g w hh hl hr)
  by_cases h0 : chkG g s.length = 0
  · have hv : validG g = true ∧ s.length = g.length := by
      rcases chkG_cases g s.length with h | h | h
      · exact h.2
      · omega
      · omega
    have h := girth_c A B c d g s w hh hs hv.1 hv.2
    have hE : girL g s = girF g s := by unfold girL; rw [if_pos h0]
    rw [hE, h0]
    exact h
  · have HE : Hid (girL g s = []) := Lib.hid (by unfold girL; rw [if_neg h0])
    have hcase : chkG g s.length = 19 ∨ chkG g s.length = 20 := by
      rcases chkG_cases g s.length with h | h | h
      · exact absurd h.1 h0
      · exact .inl h
      · exact .inr h
    clear hh hs hl hr h0
    rcases hcase with h | h
    all_goals
      rw [h] at CC ⊢
      clear h
      go_enter Try.func63, Try.ntmps63
      go_wp2_with fail
      refine CC.out.mono ?_
      rintro e w1 ⟨rfl, rfl⟩
      go_wp2
      go_ret3
      exact ⟨_, by rw [HE.out]; rfl, by rw [HE.out]; exact World.ownsRow_nil _ _ _ _, Below.refl _ _⟩
/-- The next place of a closed walk. -/
theorem closed_iff {g : GraphD} {s : List Bool} {l : List Int} : ClosedL g s l ↔ l ≠ [] ∧ (∀ j (h : j < l.length), okV g s l[j]) ∧ ∀ j (h : j < l.length), edgeI g l[j] (l[(j + 1) % l.length]'(Nat.mod_lt _ (by omega))) := by
  constructor
  · intro h
    refine ⟨h.walk.ne, fun j hj => h.walk.ok _ (List.getElem_mem hj), fun j hj => ?_⟩
    rcases Nat.lt_or_ge (j + 1) l.length with h1 | h1
    · have e : (j + 1) % l.length = j + 1 := Nat.mod_eq_of_lt h1
      exact h.walk.edge j _ _ (List.getElem?_eq_getElem hj) (by rw [← List.getElem?_eq_getElem, e])
    · have e : (j + 1) % l.length = 0 := by rw [show j + 1 = l.length by omega, Nat.mod_self]
      exact h.back _ _ (by rw [← List.getElem?_eq_getElem, e]) (by rw [show l.length - 1 = j by omega]; exact List.getElem?_eq_getElem hj)
  · rintro ⟨h1, h2, h3⟩
    refine ⟨⟨h1, fun x hx => ?_, fun i x y hx hy => ?_⟩, fun x y hx hy => ?_⟩
    · obtain ⟨j, hj, e⟩ := List.mem_iff_getElem.1 hx
      rw [← e]; exact h2 j hj
    · obtain ⟨a1, a2⟩ := List.getElem?_eq_some_iff.1 hx
      obtain ⟨b1, b2⟩ := List.getElem?_eq_some_iff.1 hy
      have := h3 i a1
      have e : l[(i + 1) % l.length]'(Nat.mod_lt _ (by omega)) = y := by
        rw [← b2]
        congr 1
        exact Nat.mod_eq_of_lt b1
      rw [a2, e] at this
      exact this
    · obtain ⟨a1, a2⟩ := List.getElem?_eq_some_iff.1 hx
      obtain ⟨b1, b2⟩ := List.getElem?_eq_some_iff.1 hy
      have := h3 (l.length - 1) b1
      have e : l[(l.length - 1 + 1) % l.length]'(Nat.mod_lt _ (by omega)) = x := by
        rw [← a2]
        congr 1
        rw [show l.length - 1 + 1 = l.length by omega, Nat.mod_self]
      rw [b2, e] at this
      exact this
end Go.Proofs.Ytfgpenekmokdiaa
