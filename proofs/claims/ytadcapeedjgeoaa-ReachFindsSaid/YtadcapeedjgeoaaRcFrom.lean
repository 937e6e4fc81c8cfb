/- Contracts of the reference's From and Mutual of layer 4, for all graphs, marks and vertices. -/
import Derived.Test.YtadcapeedjgeoaaRcReach
namespace Go.Proofs.Ytadcapeedjgeoaa
open Go Go.RowKit Fl

theorem chkG_cases (g : GraphD) (m : Nat) : (chkG g m = 0 ∧ validG g = true ∧ m = g.length) ∨ chkG g m = 19 ∨ chkG g m = 20 := by
  unfold chkG
  rcases h : validG g with _ | _
  · simp
  · by_cases e : m = g.length
    · left; simp [e]
    · right; left; simp [e]
/-- The error of From. -/
def fromE (g : GraphD) (m : Nat) (v : Int) : Int := if chkG g m = 0 then (if 0 ≤ v ∧ v < g.length then 0 else 19) else chkG g m
open Classical in
noncomputable def fromL (g : GraphD) (s : List Bool) (v : Int) : List Bool := if fromE g s.length v = 0 then reachL g s v.toNat else []
theorem fromL_ok {g : GraphD} {s : List Bool} {v : Int} (h : fromE g s.length v = 0) : fromL g s v = reachL g s v.toNat := by unfold fromL; rw [if_pos h]
theorem fromL_err {g : GraphD} {s : List Bool} {v : Int} (h : fromE g s.length v ≠ 0) : fromL g s v = [] := by unfold fromL; rw [if_neg h]
def FromPost (w : World) (l : List Bool) (k : Int) (e : Ending) (w' : World) : Prop := ∃ u, e = .returned (.tuple #[u, .int .i64 k]) ∧ w'.ownsRow w.heap.size 4 1 u l.length (l.map Bo) ∧ Below w.heap.size w w'
set_option maxRecDepth 100000 in
set_option maxHeartbeats 2000000 in
theorem refFrom_c (A B : Option Addr) (c d : Nat) (g : GraphD) (s : List Bool) (v : Int) (w : World) (hh : RowsAt w A g) (hs : Holds w B (s.map Bo)) (hl : g.length ≤ 1000000000000000000) (hr : ∀ r ∈ g, r.length ≤ 1000000000000000000) :
    Calls Try.prog 15 #[.slice A g.length c, .slice B s.length d, .int .i64 v] w (FromPost w (fromL g s v) (fromE g s.length v)) := by
  have CC := Lib.hid (refCheck_c A B c d s.length g w hh hl hr)
  by_cases h0 : chkG g s.length = 0
  · have hv : validG g = true ∧ s.length = g.length := by
      rcases chkG_cases g s.length with h | h | h
      · exact h.2
      · omega
      · omega
    rw [h0] at CC
    have hl24 := validG_len hv.1
    by_cases hin : 0 ≤ v ∧ v < g.length
    · obtain ⟨vn, rfl⟩ := Int.eq_ofNat_of_zero_le hin.1
      have hvn : vn < g.length := by omega
      have he : fromE g s.length (vn : Int) = 0 := by unfold fromE; rw [if_pos h0, if_pos hin]
      have CR := Lib.hid (reach_c A B c d g s vn w hh hs hv.1 hv.2 hvn)
      have HL := Lib.hid (fromL_ok (v := (vn : Int)) he)
      have HLen := Lib.hid (reachL_length g s vn)
      rw [he]
      clear hh hs hr he h0 hv hin
      go_enter Try.func15, Try.ntmps15
      go_wp2_with fail
      refine CC.out.mono ?_
      rintro e w1 ⟨rfl, rfl⟩
      go_wp2_with fail
      refine CR.out.mono ?_
      rintro e w2 ⟨u, rfl, own2, hb2⟩
      have HO := Lib.hid own2
      have HB := Lib.hid hb2
      clear own2 hb2 CR CC
      go_wp2
      go_ret2
      exact ⟨_, rfl, by rw [HL.out, Int.toNat_natCast, HLen.out]; exact HO.out, HB.out⟩
    · have he : fromE g s.length v = 19 := by unfold fromE; rw [if_pos h0, if_neg hin]
      have HL := Lib.hid (fromL_err (s := s) (v := v) (by rw [he]; decide))
      have hcase : decide (v < 0) = true ∨ decide (v < 0) = false ∧ decide ((g.length : Int) ≤ v) = true := by simp only [decide_eq_true_eq, decide_eq_false_iff_not]; omega
      rw [he]
      clear hh hs hr he h0 hv hin
      rcases hcase with h1 | ⟨h1, h2⟩
      all_goals
        go_enter Try.func15, Try.ntmps15
        go_wp2_with fail
        refine CC.out.mono ?_
        rintro e w1 ⟨rfl, rfl⟩
        go_wp2
        go_ret2
        exact ⟨_, rfl, by rw [HL.out]; exact World.ownsRow_nil _ _ _ _, Below.refl _ _⟩
  · have he : fromE g s.length v = chkG g s.length := by unfold fromE; rw [if_neg h0]
    have HL := Lib.hid (fromL_err (s := s) (v := v) (by rw [he]; exact h0))
    have hcase : chkG g s.length = 19 ∨ chkG g s.length = 20 := by
      rcases chkG_cases g s.length with h | h | h
      · exact absurd h.1 h0
      · exact .inl h
      · exact .inr h
    rw [he]
    clear hh hs hr he h0
    rcases hcase with h | h
    all_goals
      rw [h] at CC ⊢
      clear h
      go_enter Try.func15, Try.ntmps15
      go_wp2_with fail
      refine CC.out.mono ?_
      rintro e w1 ⟨rfl, rfl⟩
      go_wp2
      go_ret2
      exact ⟨_, rfl, by rw [HL.out]; exact World.ownsRow_nil _ _ _ _, Below.refl _ _⟩
/-- All open vertices reach each other, and there is one. -/
def mutP (g : GraphD) (s : List Bool) : Prop := (∃ v, v < g.length ∧ atB s v = false) ∧ ∀ u v, u < g.length → v < g.length → atB s u = false → atB s v = false → PathG g s u v
open Classical in
noncomputable def mutB (g : GraphD) (s : List Bool) : Bool := decide (chkG g s.length = 0 ∧ mutP g s)
open Classical in
theorem mutB_iff (g : GraphD) (s : List Bool) : mutB g s = true ↔ chkG g s.length = 0 ∧ mutP g s := by unfold mutB; exact decide_eq_true_iff
theorem mutB_no {g : GraphD} {s : List Bool} (h : ¬ (chkG g s.length = 0 ∧ mutP g s)) : mutB g s = false := by
  rcases e : mutB g s with _ | _
  · rfl
  · exact absurd ((mutB_iff g s).1 e) h
set_option maxRecDepth 100000 in
set_option maxHeartbeats 4000000 in
theorem refMutual_c (A B : Option Addr) (c d : Nat) (g : GraphD) (s : List Bool) (w : World) (hh : RowsAt w A g) (hs : Holds w B (s.map Bo)) (hl : g.length ≤ 1000000000000000000) (hr : ∀ r ∈ g, r.length ≤ 1000000000000000000) :
    Calls Try.prog 21 #[.slice A g.length c, .slice B s.length d] w fun e w' => e = .returned (.tuple #[.bool (mutB g s), .int .i64 (chkG g s.length)]) ∧ Below w.heap.size w w' := by
  have CC := Lib.hid (refCheck_c A B c d s.length g w hh hl hr)
  by_cases h0 : chkG g s.length = 0
  · have hv : validG g = true ∧ s.length = g.length := by
      rcases chkG_cases g s.length with h | h | h
      · exact h.2
      · omega
      · omega
    rw [h0] at CC ⊢
    have hl24 := validG_len hv.1
    have HSL := Lib.hid hv.2
    have HS := Lib.hid hs
    have CR := Lib.hid (fun W v (hW : Below w.heap.size w W) hvn => reach_c A B c d g s v W (hh.keep hW) (hs.keep hW) hv.1 hv.2 hvn)
    have HT : Hid (mutP g s → mutB g s = true) := Lib.hid (fun h => (mutB_iff g s).2 ⟨h0, h⟩)
    have HF : Hid (¬ mutP g s → mutB g s = false) := Lib.hid (fun h => mutB_no fun h2 => h h2.2)
    clear hh hs hr h0 hv
    generalize mutB g s = res at *
    go_enter Try.func21, Try.ntmps21
    go_wp2_with fail
    refine CC.out.mono ?_
    rintro e w1 ⟨rfl, rfl⟩
    go_wp2
    go_loopw [7, 8] (fun o i wr => ∃ (k : Nat) (z : Int), i = .int .i64 k ∧ k ≤ g.length ∧ o = .int .i64 z ∧ 0 ≤ z ∧ z ≤ k ∧ Hid (0 < z → ∃ v, v < k ∧ atB s v = false) ∧ Hid (z = 0 → ∀ v, v < k → atB s v = true) ∧ Hid (∀ u v, u < k → v < g.length → atB s u = false → atB s v = false → PathG g s u v) ∧ Below w.heap.size w wr) (fun _ i _ => g.length - (intOf i).toNat)
    case atStart => exact ⟨0, 0, rfl, Nat.zero_le _, rfl, by omega, by omega, Lib.hid (fun h => by omega), Lib.hid (fun _ v hv => by omega), Lib.hid (fun u v hu => by omega), Below.refl _ _⟩
    case round =>
      obtain ⟨k, z, rfl, hk, rfl, hz0, hz1, HZ1, HZ2, HP, hb⟩ := hrel
      by_cases hlt : k < g.length
      · have hks : k < s.length := by have := HSL.out; omega
        obtain ⟨bs, os, rfl, hsc⟩ := HS.out.bo hks
        have hbs : bs < w.heap.size := World.block_lt_of_cell? _ _ hsc
        have hscr : wr.cell? ⟨bs, os + k, none⟩ = some (.bool s[k]) := (hb.cell (p := ⟨bs, os + k, none⟩) hbs).trans hsc
        have hat := atB_at hks
        clear hsc
        rcases hsk : s[k] with _ | _
        · rw [hsk] at hscr hat
          have HA := Lib.hid hat
          have HR := Lib.hid (CR.out wr k hb hlt)
          have hszr := hb.size
          have HRA := Lib.hid (fun x (hx : x < g.length) => reachL_at (s := s) (v := k) hx)
          have HRL := Lib.hid (reachL_length g s k)
          clear hsk hat
          go_wp2_with fail
          refine HR.out.mono ?_
          rintro e w3 ⟨u, rfl, own3, hb3⟩
          obtain ⟨Au, cu, rfl, hu⟩ := own_is own3
          have HU := Lib.hid hu
          have hb13 := hb.trans (hb3.mono hszr)
          have hscr3 := (hb3.cell (p := ⟨bs, os + k, none⟩) (by show bs < wr.heap.size; omega)).trans hscr
          clear own3 hu hb3 HR hb hscr hscr3
          generalize reachL g s k = R at *
          go_wp2
          go_loop [10] (fun i => ∃ (j : Nat), i = .int .i64 j ∧ j ≤ g.length ∧ Hid (∀ x, x < j → atB s x = false → PathG g s k x)) (fun i => g.length - (intOf i).toNat)
          case atStart => exact ⟨0, rfl, Nat.zero_le _, Lib.hid (fun x hx => by omega)⟩
          case round =>
            obtain ⟨j, rfl, hj, HJ⟩ := hrel
            by_cases hjt : j < g.length
            · have hjs : j < s.length := by have := HSL.out; omega
              have hjR : j < R.length := by have := HRL.out; omega
              obtain ⟨b2, o2, hBeq, es⟩ := HS.out.bo hjs
              injection hBeq with hBeq
              injection hBeq with hB1 hB2
              subst hB1 hB2
              have es3 : w3.cell? ⟨bs, os + j, none⟩ = some (.bool s[j]) := (hb13.cell (p := ⟨bs, os + j, none⟩) hbs).trans es
              obtain ⟨bu, ou, rfl, eu⟩ := HU.out.bo hjR
              have h1 := atB_at hjs
              have h2 := atB_at hjR
              have h3 := HRA.out j hjt
              rw [h2] at h3
              have H3 := Lib.hid h3
              have H1 := Lib.hid h1
              clear es h1 h2 h3
              have hcase : s[j] = true ∨ s[j] = false ∧ R[j] = true ∨ s[j] = false ∧ R[j] = false := by rcases s[j] with _ | _ <;> rcases R[j] with _ | _ <;> simp
              rcases hcase with q1 | ⟨q1, q2⟩ | ⟨q1, q2⟩
              · rw [q1] at es3 H1
                have HJ2 : Hid (∀ x, x < j + 1 → atB s x = false → PathG g s k x) := Lib.hid (fun x hx hs => by
                  rcases Nat.lt_succ_iff_lt_or_eq.1 hx with h | rfl
                  · exact HJ.out x h hs
                  · rw [H1.out] at hs; cases hs)
                clear q1 H3 H1
                go_wp2
                go_round
                case rel => exact ⟨j + 1, by go_num, by omega, HJ2⟩
                case measure => simp [intOf]; omega
              · rw [q1] at es3
                rw [q2] at eu H3
                have HJ2 : Hid (∀ x, x < j + 1 → atB s x = false → PathG g s k x) := Lib.hid (fun x hx hs => by
                  rcases Nat.lt_succ_iff_lt_or_eq.1 hx with h | rfl
                  · exact HJ.out x h hs
                  · exact H3.out.1 rfl)
                clear q1 q2 H3 H1
                go_wp2
                go_round
                case rel => exact ⟨j + 1, by go_num, by omega, HJ2⟩
                case measure => simp [intOf]; omega
              · rw [q1] at es3 H1
                rw [q2] at eu H3
                have HE := Lib.hid (HF.out (fun hm => by
                  have := H3.out.2 (hm.2 k j hlt hjt HA.out H1.out)
                  cases this))
                clear q1 q2 H3 H1
                go_wp2
                go_ret2
                exact ⟨by rw [HE.out]; rfl, hb13⟩
            · have HP2 : Hid (∀ u v, u < k + 1 → v < g.length → atB s u = false → atB s v = false → PathG g s u v) := Lib.hid (fun u v hu hv h1 h2 => by
                rcases Nat.lt_succ_iff_lt_or_eq.1 hu with h | rfl
                · exact HP.out u v h hv h1 h2
                · exact HJ.out v (by omega) h2)
              go_wp2
              go_roundw
              case rel => exact ⟨k + 1, z + 1, by go_num, by omega, rfl, by omega, by omega, Lib.hid (fun _ => ⟨k, by omega, HA.out⟩), Lib.hid (fun h => by omega), HP2, hb13⟩
              case measure => simp [intOf]; omega
        · rw [hsk] at hscr hat
          have HA := Lib.hid hat
          have HP2 : Hid (∀ u v, u < k + 1 → v < g.length → atB s u = false → atB s v = false → PathG g s u v) := Lib.hid (fun u v hu hv h1 h2 => by
            rcases Nat.lt_succ_iff_lt_or_eq.1 hu with h | rfl
            · exact HP.out u v h hv h1 h2
            · rw [HA.out] at h1; cases h1)
          have HZ1' : Hid (0 < z → ∃ v, v < k + 1 ∧ atB s v = false) := Lib.hid (fun h => by obtain ⟨v, h1, h2⟩ := HZ1.out h; exact ⟨v, by omega, h2⟩)
          have HZ2' : Hid (z = 0 → ∀ v, v < k + 1 → atB s v = true) := Lib.hid (fun h v hv => by
            rcases Nat.lt_succ_iff_lt_or_eq.1 hv with h' | rfl
            · exact HZ2.out h v h'
            · exact HA.out)
          clear hsk hat HZ1 HZ2 HP
          go_wp2
          go_roundw
          case rel => exact ⟨k + 1, z, by go_num, by omega, rfl, hz0, by omega, HZ1', HZ2', HP2, hb⟩
          case measure => simp [intOf]; omega
      · obtain rfl : k = g.length := by omega
        have hcase : decide (0 < z) = true ∨ decide (0 < z) = false := by rcases decide (0 < z) with _ | _ <;> simp
        rcases hcase with hd | hd
        · have HE := Lib.hid (HT.out ⟨by obtain ⟨v, h1, h2⟩ := HZ1.out (by simpa using hd); exact ⟨v, h1, h2⟩, fun u v hu hv h1 h2 => HP.out u v hu hv h1 h2⟩)
          clear HZ1 HZ2 HP
          go_wp2
          go_ret2
          exact ⟨by rw [HE.out]; rfl, hb⟩
        · have HE := Lib.hid (HF.out (fun hm => by
            obtain ⟨v, h1, h2⟩ := hm.1
            have h3 : z = 0 := by have h4 : ¬ 0 < z := by simpa using hd
                                  omega
            have := HZ2.out h3 v h1
            rw [h2] at this; cases this))
          clear HZ1 HZ2 HP
          go_wp2
          go_ret2
          exact ⟨by rw [HE.out]; rfl, hb⟩
  · have hcase : chkG g s.length = 19 ∨ chkG g s.length = 20 := by
      rcases chkG_cases g s.length with h | h | h
      · exact absurd h.1 h0
      · exact .inl h
      · exact .inr h
    have HE : Hid (mutB g s = false) := Lib.hid (mutB_no fun h => h0 h.1)
    clear hh hs hr h0
    rcases hcase with h | h
    all_goals
      rw [h] at CC ⊢
      clear h
      go_enter Try.func21, Try.ntmps21
      go_wp2_with fail
      refine CC.out.mono ?_
      rintro e w1 ⟨rfl, rfl⟩
      go_wp2
      go_ret2
      exact ⟨by rw [HE.out]; rfl, Below.refl _ _⟩
end Go.Proofs.Ytadcapeedjgeoaa
