/- girth's Through and Girth, for all graphs and marks. -/
import Derived.Test.YtkgnblnhfjjjmaaGdWalk
import Derived.Test.YtkgnblnhfjjjmaaRdRev
import Derived.Test.YtkgnblnhfjjjmaaRdWo
import Derived.Test.YtkgnblnhfjjjmaaCgBase
namespace Go.Proofs.Ytkgnblnhfjjjmaa
open Go Go.RowKit Fl

set_option maxRecDepth 100000 in
set_option maxHeartbeats 4000000 in
theorem both_c (A B : Option Addr) (c d n : Nat) (g : GraphD) (s : List Bool) (w : World) (hh : RowsAt w A g) (hs : Holds w B (s.map Bo)) (hg : validG g = true) (hsl : s.length = n) (hn : g.length = n) :
    Calls Try.prog 23 #[.slice A n c, .slice B n d] w fun e w' => ∃ A1 c1 A2 c2, e = .returned (.tuple #[.slice A1 n c1, .slice A2 n c2, .int .i64 0]) ∧ RowsAt w' A1 (woG g s) ∧ RowsAt w' A2 (revG (woG g s)) ∧ Below w.heap.size w w' := by
  have hsz := Sized.valid hg
  have h0 := chkG_ok (m := s.length) hg (by omega)
  have C1 := devWithout_c A B c d g s w hh hs hsz.1 hsz.2
  have hL : woL g s = woG g s := by unfold woL; rw [if_pos h0]
  rw [hL, h0, hsl, hn] at C1
  have hv := woG_valid (s := s) hg
  have hsv := Sized.valid hv
  have hwl : (woG g s).length = n := by rw [woG_length, hn]
  have C2 := fun (A1 : Option Addr) (c1 : Nat) (w1 : World) (h1 : RowsAt w1 A1 (woG g s)) => devReverse_c A1 c1 (woG g s) w1 h1 hsv.1 hsv.2
  have hR : revL (woG g s) = revG (woG g s) := by unfold revL; rw [if_pos hv]
  have hE : revE (woG g s) = 0 := by unfold revE; rw [if_pos hv]
  rw [hR, hE, hwl] at C2
  have CA := Lib.hid C1
  have CB := Lib.hid C2
  have HL1 := Lib.hid hwl
  have HL2 : Hid ((revG (woG g s)).length = n) := Lib.hid (by rw [revG_length, hwl])
  clear C1 C2 hh hs hg hsl hn hsz h0 hL hv hsv hR hE hwl
  generalize revG (woG g s) = R at *
  generalize woG g s = O at *
  go_enter Try.func23, Try.ntmps23
  go_wp2_with fail
  refine CA.out.mono ?_
  rintro e w1 ⟨u, rfl, own1, hb1⟩
  obtain ⟨A1, c1, rfl, r1⟩ := own1.at_
  rw [HL1.out]
  have H1 := Lib.hid r1
  have HB1 := Lib.hid hb1
  clear own1 r1 hb1 CA
  go_wp2_with fail
  refine (CB.out A1 c1 w1 H1.out).mono ?_
  rintro e w2 ⟨u, rfl, own2, hb2⟩
  obtain ⟨A2, c2, rfl, r2⟩ := own2.at_
  rw [HL2.out]
  have H2 := Lib.hid r2
  have H12 := Lib.hid (H1.out.keep hb2)
  have HB2 := Lib.hid (HB1.out.trans (hb2.mono HB1.out.size))
  clear own2 r2 hb2 CB H1 HB1
  go_wp2
  go_ret3
  exact ⟨_, _, _, _, rfl, H12.out, H2.out, HB2.out⟩
set_option maxRecDepth 100000 in
set_option maxHeartbeats 4000000 in
theorem bothE_c (A B : Option Addr) (c d : Nat) (g : GraphD) (s : List Bool) (w : World) (hh : RowsAt w A g) (hs : Holds w B (s.map Bo)) (hz : Sized g) (h0 : chkG g s.length ≠ 0) :
    Calls Try.prog 23 #[.slice A g.length c, .slice B s.length d] w fun e w' => e = .returned (.tuple #[.slice none 0 0, .slice none 0 0, .int .i64 (chkG g s.length)]) ∧ Below w.heap.size w w' := by
  have C1 := devWithout_c A B c d g s w hh hs hz.1 hz.2
  have CA := Lib.hid C1
  have hcase : chkG g s.length = 19 ∨ chkG g s.length = 20 := by
    rcases chkG_cases g s.length with h | h | h
    · exact absurd h.1 h0
    · exact .inl h
    · exact .inr h
  clear C1 hh hs hz h0
  rcases hcase with h | h
  all_goals
    rw [h] at CA ⊢
    clear h
    go_enter Try.func23, Try.ntmps23
    go_wp2_with fail
    refine CA.out.mono ?_
    rintro e w1 ⟨u, rfl, own1, hb1⟩
    obtain ⟨A1, c1, rfl, _⟩ := own1.at_
    have HB1 := Lib.hid hb1
    clear own1 hb1 CA
    go_wp2
    go_ret3
    exact ⟨rfl, HB1.out⟩
/-- The first shortest closed walk from a vertex. -/
theorem firstW_c (A B : Option Addr) (c d n : Nat) (g : GraphD) (s : List Bool) (v : Nat) (w : World) (ha : RowsAt w A (woG g s)) (hb : RowsAt w B (revG (woG g s))) (hg : validG g = true) (hn : g.length = n) (hv : v < n) :
    Calls Try.prog 24 #[.slice A n c, .slice B n d, .int .i64 v] w fun e w' => ∃ u, e = .returned u ∧ w'.ownsRow w.heap.size 3 1 u (thrF g s v).length ((thrF g s v).map Iv) ∧ Below w.heap.size w w' := by
  have hvg : v < g.length := by omega
  have h := walk_c A B c d (woG g s) (thrF g s v) v w ha hb (woG_valid hg) (by rw [woG_length]; exact hvg) (thrF_short hg hvg) (fun M hM h0 => thr_none hg hvg hM h0) (fun M F hM h0 => thr_walk hg hvg hM h0)
  rw [woG_length, hn] at h
  exact h
set_option maxRecDepth 100000 in
set_option maxHeartbeats 4000000 in
theorem devThrough_c (A B : Option Addr) (c d : Nat) (g : GraphD) (s : List Bool) (v : Int) (w : World) (hh : RowsAt w A g) (hs : Holds w B (s.map Bo)) (hz : Sized g) :
    Calls Try.prog 14 #[.slice A g.length c, .slice B s.length d, .int .i64 v] w (WalkPost w (thrL g s v) (fromE g s.length v)) := by
  by_cases h0 : chkG g s.length = 0
  · have hv : validG g = true ∧ s.length = g.length := by
      rcases chkG_cases g s.length with h | h | h
      · exact h.2
      · omega
      · omega
    have hl24 := validG_len hv.1
    have CC := Lib.hid (both_c A B c d g.length g s w hh hs hv.1 hv.2 rfl)
    have HG := Lib.hid hv.1
    have hsl := hv.2
    by_cases hin : 0 ≤ v ∧ v < g.length
    · obtain ⟨vn, rfl⟩ := Int.eq_ofNat_of_zero_le hin.1
      have hvn : vn < g.length := by omega
      have he : fromE g s.length (vn : Int) = 0 := by unfold fromE; rw [if_pos h0, if_pos hin]
      have CF := Lib.hid (fun (A1 A2 : Option Addr) (c1 c2 : Nat) (w1 : World) (h1 : RowsAt w1 A1 (woG g s)) (h2 : RowsAt w1 A2 (revG (woG g s))) => firstW_c A1 A2 c1 c2 g.length g s vn w1 h1 h2 hv.1 rfl hvn)
      have HL : Hid (thrL g s (vn : Int) = thrF g s vn) := Lib.hid (by unfold thrL; rw [if_pos he, Int.toNat_natCast])
      have hsh := thrF_short (s := s) hv.1 hvn
      rw [he, hsl]
      clear hh hs he h0 hv hin hz hsl
      generalize thrF g s vn = T at *
      go_enter Try.func14, Try.ntmps14
      go_wp2_with fail
      refine CC.out.mono ?_
      rintro e w1 ⟨A1, c1, A2, c2, rfl, r1, r2, hb1⟩
      have HB1 := Lib.hid hb1
      have C2 := Lib.hid (CF.out A1 A2 c1 c2 w1 r1 r2)
      clear r1 r2 hb1 CC CF
      go_wp2_with fail
      refine C2.out.mono ?_
      rintro e w2 ⟨u, rfl, own2, hb2⟩
      obtain ⟨Au, cu, rfl, _⟩ := own_is own2
      have HO := Lib.hid (ownsRow_base own2 HB1.out.size)
      have HB := Lib.hid (HB1.out.trans (hb2.mono HB1.out.size))
      clear own2 hb2 C2 HB1
      go_wp2
      go_ret3
      exact ⟨_, by rw [HL.out]; rfl, by rw [HL.out]; exact HO.out, HB.out⟩
    · have he : fromE g s.length v = 19 := by unfold fromE; rw [if_pos h0, if_neg hin]
      have HL : Hid (thrL g s v = []) := Lib.hid (by unfold thrL; rw [if_neg (by rw [he]; decide)])
      have hcase : decide (v < 0) = true ∨ decide (v < 0) = false ∧ decide ((g.length : Int) ≤ v) = true := by simp only [decide_eq_true_eq, decide_eq_false_iff_not]; omega
      rw [he, hsl]
      clear hh hs he h0 hv hin hz hsl
      rcases hcase with h1 | ⟨h1, h2⟩
      all_goals
        go_enter Try.func14, Try.ntmps14
        go_wp2_with fail
        refine CC.out.mono ?_
        rintro e w1 ⟨A1, c1, A2, c2, rfl, r1, r2, hb1⟩
        have HB1 := Lib.hid hb1
        clear r1 r2 hb1 CC
        go_wp2
        go_ret3
        exact ⟨_, by rw [HL.out]; rfl, by rw [HL.out]; exact World.ownsRow_nil _ _ _ _, HB1.out⟩
  · have CE := Lib.hid (bothE_c A B c d g s w hh hs hz h0)
    have he : fromE g s.length v = chkG g s.length := by unfold fromE; rw [if_neg h0]
    have HL : Hid (thrL g s v = []) := Lib.hid (by unfold thrL; rw [if_neg (by rw [he]; exact h0)])
    have hcase : chkG g s.length = 19 ∨ chkG g s.length = 20 := by
      rcases chkG_cases g s.length with h | h | h
      · exact absurd h.1 h0
      · exact .inl h
      · exact .inr h
    rw [he]
    clear hh hs hz he h0
    rcases hcase with h | h
    all_goals
      rw [h] at CE ⊢
      clear h
      go_enter Try.func14, Try.ntmps14
      go_wp2_with fail
      refine CE.out.mono ?_
      rintro e w1 ⟨rfl, hb1⟩
      have HB1 := Lib.hid hb1
      clear hb1 CE
      go_wp2
      go_ret3
      exact ⟨_, by rw [HL.out]; rfl, by rw [HL.out]; exact World.ownsRow_nil _ _ _ _, HB1.out⟩
set_option maxRecDepth 100000 in
set_option maxHeartbeats 4000000 in
theorem devGirth_c (A B : Option Addr) (c d : Nat) (g : GraphD) (s : List Bool) (w : World) (hh : RowsAt w A g) (hs : Holds w B (s.map Bo)) (hz : Sized g) :
    Calls Try.prog 12 #[.slice A g.length c, .slice B s.length d] w (WalkPost w (girL g s) (chkG g s.length)) := by
  by_cases h0 : chkG g s.length = 0
  · have hv : validG g = true ∧ s.length = g.length := by
      rcases chkG_cases g s.length with h | h | h
      · exact h.2
      · omega
      · omega
    have hl24 := validG_len hv.1
    have CC := Lib.hid (both_c A B c d g.length g s w hh hs hv.1 hv.2 rfl)
    have hsl := hv.2
    have CF := Lib.hid (fun (A1 A2 : Option Addr) (c1 c2 : Nat) (w1 : World) (h1 : RowsAt w1 A1 (woG g s)) (h2 : RowsAt w1 A2 (revG (woG g s))) (v : Nat) (hvn : v < g.length) => firstW_c A1 A2 c1 c2 g.length g s v w1 h1 h2 hv.1 rfl hvn)
    have HSh := Lib.hid (fun k hk => girK_short (s := s) hv.1 k hk)
    have HTh := Lib.hid (fun v hvv => thrF_short (s := s) (v := v) hv.1 hvv)
    have HF : Hid (girL g s = girK g s g.length) := Lib.hid (by unfold girL; rw [if_pos h0]; rfl)
    rw [h0, hsl]
    clear hh hs hz hsl h0 hv
    generalize girL g s = res at *
    go_enter Try.func12, Try.ntmps12
    go_wp2_with fail
    refine CC.out.mono ?_
    rintro e w1 ⟨A1, c1, A2, c2, rfl, r1, r2, hb1⟩
    have R1 := Lib.hid r1
    have R2 := Lib.hid r2
    have HB1 := Lib.hid hb1
    clear r1 r2 hb1 CC
    go_wp2
    go_loopw [10, 25] (fun u i wr => ∃ (k : Nat), i = .int .i64 k ∧ k ≤ g.length ∧ Hid (wr.ownsRow w.heap.size 3 1 u (girK g s k).length ((girK g s k).map Iv)) ∧ Hid (Below w1.heap.size w1 wr)) (fun _ i _ => g.length - (intOf i).toNat)
    case atStart => exact ⟨0, rfl, Nat.zero_le _, Lib.hid (World.ownsRow_nil _ _ _ _), Lib.hid (Below.refl _ _)⟩
    case round =>
      obtain ⟨k, rfl, hk, HO, HB⟩ := hrel
      have hbl := HSh.out k hk
      by_cases hlt : k < g.length
      · have HS := Lib.hid (girK_succ g s k)
        have htl := HTh.out k hlt
        have HC := Lib.hid (CF.out A1 A2 c1 c2 wr (R1.out.keep HB.out) (R2.out.keep HB.out) k hlt)
        have hsz := HB.out.size
        have hsz1 := HB1.out.size
        generalize thrF g s k = t at *
        generalize hbo : girK g s k = bo at *
        clear hbo
        obtain ⟨AB, cB, rfl, _⟩ := own_is HO.out
        go_wp2_with fail
        refine HC.out.mono ?_
        rintro e w2 ⟨vt, rfl, ownT, hb2⟩
        obtain ⟨AT, cT, rfl, _⟩ := own_is ownT
        have HT := Lib.hid ownT
        have HB2 := Lib.hid (HB.out.trans (hb2.mono hsz))
        have HO2 := Lib.hid (ownsRow_below HO.out hb2)
        clear HC ownT hb2 HO HB
        by_cases hsel : 0 < t.length ∧ (bo.length = 0 ∨ t.length < bo.length)
        · rw [if_pos hsel] at HS
          have HT2 := Lib.hid (ownsRow_base HT.out (Nat.le_trans hsz1 hsz))
          have hcase : decide (0 < t.length) = true ∧ (((bo.length : Int) == 0) = true ∨ ((bo.length : Int) == 0) = false ∧ decide (t.length < bo.length) = true) := by
            refine ⟨by simpa using hsel.1, ?_⟩
            rcases Nat.eq_zero_or_pos bo.length with h | h
            · left; rw [h]; rfl
            · right; exact ⟨by rw [beq_eq_false_iff_ne]; omega, by have := hsel.2; simp; omega⟩
          obtain ⟨hd1, hd2⟩ := hcase
          have hpos := hsel.1
          clear hsel
          rcases hd2 with hd2 | ⟨hd2, hd3⟩
          all_goals
            go_wp2
            go_roundw
            case rel => exact ⟨k + 1, by go_num, by omega, Lib.hid (by rw [HS.out]; exact HT2.out), HB2⟩
            case measure => simp [intOf]; omega
        · rw [if_neg hsel] at HS
          have hcase : decide (0 < t.length) = false ∨ decide (0 < t.length) = true ∧ ((bo.length : Int) == 0) = false ∧ decide (t.length < bo.length) = false := by
            rcases Nat.eq_zero_or_pos t.length with h | h
            · left; rw [decide_eq_false_iff_not]; omega
            · right; exact ⟨by simpa using h, by rw [beq_eq_false_iff_ne]; intro e; exact hsel ⟨h, .inl (by omega)⟩, by simp; rcases Nat.lt_or_ge t.length bo.length with h2 | h2; exact absurd ⟨h, .inr h2⟩ hsel; exact h2⟩
          clear hsel
          rcases hcase with hd1 | ⟨hd1, hd2, hd3⟩
          all_goals
            go_wp2
            go_roundw
            case rel => exact ⟨k + 1, by go_num, by omega, Lib.hid (by rw [HS.out]; exact HO2.out), HB2⟩
            case measure => simp [intOf]; omega
      · obtain rfl : k = g.length := by omega
        rw [← HF.out] at HO hbl
        obtain ⟨AB, cB, rfl, _⟩ := own_is HO.out
        have HB3 := Lib.hid (HB1.out.trans (HB.out.mono HB1.out.size))
        go_wp2
        go_ret3
        exact ⟨_, rfl, HO.out, HB3.out⟩
  · have CE := Lib.hid (bothE_c A B c d g s w hh hs hz h0)
    have HL : Hid (girL g s = []) := Lib.hid (by unfold girL; rw [if_neg h0])
    have hcase : chkG g s.length = 19 ∨ chkG g s.length = 20 := by
      rcases chkG_cases g s.length with h | h | h
      · exact absurd h.1 h0
      · exact .inl h
      · exact .inr h
    clear hh hs hz h0
    rcases hcase with h | h
    all_goals
      rw [h] at CE ⊢
      clear h
      go_enter Try.func12, Try.ntmps12
      go_wp2_with fail
      refine CE.out.mono ?_
      rintro e w1 ⟨rfl, hb1⟩
      have HB1 := Lib.hid hb1
      clear hb1 CE
      go_wp2
      go_ret3
      exact ⟨_, by rw [HL.out]; rfl, by rw [HL.out]; exact World.ownsRow_nil _ _ _ _, HB1.out⟩
theorem devGirth_k : DevGirth := fun A B c d g s w hh hs hz => (devGirth_c A B c d g s w hh hs hz).mono fun _ _ h => h.res
theorem devThrough_k : DevThrough := fun A B c d g s v w hh hs hz => (devThrough_c A B c d g s v w hh hs hz).mono fun _ _ h => h.res
end Go.Proofs.Ytkgnblnhfjjjmaa
