/- PlaneArea of layer 8. -/
import Derived.Test.YtifnmfljlgaeoaaPlFacts
import Derived.Test.YtifnmfljlgaeoaaPlKnown
import Derived.Deep.RegionLaw
import Derived.Deep.RegionHeld3
import Derived.Deep.CutRange
import Derived.Deep.DeepCutAuto
import Derived.BigRegion
namespace Go.Proofs.Ytifnmfljlgaeoaa
open Go Go.RowKit Fl

/-- The areas that the law compares. -/
theorem areas {l : List BlockD} {q : Nat} (hq : 2 ≤ q) (hl : q < l.length) : polyZ (l.drop q ++ l.take q) = polyZ l ∧ polyZ l = polyZ (l.take (q + 1)) + polyZ ([atW l 0] ++ l.drop q) ∧ polyZ ((l.take q ++ [l[q]]) ++ l.drop q) = polyZ l := by
  have hd : l.drop q = l[q] :: l.drop (q + 1) := List.drop_eq_getElem_cons hl
  have ht : l.take (q + 1) = l.take q ++ [l[q]] := List.take_succ_eq_append_getElem hl
  have ha : l.take q ≠ [] := fun h => by have h1 := congrArg List.length h; simp only [List.length_take, List.length_nil] at h1; omega
  have hh : headB (l.take q) = atW l 0 := by
    rw [atW_get (by omega)]
    unfold headB
    match l, q, hq, hl with
    | [], _, _, h => simp at h
    | b :: l, q + 1, _, _ => rfl
  refine ⟨?_, ?_, ?_⟩
  · rw [poly_swap, List.take_append_drop]
  · have h1 := poly_cut (l.take q) (l.drop (q + 1)) l[q] ha
    rw [← hd, List.take_append_drop, hh] at h1
    rw [h1, ht, hd]
    rfl
  · have h1 := poly_twice (l.take q) (l.drop (q + 1)) l[q]
    rw [← hd, List.take_append_drop] at h1
    rw [← h1, hd, List.append_assoc]
    rfl
set_option maxRecDepth 100000 in
set_option maxHeartbeats 16000000 in
theorem planeArea_c (hA : DevAt) (hT : DevTurn) (hR : DevArea) (C : Option Addr) (k : Nat) (zs : List Int) (n cut : Int) (w : World) (hz : IntsAt w w.heap.size C zs) (hzl : zs.length ≤ maxLen) (hn : -9223372036854775808 ≤ n ∧ n ≤ 9223372036854775807) (hc : -9223372036854775808 ≤ cut ∧ cut ≤ 9223372036854775807) :
    Calls Try.prog 8 #[.slice C zs.length k, .int .i64 n, .int .i64 cut] w fun e w' => e = .returned (.bool true) ∧ Below w.heap.size w w' := by
  have CK := Lib.hid (known8_c hA hT hR w)
  have HZ := Lib.hid hz
  have HL := Lib.hid hzl
  have HAr := Lib.hid hR
  clear hA hT hR hz hzl
  go_enter Try.func8, Try.ntmps8
  go_wp2_with fail
  refine CK.out.mono ?_
  rintro e w1 ⟨rfl, hb1⟩
  have HB1 := Lib.hid hb1
  have CB := Lib.hid (fun m (hm : m ≤ 10) => blocksCap_c C k m zs w1 ((HZ.out.keep (Nat.le_refl _) hb1).more hb1.size) HL.out hm)
  clear hb1 CK HZ HL
  go_wp2_with fail
  refine (cut_c n 5 w1 (by decide) (by decide) hn.1 hn.2).mono ?_
  rintro e w1' ⟨m, hm, rfl, rfl⟩
  obtain ⟨p, hp⟩ : ∃ p : Nat, p = 4 + m := ⟨_, rfl⟩
  have hw0 : IntKind.i64.wrap (4 + (m : Int)) = (p : Int) := by rw [hp]; rw [show ((4 + m : Nat) : Int) = 4 + (m : Int) by omega]; exact wrap_in (by omega)
  have hp8 : 4 ≤ p ∧ p ≤ 8 := by omega
  have CBm := Lib.hid (CB.out p (by omega))
  clear CB hp hm
  go_wp2_with fail
  refine CBm.out.mono ?_
  rintro e w2 ⟨A, c, l, rfl, hml, hhl, hb2, hcap⟩
  have HB2 := Lib.hid (HB1.out.trans (hb2.mono HB1.out.size))
  have HM := Lib.hid hml
  have H2 := Lib.hid hhl
  clear hb2 HB1 CBm hml hhl hw0
  have hok : ∀ b ∈ l, okB b = true := fun b hb => (HM.out.2 b hb).1
  have hlp : l.length = p := HM.out.1
  have HOk := Lib.hid hok
  clear hok HM
  subst hlp
  have hw3 : IntKind.i64.wrap ((l.length : Int) - 3) = (l.length : Int) - 3 := wrap_in (by omega)
  go_wp2_with fail
  refine (cut_c cut ((l.length : Int) - 3) w2 (by omega) (by omega) hc.1 hc.2).mono ?_
  rintro e w2' ⟨r, hr, rfl, rfl⟩
  obtain ⟨q, hq⟩ : ∃ q : Nat, q = 2 + r := ⟨_, rfl⟩
  have hwq : IntKind.i64.wrap (2 + (r : Int)) = (q : Int) := by rw [hq]; rw [show ((2 + r : Nat) : Int) = 2 + (r : Int) by omega]; exact wrap_in (by omega)
  have hq2 : 2 ≤ q := by omega
  have hql : q + 2 ≤ l.length := by omega
  clear hq hr
  have hqlt : q < l.length := by omega
  have HAs := Lib.hid (areas hq2 hqlt)
  have HX := Lib.hid (fun (M : List BlockD) (h : ∀ b ∈ M, b ∈ l) (hlen : M.length ≤ 48) => okAll_way (l := M) (fun b hb => HOk.out b (h b hb)) hlen)
  have HBd := Lib.hid (fun (M : List BlockD) (h : ∀ b ∈ M, b ∈ l) (hlen : M.length ≤ 48) => area_small (l := M) (fun b hb => HOk.out b (h b hb)) hlen)
  have CR : Hid (∀ (A' : Option Addr) (c' : Nat) (M : List BlockD) (W : World), (∀ b ∈ M, b ∈ l) → M.length ≤ 48 → Holds W A' (blockCells M) → Calls Try.prog 15 #[.slice A' M.length c'] W fun e w' => e = .returned (.tuple #[.int .i64 (polyZ M), .int .i64 0]) ∧ Below W.heap.size W w') := Lib.hid (fun A' c' M W h hlen hh => by
    have h1 := HAr.out A' c' M W hh (by omega)
    rw [(HX.out M h hlen).1, (HX.out M h hlen).2.2] at h1
    exact h1)
  have C0 := Lib.hid (CR.out A c l w2 (fun b hb => hb) (by omega) H2.out)
  go_wp2_with fail
  with_reducible refine C0.out.mono ?_
  rintro e w3 ⟨rfl, hb3⟩
  have HB3 := Lib.hid (HB2.out.trans (hb3.mono HB2.out.size))
  have H3 := Lib.hid (H2.out.keep hb3)
  clear hb3 HB2 H2 C0 HAr
  obtain ⟨b, o, rfl, hbl, _⟩ := H3.out.block hqlt
  have hcq : ¬ c = q := by omega
  have hcq2 : ¬ q = c := by omega
  have hqc : q ≤ c := by omega
  have hqi : (q : Int) ≤ (l.length : Int) := by omega
  have hqci : (q : Int) ≤ (c : Int) := by omega
  have hlc : (l.length : Int) ≤ (c : Int) := by omega
  have hq0 : (0 : Int) ≤ (q : Int) := by omega
  have HD : Hid (∀ W, Below w3.heap.size w3 W → ArgB W (.slice (some ⟨b, o + q * 3, none⟩) (l.length - q) (c - q)) (l.drop q)) := Lib.hid (fun W hW => by
    have h := holds_arg (c := c - q) q (l.length - q) (by omega) (H3.out.keep hW)
    rwa [List.take_of_length_le (by rw [List.length_drop]; omega)] at h)
  have HT : Hid (∀ W, Below w3.heap.size w3 W → ArgB W (.slice (some ⟨b, o, none⟩) q c) (l.take q)) := Lib.hid (fun W hW => by
    have h := holds_arg (c := c) 0 q (by omega) (H3.out.keep hW)
    rwa [List.drop_zero, Nat.zero_mul, Nat.add_zero] at h)
  have HP : Hid (∀ W, Below w3.heap.size w3 W → Holds W (some ⟨b, o, none⟩) (blockCells (l.take (q + 1)))) := Lib.hid (fun W hW => holds_take (H3.out.keep hW) _)
  have HK : Hid (∀ W, Below w3.heap.size w3 W → BlockAt W b o (atW l 0) ∧ BlockAt W b (o + q * 3) l[q]) := Lib.hid (fun W hW => by
    obtain ⟨b1, o1, e1, _, h1⟩ := (H3.out.keep hW).block (k := 0) (by omega)
    obtain ⟨b2, o2, e2, _, h2⟩ := (H3.out.keep hW).block hqlt
    injection e1 with e1
    injection e1 with e1 f1
    injection e2 with e2
    injection e2 with e2 f2
    subst e1 f1 e2 f2
    rw [Nat.zero_mul, Nat.add_zero] at h1
    rw [atW_get (by omega)]
    exact ⟨h1, h2⟩)
  have CRn : Hid (∀ (A' : Option Addr) (c' : Nat) (M : List BlockD) (N : Nat) (W : World), M.length = N → (∀ b ∈ M, b ∈ l) → N ≤ 48 → Holds W A' (blockCells M) → Below w3.heap.size w3 W → Calls Try.prog 15 #[.slice A' N c'] W fun e w' => e = .returned (.tuple #[.int .i64 (polyZ M), .int .i64 0]) ∧ Below w3.heap.size w3 w') := Lib.hid (fun A' c' M N W hN hin hlen hh hW => by
    subst hN
    exact (CR.out A' c' M W hin hlen hh).mono (fun _ _ k => ⟨k.1, hW.trans (k.2.mono hW.size)⟩))
  have hDi : ∀ x ∈ l.drop q, x ∈ l := fun x hx => List.mem_of_mem_drop hx
  have hTi : ∀ x ∈ l.take q, x ∈ l := fun x hx => List.mem_of_mem_take hx
  have hPi : ∀ x ∈ l.take (q + 1), x ∈ l := fun x hx => List.mem_of_mem_take hx
  have hqi2 : l[q] ∈ l := List.getElem_mem hqlt
  have h0i : atW l 0 ∈ l := by rw [atW_get (by omega)]; exact List.getElem_mem _
  have hDl : (l.drop q).length = l.length - q := List.length_drop
  have hTl : (l.take q).length = q := by rw [List.length_take]; omega
  have hPl : (l.take (q + 1)).length = q + 1 := by rw [List.length_take]; omega
  obtain ⟨nD, hnD⟩ : ∃ n, n = l.length - q := ⟨_, rfl⟩
  have HF := Lib.hid (And.intro hDi (And.intro hTi (And.intro hPi (And.intro hqi2 (And.intro h0i (And.intro hDl (And.intro hTl (And.intro hPl hnD))))))))
  clear hDi hTi hPi hqi2 h0i hDl hTl hPl hnD CR HX
  generalize l.drop q = D at *
  generalize l.take q = T at *
  generalize l.take (q + 1) = P at *
  generalize atW l 0 = x0 at *
  generalize l[q] = xq at *
  have C6 := Lib.hid (fun (A' : Option Addr) (c' : Nat) W hh hW => CRn.out A' c' (D ++ T) l.length W (by rw [List.length_append, HF.out.2.2.2.2.2.1, HF.out.2.2.2.2.2.2.1]; omega) (fun b hb => (List.mem_append.1 hb).elim (HF.out.1 b) (HF.out.2.1 b)) (by omega) hh hW)
  rw [HAs.out.1] at C6
  have HZl := HBd.out l (fun _ h => h) (by omega)
  rw [(okAll_way HOk.out (by omega)).2.2] at HZl
  clear HBd
  generalize polyZ l = z at *
  go_wp2_with fail
  go_cut [11, 12] (fun p q wx => p = .int .i64 z ∧ q = .int .i64 0 ∧ Hid (Below w3.heap.size w3 wx))
  case first =>
    go_region_law (first | (refine step_more w3 _ (by rfl) _ _ (by rfl) (.slice none 0 0) [] (by rfl) (World.ownsRow_nil _ _ _ _) _ D (by rfl) (HD.out _ (by repeat (first | assumption | (with_reducible exact Below.refl _ _) | (with_reducible refine Below.drew ?_)))) (by rw [HF.out.2.2.2.2.2.1]; omega) nD (by rw [List.nil_append, HF.out.2.2.2.2.2.1]; exact HF.out.2.2.2.2.2.2.2.2.symm) (by have := HF.out.2.2.2.2.2.2.2.2; omega) (by repeat (first | assumption | (with_reducible exact Below.refl _ _) | (with_reducible refine Below.drew ?_))) ?_; intro X1 c1 wA hown1 hgrow1 hbA) | (refine step_more w3 _ (by rfl) _ _ (by rfl) (.slice X1 nD c1) ([] ++ D) (by rfl) hown1 _ T (by rfl) (HT.out _ (by repeat (first | assumption | (with_reducible exact Below.refl _ _) | (with_reducible refine Below.drew ?_)))) (by rw [HF.out.2.2.2.2.2.2.1]; omega) l.length (by rw [List.nil_append, List.length_append, HF.out.2.2.2.2.2.1, HF.out.2.2.2.2.2.2.1]; omega) (by omega) (by repeat (first | assumption | (with_reducible exact Below.refl _ _) | (with_reducible refine Below.drew ?_))) ?_; intro X2 c2 wB hown2 hgrow2 hbB; rw [List.nil_append] at hown2) | (go_simp; go_at_call 15; have hh6 := own_holdsB hown2; with_reducible refine (C6.out _ _ _ hh6 (by repeat (first | assumption | (with_reducible exact Below.refl _ _) | (with_reducible refine Below.drew ?_)))).mono ?_; rintro e w6 ⟨rfl, hb6⟩))
    all_goals
      go_wp2_with fail
      go_meet
      case rel => exact ⟨rfl, rfl, Lib.hid (by repeat (first | assumption | (with_reducible exact Below.refl _ _) | (with_reducible refine Below.drew ?_)))⟩
  case rest =>
    obtain ⟨rfl, rfl, HWc⟩ := hcut
    have C7 := Lib.hid (CRn.out (some ⟨b, o, none⟩) c P (q + 1) wc HF.out.2.2.2.2.2.2.2.1 HF.out.2.2.1 (by omega) (HP.out _ HWc.out) HWc.out)
    have hq1 : IntKind.i64.wrap ((q : Int) + 1) = ((q + 1 : Nat) : Int) := by
      rw [show ((q + 1 : Nat) : Int) = (q : Int) + 1 by omega]
      exact wrap_in (by omega)
    go_wp2_with fail
    with_reducible refine C7.out.mono ?_
    rintro e w7 ⟨rfl, hb7⟩
    have HW7 := Lib.hid hb7
    have hs7 : w3.heap.size ≤ w7.heap.size := hb7.size
    have hHK := HK.out w7 hb7
    have HS8 : Hid (∀ W, Below w3.heap.size w3 W → W.cell? ⟨b, o, none⟩ = some (Sv x0.name) ∧ W.cell? ⟨b, o + 1, none⟩ = some (.int .i64 x0.x) ∧ W.cell? ⟨b, o + 2, none⟩ = some (.int .i64 x0.y)) := Lib.hid (fun W hW => by obtain ⟨⟨h0, h1, h2⟩, _⟩ := HK.out W hW; exact ⟨h0, h1, h2⟩)
    have HS9 : Hid (∀ W, Below w3.heap.size w3 W → W.cell? ⟨b, o + q * 3, none⟩ = some (Sv xq.name) ∧ W.cell? ⟨b, o + q * 3 + 1, none⟩ = some (.int .i64 xq.x) ∧ W.cell? ⟨b, o + q * 3 + 2, none⟩ = some (.int .i64 xq.y)) := Lib.hid (fun W hW => by obtain ⟨_, ⟨h0, h1, h2⟩⟩ := HK.out W hW; exact ⟨h0, h1, h2⟩)
    obtain ⟨n8, hn8⟩ : ∃ n, n = 1 + (l.length - q) := ⟨_, rfl⟩
    have HN8 := Lib.hid hn8
    have C8 := Lib.hid (fun (A' : Option Addr) (c' : Nat) W hh hW => CRn.out A' c' ([x0] ++ D) n8 W (by rw [List.length_append, HF.out.2.2.2.2.2.1, HN8.out]; rfl) (fun b hb => (List.mem_append.1 hb).elim (fun h => by rw [List.mem_singleton.1 h]; exact HF.out.2.2.2.2.1) (HF.out.1 b)) (by omega) hh hW)
    have C9 := Lib.hid (fun (A' : Option Addr) (c' : Nat) W hh hW => CRn.out A' c' (T ++ [xq] ++ D) (l.length + 1) W (by simp only [List.length_append, HF.out.2.2.2.2.2.1, HF.out.2.2.2.2.2.2.1, List.length_singleton]; omega) (fun b hb => (List.mem_append.1 hb).elim (fun h => (List.mem_append.1 h).elim (HF.out.2.1 b) (fun h => by rw [List.mem_singleton.1 h]; exact HF.out.2.2.2.1)) (HF.out.1 b)) (by omega) hh hW)
    rw [HAs.out.2.2] at C9
    have HSum := Lib.hid HAs.out.2.1
    clear hb7 CRn C7 hHK HK HAs C6 hn8
    generalize polyZ P = zp at *
    generalize polyZ ([x0] ++ D) = zd at *
    obtain ⟨b0, b1, b2⟩ := HS8.out w7 HW7.out
    have hl0 : 0 < l.length := by omega
    have hl1 : (0 : Int) < (l.length : Int) := by omega
    have hqlti : (q : Int) < (l.length : Int) := by omega
    go_wp2_with fail
    go_cut [15, 16] (fun p q wx => p = .int .i64 zd ∧ q = .int .i64 0 ∧ Hid (Below w3.heap.size w3 wx))
    case first =>
      have hb7 := HW7.out
      go_region_held3 (fun W => W.cell? ⟨b, o, none⟩ = some (Sv x0.name) ∧ W.cell? ⟨b, o + 1, none⟩ = some (.int .i64 x0.x) ∧ W.cell? ⟨b, o + 2, none⟩ = some (.int .i64 x0.y)) (first | exact HS8.out _ (by repeat (first | assumption | (with_reducible exact Below.refl _ _) | (with_reducible refine Below.drew ?_) | (refine Below.alloc ?_ (by first | assumption | omega | (simp; omega)) _)))) (first | (refine step_more w3 _ (by rfl) _ _ (by rfl) _ [x0] (by rfl) (own_litB (box_new _ x0) (by first | assumption | omega | (simp; omega))) _ D (by rfl) (HD.out _ (by repeat (first | assumption | (with_reducible exact Below.refl _ _) | (with_reducible refine Below.drew ?_) | (refine Below.alloc ?_ (by first | assumption | omega | (simp; omega)) _)))) (by rw [HF.out.2.2.2.2.2.1]; omega) n8 (by rw [List.length_append, HF.out.2.2.2.2.2.1, HN8.out]; rfl) (by have := HN8.out; omega) (by repeat (first | assumption | (with_reducible exact Below.refl _ _) | (with_reducible refine Below.drew ?_) | (refine Below.alloc ?_ (by first | assumption | omega | (simp; omega)) _))) ?_; intro X3 c3 wC hown3 hgrow3 hbC) | (go_simp; go_at_call 15; have hh8 := own_holdsB hown3; with_reducible refine (C8.out _ _ _ hh8 (by repeat (first | assumption | (with_reducible exact Below.refl _ _) | (with_reducible refine Below.drew ?_)))).mono ?_; rintro e w8 ⟨rfl, hb8⟩))
      all_goals
        go_wp2_with fail
        go_meet
        case rel => exact ⟨rfl, rfl, Lib.hid (by repeat (first | assumption | (with_reducible exact Below.refl _ _) | (with_reducible refine Below.drew ?_)))⟩
    case rest =>
      obtain ⟨rfl, rfl, HWd⟩ := hcut
      obtain ⟨wd, hwd⟩ : ∃ wd, wd = wc := ⟨_, rfl⟩
      have hsd : w3.heap.size ≤ wc.heap.size := HWd.out.size
      obtain ⟨d0, d1, d2⟩ := HS9.out wc HWd.out
      have hql1 : IntKind.i64.wrap (zp + zd) = z := by rw [← HSum.out]; exact wrap_in (by omega)
      clear hwd b0 b1 b2 HW7 hs7 HWc HS8 C8 HN8
      go_wp2_with fail
      go_cut [17, 18] (fun p q wx => p = .int .i64 z ∧ q = .int .i64 0 ∧ Hid (Below w3.heap.size w3 wx))
      case first =>
        have hbd := HWd.out
        go_region_held3 (fun W => W.cell? ⟨b, o + q * 3, none⟩ = some (Sv xq.name) ∧ W.cell? ⟨b, o + q * 3 + 1, none⟩ = some (.int .i64 xq.x) ∧ W.cell? ⟨b, o + q * 3 + 2, none⟩ = some (.int .i64 xq.y)) (first | exact HS9.out _ (by repeat (first | assumption | (with_reducible exact Below.refl _ _) | (with_reducible refine Below.drew ?_) | (refine Below.alloc ?_ (by first | assumption | omega | (simp; omega)) _)))) (first | (refine step_more w3 _ (by rfl) _ _ (by rfl) (.slice none 0 0) [] (by rfl) (World.ownsRow_nil _ _ _ _) _ T (by rfl) (HT.out _ (by repeat (first | assumption | (with_reducible exact Below.refl _ _) | (with_reducible refine Below.drew ?_) | (refine Below.alloc ?_ (by first | assumption | omega | (simp; omega)) _)))) (by rw [HF.out.2.2.2.2.2.2.1]; omega) q (by rw [List.nil_append, HF.out.2.2.2.2.2.2.1]) (by omega) (by repeat (first | assumption | (with_reducible exact Below.refl _ _) | (with_reducible refine Below.drew ?_) | (refine Below.alloc ?_ (by first | assumption | omega | (simp; omega)) _))) ?_; intro X1 c1 wA hown1 hgrow1 hbA; rw [List.nil_append] at hown1; have hsA : w3.heap.size ≤ wA.heap.size := hbA.size) | (refine step_more w3 _ (by rfl) _ _ (by rfl) (.slice X1 q c1) T (by rfl) (by first | exact hown1 | exact hown1.alloc _) _ [xq] (by rfl) (own_arg (own_litB (box_new _ xq) (by first | assumption | omega | (simp; omega)))) Nat.zero_lt_one (q + 1) (by simp only [List.length_append, HF.out.2.2.2.2.2.2.1, List.length_singleton]) (by omega) (by repeat (first | assumption | (with_reducible exact Below.refl _ _) | (with_reducible refine Below.drew ?_) | (refine Below.alloc ?_ (by first | assumption | omega | (simp; omega)) _))) ?_; intro X2 c2 wB hown2 hgrow2 hbB; have hsB : w3.heap.size ≤ wB.heap.size := hbB.size) | (refine step_more w3 _ (by rfl) _ _ (by rfl) (.slice X1 q c1) T (by rfl) (by first | exact hown1 | exact hown1.alloc _) _ [xq] (by rfl) (own_arg (lit_kept hgrow1 (by first | exact box_new _ xq | exact box_drew (box_new _ xq) | exact box_drew (box_drew (box_new _ xq))) (by first | assumption | omega | (simp; omega)))) Nat.zero_lt_one (q + 1) (by simp only [List.length_append, HF.out.2.2.2.2.2.2.1, List.length_singleton]) (by omega) (by repeat (first | assumption | (with_reducible exact Below.refl _ _) | (with_reducible refine Below.drew ?_) | (refine Below.alloc ?_ (by first | assumption | omega | (simp; omega)) _))) ?_; intro X2 c2 wB hown2 hgrow2 hbB; have hsB : w3.heap.size ≤ wB.heap.size := hbB.size) | (refine step_more w3 _ (by rfl) _ _ (by rfl) (.slice X2 (q + 1) c2) (T ++ [xq]) (by rfl) hown2 _ D (by rfl) (HD.out _ (by repeat (first | assumption | (with_reducible exact Below.refl _ _) | (with_reducible refine Below.drew ?_) | (refine Below.alloc ?_ (by first | assumption | omega | (simp; omega)) _)))) (by rw [HF.out.2.2.2.2.2.1]; omega) (l.length + 1) (by simp only [List.length_append, HF.out.2.2.2.2.2.1, HF.out.2.2.2.2.2.2.1, List.length_singleton]; omega) (by omega) (by repeat (first | assumption | (with_reducible exact Below.refl _ _) | (with_reducible refine Below.drew ?_) | (refine Below.alloc ?_ (by first | assumption | omega | (simp; omega)) _))) ?_; intro X3 c3 wC hown3 hgrow3 hbC) | (go_simp; go_at_call 15; have hh9 := own_holdsB hown3; with_reducible refine (C9.out _ _ _ hh9 (by repeat (first | assumption | (with_reducible exact Below.refl _ _) | (with_reducible refine Below.drew ?_)))).mono ?_; rintro e w9 ⟨rfl, hb9⟩))
        all_goals
          go_wp2_with fail
          go_meet
          case rel => exact ⟨rfl, rfl, Lib.hid (by repeat (first | assumption | (with_reducible exact Below.refl _ _) | (with_reducible refine Below.drew ?_)))⟩
      case rest =>
        obtain ⟨rfl, rfl, HWe⟩ := hcut
        have HWE := Lib.hid (HB3.out.trans (HWe.out.mono HB3.out.size))
        go_wp2
        go_ret
        exact ⟨rfl, HWE.out⟩
end Go.Proofs.Ytifnmfljlgaeoaa
