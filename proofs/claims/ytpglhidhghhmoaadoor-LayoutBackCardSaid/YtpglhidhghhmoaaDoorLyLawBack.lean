/- LayoutBack returns true: valid declarations are read back from their lines. -/
import Derived.Test.YtpglhidhghhmoaaDoorLyLawFirst
import Derived.Test.YtpglhidhghhmoaaDoorLyBackSpec
import Derived.Test.YtpglhidhghhmoaaDoorLySameDecls
namespace Go.Proofs.YtpglhidhghhmoaaDoor
open Go.RowKit Fl
attribute [local go_sem] bget

theorem wordText_len (w : Int) : (wordText w).length ≤ 7 := by
  unfold wordText
  repeat' split
  all_goals decide
theorem lineOf_short {d : DeclD} (h : FmtOk d) (h2 : d.names.length ≤ 1000 ∧ d.nums.length ≤ 4) : (lineOf d).2.length ≤ 2000 ∧ ∀ f ∈ (lineOf d).2, f.length ≤ 30 := by
  constructor
  · unfold lineOf; simp; omega
  · intro f hf
    unfold lineOf at hf
    simp only [List.cons_append, List.mem_cons, List.mem_append] at hf
    rcases hf with rfl | hf | hf
    · have := wordText_len (wordN d.word); omega
    · have := h.short f hf; omega
    · obtain ⟨z, _, rfl⟩ := List.mem_map.1 hf
      have := dec_length z; omega
set_option maxRecDepth 100000 in
set_option maxHeartbeats 4000000 in
theorem layoutBack_c (A1 : Option Addr) (c1 : Nat) (z1 : List Int) (w : World) (hz1 : IntsAt w w.heap.size A1 z1) (hl1 : z1.length ≤ maxLen) (hg : Shapes w) (hp : Pows w) :
    Calls Tryd.prog 5 #[.slice A1 z1.length c1] w fun e w' => e = .returned (.bool true) ∧ Below w.heap.size w w' := by
  have C := Lib.hid (known2_c w hg)
  have HG := Lib.hid hg
  have HP := Lib.hid hp
  have HZ1 := Lib.hid hz1
  have HL1 := Lib.hid hl1
  obtain ⟨hm1, hs1⟩ := madeF_short z1
  have HS1 := Lib.hid hs1
  clear hg hp hz1 hl1 hs1
  go_enter Tryd.func5, Tryd.ntmps5
  go_wp2_with fail
  refine C.out.mono ?_
  rintro e w1 ⟨rfl, hb1⟩
  go_wp2_with fail
  refine (lyLines_c A1 c1 z1 w1 ((HZ1.out.keep (Nat.le_refl _) hb1).more hb1.size) HL1.out).mono ?_
  rintro e w2 ⟨v, rfl, hO2, hb2⟩
  obtain ⟨A3, c3, rfl⟩ : ∃ A c, v = .slice A (madeF z1).length c := by obtain ⟨_, _, hown, _⟩ := hO2; exact own_slice hown
  have hb12 := below_later hb1 hb2
  have CP1 := Lib.hid (parse_made (HG.out.keep hb12) hO2 (by omega) HS1.out)
  clear hO2 hb1 hb2 C
  rcases hR : parseT ((madeF z1).map toI) with ⟨n, k⟩ | ds
  · have hne : ((k : Int) != 0) = true := by have := parseA_errs _ _ _ _ hR; rw [bne_iff_ne]; omega
    rw [hR] at CP1
    clear hR
    go_wp2_with fail
    refine CP1.out.mono ?_
    rintro e w3 ⟨hb3, rfl⟩
    have HB3 := Lib.hid (below_later hb12 hb3)
    clear CP1 hb3 hb12
    go_wp2
    go_ret
    exact ⟨rfl, HB3.out⟩
  · obtain ⟨hback, hlen, hfok, hsz⟩ := parseT_back hR (fun x hx => by
      obtain ⟨y, hy, rfl⟩ := List.mem_map.1 hx
      have := (HS1.out y hy).1
      show y.2.length ≤ _
      omega)
    have hdl : ds.length ≤ 5 := by rw [hlen]; simp; omega
    have HBack := Lib.hid hback
    have HFok := Lib.hid hfok
    have HSz := Lib.hid hsz
    rw [hR] at CP1
    clear hR hback hlen hfok hsz
    go_wp2_with fail
    refine CP1.out.mono ?_
    rintro e w3 ⟨hb3, v3, rfl, hd3⟩
    obtain ⟨AD, cD, rfl, hD3⟩ := hd3.at_
    have hb13 := below_later hb12 hb3
    have CF := Lib.hid (format_c AD cD ds w3 (HG.out.keep hb13) (HP.out.keep hb13) hD3 (by omega) HFok.out)
    have HD3 := Lib.hid hD3
    clear CP1 hb3 hb12 hd3 hD3
    go_wp2_with fail
    refine CF.out.mono ?_
    rintro e w4 ⟨hb4, v4, rfl, hL4⟩
    obtain ⟨AX, cX, rfl⟩ : ∃ A c, v4 = .slice A (ds.map lineOf).length c := by obtain ⟨_, _, hown, _⟩ := hL4; exact own_slice hown
    have hb14 := below_later hb13 hb4
    have CP2 := Lib.hid (parse_c AX cX (ds.map lineOf) w4 (HG.out.keep hb14) hL4.raw (by simp; omega) (fun x hx => by
      obtain ⟨d, hd, rfl⟩ := List.mem_map.1 hx
      have := (lineOf_short (HFok.out d hd) (HSz.out d hd)).1; omega) (fun x hx f hf => by
      obtain ⟨d, hd, rfl⟩ := List.mem_map.1 hx
      have := (lineOf_short (HFok.out d hd) (HSz.out d hd)).2 f hf; omega))
    rw [HBack.out] at CP2
    have HD4 := Lib.hid (HD3.out.keep hb4)
    have hlm : (ds.map lineOf).length = ds.length := by simp
    rw [hlm] at CP2 ⊢
    clear CF hb4 hb13 hL4 HD3 hlm
    go_wp2_with fail
    refine CP2.out.mono ?_
    rintro e w5 ⟨hb5, v5, rfl, hd5⟩
    obtain ⟨AY, cY, rfl, hD5⟩ := hd5.at_
    have hb15 := below_later hb14 hb5
    have HD5 := Lib.hid (HD4.out.keep hb5)
    have CS := Lib.hid (sameDecls_eq AD AY cD cY ds w5 (HD4.out.keep hb5) hD5 (by omega) (fun d hd => by have := (HSz.out d hd).1; omega) (fun d hd => by have := (HSz.out d hd).2; omega))
    clear CP2 hb5 hb14 hd5 hD5 HD4
    go_wp2_with fail
    refine CS.out.mono ?_
    rintro e w6 ⟨rfl, n6, rfl⟩
    have hb16 : Below w.heap.size w (w5.drewN n6) := below_drewN hb15 n6
    have HD6 := Lib.hid (HD5.out.keep (below_drewN (Below.refl _ w5) n6))
    clear CS HD5 hb15
    generalize w5.drewN n6 = w6 at *
    go_wp2
    go_loopw [11] (fun i wr => ∃ k : Nat, i = .int .i64 k ∧ k ≤ ds.length ∧ Below w.heap.size w wr ∧ Below w6.heap.size w6 wr) (fun i _ => ds.length - (intOf i).toNat)
    case atStart => exact ⟨0, rfl, Nat.zero_le _, hb16, Below.refl _ _⟩
    case round =>
      clear hb16
      obtain ⟨k, rfl, hk, hbw, hb6⟩ := hrel
      by_cases hlt : k < ds.length
      · obtain ⟨b, o, P1, q1, P2, q2, rfl, e0, e1, e2, e3, g1, g2⟩ := (HD6.out.keep hb6).one hlt
        have hF := HFok.out ds[k] (List.getElem_mem hlt)
        have CV := Lib.hid (valid_c ds[k] P1 P2 q1 q2 wr (HG.out.keep hbw) g1 g2 (by have := hF.names; omega) (by have := hF.nums; omega) (fun f hf => by have := hF.short f hf; unfold maxLen; omega))
        rw [hF.valid] at CV
        clear g1 g2 hF
        generalize ds[k] = d at *
        obtain ⟨dw, dl, ns, xs⟩ := d
        simp only at e0 e1 e2 e3 CV
        go_wp2_with fail
        refine CV.out.mono ?_
        rintro e w7 ⟨rfl, hb7⟩
        have hbw7 := hbw.trans (hb7.mono hbw.size)
        have hb67 := hb6.trans (hb7.mono hb6.size)
        clear CV hb7 hbw hb6 e0 e1 e2 e3
        go_wp2
        go_roundw
        case rel => exact ⟨k + 1, by go_num, by omega, hbw7, hb67⟩
        case measure => simp [intOf]; omega
      · go_wp2
        go_ret
        exact ⟨rfl, hbw⟩
end Go.Proofs.YtpglhidhghhmoaaDoor
