/- LayoutParses returns true: Parse returns what the reference returns. -/
import Derived.Test.YtpglhidhghhmoaaDoorLyRefParse
import Derived.Test.YtpglhidhghhmoaaDoorLyLawFirst
import Derived.Test.YtpglhidhghhmoaaDoorLyBackSpec
import Derived.Test.YtpglhidhghhmoaaDoorLySameDecls
namespace Go.Proofs.YtpglhidhghhmoaaDoor
open Go.RowKit Fl
attribute [local go_sem] bget

/-- Lines in memory, of sizes that a machine holds. -/
structure RawOk (w : World) (A : Option Addr) (L : List LineI) : Prop where
  raw : RawAt w A L
  len : L.length ≤ 1000000000
  fields : ∀ x ∈ L, x.2.length ≤ 1000000000
  strs : ∀ x ∈ L, ∀ f ∈ x.2, f.length ≤ 9223372036854775000
theorem RawOk.keep {w w' : World} {A : Option Addr} {L : List LineI} (h : RawOk w A L) (hb : Below w.heap.size w w') : RawOk w' A L := ⟨h.raw.keep hb, h.len, h.fields, h.strs⟩
theorem parsed_sizes {L : List LineI} {ds : List DeclD} (h : parseT L = .ok ds) {m : Nat} (hL : ∀ x ∈ L, x.2.length ≤ m) : ds.length = L.length ∧ ∀ d ∈ ds, d.names.length ≤ m ∧ d.nums.length ≤ 4 := by
  obtain ⟨es, h1, h2, h3⟩ := parseA_read L [] ds h
  simp at h1
  subst h1
  refine ⟨h2, fun d hd => ?_⟩
  obtain ⟨⟨k, hk⟩, x, hx, hb⟩ := h3 d hd
  exact ⟨Nat.le_trans hb (hL x hx), by rw [hk.nums]; exact shapeX_le _⟩
set_option maxRecDepth 100000 in
set_option maxHeartbeats 4000000 in
theorem layoutParses_c (A0 : Option Addr) (c0 : Nat) (ls : List LineI) (A1 : Option Addr) (c1 : Nat) (z1 : List Int) (w : World) (hr0 : RawOk w A0 ls) (hz1 : IntsAt w w.heap.size A1 z1) (hl1 : z1.length ≤ maxLen) (hg : Shapes w) :
    Calls Tryd.prog 3 #[.slice A0 ls.length c0, .slice A1 z1.length c1] w fun e w' => e = .returned (.bool true) ∧ Below w.heap.size w w' := by
  have C := Lib.hid (known2_c w hg)
  have HG := Lib.hid hg
  have HR0 := Lib.hid hr0
  have HZ1 := Lib.hid hz1
  have HL1 := Lib.hid hl1
  obtain ⟨hm1, hs1⟩ := madeF_short z1
  have HS1 := Lib.hid hs1
  clear hg hr0 hz1 hl1 hs1
  go_enter Tryd.func3, Tryd.ntmps3
  go_wp2_with fail
  refine C.out.mono ?_
  rintro e w1 ⟨rfl, hb1⟩
  go_wp2_with fail
  refine (lyLines_c A1 c1 z1 w1 ((HZ1.out.keep (Nat.le_refl _) hb1).more hb1.size) HL1.out).mono ?_
  rintro e w2 ⟨v, rfl, hO2, hb2⟩
  obtain ⟨A3, c3, rfl⟩ : ∃ A c, v = .slice A (madeF z1).length c := by obtain ⟨_, _, hown, _⟩ := hO2; exact own_slice hown
  have hb12 := below_later hb1 hb2
  obtain ⟨hf1, hf2⟩ := short_ok HS1.out hm1
  have hR1 : RawOk w2 A3 ((madeF z1).map toI) := ⟨hO2.raw, by simp; omega, fun x hx => by
    obtain ⟨y, hy, rfl⟩ := List.mem_map.1 hx
    have := (HS1.out y hy).1
    show y.2.length ≤ _
    omega, hf2⟩
  have hbL : ∀ ob, Below w2.heap.size w2 (w2.alloc ob) := fun ob => (Below.refl _ _).alloc (Nat.le_refl _) ob
  have hN := heap_alloc_new w2 (.cells #[.slice A0 ls.length c0, .slice A3 (madeF z1).length c3] 22)
  have HL : Hid (∀ k, k < 2 → ∃ A c L, (w2.alloc (.cells #[.slice A0 ls.length c0, .slice A3 (madeF z1).length c3] 22)).cell? ⟨w2.heap.size, k, none⟩ = some (.slice A (List.length L) c) ∧ RawOk (w2.alloc (.cells #[.slice A0 ls.length c0, .slice A3 (madeF z1).length c3] 22)) A L) := Lib.hid (fun k hk => by
    obtain rfl | rfl : k = 0 ∨ k = 1 := by omega
    · exact ⟨A0, c0, ls, by rw [cell_of_row _ _ _ _ _ _ hN]; rfl, (HR0.out.keep hb12).keep (hbL _)⟩
    · exact ⟨A3, c3, (madeF z1).map toI, by rw [cell_of_row _ _ _ _ _ _ hN]; simp, hR1.keep (hbL _)⟩)
  have hbw := hb12.alloc hb12.size (.cells #[.slice A0 ls.length c0, .slice A3 (madeF z1).length c3] 22)
  clear hO2 hb1 hb2 C hR1 hbL hN hf1 hf2 hb12
  go_wp2
  generalize w2.alloc (.cells #[.slice A0 ls.length c0, .slice A3 (madeF z1).length c3] 22) = w3 at *
  generalize w2.heap.size = Lb at *
  go_loopw [6] (fun i wr => ∃ k : Nat, i = .int .i64 k ∧ k ≤ 2 ∧ Below w.heap.size w wr ∧ Below w3.heap.size w3 wr) (fun i _ => 2 - (intOf i).toNat)
  case atStart => exact ⟨0, rfl, by omega, hbw, Below.refl _ _⟩
  case round =>
    clear hbw
    obtain ⟨k, rfl, hk, hbw, hb3⟩ := hrel
    by_cases hlt : k < 2
    · obtain ⟨A, c, L, hc, hraw⟩ := HL.out k hlt
      have hlb := World.block_lt_of_cell? _ _ hc
      have e0 : wr.cell? ⟨Lb, k, none⟩ = some (.slice A L.length c) := (hb3.cell (p := ⟨Lb, k, none⟩) hlb).trans hc
      have hrw := hraw.keep hb3
      have CP := Lib.hid (parse_c A c L wr (HG.out.keep hbw) hrw.raw (by have := hrw.len; omega) (fun x hx => by have := hrw.fields x hx; omega) hrw.strs)
      have CR := Lib.hid (fun W (hW : Below wr.heap.size wr W) => refParse_c A c L W (hrw.raw.keep hW) (by have := hrw.len; omega) (fun x hx => by have := hrw.fields x hx; omega) hrw.strs)
      have HRW := Lib.hid hrw
      have HE := Lib.hid e0
      have HLB := Lib.hid (World.block_lt_of_cell? _ _ e0)
      clear hraw hc hrw hlb
      rcases hR : parseT L with ⟨n, er⟩ | ds
      · rw [hR] at CP CR
        have hn1 : (n != n) = false := by simp
        have hn2 : ((er : Int) != (er : Int)) = false := by simp
        clear hR
        go_wp2_with fail
        refine CP.out.mono ?_
        rintro e w4 ⟨hb4, rfl⟩
        have e4 := (hb4.cell (p := ⟨Lb, k, none⟩) HLB.out).trans HE.out
        have CR4 := Lib.hid (CR.out w4 hb4)
        have HB4 := Lib.hid (hbw.trans (hb4.mono hbw.size))
        have HB34 := Lib.hid (hb3.trans (hb4.mono hb3.size))
        clear CP CR hb4 hbw hb3 e0
        go_wp2_with fail
        refine CR4.out.mono ?_
        rintro e w5 ⟨hb5, rfl⟩
        have CS := Lib.hid (sameDecls_eq none none 0 0 [] w5 (.inl rfl) (.inl rfl) (by simp) (by simp) (by simp))
        have hbw5 := HB4.out.trans (hb5.mono HB4.out.size)
        have hb35 := HB34.out.trans (hb5.mono HB34.out.size)
        clear CR4 hb5 e4
        go_wp2_with fail
        refine CS.out.mono ?_
        rintro e w6 ⟨rfl, n6, rfl⟩
        have hbw6 := below_drewN hbw5 n6
        have hb36 := below_drewN hb35 n6
        clear hbw5 hb35 CS
        generalize w5.drewN n6 = w6 at *
        go_wp2
        go_roundw
        case rel => exact ⟨k + 1, by go_num, by omega, hbw6, hb36⟩
        case measure => simp [intOf]; omega
      · obtain ⟨hdl, hdz⟩ := parsed_sizes hR HRW.out.fields
        have hdl2 : ds.length ≤ 1000000000 := by have := HRW.out.len; omega
        have HDZ := Lib.hid hdz
        rw [hR] at CP CR
        clear hR hdl hdz
        go_wp2_with fail
        refine CP.out.mono ?_
        rintro e w4 ⟨hb4, v4, rfl, hd4⟩
        obtain ⟨A4, c4, rfl, hD4⟩ := hd4.at_
        have HD4 := Lib.hid hD4
        have e4 := (hb4.cell (p := ⟨Lb, k, none⟩) HLB.out).trans HE.out
        have CR4 := Lib.hid (CR.out w4 hb4)
        have HB4 := Lib.hid (hbw.trans (hb4.mono hbw.size))
        have HB34 := Lib.hid (hb3.trans (hb4.mono hb3.size))
        clear CP CR hb4 hbw hb3 e0 hd4 hD4
        go_wp2_with fail
        refine CR4.out.mono ?_
        rintro e w5 ⟨hb5, v5, rfl, hd5⟩
        obtain ⟨A5, c5, rfl, hD5⟩ := hd5.at_
        have CS := Lib.hid (sameDecls_eq A4 A5 c4 c5 ds w5 (HD4.out.keep hb5) hD5 hdl2 (fun d hd => (HDZ.out d hd).1) (fun d hd => by have := (HDZ.out d hd).2; omega))
        have hbw5 := HB4.out.trans (hb5.mono HB4.out.size)
        have hb35 := HB34.out.trans (hb5.mono HB34.out.size)
        clear CR4 hb5 e4 hd5 hD5 HD4
        go_wp2_with fail
        refine CS.out.mono ?_
        rintro e w6 ⟨rfl, n6, rfl⟩
        have hbw6 := below_drewN hbw5 n6
        have hb36 := below_drewN hb35 n6
        clear hbw5 hb35 CS
        generalize w5.drewN n6 = w6 at *
        go_wp2
        go_roundw
        case rel => exact ⟨k + 1, by go_num, by omega, hbw6, hb36⟩
        case measure => simp [intOf]; omega
    · go_wp2
      go_ret
      exact ⟨rfl, hbw⟩
end Go.Proofs.YtpglhidhghhmoaaDoor
