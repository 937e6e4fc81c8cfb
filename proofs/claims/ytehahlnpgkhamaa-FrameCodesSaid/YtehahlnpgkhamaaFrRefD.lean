/- Contract of the reference's Decode. -/
import Derived.Test.YtehahlnpgkhamaaFrRefE
namespace Go.Proofs.Ytehahlnpgkhamaa
open Go Go.RowKit Fl

theorem alloc_cellsF {w : World} {n i : Nat} {u : Value} (h : w.cell? ⟨n, i, none⟩ = some u) (o : Obj) : (w.alloc o).cell? ⟨n, i, none⟩ = some u :=
  ((below_newF w o).cell (p := ⟨n, i, none⟩) (World.block_lt_of_cell? _ _ h)).trans h
theorem FrAt.seq {w : World} {b : Nat} {k r s c g : Int} (h : FrAt w b ⟨k, r, s, c, g⟩) (t : Int) : FrAt (w.setCell ⟨b, 2, none⟩ (.int .u64 t)) b ⟨k, r, t, c, g⟩ := by
  unfold FrAt at h ⊢
  simp [World.setCell, Array.getElem?_modify, h]
set_option maxRecDepth 100000 in
set_option maxHeartbeats 2000000 in
theorem refDecode_short (A : Option Addr) (c : Nat) (l : List Int) (w : World) (hl : l.length ≠ 12) :
    Calls Try.prog 13 #[.slice A l.length c] w (DecPost l w) := by
  obtain ⟨h1, h2⟩ := errD_short hl
  have H1 := Lib.hid h1
  have H2 := Lib.hid h2
  have hn : ((l.length : Int) == 12) = false := by rw [beq_eq_false_iff_ne]; omega
  clear h1 h2
  go_enter Try.func13, Try.ntmps13
  go_wp2
  refine bodyPost_ret (v := .tuple #[FV zeroF, .int .i64 21]) (by simp [results, Try.results13, go_sem, zeroF]) rfl ⟨by rw [H1.out, H2.out], ?_⟩
  exact (Below.refl _ _).alloc (Nat.le_refl _) _
set_option maxRecDepth 100000 in
set_option maxHeartbeats 4000000 in
theorem refDecode_c (A : Option Addr) (c : Nat) (l : List Int) (w : World) (hh : Holds w A (l.map Bv8)) (hl : l.length = 12) (hb : BytesL l) :
    Calls Try.prog 13 #[.slice A 12 c] w (DecPost l w) := by
  obtain ⟨b, o, rfl, hbw, hc⟩ := hh.at_ (by simp [hl])
  have e0 := hc 0 (by simp [hl])
  have e1 := hc 1 (by simp [hl])
  have e10 := hc 10 (by simp [hl])
  have e11 := hc 11 (by simp [hl])
  simp only [List.getElem_map] at e0 e1 e10 e11
  have HH := Lib.hid hh
  have HL := Lib.hid hl
  have HBy := Lib.hid hb
  have HR := Lib.hid (raw_at hl)
  have HE := Lib.hid (errD_long hl)
  have b0 := hb l[0] (List.getElem_mem _)
  have b1 := hb l[1] (List.getElem_mem _)
  have b10 := hb l[10] (List.getElem_mem _)
  have b11 := hb l[11] (List.getElem_mem _)
  have n0 := IntWalk.i64_in l[0] ⟨by omega, by omega⟩
  have n1 := IntWalk.i64_in l[1] ⟨by omega, by omega⟩
  have n10 := IntWalk.i64_in l[10] ⟨by omega, by omega⟩
  have n11 := IntWalk.i64_in l[11] ⟨by omega, by omega⟩
  generalize l[0] = x0 at *
  generalize l[1] = x1 at *
  generalize l[10] = x10 at *
  generalize l[11] = x11 at *
  rw [Nat.add_zero] at e0
  have HW := Lib.hid (below_newF w (.cells (FC zeroF) 24))
  have HZ := Lib.hid (FrAt.new w zeroF)
  have HB := Lib.hid hbw
  clear hh hl hb hc b0 b1 b10 b11 hbw
  go_enter Try.func13, Try.ntmps13
  go_wp2_with fail
  generalize hW1 : w.alloc (.cells #[.int .i64 0, .int .i64 0, .int .u64 0, .int .i64 0, .int .i64 0] 24) = w1 at *
  have HEQ := Lib.hid hW1
  clear hW1
  go_cut [4] (fun p wx => ∃ X, p = .pointer (some ⟨X, 0, none⟩) ∧ Hid (FrAt wx X ⟨x0, x1, 0, x10, x11⟩) ∧ Hid (FrAt wx w.heap.size zeroF) ∧ w.heap.size < X ∧ Hid (Below w.heap.size w wx))
  case first =>
    have HB1 : Hid (Below w.heap.size w w1) := Lib.hid (by rw [← HEQ.out]; exact HW.out)
    have q0 : w1.cell? ⟨b, o, none⟩ = some (Bv8 x0) := (HB1.out.cell (p := ⟨b, o, none⟩) HB.out).trans e0
    have q1 : w1.cell? ⟨b, o + 1, none⟩ = some (Bv8 x1) := (HB1.out.cell (p := ⟨b, o + 1, none⟩) HB.out).trans e1
    have q10 : w1.cell? ⟨b, o + 10, none⟩ = some (Bv8 x10) := (HB1.out.cell (p := ⟨b, o + 10, none⟩) HB.out).trans e10
    have q11 : w1.cell? ⟨b, o + 11, none⟩ = some (Bv8 x11) := (HB1.out.cell (p := ⟨b, o + 11, none⟩) HB.out).trans e11
    have r0 := fun ob => alloc_cellsF q0 ob
    have r1 := fun ob => alloc_cellsF q1 ob
    have r10 := fun ob => alloc_cellsF q10 ob
    have r11 := fun ob => alloc_cellsF q11 ob
    clear e0 e1 e10 e11
    go_region
    all_goals
      go_wp2_with fail
      go_meet
      case rel => exact ⟨w1.heap.size, rfl, Lib.hid ((FrAt.new w1 ⟨x0, x1, 0, x10, x11⟩).keep (Below.refl _ _).drew), Lib.hid (by rw [← HEQ.out]; exact ((HZ.out.keep (below_newF _ _)).keep (Below.refl _ _).drew)), by rw [← HEQ.out]; simp, Lib.hid ((HB1.out.alloc HB1.out.size _).drew)⟩
  case rest =>
    obtain ⟨X, rfl, HX, HZ2, hX, HBw⟩ := hcut
    clear HW HZ e0 e1 e10 e11 n0 n1 n10 n11
    go_wp2
    go_loopw [5] (fun iv wr => ∃ k i : Nat, i = 2 + k ∧ k ≤ 8 ∧ iv = .int .i64 i ∧ Hid (FrAt wr X ⟨x0, x1, seqN l k, x10, x11⟩) ∧ Hid (FrAt wr w.heap.size zeroF) ∧ Hid (Below w.heap.size w wr)) (fun iv _ => 12 - (intOf iv).toNat)
    case atStart => exact ⟨0, 2, rfl, by omega, rfl, HX, HZ2, HBw⟩
    case round =>
      clear HX HZ2 HBw
      obtain ⟨k, i, hi, hk, rfl, HX, HZ, HBw⟩ := hrel
      by_cases hk8 : k < 8
      · have hi10 : i < 10 := by omega
        have hi12 : i < 12 := by omega
        obtain ⟨b', o', hA, e1⟩ := (HH.out.keep HBw.out).b8 (k := i) (by rw [HL.out]; omega)
        injection hA with hA
        injection hA with hA1 hA2
        subst hA1 hA2
        have hx : 0 ≤ l[i]'(by rw [HL.out]; omega) ∧ l[i]'(by rw [HL.out]; omega) < 256 := HBy.out _ (List.getElem_mem _)
        have hsb := seqN_bound HBy.out HL.out (show k ≤ 7 by omega)
        have HN : Hid (seqN l k * 256 + l[i]'(by rw [HL.out]; omega) = seqN l (k + 1)) := Lib.hid (by
          rw [seqN_succ HL.out (by omega)]
          congr 2)
        obtain ⟨_, _, y2, _, _⟩ := HX.out.cell
        obtain ⟨_, _, f2, _, _⟩ := HX.out.frozen
        simp only at y2
        have HX2 : Hid (∀ t, t = seqN l (k + 1) → FrAt (wr.setCell ⟨X, 2, none⟩ (.int .u64 t)) X ⟨x0, x1, seqN l (k + 1), x10, x11⟩) := Lib.hid (fun t ht => by rw [ht]; exact HX.out.seq _)
        have HXX := Lib.hid (HZ.out.set (g := X) (i := 2) (v := .int .u64 (seqN l k * 256 + l[i]'(by rw [HL.out]; omega))) (by omega))
        have HBB := Lib.hid (below_put (g := X) (i := 2) (v := .int .u64 (seqN l k * 256 + l[i]'(by rw [HL.out]; omega))) HBw.out (by omega))
        generalize l[i]'_ = x at *
        generalize seqN l k = s at *
        have hw := wraps_u64 (s * 256) (by omega) (by omega)
        have ho := or_join hsb.1 hsb.2 hx
        have hwx := wraps_u64 x hx.1 (by omega)
        have HI := Lib.hid hi
        clear hsb hx hi HX HZ HBw
        go_wp2
        go_region
        all_goals (try go_wp2)
        go_roundw
        case rel => exact ⟨k + 1, i + 1, by have := HI.out; omega, by omega, by go_num, Lib.hid ((HX2.out _ HN.out).keep (Below.refl _ _).drew), Lib.hid (HXX.out.keep (Below.refl _ _).drew), Lib.hid HBB.out.drew⟩
        case measure => simp [intOf]; omega
      · obtain rfl : k = 8 := by omega
        obtain rfl : i = 10 := by omega
        rw [← HR.out] at HX
        have HR0 : Hid ((rawF l).kind = x0) := Lib.hid (by rw [HR.out])
        obtain ⟨y0, y1, y2, y3, y4⟩ := HX.out.cell
        obtain ⟨z0, z1, z2, z3, z4⟩ := HZ.out.cell
        obtain ⟨f0, f1, f2, f3, f4⟩ := HZ.out.frozen
        have HE2 := HE.out
        have hD : decF l = if errD l = 0 then rawF l else zeroF := rfl
        rw [HE2] at hD
        have HD := Lib.hid hD
        have HZZ := Lib.hid HE2
        have hcase := errF_cases (rawF l)
        rcases hk : kindB (rawF l).kind with _ | _
        · have CK := Lib.hid (refKnown_k (rawF l).kind false hk)
          have H22 := Lib.hid (errF_22 hk)
          have HR2 := Lib.hid (HZ.out.put5 zeroF)
          have HS : Hid (∀ a b c d e : Value, Below w.heap.size w (((((wr.setCell ⟨w.heap.size, 0, none⟩ a).setCell ⟨w.heap.size, 1, none⟩ b).setCell ⟨w.heap.size, 2, none⟩ c).setCell ⟨w.heap.size, 3, none⟩ d).setCell ⟨w.heap.size, 4, none⟩ e)) := Lib.hid (fun a b c d e => below_put (below_put (below_put (below_put (below_put HBw.out (Nat.le_refl _)) (Nat.le_refl _)) (Nat.le_refl _)) (Nat.le_refl _)) (Nat.le_refl _))
          clear hk hcase hD HE2 HX HZ HBw
          go_wp2_with fail
          refine (CK.out _).mono ?_; rintro e w' ⟨rfl, rfl⟩
          go_wp2
          obtain ⟨s0, s1, s2, s3, s4⟩ := HR2.out.cell
          simp only [zeroF] at s0 s1 s2 s3 s4
          refine bodyPost_ret (v := .tuple #[FV zeroF, .int .i64 22]) (by simp [results, Try.results13, go_sem, zeroF, s0, s1, s2, s3, s4]) rfl ⟨by rw [HZZ.out, HD.out, H22.out]; rfl, HS.out _ _ _ _ _⟩
        · have CK := Lib.hid (refKnown_k (rawF l).kind true hk)
          obtain ⟨v, hv⟩ : ∃ v, validF (rawF l) = v := ⟨_, rfl⟩
          have CV := Lib.hid (refValid_z (rawF l) v hv)
          have HV : Hid (errF (rawF l) = if v then 0 else 19) := Lib.hid (by
            cases v
            · exact errF_19 hk hv
            · unfold validF at hv; exact of_decide_eq_true hv)
          clear hk hv hcase hD HE2
          rcases v with _ | _
          all_goals
            go_wp2_with fail
            refine (CK.out _).mono ?_; rintro e w' ⟨rfl, rfl⟩
            go_wp2_with fail
            refine (CV.out _).mono ?_; rintro e w2 ⟨rfl, hb2⟩
            have HB2 := Lib.hid (HBw.out.trans (hb2.mono HBw.out.size))
            obtain ⟨y0, y1, y2, y3, y4⟩ := (HX.out.keep hb2).cell
            obtain ⟨z0, z1, z2, z3, z4⟩ := (HZ.out.keep hb2).cell
            obtain ⟨f0, f1, f2, f3, f4⟩ := (HZ.out.keep hb2).frozen
            have HS : Hid (∀ a b c d e : Value, Below w.heap.size w (((((w2.setCell ⟨w.heap.size, 0, none⟩ a).setCell ⟨w.heap.size, 1, none⟩ b).setCell ⟨w.heap.size, 2, none⟩ c).setCell ⟨w.heap.size, 3, none⟩ d).setCell ⟨w.heap.size, 4, none⟩ e)) := Lib.hid (fun a b c d e => below_put (below_put (below_put (below_put (below_put HB2.out (Nat.le_refl _)) (Nat.le_refl _)) (Nat.le_refl _)) (Nat.le_refl _)) (Nat.le_refl _))
            have HR1 := Lib.hid ((HZ.out.keep hb2).put5 (rawF l))
            have HR2 := Lib.hid ((HZ.out.keep hb2).put5 zeroF)
            clear hb2 HX HZ HBw HB2
            go_wp2
            obtain ⟨t0, t1, t2, t3, t4⟩ := HR1.out.cell
            obtain ⟨s0, s1, s2, s3, s4⟩ := HR2.out.cell
            try simp only [zeroF] at s0 s1 s2 s3 s4
            first
              | refine bodyPost_ret (v := .tuple #[FV (rawF l), .int .i64 0]) (by simp [results, Try.results13, go_sem, t0, t1, t2, t3, t4]) rfl ⟨by rw [HZZ.out, HD.out, HV.out]; rfl, HS.out _ _ _ _ _⟩
              | refine bodyPost_ret (v := .tuple #[FV zeroF, .int .i64 19]) (by simp [results, Try.results13, go_sem, zeroF, s0, s1, s2, s3, s4]) rfl ⟨by rw [HZZ.out, HD.out, HV.out]; rfl, HS.out _ _ _ _ _⟩
end Go.Proofs.Ytehahlnpgkhamaa
