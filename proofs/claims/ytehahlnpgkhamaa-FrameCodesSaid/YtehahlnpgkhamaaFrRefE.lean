/- Contract of the reference's Encode. -/
import Derived.Test.YtehahlnpgkhamaaFrRef
namespace Go.Proofs.Ytehahlnpgkhamaa
open Go Go.RowKit Fl

theorem refValid_z (f : FrD) (z : Bool) (h : validF f = z) (w : World) : Calls Try.prog 15 #[FV f] w fun e w' => e = .returned (.bool z) ∧ Below w.heap.size w w' := by
  have := refValid_c f w
  rwa [h] at this
/-- A row of bytes of the call's own. -/
abbrev OwnL (w : World) (base : Nat) (v : Value) (l : List Int) : Prop := w.ownsRow base 5 1 v l.length (l.map Bv8)
theorem ownL_lit (w : World) (x y : Int) : OwnL (w.alloc (.cells #[.int .u8 x, .int .u8 y] 5)) w.heap.size (.slice (some ⟨w.heap.size, 0, none⟩) 2 2) [x, y] :=
  ⟨rfl, .inr ⟨w.heap.size, 2, #[.int .u8 x, .int .u8 y], rfl, Nat.le_refl _, heap_alloc_new w _, Nat.le_refl _, by unfold maxLen; omega, rfl, rfl⟩⟩
def refL (f : FrD) (k : Nat) : List Int := [f.kind, f.robot] ++ topL f.seq k
theorem refL_len (f : FrD) (k : Nat) : (refL f k).length = 2 + k := by simp [refL, topL_len]; omega
theorem refL_succ (f : FrD) (k : Nat) : refL f (k + 1) = refL f k ++ [byteN f.seq (7 - k)] := by simp [refL, topL]
theorem refL_end (f : FrD) : refL f 8 ++ [f.cell, f.flag] = encF f := rfl
theorem own_blkV {w : World} {base : Nat} {v : Value} {l : List Int} (h : OwnL w base v l) (hl : 0 < l.length) : base < w.heap.size := by
  obtain ⟨g, cap, rfl, hg, _⟩ := own_at h hl
  have := own_blk h
  omega
theorem two_256 (s : Int) (j : Nat) : s / 2 ^ (8 * j) % 256 = byteN s j := by
  unfold byteN
  rw [Int.pow_mul]; rfl
section
variable {ops : Array Oper} {rest : List Oper} {o : Oper} {a : Act} {Q : Exit → Act → World → Prop}
/-- append of a literal of two bytes. -/
theorem app_two (w : World) (hgd : o.guard = none) (s x : Operand) (ho : o.op = .call { callee := .builtin .append, args := #[s, x], argTypes := #[25, 25] }) (base : Nat) (v : Value) (l : List Int) (hs : a.eval s = v) (hown : OwnL w base v l)
    (B : Nat) (y z : Int) (hB : B = w.heap.size) (hx : a.eval x = .slice (some ⟨B, 0, none⟩) 2 2) (hn : l.length ≤ 1000000000) (hbase : base ≤ w.heap.size)
    (h : ∀ v' w', OwnL w' base v' (l ++ [y, z]) → (w.alloc (.cells #[Bv8 y, Bv8 z] 5)).grownBy w' v.ownBlock → wpList Try.prog ops Q rest (a.put o.dst v') w') : wpList Try.prog ops Q (o :: rest) a (w.alloc (.cells #[Bv8 y, Bv8 z] 5)) := by
  subst hB
  obtain ⟨i, h1, h2, h3, h4⟩ := info_parts Try.infoByteF
  refine wpList_append_own _ hgd s x 25 ho base 5 i (.int .u8 0) 1 1 Try.underlying25 h1 h2 h3 h4 rfl (by decide) v l.length (l.map Bv8) hs (hown.alloc _) ⟨w.heap.size, 0, none⟩ 2 2 [Bv8 y, Bv8 z] hx rfl ?_ ?_ ?_ ?_ (by simp; omega) (fun v' w' g1 g2 _ => h v' w' (by simpa [OwnL] using g1) g2)
  · intro j u hu
    rw [show (⟨w.heap.size, 0, none⟩ : Addr).add j = ⟨w.heap.size, j, none⟩ by unfold Addr.add; split <;> simp_all, cell_of_row _ _ j _ _ _ (heap_alloc_new w _)]
    rcases j with _ | _ | j
    · simpa using hu
    · simpa using hu
    · simp at hu
  · intro u hu; simp at hu; rcases hu with rfl | rfl <;> rfl
  · unfold maxLen; omega
  · omega
end
def REncPost (f : FrD) (w : World) (e : Ending) (w' : World) : Prop := ∃ v, e = .returned (.tuple #[v, .int .i64 0]) ∧ OwnL w' w.heap.size v (encF f) ∧ Below w.heap.size w w'
theorem errF_22 {f : FrD} (h : kindB f.kind = false) : errF f = 22 := by
  unfold errF kindB at *
  rw [if_neg (by simpa using h)]
theorem errF_19 {f : FrD} (h : kindB f.kind = true) (hv : validF f = false) : errF f = 19 := by
  rcases errF_cases f with h0 | h0 | h0
  · unfold validF at hv; rw [h0] at hv; cases hv
  · exact h0
  · exfalso
    unfold errF kindB at *
    rw [if_pos (by simpa using h)] at h0
    split at h0 <;> cases h0
set_option maxRecDepth 100000 in
set_option maxHeartbeats 4000000 in
theorem refEncode_bad (f : FrD) (z : Int) (h : errF f = z) (hz : z = 19 ∨ z = 22) (w : World) : Calls Try.prog 9 #[FV f] w fun e w' => e = .returned (.tuple #[.slice none 0 0, .int .i64 z]) ∧ Below w.heap.size w w' := by
  have HW := Lib.hid (below_newF w (.cells (FC f) 24))
  rcases hk : kindB f.kind with _ | _
  · have CK := Lib.hid (refKnown_k f.kind false hk)
    rw [errF_22 hk] at h
    subst h
    clear hk hz
    go_enter Try.func9, Try.ntmps9
    go_wp2_with fail
    refine (CK.out _).mono ?_; rintro e w' ⟨rfl, rfl⟩
    go_wp2
    go_ret2
    exact ⟨rfl, HW.out⟩
  · have CK := Lib.hid (refKnown_k f.kind true hk)
    have hv : validF f = false := by
      unfold validF; rw [h, decide_eq_false_iff_not]; omega
    have CV := Lib.hid (refValid_z f false hv)
    rw [errF_19 hk hv] at h
    subst h
    clear hk hz hv
    go_enter Try.func9, Try.ntmps9
    go_wp2_with fail
    refine (CK.out _).mono ?_; rintro e w' ⟨rfl, rfl⟩
    go_wp2_with fail
    refine (CV.out _).mono ?_; rintro e w1 ⟨rfl, hb1⟩
    have HB1 := Lib.hid (HW.out.trans (hb1.mono HW.out.size))
    clear hb1
    go_wp2
    go_ret2
    exact ⟨rfl, HB1.out⟩
set_option maxRecDepth 100000 in
set_option maxHeartbeats 4000000 in
theorem refEncode_ok (f : FrD) (h : errF f = 0) (hu : U64 f.seq) (w : World) : Calls Try.prog 9 #[FV f] w (REncPost f w) := by
  have HW := Lib.hid (below_newF w (.cells (FC f) 24))
  have HF0 := Lib.hid (FrAt.new w f)
  have hk : kindB f.kind = true := by have := (errF_ok h).1; simpa [kindB] using this
  have hv : validF f = true := by unfold validF; rw [h]; rfl
  have CK := Lib.hid (refKnown_k f.kind true hk)
  have CV := Lib.hid (refValid_z f true hv)
  obtain ⟨⟨ka, kb⟩, ⟨ra, rb⟩, ⟨ca, cb⟩, fa, fb⟩ := errF_bytes h
  have hwk : IntKind.u8.wrap f.kind = f.kind := by rw [IntKind.wrap_u8]; omega
  have hwr : IntKind.u8.wrap f.robot = f.robot := by rw [IntKind.wrap_u8]; omega
  have HWC : Hid (IntKind.u8.wrap f.cell = f.cell) := Lib.hid (by rw [IntKind.wrap_u8]; omega)
  have HWF : Hid (IntKind.u8.wrap f.flag = f.flag) := Lib.hid (by rw [IntKind.wrap_u8]; omega)
  have HU := Lib.hid hu
  have hz0 : w.heap.size < (w.alloc (.cells (FC f) 24)).heap.size := by simp
  clear h hu hk hv
  go_enter Try.func9, Try.ntmps9
  go_wp2_with fail
  refine (CK.out _).mono ?_; rintro e w' ⟨rfl, rfl⟩
  go_wp2_with fail
  refine (CV.out _).mono ?_; rintro e w1 ⟨rfl, hb1⟩
  have HB1 := Lib.hid (HW.out.trans (hb1.mono HW.out.size))
  have HF1 := Lib.hid (HF0.out.keep hb1)
  have hz1 := Nat.lt_of_lt_of_le hz0 hb1.size
  obtain ⟨e0, e1, e2, e3, e4⟩ := HF1.out.cell
  clear hb1 HF0 hz0 HW CK CV
  have HO : Hid (OwnL (w1.alloc (.cells #[.int .u8 f.kind, .int .u8 f.robot] 5)) w1.heap.size (.slice (some ⟨w1.heap.size, 0, none⟩) 2 2) (refL f 0)) := Lib.hid (ownL_lit w1 f.kind f.robot)
  have HF2 := Lib.hid (HF1.out.keep (below_newF w1 (.cells #[.int .u8 f.kind, .int .u8 f.robot] 5)))
  have HB2 := Lib.hid (HB1.out.alloc HB1.out.size (.cells #[.int .u8 f.kind, .int .u8 f.robot] 5))
  clear HF1 HB1
  go_wp2
  generalize w1.alloc (.cells #[.int .u8 f.kind, .int .u8 f.robot] 5) = w2 at *
  generalize w1.heap.size = g at *
  clear hwk hwr e0 e1 e2 e3 e4
  go_loopw [4, 5] (fun v iv wr => ∃ k : Nat, k ≤ 8 ∧ iv = .int .i64 (7 - (k : Int)) ∧ Hid (OwnL wr g v (refL f k)) ∧ Hid (FrAt wr w.heap.size f) ∧ Hid (Below w.heap.size w wr)) (fun _ iv _ => (intOf iv + 1).toNat)
  case atStart => exact ⟨0, by omega, rfl, HO, HF2, HB2⟩
  case round =>
    clear HO HF2 HB2
    obtain ⟨k, hk, rfl, HO, HF, HB⟩ := hrel
    obtain ⟨e0, e1, e2, e3, e4⟩ := HF.out.cell
    by_cases hk8 : k < 8
    · obtain ⟨j, hj⟩ : ∃ j : Nat, j + k = 7 := ⟨7 - k, by omega⟩
      have hj1 : (7 : Int) - (k : Int) = (j : Int) := by omega
      have HJ := Lib.hid hj
      have hj7 : j ≤ 7 := by omega
      rw [hj1]
      have HJ1 := Lib.hid hj1
      have hlen := refL_len f k
      have hbase := HB.out.size
      have hgw : g < wr.heap.size := own_blkV HO.out (by rw [refL_len]; omega)
      have hle : (refL f k).length ≤ 10 := by omega
      clear hj hj1 hlen
      go_wp2_with (at_builtin; refine app_any _ rfl _ _ 25 5 (.int .u8 0) 1 Try.underlying25 Try.infoByteF rfl (by decide) rfl g _ _ _ rfl (HO.out.alloc _) _ (Bv8 (byteN f.seq j)) rfl ?k1 rfl (by omega) (by simp; omega) ?_)
      case k1 =>
        rw [cell_of_row _ _ 0 _ _ _ (heap_alloc_new wr _)]
        show some (Value.int .u8 _) = _
        rw [two_256]
      intro v' w3 own3 hg3
      have HO3 : Hid (OwnL w3 g v' (refL f (k + 1))) := Lib.hid (by
        unfold OwnL
        rw [refL_succ, show 7 - k = j by have := HJ.out; omega, List.length_append, List.length_singleton, List.map_append]
        exact own3)
      have hob := own_base HO.out
      have HF3 := Lib.hid ((HF.out.keep (below_newF wr (.cells #[Bv8 (f.seq / 2 ^ (8 * j) % 256)] 5))).grown hg3 (fun e => by have := hob _ e; omega))
      have HB3 := Lib.hid ((HB.out.alloc HB.out.size (.cells #[Bv8 (f.seq / 2 ^ (8 * j) % 256)] 5)).grown hg3 (by simp; omega) (fun q hq => by have := hob q hq; omega))
      clear own3 hg3 HO HF HB hob
      go_wp2
      go_roundw
      case rel => exact ⟨k + 1, by omega, by have := HJ1.out; rw [show (j : Int) - 1 = 7 - ((k + 1 : Nat) : Int) by omega], HO3, HF3, HB3⟩
      case measure => simp [intOf]
    · obtain rfl : k = 8 := by omega
      rw [show (7 : Int) - ((8 : Nat) : Int) = -1 by omega]
      have hwc := HWC.out
      have hwf := HWF.out
      have hlen := refL_len f 8
      have hgw : g < wr.heap.size := own_blkV HO.out (by rw [refL_len]; omega)
      have hle : (refL f 8).length ≤ 10 := by omega
      have HLn := Lib.hid hlen
      clear hlen
      go_wp2_with (at_builtin; refine app_two _ rfl _ _ rfl g _ _ rfl HO.out _ f.cell f.flag rfl rfl (by omega) (by omega) ?_)
      intro v' w3 own3 hg3
      rw [refL_end] at own3
      have hob := own_base HO.out
      have HB3 := Lib.hid ((HB.out.alloc HB.out.size (.cells #[Bv8 f.cell, Bv8 f.flag] 5)).grown hg3 (by simp; omega) (fun q hq => by have := hob q hq; omega))
      have HO3 := Lib.hid (ownsRow_base own3 (Nat.le_of_lt hz1))
      clear own3 hg3 HO HF HB hob
      go_wp2
      go_ret2
      exact ⟨v', rfl, HO3.out, HB3.out⟩
end Go.Proofs.Ytehahlnpgkhamaa
