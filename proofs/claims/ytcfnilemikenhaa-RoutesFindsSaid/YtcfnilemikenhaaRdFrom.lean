/- Contracts of slices.Clone at bools, and of reach's From. -/
import Derived.Test.YtcfnilemikenhaaRdReach
import Derived.Test.YtcfnilemikenhaaRhDevO
import Derived.Lib.SliceRun
namespace Go.Proofs.Ytcfnilemikenhaa
open Go Go.RowKit Fl

theorem Try.infoBoolC : (Try.prog.info? 4).map (fun i => (i.zero, i.size, i.bytes)) = some (some (.bool false), 1, 1) := by kernel_rfl
set_option maxRecDepth 100000 in
set_option maxHeartbeats 2000000 in
theorem clone_c (b c : Nat) (l : List Bool) (w : World) (hh : Holds w (some ⟨b, 0, none⟩) (l.map Bo)) (hn : 0 < l.length) (hl : l.length ≤ 24) :
    Calls Try.prog 38 #[.slice (some ⟨b, 0, none⟩) l.length c] w fun e w' => ∃ u, e = .returned u ∧ w'.ownsRow w.heap.size 4 1 u l.length (l.map Bo) ∧ Below w.heap.size w w' := by
  have hq : ∀ (w : World) (a : Option Addr) (n c n' c' : Nat), (binOp .eql 23 (.slice a n c) (.slice none n' c')).run Try.prog w = .ok (.bool a.isNone) w := fun w a n c n' c' => Lib.run_eql_slice_nil w _ _ a n c n' c' Try.underlying23
  obtain ⟨i0, hi, hz0, hz1, hz2⟩ := info_parts Try.infoBoolC
  have HC : Hid (∀ (ob : Obj) j u, (l.map Bo)[j]? = some u → (w.alloc ob).cell? ((⟨b, 0, none⟩ : Addr).add j) = some u) := Lib.hid (fun ob j u hu => by
    have hj : j < l.length := by have := (List.getElem?_eq_some_iff.1 hu).1; simpa using this
    obtain ⟨b', o', hA, he⟩ := hh.bo hj
    injection hA with hA
    injection hA with h1 h2
    subst h1 h2
    have hadd : (⟨b, 0, none⟩ : Addr).add j = ⟨b, 0 + j, none⟩ := by unfold Addr.add; split <;> simp_all
    rw [hadd]
    have hlt : b < w.heap.size := World.block_lt_of_cell? _ _ he
    rw [((Below.refl w.heap.size w).alloc (Nat.le_refl _) ob).cell (p := ⟨b, 0 + j, none⟩) hlt, he]
    simpa [hj] using hu)
  clear hh
  go_enter Try.func38, Try.ntmps38
  go_wp2_with (at_builtin; refine wpList_append_own _ rfl _ _ 23 rfl w.heap.size 4 i0 (.bool false) 1 1 Try.underlying23 hi hz0 hz1 hz2 rfl (by decide) _ _ _ rfl (World.ownsRow_made w #[] 0 (Nat.le_refl _) (Nat.zero_le _) rfl) ⟨b, 0, none⟩ l.length c (l.map Bo) rfl ?qc1 ?qc2 ?qc3 ?qc4 ?qc5 ?qc6 ?_)
  case qc1 => simp
  case qc2 => exact HC.out _
  case qc3 => intro u hu; obtain ⟨x, _, rfl⟩ := List.mem_map.1 hu; rfl
  case qc4 => unfold maxLen; omega
  case qc5 => omega
  case qc6 => simp
  intro v' w1 hown hgrow hnil
  have HO : Hid (w1.ownsRow w.heap.size 4 1 v' l.length (l.map Bo)) := Lib.hid (by simpa using hown)
  have HB := Lib.hid (((Below.refl _ w).alloc (Nat.le_refl _) _).grown hgrow (by simp) (by intro k hk; simp [Value.ownBlock] at hk; omega))
  clear hown hgrow hnil
  go_wp2
  go_ret
  exact ⟨v', rfl, HO.out, HB.out⟩
theorem slice_marks (b n : Nat) (hn : n ≤ 24) (w : World) : (Instr.sliceAt 56 (.pointer (some ⟨b, 0, none⟩)) none (some (.int .i64 (n : Int))) none).run Try.prog w = .ok (.slice (some ⟨b, 0, none⟩) n 24) w := by
  have h1 : Try.prog.arrayLen 56 = 24 := by kernel_rfl
  have h2 : Try.prog.elem 56 = 4 := by kernel_rfl
  have ht : Try.prog.underlying 56 = some (.array (Try.prog.arrayLen 56) (Try.prog.elem 56)) := by rw [h1, h2]; exact Try.undM
  obtain ⟨i0, hi, hz0, hz1, hz2⟩ := info_parts Try.infoBoolC
  rw [run_sliceAt_array_h w _ _ ht _ _ (by omega) (by rw [h1]; omega), h1, h2]
  simp [sizeOf, typeInfo, hi, hz1, slicedAt, Addr.add]
theorem marks_holds {w : World} {b : Nat} {M : List Bool} (h : MarksAt w b (padM M)) : Holds w (some ⟨b, 0, none⟩) (M.map Bo) := by
  refine .inr ⟨b, 0, rfl, h.lt, fun j hj => ?_⟩
  have hj' : j < M.length := by simpa using hj
  rw [show (⟨b, 0 + j, none⟩ : Addr) = ⟨b, j, none⟩ by simp, (h.cell (padM_lt hj')).1, padM_at hj']
  simp
set_option maxRecDepth 100000 in
set_option maxHeartbeats 4000000 in
theorem devFromO_c : DevFromO := by
  intro A B c d g s v w hh hs hsz
  have CC := Lib.hid (devCheck_c A B c d s.length g w hh hsz.1 hsz.2)
  by_cases h0 : chkG g s.length = 0
  · have hv : validG g = true ∧ s.length = g.length := by
      rcases chkG_cases g s.length with h | h | h
      · exact h.2
      · omega
      · omega
    rw [h0] at CC
    have hl24 := validG_len hv.1
    by_cases hin : 0 ≤ v ∧ v < g.length
    · obtain ⟨vn, rfl⟩ := Int.eq_ofNat_of_zero_le hin.1
      have hvn : vn < g.length := by omega
      have he : fromE g s.length (vn : Int) = 0 := by unfold fromE; rw [if_pos h0, if_pos hin]
      have CO := Lib.hid (open_c B d s w hs (by omega))
      have CR := Lib.hid (fun (w1 : World) (hb : Below w.heap.size w w1) => reached_c A c g s vn w1 (hh.keep hb) hv.1 hv.2 hvn)
      have HL : Hid (fromL g s (vn : Int) = reachL g s vn) := Lib.hid (by rw [fromL_ok he, Int.toNat_natCast])
      have hLen := reachL_length g s vn
      rw [he]
      clear hh hs he h0 hv hin hsz
      go_enter Try.func22, Try.ntmps22
      go_wp2_with fail
      refine CC.out.mono ?_
      rintro e w1 ⟨rfl, rfl⟩
      go_wp2_with fail
      refine CO.out.mono ?_
      rintro e w1 ⟨rfl, hb1⟩
      have HB1 := Lib.hid hb1
      clear hb1 CC CO
      go_wp2_with fail
      refine (CR.out w1 HB1.out).mono ?_
      rintro e w2 ⟨rfl, hb2⟩
      have HB2 := Lib.hid (HB1.out.trans (hb2.mono HB1.out.size))
      have HN := Lib.hid (marks_new w2)
      clear hb2 HB1 CR
      generalize reachL g s vn = R at *
      have h24 : (padM R).length = 24 := padM_length (by omega)
      have HN2 := Lib.hid (HN.out.row (l' := padM R))
      have HB3 := Lib.hid (below_row (HB2.out.alloc HB2.out.size (.cells #[.bool false, .bool false, .bool false, .bool false, .bool false, .bool false, .bool false, .bool false, .bool false, .bool false, .bool false, .bool false, .bool false, .bool false, .bool false, .bool false, .bool false, .bool false, .bool false, .bool false, .bool false, .bool false, .bool false, .bool false] 56)) HB2.out.size (cellsM (padM R)))
      have HH3 := Lib.hid (marks_holds HN2.out)
      have hR : 0 < R.length ∧ R.length ≤ 24 := by omega
      have HLen := Lib.hid hLen
      clear hLen
      have hSl := slice_marks w2.heap.size g.length hl24
      go_wp2_with (first | refine store_marks rfl _ _ rfl _ rfl rfl HN.out (mk24_length _) h24 ?_)
      clear HN HN2 hSl
      generalize ((w2.alloc (.cells #[.bool false, .bool false, .bool false, .bool false, .bool false, .bool false, .bool false, .bool false, .bool false, .bool false, .bool false, .bool false, .bool false, .bool false, .bool false, .bool false, .bool false, .bool false, .bool false, .bool false, .bool false, .bool false, .bool false, .bool false] 56)).setRow w2.heap.size (cellsM (padM R))) = w3 at *
      have HCl := Lib.hid (clone_c w2.heap.size 24 R w3 HH3.out hR.1 hR.2)
      rw [HLen.out] at HCl
      clear hR HH3
      go_wp2_with fail
      refine HCl.out.mono ?_
      rintro e w4 ⟨u, rfl, own4, hb4⟩
      have HO := Lib.hid own4
      have HB4 := Lib.hid (HB3.out.trans (hb4.mono HB3.out.size))
      have HB3s := Lib.hid HB3.out.size
      clear own4 hb4 HB3 HCl
      go_wp2
      go_ret2
      exact ⟨_, rfl, by rw [HL.out, HLen.out]; exact own_low HO.out HB3s.out, HB4.out⟩
    · have he : fromE g s.length v = 19 := by unfold fromE; rw [if_pos h0, if_neg hin]
      have HL := Lib.hid (fromL_err (s := s) (v := v) (by rw [he]; decide))
      have hcase : decide (v < 0) = true ∨ decide (v < 0) = false ∧ decide ((g.length : Int) ≤ v) = true := by simp only [decide_eq_true_eq, decide_eq_false_iff_not]; omega
      rw [he]
      clear hh hs he h0 hv hin hsz
      rcases hcase with h1 | ⟨h1, h2⟩
      all_goals
        go_enter Try.func22, Try.ntmps22
        go_wp2_with fail
        refine CC.out.mono ?_
        rintro e w1 ⟨rfl, rfl⟩
        go_wp2
        go_ret2
        exact ⟨_, rfl, by rw [HL.out]; exact World.ownsRow_nil _ _ _ _, Below.refl _ _⟩
  · have he : fromE g s.length v = chkG g s.length := by unfold fromE; rw [if_neg h0]
    have HL := Lib.hid (fromL_err (s := s) (v := v) (by rw [he]; exact h0))
    have hcase : chkG g s.length = 19 ∨ chkG g s.length = 20 := by
      rcases chkG_cases g s.length with h | h | h
      · exact absurd h.1 h0
      · exact .inl h
      · exact .inr h
    rw [he]
    clear hh hs he h0 hsz
    rcases hcase with h | h
    all_goals
      rw [h] at CC ⊢
      clear h
      go_enter Try.func22, Try.ntmps22
      go_wp2_with fail
      refine CC.out.mono ?_
      rintro e w1 ⟨rfl, rfl⟩
      go_wp2
      go_ret2
      exact ⟨_, rfl, by rw [HL.out]; exact World.ownsRow_nil _ _ _ _, Below.refl _ _⟩
theorem devFrom_c : DevFrom := devFromO_c.plain
end Go.Proofs.Ytcfnilemikenhaa
