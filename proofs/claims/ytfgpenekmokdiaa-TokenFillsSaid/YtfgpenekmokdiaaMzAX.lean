/- Joined texts. -/
import Derived.Test.YtfgpenekmokdiaaMzAN
import Derived.Test.YtfgpenekmokdiaaMzAW
import Derived.Lib.SliceRun
import Derived.Test.YtfgpenekmokdiaaMzAF
import Derived.Laws.CopyOwn
import Derived.Test.YtfgpenekmokdiaaShelf
import Derived.Deep.RegionHeld3
import Derived.Test.YtfgpenekmokdiaaMzAL
import Derived.Test.YtfgpenekmokdiaaMzAM
import Derived.Test.YtfgpenekmokdiaaMzAE
namespace Go.Proofs.Ytfgpenekmokdiaa
open Go Go.RowKit Fl

theorem own_low {w : World} {base base' n : Nat} {e : TypeId} {v : Value} {xs : List Value} (h : w.ownsRow base e 1 v n xs) (hb : base' ≤ base) : w.ownsRow base' e 1 v n xs := by
  obtain ⟨h1, h2⟩ := h
  refine ⟨h1, ?_⟩
  rcases h2 with h2 | ⟨g, cap, cur, hv, hg, hr⟩
  · exact .inl h2
  · exact .inr ⟨g, cap, cur, hv, Nat.le_trans hb hg, hr⟩
def DevFromO : Prop := ∀ (A B : Option Addr) (c d : Nat) (g : GraphD) (s : List Bool) (v : Int) (w : World), RowsAt w A g → Holds w B (s.map Bo) → Sized g →
  Calls Try.prog 31 #[.slice A g.length c, .slice B s.length d, .int .i64 v] w (FromPost w (fromL g s v) (fromE g s.length v))
theorem DevFromO.plain (h : DevFromO) : DevFrom := fun A B c d g s v w hr hs hz => (h A B c d g s v w hr hs hz).mono fun e w' ⟨u, h1, h2, h3⟩ => by
  obtain ⟨X, cx, rfl, h4⟩ := own_is h2
  exact ⟨X, cx, h1, h4, h3⟩
theorem fromO_ok (hF : DevFromO) {A B : Option Addr} {c d n v : Nat} {g : GraphD} {s : List Bool} {W : World} (hr : RowsAt W A g) (hs : Holds W B (s.map Bo)) (hg : validG g = true) (hn : g.length = n) (hsl : s.length = n) (hv : v < n) :
    Calls Try.prog 31 #[.slice A n c, .slice B n d, .int .i64 (v : Int)] W fun e w' => ∃ x, e = .returned (.tuple #[x, .int .i64 0]) ∧ w'.ownsRow W.heap.size 4 1 x n ((reachL g s v).map Bo) ∧ Below W.heap.size W w' := by
  have h := hF A B c d g s v W hr hs (Sized.valid hg)
  have hc : chkG g s.length = 0 := by unfold chkG; rw [hg, hsl, hn]; simp
  have he : fromE g s.length (v : Int) = 0 := by unfold fromE; rw [if_pos hc, if_pos (by omega)]
  have hl : fromL g s (v : Int) = reachL g s v := by rw [fromL_ok he, Int.toNat_natCast]
  rw [hl, he, hsl, hn] at h
  refine h.mono fun e w' ⟨x, h1, h2, h3⟩ => ⟨x, h1, ?_, h3⟩
  rw [reachL_length, hn] at h2
  exact h2
end Go.Proofs.Ytfgpenekmokdiaa
namespace Go.Proofs.Ytfgpenekmokdiaa
open Go Go.RowKit Fl

theorem Try.infoBoolC : (Try.prog.info? 4).map (fun i => (i.zero, i.size, i.bytes)) = some (some (.bool false), 1, 1) := by kernel_rfl
set_option maxRecDepth 100000 in
set_option maxHeartbeats 2000000 in
theorem clone_c (b c : Nat) (l : List Bool) (w : World) (hh : Holds w (some ⟨b, 0, none⟩) (l.map Bo)) (hn : 0 < l.length) (hl : l.length ≤ 24) :
    Calls Try.prog 59 #[.slice (some ⟨b, 0, none⟩) l.length c] w fun e w' => ∃ u, e = .returned u ∧ w'.ownsRow w.heap.size 4 1 u l.length (l.map Bo) ∧ Below w.heap.size w w' := by
  have hq : ∀ (w : World) (a : Option Addr) (n c n' c' : Nat), (binOp .eql 50 (.slice a n c) (.slice none n' c')).run Try.prog w = .ok (.bool a.isNone) w := fun w a n c n' c' => Lib.run_eql_slice_nil w _ _ a n c n' c' Try.underlying50
  obtain ⟨i0, hi, hz0, hz1, hz2⟩ := info_parts Try.infoBoolC
  have HC : Hid (∀ (ob : Obj) j u, (l.map Bo)[j]? = some u → (w.alloc ob).cell? ((⟨b, 0, none⟩ : Addr).add j) = some u) := Lib.hid (fun ob j u hu => by
    have hj : j < l.length := by have := (List.getElem?_eq_some_iff.1 hu).1; simpa using this
    obtain ⟨b', o', hA, he⟩ := hh.bo hj
    injection hA with hA
    injection hA with h1 h2
    subst h1 h2
    have hadd : (⟨b, 0, none⟩ : Addr).add j = ⟨b, 0 + j, none⟩ := by unfold Addr.add; split <;> simp_all
    rw [hadd]
    have hlt : b < w.heap.size := World.block_lt_of_cell? _ _ he
    rw [((Below.refl w.heap.size w).alloc (Nat.le_refl _) ob).cell (p := ⟨b, 0 + j, none⟩) hlt, he]
    simpa [hj] using hu)
  clear hh
  go_enter Try.func59, Try.ntmps59
  go_wp2_with (at_builtin; refine wpList_append_own _ rfl _ _ 50 rfl w.heap.size 4 i0 (.bool false) 1 1 Try.underlying50 hi hz0 hz1 hz2 rfl (by decide) _ _ _ rfl (World.ownsRow_made w #[] 0 (Nat.le_refl _) (Nat.zero_le _) rfl) ⟨b, 0, none⟩ l.length c (l.map Bo) rfl ?qc1 ?qc2 ?qc3 ?qc4 ?qc5 ?qc6 ?_)
  case qc1 => simp
  case qc2 => exact HC.out _
  case qc3 => intro u hu; obtain ⟨x, _, rfl⟩ := List.mem_map.1 hu; rfl
  case qc4 => unfold maxLen; omega
  case qc5 => omega
  case qc6 => simp
  intro v' w1 hown hgrow hnil
  have HO : Hid (w1.ownsRow w.heap.size 4 1 v' l.length (l.map Bo)) := Lib.hid (by simpa using hown)
  have HB := Lib.hid (((Below.refl _ w).alloc (Nat.le_refl _) _).grown hgrow (by simp) (by intro k hk; simp [Value.ownBlock] at hk; omega))
  clear hown hgrow hnil
  go_wp2
  go_ret
  exact ⟨v', rfl, HO.out, HB.out⟩
theorem slice_marks (b n : Nat) (hn : n ≤ 24) (w : World) : (Instr.sliceAt 80 (.pointer (some ⟨b, 0, none⟩)) none (some (.int .i64 (n : Int))) none).run Try.prog w = .ok (.slice (some ⟨b, 0, none⟩) n 24) w := by
  have h1 : Try.prog.arrayLen 80 = 24 := by kernel_rfl
  have h2 : Try.prog.elem 80 = 4 := by kernel_rfl
  have ht : Try.prog.underlying 80 = some (.array (Try.prog.arrayLen 80) (Try.prog.elem 80)) := by rw [h1, h2]; exact Try.undM
  obtain ⟨i0, hi, hz0, hz1, hz2⟩ := info_parts Try.infoBoolC
  rw [run_sliceAt_array_h w _ _ ht _ _ (by omega) (by rw [h1]; omega), h1, h2]
  simp [sizeOf, typeInfo, hi, hz1, slicedAt, Addr.add]
theorem marks_holds {w : World} {b : Nat} {M : List Bool} (h : MarksAt w b (padM M)) : Holds w (some ⟨b, 0, none⟩) (M.map Bo) := by
  refine .inr ⟨b, 0, rfl, h.lt, fun j hj => ?_⟩
  have hj' : j < M.length := by simpa using hj
  rw [show (⟨b, 0 + j, none⟩ : Addr) = ⟨b, j, none⟩ by simp, (h.cell (padM_lt hj')).1, padM_at hj']
  simp
set_option maxRecDepth 100000 in
set_option maxHeartbeats 4000000 in
theorem devFromO_c : DevFromO := by
  intro A B c d g s v w hh hs hsz
  have CC := Lib.hid (devCheck_c A B c d s.length g w hh hsz.1 hsz.2)
  by_cases h0 : chkG g s.length = 0
  · have hv : validG g = true ∧ s.length = g.length := by
      rcases chkG_cases g s.length with h | h | h
      · exact h.2
      · omega
      · omega
    rw [h0] at CC
    have hl24 := validG_len hv.1
    by_cases hin : 0 ≤ v ∧ v < g.length
    · obtain ⟨vn, rfl⟩ := Int.eq_ofNat_of_zero_le hin.1
      have hvn : vn < g.length := by omega
      have he : fromE g s.length (vn : Int) = 0 := by unfold fromE; rw [if_pos h0, if_pos hin]
      have CO := Lib.hid (openR_c B d s w hs (by omega))
      have CR := Lib.hid (fun (w1 : World) (hb : Below w.heap.size w w1) => reached_c A c g s vn w1 (hh.keep hb) hv.1 hv.2 hvn)
      have HL : Hid (fromL g s (vn : Int) = reachL g s vn) := Lib.hid (by rw [fromL_ok he, Int.toNat_natCast])
      have hLen := reachL_length g s vn
      rw [he]
      clear hh hs he h0 hv hin hsz
      go_enter Try.func31, Try.ntmps31
      go_wp2_with fail
      refine CC.out.mono ?_
      rintro e w1 ⟨rfl, rfl⟩
      go_wp2_with fail
      refine CO.out.mono ?_
      rintro e w1 ⟨rfl, hb1⟩
      have HB1 := Lib.hid hb1
      clear hb1 CC CO
      go_wp2_with fail
      refine (CR.out w1 HB1.out).mono ?_
      rintro e w2 ⟨rfl, hb2⟩
      have HB2 := Lib.hid (HB1.out.trans (hb2.mono HB1.out.size))
      have HN := Lib.hid (marks_new w2)
      clear hb2 HB1 CR
      generalize reachL g s vn = R at *
      have h24 : (padM R).length = 24 := padM_length (by omega)
      have HN2 := Lib.hid (HN.out.row (l' := padM R))
      have HB3 := Lib.hid (below_row (HB2.out.alloc HB2.out.size (.cells #[.bool false, .bool false, .bool false, .bool false, .bool false, .bool false, .bool false, .bool false, .bool false, .bool false, .bool false, .bool false, .bool false, .bool false, .bool false, .bool false, .bool false, .bool false, .bool false, .bool false, .bool false, .bool false, .bool false, .bool false] 80)) HB2.out.size (cellsM (padM R)))
      have HH3 := Lib.hid (marks_holds HN2.out)
      have hR : 0 < R.length ∧ R.length ≤ 24 := by omega
      have HLen := Lib.hid hLen
      clear hLen
      have hSl := slice_marks w2.heap.size g.length hl24
      go_wp2_with (first | refine store_marks rfl _ _ rfl _ rfl rfl HN.out (mk24_length _) h24 ?_)
      clear HN HN2 hSl
      generalize ((w2.alloc (.cells #[.bool false, .bool false, .bool false, .bool false, .bool false, .bool false, .bool false, .bool false, .bool false, .bool false, .bool false, .bool false, .bool false, .bool false, .bool false, .bool false, .bool false, .bool false, .bool false, .bool false, .bool false, .bool false, .bool false, .bool false] 80)).setRow w2.heap.size (cellsM (padM R))) = w3 at *
      have HCl := Lib.hid (clone_c w2.heap.size 24 R w3 HH3.out hR.1 hR.2)
      rw [HLen.out] at HCl
      clear hR HH3
      go_wp2_with fail
      refine HCl.out.mono ?_
      rintro e w4 ⟨u, rfl, own4, hb4⟩
      have HO := Lib.hid own4
      have HB4 := Lib.hid (HB3.out.trans (hb4.mono HB3.out.size))
      have HB3s := Lib.hid HB3.out.size
      clear own4 hb4 HB3 HCl
      go_wp2
      go_ret2
      exact ⟨_, rfl, by rw [HL.out, HLen.out]; exact own_low HO.out HB3s.out, HB4.out⟩
    · have he : fromE g s.length v = 19 := by unfold fromE; rw [if_pos h0, if_neg hin]
      have HL := Lib.hid (fromL_err (s := s) (v := v) (by rw [he]; decide))
      have hcase : decide (v < 0) = true ∨ decide (v < 0) = false ∧ decide ((g.length : Int) ≤ v) = true := by simp only [decide_eq_true_eq, decide_eq_false_iff_not]; omega
      rw [he]
      clear hh hs he h0 hv hin hsz
      rcases hcase with h1 | ⟨h1, h2⟩
      all_goals
        go_enter Try.func31, Try.ntmps31
        go_wp2_with fail
        refine CC.out.mono ?_
        rintro e w1 ⟨rfl, rfl⟩
        go_wp2
        go_ret2
        exact ⟨_, rfl, by rw [HL.out]; exact World.ownsRow_nil _ _ _ _, Below.refl _ _⟩
  · have he : fromE g s.length v = chkG g s.length := by unfold fromE; rw [if_neg h0]
    have HL := Lib.hid (fromL_err (s := s) (v := v) (by rw [he]; exact h0))
    have hcase : chkG g s.length = 19 ∨ chkG g s.length = 20 := by
      rcases chkG_cases g s.length with h | h | h
      · exact absurd h.1 h0
      · exact .inl h
      · exact .inr h
    rw [he]
    clear hh hs he h0 hsz
    rcases hcase with h | h
    all_goals
      rw [h] at CC ⊢
      clear h
      go_enter Try.func31, Try.ntmps31
      go_wp2_with fail
      refine CC.out.mono ?_
      rintro e w1 ⟨rfl, rfl⟩
      go_wp2
      go_ret2
      exact ⟨_, rfl, by rw [HL.out]; exact World.ownsRow_nil _ _ _ _, Below.refl _ _⟩
theorem devFrom_c : DevFrom := devFromO_c.plain
end Go.Proofs.Ytfgpenekmokdiaa
namespace Go.Proofs.Ytfgpenekmokdiaa
open Go Go.RowKit Fl

abbrev Z24b : Array Value := #[.bool false, .bool false, .bool false, .bool false, .bool false, .bool false, .bool false, .bool false, .bool false, .bool false, .bool false, .bool false, .bool false, .bool false, .bool false, .bool false, .bool false, .bool false, .bool false, .bool false, .bool false, .bool false, .bool false, .bool false]
theorem ArrC.row {w : World} {G : Nat} {t : TypeId} {l l' : List Value} (h : ArrC w G t l) : ArrC (w.setRow G l'.toArray) G t l' := setRow_heap w G _ _ _ _ h
theorem ArrC.rowOther {w : World} {G H : Nat} {t : TypeId} {l : List Value} {c : Array Value} (h : ArrC w G t l) (hn : G ≠ H) : ArrC (w.setRow H c) G t l := h.same (setRow_other w H G c hn)
theorem bools_one (l : List Bool) : (l.map Bo).toArray.all (·.oneCell') = true := cellsM_one l
section
variable {ops : Array Oper} {rest : List Oper} {o : Oper} {a : Act} {w : World} {Q : Exit → Act → World → Prop}
end
theorem pad_splice (s : List Bool) : splice (List.replicate 24 (Value.bool false)) 0 (s.map Bo) = (padM s).map Bo := by
  unfold splice padM
  rw [List.take_zero, List.drop_replicate]
  simp
theorem atB_pad {s : List Bool} (x : Nat) : atB (padM s) x = atB s x := by
  unfold atB padM
  rw [List.getD_eq_getElem?_getD, List.getD_eq_getElem?_getD, List.getElem?_append]
  split
  · rfl
  · rename_i h
    rw [List.getElem?_eq_none (l := s) (by omega), List.getElem?_replicate]
    split <;> rfl
end Go.Proofs.Ytfgpenekmokdiaa
namespace Go.Proofs.Ytfgpenekmokdiaa
open Go Go.RowKit Fl

/-- A row of n whose first k are filled. -/
def fillL (n k : Nat) : List Value := List.replicate k (.int .i64 (-1)) ++ List.replicate (n - k) (.int .i64 0)
theorem fillL_length {n k : Nat} (h : k ≤ n) : (fillL n k).length = n := by simp [fillL]; omega
theorem fillL_zero (n : Nat) : fillL n 0 = List.replicate n (.int .i64 0) := by simp [fillL]
theorem fillL_all (n : Nat) : fillL n n = List.replicate n (.int .i64 (-1)) := by simp [fillL]
theorem fillL_splice {n k m : Nat} (hk : k + m ≤ n) : splice (fillL n k) k (List.replicate m (Value.int .i64 (-1))) = fillL n (k + m) := by
  unfold splice fillL
  rw [List.take_append_of_le_length (by simp), List.take_of_length_le (by simp), List.length_replicate, List.drop_append, List.drop_of_length_le (by simp), List.drop_replicate, List.nil_append, List.length_replicate, ← List.append_assoc, List.replicate_append_replicate]
  congr 2
  omega
theorem fillL_at {n k j : Nat} (h : j < k) : (fillL n k)[j]? = some (.int .i64 (-1)) := by
  unfold fillL
  rw [List.getElem?_append_left (by simpa using h), List.getElem?_replicate, if_pos h]
theorem fill_src {wr W : World} {q n k m : Nat} (h : ArrC wr q 3 (fillL n k)) (hm : m ≤ k) (hW : W.heap = wr.heap) : 0 < (List.replicate m (Value.int .i64 (-1))).length → (some (⟨q, k, none⟩ : Addr)) = some ⟨q, k, none⟩ ∧ ∃ ad, (some (⟨q, 0, none⟩ : Addr)) = some ad ∧ ∀ j v, (List.replicate m (Value.int .i64 (-1)))[j]? = some v → W.cell? (ad.add j) = some v := fun _ => ⟨rfl, _, rfl, fun j v hv => by
  rw [List.getElem?_replicate] at hv
  split at hv
  · injection hv with hv
    rename_i hj
    have h := (h.cell (fillL_at (n := n) (k := k) (j := j) (by omega))).1
    rw [Addr.add_mid, Nat.zero_add, ← hv, ← h]
    simp [World.cell?, hW]
  · cases hv⟩
set_option maxRecDepth 100000 in
set_option maxHeartbeats 4000000 in
theorem repeat_c (b n : Nat) (w : World) (hc : w.cell? ⟨b, 0, none⟩ = some (.int .i64 (-1))) (hn : n ≤ 24) :
    Calls Try.prog 86 #[.slice (some ⟨b, 0, none⟩) 1 1, .int .i64 n] w fun e w' => e = .returned (.slice (some ⟨w.heap.size, 0, none⟩) n n) ∧ w'.ownsRow w.heap.size 3 1 (.slice (some ⟨w.heap.size, 0, none⟩) n n) n (List.replicate n (.int .i64 (-1))) ∧ Below w.heap.size w w' := by
  have CM := Lib.hid (Try.bits_Mul 1 n (by omega) (by omega) w)
  rw [show 1 * n / 18446744073709551616 = 0 by omega, show 1 * n % 18446744073709551616 = n by omega] at CM
  have hu := Try.underlying23
  have hbw : b < w.heap.size := World.block_lt_of_cell? _ _ hc
  obtain ⟨i0, hi, hz0, hz1, hz2⟩ := info_parts Try.infoIntG
  have hszI : (Try.prog.info? 3).map (·.size) = some 1 := by rw [hi]; simp [hz1]
  have HC := Lib.hid hc
  clear hc
  go_enter Try.func86, Try.ntmps86
  go_wp2_with fail
  refine CM.out.mono ?_
  rintro e w1 ⟨rfl, rfl⟩
  clear CM
  go_wp2_with (refine make_any _ rfl _ _ 23 3 (.int .i64 0) 8 Try.underlying23 Try.infoIntG rfl (by decide) rfl .i64 .i64 _ _ n rfl rfl rfl rfl (by omega) ?_)
  intro w2 own2 hb2
  obtain ⟨q, hq⟩ : ∃ q, w1.heap.size = q := ⟨_, rfl⟩
  have HQ := Lib.hid hq
  rw [hq] at own2 hb2 hbw ⊢
  have h0 : ArrC w2 q 3 (fillL n 0) := by
    obtain ⟨_, hr⟩ := own2
    rcases hr with ⟨hv, _⟩ | ⟨g, cap, cur, hv, _, hh, hnc, _, hcs, hx⟩
    · cases hv
    · injection hv with hA _ hcap
      injection hA with hA
      injection hA with hA
      subst hA hcap
      unfold ArrC
      rw [hh, fillL_zero, ← hx, List.take_of_length_le (by simp; omega), Array.toArray_toList]
  have H0 := Lib.hid h0
  have HB2 := Lib.hid hb2
  have hC2 := (hb2.cell (p := ⟨b, 0, none⟩) hbw).trans HC.out
  obtain ⟨m0, hm0⟩ : ∃ m0, m0 = Nat.min 1 n := ⟨_, rfl⟩
  have hmn : m0 ≤ n := by rw [hm0]; exact Nat.min_le_right _ _
  have hm1 : m0 ≤ 1 := by rw [hm0]; exact Nat.min_le_left _ _
  have hmp : n = 0 ∨ 0 < m0 := by
    rcases Nat.eq_zero_or_pos n with h | h
    · exact .inl h
    · right; rw [hm0]; exact Nat.lt_min.2 ⟨by omega, h⟩
  have HLen : Hid ((List.replicate m0 (Value.int .i64 (-1))).length = Nat.min 1 n) := Lib.hid (by rw [List.length_replicate]; exact hm0)
  have HPos : Hid (0 < (List.replicate m0 (Value.int .i64 (-1))).length → (some (⟨q, 0, none⟩ : Addr)) = some ⟨q, 0, none⟩ ∧ ∃ ad, (some (⟨b, 0, none⟩ : Addr)) = some ad ∧ ∀ j v, (List.replicate m0 (Value.int .i64 (-1)))[j]? = some v → w2.cell? (ad.add j) = some v) := Lib.hid (fun _ => ⟨rfl, _, rfl, fun j v hv => by
    rw [List.getElem?_replicate] at hv
    split at hv
    · injection hv with hv
      obtain rfl : j = 0 := by omega
      rw [← hv]
      simpa [Addr.add] using hC2
    · cases hv⟩)
  have HFit : Hid (0 + (List.replicate m0 (Value.int .i64 (-1))).length ≤ (fillL n 0).length) := Lib.hid (by rw [fillL_length (Nat.zero_le _), List.length_replicate]; omega)
  have HOne : Hid (∀ m, ∀ v ∈ List.replicate m (Value.int .i64 (-1)), v.oneCell' = true) := Lib.hid (fun m v hv => by rw [(List.mem_replicate.1 hv).2]; rfl)
  clear own2 hb2 h0 hC2 hm0 hq
  go_wp2_with (refine wpList_copy_splice rfl _ _ _ _ (by rfl) 3 hu hszI (some ⟨q, 0, none⟩) (some ⟨b, 0, none⟩) n n 1 1 (by rfl) (by rfl) q 0 (fillL n 0) 3 H0.out (List.replicate m0 (.int .i64 (-1))) HLen.out HPos.out HFit.out (HOne.out _) q w2 (Below.refl _ _) (Nat.le_refl _) ?_)
  intro w3 hm hb3
  have H3 : Hid (ArrC w3 q 3 (fillL n m0)) := Lib.hid (by
    have e := fillL_splice (n := n) (k := 0) (m := m0) (by omega)
    rw [Nat.zero_add] at e
    rw [← e]
    exact hm.out)
  have HB3 := Lib.hid (HB2.out.trans hb3)
  clear hm hb3 H0 HB2 HLen HPos HFit
  go_wp2
  go_loopw [8] (fun kv wr => ∃ k : Nat, kv = .int .i64 k ∧ k ≤ n ∧ (n = 0 ∨ 0 < k) ∧ Hid (ArrC wr q 3 (fillL n k)) ∧ Hid (Below q w1 wr)) (fun kv _ => n - (intOf kv).toNat)
  case atStart => exact ⟨m0, by simp, hmn, hmp, H3, HB3⟩
  case round =>
    clear H3 HB3 hmn hm1 hmp
    obtain ⟨k, rfl, hk, hkp, HR, HB⟩ := hrel
    by_cases hlt : k < n
    · have hk0 : 0 < k := by omega
      obtain ⟨m, hm⟩ : ∃ m, m = Nat.min k (n - k) := ⟨_, rfl⟩
      have hm1 : m ≤ k := by rw [hm]; exact Nat.min_le_left _ _
      have hm2 : m ≤ n - k := by rw [hm]; exact Nat.min_le_right _ _
      have hm3 : 0 < m := by rw [hm]; exact Nat.lt_min.2 ⟨hk0, by omega⟩
      have HLen : Hid ((List.replicate m (Value.int .i64 (-1))).length = Nat.min k (n - k)) := Lib.hid (by rw [List.length_replicate]; exact hm)
      have HFit : Hid (k + (List.replicate m (Value.int .i64 (-1))).length ≤ (fillL n k).length) := Lib.hid (by rw [fillL_length hk, List.length_replicate]; omega)
      have hkn : ¬ n = k := by omega
      have hnk : ¬ k = n := by omega
      clear hm
      go_wp2
      have e0 := (HR.out.cell (fillL_at (n := n) (k := k) (j := 0) hk0)).1
      have hm1' : k + m ≤ n := by omega
      have hw1 : IntKind.i64.wrap ((k : Int) + (m : Int)) = (k : Int) + (m : Int) := IntWalk.i64_in _ ⟨by omega, by omega⟩
      go_region_held3 (fun W => W.cell? ⟨q, 0, none⟩ = some (.int .i64 (-1))) (first | exact e0 | exact e4) (first | (refine step_copy_splice rfl _ _ _ _ rfl 3 hu hszI (some ⟨q, k, none⟩) (some ⟨q, 0, none⟩) (n - k) (n - k) k n (by rfl) (by rfl) q k (fillL n k) 3 HR.out (List.replicate m (.int .i64 (-1))) HLen.out (fill_src HR.out hm1 rfl) HFit.out (HOne.out _) q w1 (HB.out.drew) (Nat.le_refl _) ?_; intro w4 hm4 hb4; have HM4 : Hid (ArrC w4 q 3 (fillL n (k + m))) := Lib.hid (by rw [← fillL_splice hm1']; exact hm4.out); have HB4 := Lib.hid hb4; have e4 := (HM4.out.cell (fillL_at (n := n) (k := k + m) (j := 0) (by omega))).1; clear hm4 hb4))
      go_wp2
      go_roundw
      case rel => exact ⟨k + m, by go_num, by omega, .inr (by omega), HM4, HB4⟩
      case measure => simp [intOf]; omega
    · obtain rfl : k = n := by omega
      go_wp2
      go_ret
      rw [HQ.out]
      refine ⟨rfl, ⟨by simp, .inr ⟨q, k, (fillL k k).toArray, rfl, Nat.le_refl _, HR.out, Nat.le_refl _, by unfold maxLen; omega, by simp [fillL_length], ?_⟩⟩, HB.out⟩
      rw [fillL_all]
      simp
end Go.Proofs.Ytfgpenekmokdiaa
namespace Go.Proofs.Ytfgpenekmokdiaa
open Go Go.RowKit Fl

theorem hopsL_len (g : GraphD) (dist : List Int) : (hopsL g dist).length = g.length := by simp [hopsL]
/-- The error of two vertices. -/
def twoE (g : GraphD) (m : Nat) (a b : Int) : Int := if chkG g m = 0 then (if (0 ≤ a ∧ a < g.length) ∧ 0 ≤ b ∧ b < g.length then 0 else 19) else chkG g m
def disL (g : GraphD) (s : List Bool) (goal : Int) : List Int := if twoE g s.length goal goal = 0 then distF g s goal.toNat else []
def hopL (g : GraphD) (s : List Bool) (goal : Int) : List Int := if twoE g s.length goal goal = 0 then hopsL g (distF g s goal.toNat) else []
def patL (g : GraphD) (s : List Bool) (a goal : Int) : List Int := if twoE g s.length a goal = 0 then firstF g s a.toNat goal.toNat else []
def tabF (g : GraphD) (s : List Bool) (k : Nat) : GraphD := (List.range k).map (fun v => hopsL g (distF g s v))
def tabL (g : GraphD) (s : List Bool) : GraphD := if chkG g s.length = 0 then tabF g s g.length else []
theorem twoE_zero {g : GraphD} {m : Nat} {a b : Int} (h : twoE g m a b = 0) : validG g = true ∧ m = g.length ∧ (0 ≤ a ∧ a < g.length) ∧ 0 ≤ b ∧ b < g.length := by
  unfold twoE at h
  split at h
  · rename_i h0
    split at h
    · rename_i h1
      rcases chkG_cases g m with h2 | h2 | h2
      · exact ⟨h2.2.1, h2.2.2, h1⟩
      · omega
      · omega
    · cases h
  · rename_i h0
    exact absurd h h0
theorem twoE_ok {g : GraphD} {m : Nat} {a b : Nat} (h : chkG g m = 0) (ha : a < g.length) (hb : b < g.length) : twoE g m a b = 0 := by
  unfold twoE
  rw [if_pos h, if_pos (by omega)]
theorem twoE_cases (g : GraphD) (m : Nat) (a b : Int) : twoE g m a b = 0 ∨ twoE g m a b = 19 ∨ twoE g m a b = 20 := by
  unfold twoE
  split
  · split
    · exact .inl rfl
    · exact .inr (.inl rfl)
  · rcases chkG_cases g m with h | h | h
    · exact .inl h.1
    · exact .inr (.inl h)
    · exact .inr (.inr h)
def ListPost (w : World) (l : List Int) (k : Int) (e : Ending) (w' : World) : Prop := ∃ u, e = .returned (.tuple #[u, .int .i64 k]) ∧ w'.ownsRow w.heap.size 3 1 u l.length (l.map Iv) ∧ Below w.heap.size w w'
/-- One row more. -/
theorem RowsOwn.app {w w' : World} {base : Nat} {v v' u : Value} {g : GraphD} {r : List Int} {vs : List Value} (h1 : vs.length = g.length) (h2 : w.ownsRow base 23 1 v g.length vs) (h3 : ∀ (k : Nat) (u : Value) (r : List Int), vs[k]? = some u → g[k]? = some r → w.ownsRow base 3 1 u r.length (r.map Iv))
    (hu : w.ownsRow base 3 1 u r.length (r.map Iv)) (hg : w.grownBy w' v.ownBlock) (ho : w'.ownsRow base 23 1 v' (g.length + 1) (vs ++ [u])) : RowsOwn w' base v' (g ++ [r]) := by
  have hr : ∀ q, v.ownBlock = some q → ∃ cur, w.heap[q]? = some (.cells cur 23 (0, 0)) := fun q hq => by
    rcases h2.2 with ⟨hv, _⟩ | ⟨g', cap, cur, hv, _, hh, _⟩
    · rw [hv] at hq; cases hq
    · rw [hv] at hq
      injection hq with hq
      subst hq
      exact ⟨cur, hh⟩
  refine ⟨vs ++ [u], by simp [h1], by simpa using ho, fun j x y hx hy => ?_⟩
  have key : w.ownsRow base 3 1 x y.length (y.map Iv) := by
    rw [List.getElem?_append] at hx hy
    split at hx
    · rename_i hj
      rw [if_pos (by omega)] at hy
      exact h3 j x y hx hy
    · rename_i hjk
      have hjk' : j = g.length := by
        have := (List.getElem?_eq_some_iff.1 hx).1
        simp at this
        omega
      subst hjk'
      simp [h1] at hx
      simp at hy
      subst hx hy
      exact hu
  exact own_row_other key hg hr (by decide)
theorem tabF_succ (g : GraphD) (s : List Bool) (k : Nat) : tabF g s (k + 1) = tabF g s k ++ [hopsL g (distF g s k)] := by
  unfold tabF
  rw [List.range_succ, List.map_append]
  rfl
theorem tabF_len (g : GraphD) (s : List Bool) (k : Nat) : (tabF g s k).length = k := by simp [tabF]
end Go.Proofs.Ytfgpenekmokdiaa
