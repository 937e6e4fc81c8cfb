/- Senders in memory; contracts of register and of its reference. -/
import Derived.Test.YtpiofjhcagdklaaRgSpec
import Derived.Test.YtpiofjhcagdklaaFrEnc
import Derived.Test.YtpiofjhcagdklaaFrDec
import Derived.Test.YtpiofjhcagdklaaFrCmp
import Derived.BigQuiet
namespace Go.Proofs.Ytpiofjhcagdklaa
open Go Go.RowKit Fl

abbrev SV (s : SndD) : Value := .agg #[.int .u64 s.seq, .bool s.isOpen, .int .i64 s.cell, .int .i64 s.flag]
abbrev SC (s : SndD) : Array Value := #[.int .u64 s.seq, .bool s.isOpen, .int .i64 s.cell, .int .i64 s.flag]
/-- Block b holds a sender. -/
def SnAt (w : World) (b : Nat) (s : SndD) : Prop := w.heap[b]? = some (.cells (SC s) 24 (0, 0))
theorem SnAt.new (w : World) (s : SndD) : SnAt (w.alloc (.cells (SC s) 24)) w.heap.size s := heap_alloc_new w _
theorem SnAt.keep {w w' : World} {b : Nat} {s : SndD} (h : SnAt w b s) (hb : Below w.heap.size w w') : SnAt w' b s := (hb.block b (block_lt h)).trans h
theorem SnAt.cell {w : World} {b : Nat} {s : SndD} (h : SnAt w b s) : w.cell? ⟨b, 0, none⟩ = some (.int .u64 s.seq) ∧ w.cell? ⟨b, 1, none⟩ = some (.bool s.isOpen) ∧ w.cell? ⟨b, 2, none⟩ = some (.int .i64 s.cell) ∧ w.cell? ⟨b, 3, none⟩ = some (.int .i64 s.flag) := by
  unfold SnAt at h
  refine ⟨?_, ?_, ?_, ?_⟩ <;> rw [cell_of_row w b _ _ _ (0, 0) h] <;> rfl
theorem SnAt.frozen {w : World} {b : Nat} {s : SndD} (h : SnAt w b s) : w.frozen? ⟨b, 0, none⟩ = false ∧ w.frozen? ⟨b, 1, none⟩ = false ∧ w.frozen? ⟨b, 2, none⟩ = false ∧ w.frozen? ⟨b, 3, none⟩ = false := by
  unfold SnAt at h
  refine ⟨?_, ?_, ?_, ?_⟩ <;> simp [World.frozen?, h]
theorem SnAt.put4 {w : World} {b : Nat} {g : SndD} (h : SnAt w b g) (f : SndD) : SnAt ((((w.setCell ⟨b, 0, none⟩ (.int .u64 f.seq)).setCell ⟨b, 1, none⟩ (.bool f.isOpen)).setCell ⟨b, 2, none⟩ (.int .i64 f.cell)).setCell ⟨b, 3, none⟩ (.int .i64 f.flag)) b f := by
  unfold SnAt at h ⊢
  simp [World.setCell, Array.getElem?_modify, h]
def OffPost (s : SndD) (c f : Int) (w : World) (e : Ending) (w' : World) : Prop := e = .returned (.tuple #[SV (offS s c f), .int .i64 (offE s c f)]) ∧ Below w.heap.size w w'
def OutPost (s : SndD) (r : Int) (w : World) (e : Ending) (w' : World) : Prop := e = .returned (.tuple #[FV (outF s r), .bool s.isOpen]) ∧ Below w.heap.size w w'
def ConfPost (s : SndD) (q : Int) (w : World) (e : Ending) (w' : World) : Prop := e = .returned (.tuple #[SV (confS s q), .bool (confB s q)]) ∧ Below w.heap.size w w'
theorem fresh_c (a b : Int) (w : World) : Calls Try.prog 13 #[.int .u64 a, .int .u64 b] w fun e w' => e = .returned (.bool (freshB a b)) ∧ w = w' := by
  go_enter Try.func13, Try.ntmps13
  go_wp2
  go_ret
  exact ⟨rfl, rfl⟩
theorem refFresh_c (a b : Int) (w : World) : Calls Try.prog 14 #[.int .u64 a, .int .u64 b] w fun e w' => e = .returned (.bool (freshB a b)) ∧ w = w' := by
  go_enter Try.func14, Try.ntmps14
  go_wp2
  go_ret
  exact ⟨rfl, rfl⟩
/-- Two results, the first one a sender (a frame) in a block of its own. -/
theorem results_sn {fn : Func} {p q : Tmp} (h : fn.results = #[.cell p 24, .tmp q]) (tmps : Array Value) (w : World) (g : Nat) (s : SndD) (u : Value)
    (hp : tmps.getD p undef = .pointer (some ⟨g, 0, none⟩)) (hg : SnAt w g s) (hu : tmps.getD q undef = u) :
    (results fn tmps).run Try.prog w = .ok (.tuple #[SV s, u]) w := by
  have hp' : tmps[p]?.getD undef = .pointer (some ⟨g, 0, none⟩) := by simpa using hp
  have hu' : tmps[q]?.getD undef = u := by simpa using hu
  simp [results, h, hp', hu', asAddr, run_loadVar_row w g 24 24 (SC s) (0, 0) _ hg Try.underlying24 rfl (by kernel_rfl)]
theorem results_fr {fn : Func} {p q : Tmp} (h : fn.results = #[.cell p 35, .tmp q]) (tmps : Array Value) (w : World) (g : Nat) (f : FrD) (u : Value)
    (hp : tmps.getD p undef = .pointer (some ⟨g, 0, none⟩)) (hg : FrAt w g f) (hu : tmps.getD q undef = u) :
    (results fn tmps).run Try.prog w = .ok (.tuple #[FV f, u]) w := by
  have hp' : tmps[p]?.getD undef = .pointer (some ⟨g, 0, none⟩) := by simpa using hp
  have hu' : tmps[q]?.getD undef = u := by simpa using hu
  simp [results, h, hp', hu', asAddr, run_loadVar_row w g 35 35 (FC f) (0, 0) _ hg Try.underlying35 rfl (by kernel_rfl)]
/-- Two new blocks: the second one holds the result. -/
theorem two_sn (w : World) (o : Obj) (r : SndD) : SnAt ((w.alloc o).alloc (.cells (SC r) 24)) (w.heap.size + 1) r ∧ Below w.heap.size w ((w.alloc o).alloc (.cells (SC r) 24)) := by
  have := SnAt.new (w.alloc o) r
  rw [show (w.alloc o).heap.size = w.heap.size + 1 by simp] at this
  exact ⟨this, (below_newF w _).alloc (by simp) _⟩
theorem two_fr (w : World) (o : Obj) (r : FrD) : FrAt ((w.alloc o).alloc (.cells (FC r) 35)) (w.heap.size + 1) r ∧ Below w.heap.size w ((w.alloc o).alloc (.cells (FC r) 35)) := by
  have := FrAt.new (w.alloc o) r
  rw [show (w.alloc o).heap.size = w.heap.size + 1 by simp] at this
  exact ⟨this, (below_newF w _).alloc (by simp) _⟩
set_option maxRecDepth 100000 in
set_option maxHeartbeats 1000000 in
theorem offer_c (s : SndD) (c f : Int) (w : World) (hu : U64 s.seq) : Calls Try.prog 7 #[SV s, .int .i64 c, .int .i64 f] w (OffPost s c f w) := by
  have HZ := Lib.hid (two_sn w (.cells (SC s) 24))
  obtain ⟨seq, op, cell, flag⟩ := s
  obtain ⟨hu1, hu2⟩ := hu
  simp only at hu1 hu2
  unfold OffPost
  by_cases hr : c < 0 ∨ 48 ≤ c ∨ (f ≠ 0 ∧ f ≠ 1)
  · obtain ⟨r1, r2⟩ := off_range (s := ⟨seq, op, cell, flag⟩) hr
    rw [r1, r2]
    clear r1 r2
    have hr3 : c < 0 ∨ (¬ c < 0 ∧ 48 ≤ c) ∨ (¬ c < 0 ∧ ¬ 48 ≤ c ∧ (f ≠ 0 ∧ f ≠ 1)) := by omega
    clear hr
    rcases hr3 with h | ⟨h, h2⟩ | ⟨h, h2, h3, h4⟩
    · skip
      go_enter Try.func7, Try.ntmps7
      go_wp2
      exact bodyPost_ret (results_sn rfl _ _ _ zeroSn _ rfl (HZ.out zeroSn).1 rfl) rfl ⟨rfl, (HZ.out zeroSn).2⟩
    · skip
      go_enter Try.func7, Try.ntmps7
      go_wp2
      exact bodyPost_ret (results_sn rfl _ _ _ zeroSn _ rfl (HZ.out zeroSn).1 rfl) rfl ⟨rfl, (HZ.out zeroSn).2⟩
    · have h3' : (f != 0) = true := by simpa using h3
      have h4' : (f != 1) = true := by simpa using h4
      clear h3 h4
      go_enter Try.func7, Try.ntmps7
      go_wp2
      exact bodyPost_ret (results_sn rfl _ _ _ zeroSn _ rfl (HZ.out zeroSn).1 rfl) rfl ⟨rfl, (HZ.out zeroSn).2⟩
  · have hf : f = 0 ∨ f = 1 := by omega
    have h1 : ¬ c < 0 := by omega
    have h2 : ¬ 48 ≤ c := by omega
    rcases op with _ | _
    · by_cases hm : seq = 18446744073709551615
      · obtain ⟨r1, r2⟩ := off_none (s := ⟨seq, false, cell, flag⟩) hr rfl hm
        rw [r1, r2]
        clear r1 r2 hr
        subst hm
        rcases hf with rfl | rfl
        all_goals
          go_enter Try.func7, Try.ntmps7
          go_wp2
          exact bodyPost_ret (results_sn rfl _ _ _ zeroSn _ rfl (HZ.out zeroSn).1 rfl) rfl ⟨rfl, (HZ.out zeroSn).2⟩
      · obtain ⟨r1, r2⟩ := off_ok (s := ⟨seq, false, cell, flag⟩) hr rfl hm
        rw [r1, r2]
        clear r1 r2 hr
        have hw : IntKind.u64.wrap (seq + 1) = seq + 1 := by rw [IntKind.wrap_u64]; omega
        have hm' : (seq == 18446744073709551615) = false := by rw [beq_eq_false_iff_ne]; exact hm
        have hm2 : (seq + 1 == 0) = false := by rw [beq_eq_false_iff_ne]; omega
        rcases hf with rfl | rfl
        · skip
          go_enter Try.func7, Try.ntmps7
          go_wp2
          exact bodyPost_ret (results_sn rfl _ _ _ ⟨seq + 1, true, c, 0⟩ _ rfl (HZ.out ⟨seq + 1, true, c, 0⟩).1 rfl) rfl ⟨rfl, (HZ.out ⟨seq + 1, true, c, 0⟩).2⟩
        · skip
          go_enter Try.func7, Try.ntmps7
          go_wp2
          exact bodyPost_ret (results_sn rfl _ _ _ ⟨seq + 1, true, c, 1⟩ _ rfl (HZ.out ⟨seq + 1, true, c, 1⟩).1 rfl) rfl ⟨rfl, (HZ.out ⟨seq + 1, true, c, 1⟩).2⟩
    · obtain ⟨r1, r2⟩ := off_full (s := ⟨seq, true, cell, flag⟩) hr rfl
      rw [r1, r2]
      clear r1 r2 hr
      rcases hf with rfl | rfl
      all_goals
        go_enter Try.func7, Try.ntmps7
        go_wp2
        exact bodyPost_ret (results_sn rfl _ _ _ zeroSn _ rfl (HZ.out zeroSn).1 rfl) rfl ⟨rfl, (HZ.out zeroSn).2⟩
set_option maxRecDepth 100000 in
set_option maxHeartbeats 1000000 in
theorem refOffer_c (s : SndD) (c f : Int) (w : World) (hu : U64 s.seq) : Calls Try.prog 8 #[SV s, .int .i64 c, .int .i64 f] w (OffPost s c f w) := by
  have HZ := Lib.hid (two_sn w (.cells (SC s) 24))
  obtain ⟨seq, op, cell, flag⟩ := s
  obtain ⟨hu1, hu2⟩ := hu
  simp only at hu1 hu2
  unfold OffPost
  by_cases hr : c < 0 ∨ 48 ≤ c ∨ (f ≠ 0 ∧ f ≠ 1)
  · obtain ⟨r1, r2⟩ := off_range (s := ⟨seq, op, cell, flag⟩) hr
    rw [r1, r2]
    clear r1 r2
    have hr3 : c < 0 ∨ (¬ c < 0 ∧ 48 ≤ c) ∨ (¬ c < 0 ∧ ¬ 48 ≤ c ∧ (f < 0 ∨ (¬ f < 0 ∧ 1 < f))) := by omega
    clear hr
    rcases hr3 with h | ⟨h, h2⟩ | ⟨h, h2, h3 | ⟨h3, h4⟩⟩
    all_goals
      go_enter Try.func8, Try.ntmps8
      go_wp2
      exact bodyPost_ret (results_sn rfl _ _ _ zeroSn _ rfl (HZ.out zeroSn).1 rfl) rfl ⟨rfl, (HZ.out zeroSn).2⟩
  · have hf : f = 0 ∨ f = 1 := by omega
    have h1 : ¬ c < 0 := by omega
    have h2 : ¬ 48 ≤ c := by omega
    rcases op with _ | _
    · by_cases hm : seq = 18446744073709551615
      · obtain ⟨r1, r2⟩ := off_none (s := ⟨seq, false, cell, flag⟩) hr rfl hm
        rw [r1, r2]
        clear r1 r2 hr
        subst hm
        rcases hf with rfl | rfl
        all_goals
          go_enter Try.func8, Try.ntmps8
          go_wp2
          exact bodyPost_ret (results_sn rfl _ _ _ zeroSn _ rfl (HZ.out zeroSn).1 rfl) rfl ⟨rfl, (HZ.out zeroSn).2⟩
      · obtain ⟨r1, r2⟩ := off_ok (s := ⟨seq, false, cell, flag⟩) hr rfl hm
        rw [r1, r2]
        clear r1 r2 hr
        have hw : IntKind.u64.wrap (seq + 1) = seq + 1 := by rw [IntKind.wrap_u64]; omega
        have hm' : (seq == 18446744073709551615) = false := by rw [beq_eq_false_iff_ne]; exact hm
        have hm2 : (seq + 1 == 0) = false := by rw [beq_eq_false_iff_ne]; omega
        rcases hf with rfl | rfl
        · skip
          go_enter Try.func8, Try.ntmps8
          go_wp2
          exact bodyPost_ret (results_sn rfl _ _ _ ⟨seq + 1, true, c, 0⟩ _ rfl (HZ.out ⟨seq + 1, true, c, 0⟩).1 rfl) rfl ⟨rfl, (HZ.out ⟨seq + 1, true, c, 0⟩).2⟩
        · skip
          go_enter Try.func8, Try.ntmps8
          go_wp2
          exact bodyPost_ret (results_sn rfl _ _ _ ⟨seq + 1, true, c, 1⟩ _ rfl (HZ.out ⟨seq + 1, true, c, 1⟩).1 rfl) rfl ⟨rfl, (HZ.out ⟨seq + 1, true, c, 1⟩).2⟩
    · obtain ⟨r1, r2⟩ := off_full (s := ⟨seq, true, cell, flag⟩) hr rfl
      rw [r1, r2]
      clear r1 r2 hr
      rcases hf with rfl | rfl
      all_goals
        go_enter Try.func8, Try.ntmps8
        go_wp2
        exact bodyPost_ret (results_sn rfl _ _ _ zeroSn _ rfl (HZ.out zeroSn).1 rfl) rfl ⟨rfl, (HZ.out zeroSn).2⟩
set_option maxRecDepth 100000 in
set_option maxHeartbeats 1000000 in
theorem out_c (s : SndD) (r : Int) (w : World) : Calls Try.prog 9 #[SV s, .int .i64 r] w (OutPost s r w) := by
  have HZ := Lib.hid (two_fr w (.cells (SC s) 24))
  obtain ⟨seq, op, cell, flag⟩ := s
  unfold OutPost
  rcases op with _ | _
  · go_enter Try.func9, Try.ntmps9
    go_wp2
    exact bodyPost_ret (results_fr rfl _ _ _ zeroF _ rfl (HZ.out zeroF).1 rfl) rfl ⟨rfl, (HZ.out zeroF).2⟩
  · go_enter Try.func9, Try.ntmps9
    go_wp2
    exact bodyPost_ret (results_fr rfl _ _ _ ⟨1, r, seq, cell, flag⟩ _ rfl (HZ.out ⟨1, r, seq, cell, flag⟩).1 rfl) rfl ⟨rfl, (HZ.out ⟨1, r, seq, cell, flag⟩).2⟩
set_option maxRecDepth 100000 in
set_option maxHeartbeats 1000000 in
theorem refOut_c (s : SndD) (r : Int) (w : World) : Calls Try.prog 10 #[SV s, .int .i64 r] w (OutPost s r w) := by
  have HZ := Lib.hid (two_fr w (.cells (SC s) 24))
  obtain ⟨seq, op, cell, flag⟩ := s
  unfold OutPost
  rcases op with _ | _
  · go_enter Try.func10, Try.ntmps10
    go_wp2
    exact bodyPost_ret (results_fr rfl _ _ _ zeroF _ rfl (HZ.out zeroF).1 rfl) rfl ⟨rfl, (HZ.out zeroF).2⟩
  · go_enter Try.func10, Try.ntmps10
    go_wp2
    exact bodyPost_ret (results_fr rfl _ _ _ ⟨1, r, seq, cell, flag⟩ _ rfl (HZ.out ⟨1, r, seq, cell, flag⟩).1 rfl) rfl ⟨rfl, (HZ.out ⟨1, r, seq, cell, flag⟩).2⟩
theorem conf_f {s : SndD} {q : Int} (h : s.isOpen = false ∨ q ≠ s.seq) : confB s q = false ∧ confS s q = s := by
  have e : confB s q = false := by
    unfold confB
    rcases h with h | h
    · rw [h]; rfl
    · rw [decide_eq_false h, Bool.and_false]
  exact ⟨e, by unfold confS; rw [e]; rfl⟩
theorem conf_t {s : SndD} {q : Int} (h1 : s.isOpen = true) (h2 : q = s.seq) : confB s q = true ∧ confS s q = ⟨s.seq, false, s.cell, s.flag⟩ := by
  have e : confB s q = true := by unfold confB; rw [h1, decide_eq_true h2]; rfl
  exact ⟨e, by unfold confS; rw [e]; rfl⟩
theorem eq_sn (f g : SndD) (W : World) : (Op.equalIn 10000 24 (SV f) (SV g)).run Try.prog W = .ok (decide (f = g)) W := by
  have hz := Try.underlying24
  rw [run_equalIn_agg W 9999 _ _ _ (by kernel_rfl) (by kernel_rfl)]
  simp only [Program.fieldsOf, hz]
  simp [go_sem]
  obtain ⟨a0, a1, a2, a3⟩ := f
  obtain ⟨b0, b1, b2, b3⟩ := g
  simp only [SndD.mk.injEq]
  by_cases h0 : a0 = b0 <;> by_cases h1 : a1 = b1 <;> by_cases h2 : a2 = b2 <;> by_cases h3 : a3 = b3 <;> simp [h0, h1, h2, h3]
theorem guard_sn (op : BinOp) (x y : Operand) (xs ys : Array Value) (W : World) : (eqGuard op 24 x y (.agg xs) (.agg ys)).run Try.prog W = .ok () W := run_eqGuard_agg W _ _ _ _ _ _ (by kernel_rfl)
theorem three_sn (w : World) (o o3 : Obj) (r : SndD) : SnAt (((w.alloc o).alloc (.cells (SC r) 24)).alloc o3) (w.heap.size + 1) r ∧ Below w.heap.size w (((w.alloc o).alloc (.cells (SC r) 24)).alloc o3) := by
  obtain ⟨h1, h2⟩ := two_sn w o r
  exact ⟨h1.keep (below_newF _ _), h2.alloc h2.size _⟩
set_option maxRecDepth 100000 in
set_option maxHeartbeats 1000000 in
theorem confirm_c (s : SndD) (q : Int) (w : World) : Calls Try.prog 11 #[SV s, .int .u64 q] w (ConfPost s q w) := by
  have HZ := Lib.hid (three_sn w (.cells (SC s) 24) (.cells (SC ⟨s.seq, false, s.cell, s.flag⟩) 24))
  obtain ⟨seq, op, cell, flag⟩ := s
  unfold ConfPost
  have hgd := guard_sn
  rcases op with _ | _
  · obtain ⟨r1, r2⟩ := conf_f (s := ⟨seq, false, cell, flag⟩) (q := q) (.inl rfl)
    rw [r1, r2]
    clear r1 r2
    have he := fun W => eq_sn ⟨seq, false, cell, flag⟩ ⟨seq, false, cell, flag⟩ W
    simp only [decide_true] at he
    go_enter Try.func11, Try.ntmps11
    go_wp2
    exact bodyPost_ret (results_sn rfl _ _ _ ⟨seq, false, cell, flag⟩ _ rfl (HZ.out ⟨seq, false, cell, flag⟩).1 rfl) rfl ⟨rfl, (HZ.out ⟨seq, false, cell, flag⟩).2⟩
  · have he := fun W => eq_sn ⟨seq, false, cell, flag⟩ ⟨seq, true, cell, flag⟩ W
    rw [show (decide ((⟨seq, false, cell, flag⟩ : SndD) = ⟨seq, true, cell, flag⟩)) = false by simp] at he
    by_cases h : q = seq
    · obtain ⟨r1, r2⟩ := conf_t (s := ⟨seq, true, cell, flag⟩) (q := q) rfl h
      rw [r1, r2]
      clear r1 r2
      have hq : (q != seq) = false := by simpa using h
      clear h
      go_enter Try.func11, Try.ntmps11
      go_wp2
      exact bodyPost_ret (results_sn rfl _ _ _ ⟨seq, false, cell, flag⟩ _ rfl (HZ.out ⟨seq, false, cell, flag⟩).1 rfl) rfl ⟨rfl, (HZ.out ⟨seq, false, cell, flag⟩).2⟩
    · obtain ⟨r1, r2⟩ := conf_f (s := ⟨seq, true, cell, flag⟩) (q := q) (.inr h)
      rw [r1, r2]
      clear r1 r2
      have hq : (q != seq) = true := by simpa using h
      clear h
      go_enter Try.func11, Try.ntmps11
      go_wp2
      exact bodyPost_ret (results_sn rfl _ _ _ ⟨seq, true, cell, flag⟩ _ rfl (HZ.out ⟨seq, true, cell, flag⟩).1 rfl) rfl ⟨rfl, (HZ.out ⟨seq, true, cell, flag⟩).2⟩
set_option maxRecDepth 100000 in
set_option maxHeartbeats 1000000 in
theorem refConfirm_c (s : SndD) (q : Int) (w : World) : Calls Try.prog 12 #[SV s, .int .u64 q] w (ConfPost s q w) := by
  obtain ⟨seq, op, cell, flag⟩ := s
  have HZ := Lib.hid (two_sn w (.cells (SC ⟨seq, op, cell, flag⟩) 24))
  have HF := Lib.hid (two_sn w (.cells (SC ⟨seq, false, cell, flag⟩) 24))
  unfold ConfPost
  rcases op with _ | _
  · obtain ⟨r1, r2⟩ := conf_f (s := ⟨seq, false, cell, flag⟩) (q := q) (.inl rfl)
    rw [r1, r2]
    clear r1 r2
    go_enter Try.func12, Try.ntmps12
    go_wp2
    exact bodyPost_ret (results_sn rfl _ _ _ ⟨seq, false, cell, flag⟩ _ rfl (HZ.out ⟨seq, false, cell, flag⟩).1 rfl) rfl ⟨rfl, (HZ.out ⟨seq, false, cell, flag⟩).2⟩
  · by_cases h : q = seq
    · obtain ⟨r1, r2⟩ := conf_t (s := ⟨seq, true, cell, flag⟩) (q := q) rfl h
      rw [r1, r2]
      clear r1 r2
      have hq : (seq != q) = false := by simpa using h.symm
      clear h
      go_enter Try.func12, Try.ntmps12
      go_wp2
      exact bodyPost_ret (results_sn rfl _ _ _ ⟨seq, false, cell, flag⟩ _ rfl (HF.out ⟨seq, false, cell, flag⟩).1 rfl) rfl ⟨rfl, (HF.out ⟨seq, false, cell, flag⟩).2⟩
    · obtain ⟨r1, r2⟩ := conf_f (s := ⟨seq, true, cell, flag⟩) (q := q) (.inr h)
      rw [r1, r2]
      clear r1 r2
      have hq : (seq != q) = true := by simpa using fun e => h e.symm
      clear h
      go_enter Try.func12, Try.ntmps12
      go_wp2
      exact bodyPost_ret (results_sn rfl _ _ _ ⟨seq, true, cell, flag⟩ _ rfl (HZ.out ⟨seq, true, cell, flag⟩).1 rfl) rfl ⟨rfl, (HZ.out ⟨seq, true, cell, flag⟩).2⟩
end Go.Proofs.Ytpiofjhcagdklaa
