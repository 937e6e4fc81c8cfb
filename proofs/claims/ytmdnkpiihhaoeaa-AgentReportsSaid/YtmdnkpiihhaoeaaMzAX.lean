/- Joined texts. -/
import Derived.Test.YtmdnkpiihhaoeaaMzAW
namespace Go.Proofs.Ytmdnkpiihhaoeaa
open Go Go.RowKit Fl

/-- The agent has heard a frame that concerns its robot. -/
def hearK (a : AgtD) (f : FrD) : AgtD := if f.kind = 1 then (if freshB a.las f.seq = true then ⟨f.seq, f.cell, decide (f.flag = 1), 0, 0⟩ else a) else if f.kind = 3 ∧ a.rpt ≠ 0 ∧ f.seq = a.las ∧ f.flag = a.rpt then ⟨a.las, a.dst, a.srv, 0, 0⟩ else a
theorem hear_mine {a : AgtD} {r : Int} {f : FrD} (h : mineF r f = true) : hearA a r f = hearK a f := if_pos h
theorem hear_not {a : AgtD} {r : Int} {f : FrD} (h : mineF r f = false) : hearA a r f = a ∧ hearL r f = [] := ⟨if_neg (by rw [h]; decide), if_neg (by rw [h]; rintro ⟨h, _⟩; cases h)⟩
theorem hearL_one {r : Int} {f : FrD} (h : mineF r f = true) (hk : f.kind = 1) : hearL r f = [⟨3, r, f.seq, 0, 0⟩] := if_pos ⟨h, hk⟩
theorem hearL_no {r : Int} {f : FrD} (hk : f.kind ≠ 1) : hearL r f = [] := if_neg (fun h => hk h.2)
theorem hearK_fresh {a : AgtD} {f : FrD} (hk : f.kind = 1) (h : freshB a.las f.seq = true) : hearK a f = ⟨f.seq, f.cell, decide (f.flag = 1), 0, 0⟩ := by unfold hearK; rw [if_pos hk, if_pos h]
theorem hearK_old {a : AgtD} {f : FrD} (hk : f.kind = 1) (h : freshB a.las f.seq = false) : hearK a f = a := by unfold hearK; rw [if_pos hk, if_neg (by rw [h]; decide)]
theorem hearK_ack {a : AgtD} {f : FrD} (hk : f.kind = 3) (h1 : a.rpt ≠ 0) (h2 : f.seq = a.las) (h3 : f.flag = a.rpt) : hearK a f = ⟨a.las, a.dst, a.srv, 0, 0⟩ := by unfold hearK; rw [if_neg (by omega), if_pos ⟨hk, h1, h2, h3⟩]
theorem hearK_no {a : AgtD} {f : FrD} (hk : f.kind ≠ 1) (h : ¬ (f.kind = 3 ∧ a.rpt ≠ 0 ∧ f.seq = a.las ∧ f.flag = a.rpt)) : hearK a f = a := by unfold hearK; rw [if_neg hk, if_neg h]
def zeroA : AgtD := ⟨0, 0, false, 0, 0⟩
/-- Three new blocks: an agent, a frame, an agent. -/
theorem three_af (w : World) (a z : AgtD) (f : FrD) : AgAt (((w.alloc (.cells (AC a) 32)).alloc (.cells (FC f) 36)).alloc (.cells (AC z) 32)) w.heap.size a ∧ FrAt (((w.alloc (.cells (AC a) 32)).alloc (.cells (FC f) 36)).alloc (.cells (AC z) 32)) (w.heap.size + 1) f ∧ AgAt (((w.alloc (.cells (AC a) 32)).alloc (.cells (FC f) 36)).alloc (.cells (AC z) 32)) (w.heap.size + 1 + 1) z ∧ Below w.heap.size w (((w.alloc (.cells (AC a) 32)).alloc (.cells (FC f) 36)).alloc (.cells (AC z) 32)) := by
  have h2 := FrAt.new (w.alloc (.cells (AC a) 32)) f
  rw [show (w.alloc (.cells (AC a) 32)).heap.size = w.heap.size + 1 by simp] at h2
  have h3 := AgAt.new ((w.alloc (.cells (AC a) 32)).alloc (.cells (FC f) 36)) z
  rw [show ((w.alloc (.cells (AC a) 32)).alloc (.cells (FC f) 36)).heap.size = w.heap.size + 1 + 1 by simp] at h3
  exact ⟨((AgAt.new w a).keep (below_newF _ _)).keep (below_newF _ _), h2.keep (below_newF _ _), h3, ((below_newF w _).alloc (by simp) _).alloc (by simp; omega) _⟩
/-- What heard returns of an authority; of another frame. -/
def HrdPost1 (b : Nat) (a : AgtD) (f : FrD) (w : World) (e : Ending) (w' : World) : Prop := e = .returned (AV (hearK a f)) ∧ An1 w' b w.heap.size ⟨3, f.robot, f.seq, 0, 0⟩ ∧ w.grownBy w' (some b)
def HrdPost0 (a : AgtD) (f : FrD) (w : World) (e : Ending) (w' : World) : Prop := e = .returned (AV (hearK a f)) ∧ Below w.heap.size w w'
theorem fresh_qa (a b : Int) (z : Bool) (h : freshB a b = z) (w : World) : Calls Try.prog 50 #[.int .u64 a, .int .u64 b] w fun e w' => e = .returned (.bool z) ∧ w = w' := h ▸ fresh_c a b w
theorem refFresh_qa (a b : Int) (z : Bool) (h : freshB a b = z) (w : World) : Calls Try.prog 33 #[.int .u64 a, .int .u64 b] w fun e w' => e = .returned (.bool z) ∧ w = w' := h ▸ refFresh_c a b w
set_option maxRecDepth 100000 in
set_option maxHeartbeats 1000000 in
theorem heard1_c (a : AgtD) (f : FrD) (hk : f.kind = 1) (b : Nat) (w : World) (hb : An0 w b) : Calls Try.prog 31 #[AV a, FV f, .iface 75 (.pointer (some ⟨b, 0, none⟩))] w (HrdPost1 b a f w) := by
  have HT := Lib.hid (fun a => three_af w a zeroA f)
  have HC := Lib.hid (fun a => answer_c b ⟨3, f.robot, f.seq, 0, 0⟩ _ (hb.keep (HT.out a).2.2.2))
  have hbl := block_lt hb
  have HE1 := Lib.hid (fun h => hearK_fresh (a := a) hk h)
  have HE2 := Lib.hid (fun h => hearK_old (a := a) hk h)
  unfold HrdPost1
  generalize hearK a f = R at *
  have hm := meth_answer
  obtain ⟨z, hz⟩ : ∃ z, freshB a.las f.seq = z := ⟨_, rfl⟩
  have CF := Lib.hid (fun W => fresh_qa a.las f.seq z hz W)
  clear hb
  obtain ⟨las, dst, srv, rpt, cel⟩ := a
  obtain ⟨kind, robot, seq, cell, flag⟩ := f
  dsimp only at hk hz
  subst hk
  rcases z with _ | _
  · have HR := Lib.hid (HE2.out hz)
    clear HE1 HE2 hz
    go_enter Try.func31, Try.ntmps31
    go_wp2_with fail
    refine (CF.out _).mono ?_
    rintro e w1 ⟨rfl, rfl⟩
    go_wp2_with fail
    refine (HC.out ⟨las, dst, srv, rpt, cel⟩).mono ?_
    rintro e w2 ⟨rfl, h1, hg⟩
    obtain ⟨t1, t2, t3, t4⟩ := HT.out ⟨las, dst, srv, rpt, cel⟩
    have H1 := Lib.hid h1
    have HG := Lib.hid (grown_after t4 hg)
    have HX2 := Lib.hid (AgAt.grown t1 hg (fun e => by injection e with e; omega))
    have HY2 := Lib.hid (AgAt.grown t3 hg (fun e => by injection e with e; omega))
    obtain ⟨x0, x1, x2, x3, x4⟩ := HX2.out.cell
    obtain ⟨y0, y1, y2, y3, y4⟩ := HY2.out.cell
    have yf := HY2.out.frozen
    have HZ := Lib.hid (HY2.out.put5 ⟨las, dst, srv, rpt, cel⟩)
    have h1b : w.heap.size + 1 + 1 ≠ b := by omega
    clear h1 hg HC HT t1 t2 t3 t4 CF
    go_wp2
    refine bodyPost_ret (results_ag1 rfl _ _ _ ⟨las, dst, srv, rpt, cel⟩ rfl HZ.out) rfl ⟨by rw [HR.out], ?_, ?_⟩
    · exact (H1.out.far (put5A_grown w2 (w.heap.size + 1 + 1) ⟨las, dst, srv, rpt, cel⟩) (by simp) h1b).low (by simp; omega)
    · exact grown_over HG.out (put5A_grown w2 (w.heap.size + 1 + 1) ⟨las, dst, srv, rpt, cel⟩) (by omega)
  · by_cases hf : flag = 1
    · have HR := Lib.hid (HE1.out hz)
      have hf' : (flag == 1) = true := by simpa using hf
      rw [show decide (flag = 1) = true from decide_eq_true hf] at HR
      clear HE1 HE2 hz hf
      go_enter Try.func31, Try.ntmps31
      go_wp2_with fail
      refine (CF.out _).mono ?_
      rintro e w1 ⟨rfl, rfl⟩
      go_wp2_with fail
      refine (HC.out ⟨seq, cell, true, 0, 0⟩).mono ?_
      rintro e w2 ⟨rfl, h1, hg⟩
      obtain ⟨t1, t2, t3, t4⟩ := HT.out ⟨seq, cell, true, 0, 0⟩
      have H1 := Lib.hid h1
      have HG := Lib.hid (grown_after t4 hg)
      have HX2 := Lib.hid (AgAt.grown t1 hg (fun e => by injection e with e; omega))
      have HY2 := Lib.hid (AgAt.grown t3 hg (fun e => by injection e with e; omega))
      obtain ⟨x0, x1, x2, x3, x4⟩ := HX2.out.cell
      obtain ⟨y0, y1, y2, y3, y4⟩ := HY2.out.cell
      have yf := HY2.out.frozen
      have HZ := Lib.hid (HY2.out.put5 ⟨seq, cell, true, 0, 0⟩)
      have h1b : w.heap.size + 1 + 1 ≠ b := by omega
      clear h1 hg HC HT t1 t2 t3 t4 CF
      go_wp2
      refine bodyPost_ret (results_ag1 rfl _ _ _ ⟨seq, cell, true, 0, 0⟩ rfl HZ.out) rfl ⟨by rw [HR.out], ?_, ?_⟩
      · exact (H1.out.far (put5A_grown w2 (w.heap.size + 1 + 1) ⟨seq, cell, true, 0, 0⟩) (by simp) h1b).low (by simp; omega)
      · exact grown_over HG.out (put5A_grown w2 (w.heap.size + 1 + 1) ⟨seq, cell, true, 0, 0⟩) (by omega)
    · have HR := Lib.hid (HE1.out hz)
      have hf' : (flag == 1) = false := by simpa using hf
      rw [show decide (flag = 1) = false from decide_eq_false hf] at HR
      clear HE1 HE2 hz hf
      go_enter Try.func31, Try.ntmps31
      go_wp2_with fail
      refine (CF.out _).mono ?_
      rintro e w1 ⟨rfl, rfl⟩
      go_wp2_with fail
      refine (HC.out ⟨seq, cell, false, 0, 0⟩).mono ?_
      rintro e w2 ⟨rfl, h1, hg⟩
      obtain ⟨t1, t2, t3, t4⟩ := HT.out ⟨seq, cell, false, 0, 0⟩
      have H1 := Lib.hid h1
      have HG := Lib.hid (grown_after t4 hg)
      have HX2 := Lib.hid (AgAt.grown t1 hg (fun e => by injection e with e; omega))
      have HY2 := Lib.hid (AgAt.grown t3 hg (fun e => by injection e with e; omega))
      obtain ⟨x0, x1, x2, x3, x4⟩ := HX2.out.cell
      obtain ⟨y0, y1, y2, y3, y4⟩ := HY2.out.cell
      have yf := HY2.out.frozen
      have HZ := Lib.hid (HY2.out.put5 ⟨seq, cell, false, 0, 0⟩)
      have h1b : w.heap.size + 1 + 1 ≠ b := by omega
      clear h1 hg HC HT t1 t2 t3 t4 CF
      go_wp2
      refine bodyPost_ret (results_ag1 rfl _ _ _ ⟨seq, cell, false, 0, 0⟩ rfl HZ.out) rfl ⟨by rw [HR.out], ?_, ?_⟩
      · exact (H1.out.far (put5A_grown w2 (w.heap.size + 1 + 1) ⟨seq, cell, false, 0, 0⟩) (by simp) h1b).low (by simp; omega)
      · exact grown_over HG.out (put5A_grown w2 (w.heap.size + 1 + 1) ⟨seq, cell, false, 0, 0⟩) (by omega)
set_option maxRecDepth 100000 in
set_option maxHeartbeats 1000000 in
theorem heard0_c (a : AgtD) (f : FrD) (hk : f.kind ≠ 1) (b : Nat) (w : World) : Calls Try.prog 31 #[AV a, FV f, .iface 75 (.pointer (some ⟨b, 0, none⟩))] w (HrdPost0 a f w) := by
  have HT := Lib.hid (fun a z => three_af w a z f)
  have HN := Lib.hid (fun h => hearK_no (a := a) hk h)
  have HY := Lib.hid (fun h => hearK_ack (a := a) (f := f) h)
  unfold HrdPost0
  generalize hearK a f = R at *
  obtain ⟨las, dst, srv, rpt, cel⟩ := a
  obtain ⟨kind, robot, seq, cell, flag⟩ := f
  dsimp only at hk
  have hk1 : (kind == 1) = false := by simpa using hk
  by_cases hk3 : kind = 3
  · have hk3' : (kind == 3) = true := by simpa using hk3
    by_cases h1 : rpt = 0
    · have h1' : (rpt != 0) = false := by simpa using h1
      have HR := Lib.hid (HN.out (fun h => h.2.1 h1))
      clear HN HY hk hk3 h1
      go_enter Try.func31, Try.ntmps31
      go_wp2
      exact bodyPost_ret (results_ag1 rfl _ _ _ ⟨las, dst, srv, rpt, cel⟩ rfl (HT.out ⟨las, dst, srv, rpt, cel⟩ ⟨las, dst, srv, rpt, cel⟩).2.2.1) rfl ⟨by rw [HR.out], (HT.out ⟨las, dst, srv, rpt, cel⟩ ⟨las, dst, srv, rpt, cel⟩).2.2.2⟩
    · have h1' : (rpt != 0) = true := by simpa using h1
      by_cases h2 : seq = las
      · have h2' : (seq == las) = true := by simpa using h2
        by_cases h3 : flag = rpt
        · have h3' : (flag == rpt) = true := by simpa using h3
          have HR := Lib.hid (HY.out hk3 h1 h2 h3)
          clear HN HY hk hk3 h1 h2 h3
          go_enter Try.func31, Try.ntmps31
          go_wp2
          exact bodyPost_ret (results_ag1 rfl _ _ _ ⟨las, dst, srv, 0, 0⟩ rfl (HT.out ⟨las, dst, srv, 0, 0⟩ ⟨las, dst, srv, 0, 0⟩).2.2.1) rfl ⟨by rw [HR.out], (HT.out ⟨las, dst, srv, 0, 0⟩ ⟨las, dst, srv, 0, 0⟩).2.2.2⟩
        · have h3' : (flag == rpt) = false := by simpa using h3
          have HR := Lib.hid (HN.out (fun h => h3 h.2.2.2))
          clear HN HY hk hk3 h1 h2 h3
          go_enter Try.func31, Try.ntmps31
          go_wp2
          exact bodyPost_ret (results_ag1 rfl _ _ _ ⟨las, dst, srv, rpt, cel⟩ rfl (HT.out ⟨las, dst, srv, rpt, cel⟩ ⟨las, dst, srv, rpt, cel⟩).2.2.1) rfl ⟨by rw [HR.out], (HT.out ⟨las, dst, srv, rpt, cel⟩ ⟨las, dst, srv, rpt, cel⟩).2.2.2⟩
      · have h2' : (seq == las) = false := by simpa using h2
        have HR := Lib.hid (HN.out (fun h => h2 h.2.2.1))
        clear HN HY hk hk3 h1 h2
        go_enter Try.func31, Try.ntmps31
        go_wp2
        exact bodyPost_ret (results_ag1 rfl _ _ _ ⟨las, dst, srv, rpt, cel⟩ rfl (HT.out ⟨las, dst, srv, rpt, cel⟩ ⟨las, dst, srv, rpt, cel⟩).2.2.1) rfl ⟨by rw [HR.out], (HT.out ⟨las, dst, srv, rpt, cel⟩ ⟨las, dst, srv, rpt, cel⟩).2.2.2⟩
  · have hk3' : (kind == 3) = false := by simpa using hk3
    have HR := Lib.hid (HN.out (fun h => hk3 h.1))
    clear HN HY hk hk3
    go_enter Try.func31, Try.ntmps31
    go_wp2
    exact bodyPost_ret (results_ag1 rfl _ _ _ ⟨las, dst, srv, rpt, cel⟩ rfl (HT.out ⟨las, dst, srv, rpt, cel⟩ ⟨las, dst, srv, rpt, cel⟩).2.2.1) rfl ⟨by rw [HR.out], (HT.out ⟨las, dst, srv, rpt, cel⟩ ⟨las, dst, srv, rpt, cel⟩).2.2.2⟩
end Go.Proofs.Ytmdnkpiihhaoeaa
namespace Go.Proofs.Ytmdnkpiihhaoeaa
open Go Go.RowKit Fl

theorem four_af (w : World) (a : AgtD) (f : FrD) : AgAt ((((w.alloc (.cells (AC a) 32)).alloc (.cells (FC f) 36)).alloc (.cells (AC ⟨0, 0, false, 0, 0⟩) 32)).alloc (.cells #[.slice none 0 0] 72)) w.heap.size a ∧ FrAt ((((w.alloc (.cells (AC a) 32)).alloc (.cells (FC f) 36)).alloc (.cells (AC ⟨0, 0, false, 0, 0⟩) 32)).alloc (.cells #[.slice none 0 0] 72)) (w.heap.size + 1) f ∧ AgAt ((((w.alloc (.cells (AC a) 32)).alloc (.cells (FC f) 36)).alloc (.cells (AC ⟨0, 0, false, 0, 0⟩) 32)).alloc (.cells #[.slice none 0 0] 72)) (w.heap.size + 1 + 1) ⟨0, 0, false, 0, 0⟩ ∧ An0 ((((w.alloc (.cells (AC a) 32)).alloc (.cells (FC f) 36)).alloc (.cells (AC ⟨0, 0, false, 0, 0⟩) 32)).alloc (.cells #[.slice none 0 0] 72)) (w.heap.size + 1 + 1 + 1) ∧ Below w.heap.size w ((((w.alloc (.cells (AC a) 32)).alloc (.cells (FC f) 36)).alloc (.cells (AC ⟨0, 0, false, 0, 0⟩) 32)).alloc (.cells #[.slice none 0 0] 72)) := by
  obtain ⟨h1, h2, h3, h4⟩ := three_af w a ⟨0, 0, false, 0, 0⟩ f
  have h5 := An0.new (((w.alloc (.cells (AC a) 32)).alloc (.cells (FC f) 36)).alloc (.cells (AC ⟨0, 0, false, 0, 0⟩) 32))
  rw [show (((w.alloc (.cells (AC a) 32)).alloc (.cells (FC f) 36)).alloc (.cells (AC ⟨0, 0, false, 0, 0⟩) 32)).heap.size = w.heap.size + 1 + 1 + 1 by simp] at h5
  exact ⟨h1.keep (below_newF _ _), h2.keep (below_newF _ _), h3.keep (below_newF _ _), h5, h4.alloc (by simp; omega) _⟩
theorem mineF_no {r : Int} {f : FrD} (h : validF f = false) : mineF r f = false := by unfold mineF; rw [h]; rfl
theorem mineF_other {r : Int} {f : FrD} (h : f.robot ≠ r) : mineF r f = false := by unfold mineF; rw [decide_eq_false h, Bool.and_false]
theorem mineF_yes {r : Int} {f : FrD} (h : validF f = true) (h2 : f.robot = r) : mineF r f = true := by unfold mineF; rw [h, decide_eq_true h2]; rfl
theorem An1.parts {w : World} {b base : Nat} {f : FrD} (h : An1 w b base f) : ∃ A c, w.cell? ⟨b, 0, none⟩ = some (.slice A 1 c) ∧ ∀ W X, w.grownBy W (some X) → X < base → FrsR W base (.slice A 1 c) [f] := by
  obtain ⟨A, c, h1, h2⟩ := h
  exact ⟨A, c, by rw [cell_of_row w b _ _ _ (0, 0) h1]; rfl, fun W X hg hX => own_farF h2 hg hX⟩
set_option maxRecDepth 100000 in
set_option maxHeartbeats 8000000 in
theorem hear_c (a : AgtD) (r : Int) (f : FrD) (w : World) : Calls Try.prog 13 #[AV a, .int .i64 r, FV f] w (AFPost w (hearA a r f) (hearL r f)) := by
  have HT := Lib.hid (four_af w a f)
  have CV := Lib.hid (fun W => devValid_f f W)
  have HN1 := Lib.hid (fun h => hear_not (a := a) (mineF_no (r := r) (f := f) h))
  have HN2 := Lib.hid (fun h => hear_not (a := a) (mineF_other (r := r) (f := f) h))
  have HY := Lib.hid (fun h h2 => hear_mine (a := a) (mineF_yes (r := r) (f := f) h h2))
  have HL1 := Lib.hid (fun h h2 hk => hearL_one (mineF_yes (r := r) (f := f) h h2) hk)
  have HL0 := Lib.hid (fun hk => hearL_no (r := r) (f := f) hk)
  have C1 := Lib.hid (fun hk b W hb => heard1_c a f hk b W hb)
  have C0 := Lib.hid (fun hk b W => heard0_c a f hk b W)
  unfold HrdPost1 at C1
  unfold HrdPost0 at C0
  generalize hearL r f = L at *
  generalize hearA a r f = R at *
  generalize hearK a f = K at *
  obtain ⟨z, hz⟩ : ∃ z, validF f = z := ⟨_, rfl⟩
  rw [hz] at CV
  have HZ := Lib.hid hz
  clear hz
  have HW : Hid (((((w.alloc (.cells (AC a) 32)).alloc (.cells (FC f) 36)).alloc (.cells (AC ⟨0, 0, false, 0, 0⟩) 32)).alloc (.cells #[.slice none 0 0] 72)) = ((((w.alloc (.cells (AC a) 32)).alloc (.cells (FC f) 36)).alloc (.cells (AC ⟨0, 0, false, 0, 0⟩) 32)).alloc (.cells #[.slice none 0 0] 72))) := Lib.hid rfl
  obtain ⟨las, dst, srv, rpt, cel⟩ := a
  obtain ⟨kind, robot, seq, cell, flag⟩ := f
  go_enter Try.func13, Try.ntmps13
  go_wp2_with fail
  have hs4 : ((((w.alloc (.cells (AC ⟨las, dst, srv, rpt, cel⟩) 32)).alloc (.cells (FC ⟨kind, robot, seq, cell, flag⟩) 36)).alloc (.cells (AC ⟨0, 0, false, 0, 0⟩) 32)).alloc (.cells #[.slice none 0 0] 72)).heap.size = w.heap.size + 1 + 1 + 1 + 1 := by simp
  generalize ((((w.alloc (.cells (AC ⟨las, dst, srv, rpt, cel⟩) 32)).alloc (.cells (FC ⟨kind, robot, seq, cell, flag⟩) 36)).alloc (.cells (AC ⟨0, 0, false, 0, 0⟩) 32)).alloc (.cells #[.slice none 0 0] 72)) = w4 at *
  clear HW
  refine (CV.out _).mono ?_
  rintro e w5 ⟨rfl, hb5⟩
  obtain ⟨t1, t2, t3, t4, t5⟩ := HT.out
  have HA := Lib.hid (t1.keep hb5)
  have HF := Lib.hid (t2.keep hb5)
  have HR := Lib.hid (t3.keep hb5)
  have HS := Lib.hid (t4.keep hb5)
  have HB := Lib.hid (t5.trans (hb5.mono t5.size))
  clear t1 t2 t3 t4 t5 hb5 HT CV
  obtain ⟨x0, x1, x2, x3, x4⟩ := HA.out.cell
  obtain ⟨y0, y1, y2, y3, y4⟩ := HF.out.cell
  obtain ⟨z0, z1, z2, z3, z4⟩ := HR.out.cell
  have s0 : w5.cell? ⟨w.heap.size + 1 + 1 + 1, 0, none⟩ = some (.slice none 0 0) := by
    have h : _ = _ := HS.out
    rw [cell_of_row _ _ _ _ _ (0, 0) h]; rfl
  have zf := HR.out.frozen
  have xf := HA.out.frozen
  rcases z with _ | _
  · have HR1 := Lib.hid (HN1.out HZ.out)
    clear HN1 HN2 HY HL1 HL0 C1 C0
    go_wp2
    go_region
    go_wp2
    obtain ⟨e1, e2⟩ := HR1.out
    subst e1 e2
    refine bodyPost_ret (results_ag rfl _ _ _ ⟨las, dst, srv, rpt, cel⟩ (.slice none 0 0) rfl ((HR.out.put5 ⟨las, dst, srv, rpt, cel⟩).keep (Below.refl _ _).drew) rfl) rfl ⟨(.slice none 0 0), rfl, ?_, (put5A_below (X := w.heap.size + 1 + 1) (a := ⟨las, dst, srv, rpt, cel⟩) HB.out (by omega)).drew⟩
    exact FrsR.nil _ _
  · by_cases hr : robot = r
    · have hr' : (robot == r) = true := by simpa using hr
      have HRK := Lib.hid (HY.out HZ.out hr)
      obtain ⟨k0, k1, k2, k3, k4⟩ := K
      by_cases hk : kind = 1
      · have HR1 : Hid (R = ⟨k0, k1, k2, k3, k4⟩ ∧ L = [⟨3, robot, seq, 0, 0⟩]) := Lib.hid ⟨HRK.out, by rw [HL1.out HZ.out hr hk, hr]⟩
        have HK := Lib.hid hk
        clear HN1 HN2 HY HL1 HL0 C0 HRK hr hk
        go_wp2_with fail
        refine (C1.out HK.out _ _ HS.out).mono ?_
        rintro e w6 ⟨rfl, h1, hg⟩
        have HA6 := Lib.hid (HA.out.grown hg (fun e => by injection e with e; omega))
        have HR6 := Lib.hid (HR.out.grown hg (fun e => by injection e with e; omega))
        have HB6 : Hid (Below w.heap.size w w6) := Lib.hid (HB.out.grown hg HB.out.size (fun k hk => by injection hk with hk; omega))
        have hw5 : w.heap.size + 1 + 1 + 1 < w5.heap.size := block_lt HS.out
        have hw5b : w.heap.size ≤ w5.heap.size := HB.out.size
        have H1 := Lib.hid h1
        clear hg h1 C1 HA HF HR HS HB x0 x1 x2 x3 x4 y0 y1 y2 y3 y4 z0 z1 z2 z3 z4 s0 zf xf
        obtain ⟨x0, x1, x2, x3, x4⟩ := HA6.out.cell
        have xf := HA6.out.frozen
        go_upto_region 4 with fail
        have hg7 := put5A_grown w6 (w.heap.size) ⟨k0, k1, k2, k3, k4⟩
        have HA7 : Hid (AgAt (put5A w6 (w.heap.size) ⟨k0, k1, k2, k3, k4⟩) (w.heap.size) ⟨k0, k1, k2, k3, k4⟩) := Lib.hid (HA6.out.put5 ⟨k0, k1, k2, k3, k4⟩)
        have HR7 := Lib.hid (HR6.out.grown hg7 (fun e => by injection e with e; omega))
        have HB7 := Lib.hid (put5A_below (X := w.heap.size) (a := ⟨k0, k1, k2, k3, k4⟩) HB6.out (Nat.le_refl _))
        have H7 := Lib.hid (H1.out.far hg7 (by omega) (by omega))
        change Code.wp _ _ _ _ (put5A w6 (w.heap.size) ⟨k0, k1, k2, k3, k4⟩)
        generalize put5A w6 (w.heap.size) ⟨k0, k1, k2, k3, k4⟩ = w7 at *
        clear x0 x1 x2 x3 x4 xf hg7 HA6 HR6 HB6 H1
        obtain ⟨x0, x1, x2, x3, x4⟩ := HA7.out.cell
        obtain ⟨z0, z1, z2, z3, z4⟩ := HR7.out.cell
        have zf := HR7.out.frozen
        obtain ⟨A, c, s0, hq⟩ := H7.out.parts
        have HQ := Lib.hid (hq _ _ (put5A_grown w7 (w.heap.size + 1 + 1) ⟨k0, k1, k2, k3, k4⟩) (by omega))
        clear hq
        go_region
        go_wp2
        obtain ⟨e1, e2⟩ := HR1.out
        subst e1 e2
        refine bodyPost_ret (results_ag rfl _ _ _ ⟨k0, k1, k2, k3, k4⟩ (.slice A 1 c) rfl ((HR7.out.put5 ⟨k0, k1, k2, k3, k4⟩).keep (Below.refl _ _).drew) rfl) rfl ⟨(.slice A 1 c), rfl, ?_, (put5A_below (X := w.heap.size + 1 + 1) (a := ⟨k0, k1, k2, k3, k4⟩) HB7.out (by omega)).drew⟩
        exact (HQ.out.low hw5b).drew
      · have HR1 : Hid (R = ⟨k0, k1, k2, k3, k4⟩ ∧ L = []) := Lib.hid ⟨HRK.out, HL0.out hk⟩
        have HK := Lib.hid hk
        clear HN1 HN2 HY HL1 HL0 C1 HRK hr hk
        go_wp2_with fail
        refine (C0.out HK.out _ _).mono ?_
        rintro e w6 ⟨rfl, hb6⟩
        have HA6 := Lib.hid (HA.out.keep hb6)
        have HR6 := Lib.hid (HR.out.keep hb6)
        have HS6 := Lib.hid (HS.out.keep hb6)
        have HB6 := Lib.hid (HB.out.trans (hb6.mono HB.out.size))
        clear hb6 C0 HA HF HR HS HB x0 x1 x2 x3 x4 y0 y1 y2 y3 y4 z0 z1 z2 z3 z4 s0 zf xf
        obtain ⟨x0, x1, x2, x3, x4⟩ := HA6.out.cell
        have xf := HA6.out.frozen
        go_upto_region 4 with fail
        have hg7 := put5A_grown w6 (w.heap.size) ⟨k0, k1, k2, k3, k4⟩
        have HA7 : Hid (AgAt (put5A w6 (w.heap.size) ⟨k0, k1, k2, k3, k4⟩) (w.heap.size) ⟨k0, k1, k2, k3, k4⟩) := Lib.hid (HA6.out.put5 ⟨k0, k1, k2, k3, k4⟩)
        have HR7 := Lib.hid (HR6.out.grown hg7 (fun e => by injection e with e; omega))
        have HB7 := Lib.hid (put5A_below (X := w.heap.size) (a := ⟨k0, k1, k2, k3, k4⟩) HB6.out (Nat.le_refl _))
        have s0 : (put5A w6 (w.heap.size) ⟨k0, k1, k2, k3, k4⟩).cell? ⟨w.heap.size + 1 + 1 + 1, 0, none⟩ = some (.slice none 0 0) := by
          have h : _ = _ := (hg7.block _ (block_lt HS6.out) (fun e => by injection e with e; omega)).trans HS6.out
          rw [cell_of_row _ _ _ _ _ (0, 0) h]; rfl
        change Code.wp _ _ _ _ (put5A w6 (w.heap.size) ⟨k0, k1, k2, k3, k4⟩)
        generalize put5A w6 (w.heap.size) ⟨k0, k1, k2, k3, k4⟩ = w7 at *
        clear x0 x1 x2 x3 x4 xf hg7 HA6 HR6 HB6 HS6
        obtain ⟨x0, x1, x2, x3, x4⟩ := HA7.out.cell
        obtain ⟨z0, z1, z2, z3, z4⟩ := HR7.out.cell
        have zf := HR7.out.frozen
        go_region
        go_wp2
        obtain ⟨e1, e2⟩ := HR1.out
        subst e1 e2
        refine bodyPost_ret (results_ag rfl _ _ _ ⟨k0, k1, k2, k3, k4⟩ (.slice none 0 0) rfl ((HR7.out.put5 ⟨k0, k1, k2, k3, k4⟩).keep (Below.refl _ _).drew) rfl) rfl ⟨(.slice none 0 0), rfl, ?_, (put5A_below (X := w.heap.size + 1 + 1) (a := ⟨k0, k1, k2, k3, k4⟩) HB7.out (by omega)).drew⟩
        exact FrsR.nil _ _
    · have hr' : (robot == r) = false := by simpa using hr
      have HR1 := Lib.hid (HN2.out hr)
      clear HN1 HN2 HY HL1 HL0 C1 C0 hr
      go_wp2
      go_region
      go_wp2
      obtain ⟨e1, e2⟩ := HR1.out
      subst e1 e2
      refine bodyPost_ret (results_ag rfl _ _ _ ⟨las, dst, srv, rpt, cel⟩ (.slice none 0 0) rfl ((HR.out.put5 ⟨las, dst, srv, rpt, cel⟩).keep (Below.refl _ _).drew) rfl) rfl ⟨(.slice none 0 0), rfl, ?_, (put5A_below (X := w.heap.size + 1 + 1) (a := ⟨las, dst, srv, rpt, cel⟩) HB.out (by omega)).drew⟩
      exact FrsR.nil _ _
end Go.Proofs.Ytmdnkpiihhaoeaa
namespace Go.Proofs.Ytmdnkpiihhaoeaa
open Go Go.RowKit Fl

theorem AgAt.put34 {w : World} {b : Nat} {las dst rpt cel : Int} {srv : Bool} (h : AgAt w b ⟨las, dst, srv, rpt, cel⟩) : AgAt ((w.setCell ⟨b, 3, none⟩ (.int .i64 0)).setCell ⟨b, 4, none⟩ (.int .i64 0)) b ⟨las, dst, srv, 0, 0⟩ := by
  unfold AgAt at h ⊢
  simp [World.setCell, Array.getElem?_modify, h]
/-- An agent is stored, a frame is laid into a new block: in either order. -/
theorem sent_after {w wd : World} {Z : Nat} {z : AgtD} (hz : AgAt wd Z z) (hb : Below w.heap.size w wd) (hZ : w.heap.size ≤ Z) (a : AgtD) (f : FrD) :
    (AgAt ((((((wd.setCell ⟨Z, 0, none⟩ (.int .u64 a.las)).setCell ⟨Z, 1, none⟩ (.int .i64 a.dst)).setCell ⟨Z, 2, none⟩ (.bool a.srv)).setCell ⟨Z, 3, none⟩ (.int .i64 a.rpt)).setCell ⟨Z, 4, none⟩ (.int .i64 a.cel)).alloc (.cells (FC f) 36)).drew Z a ∧ FrsR ((((((wd.setCell ⟨Z, 0, none⟩ (.int .u64 a.las)).setCell ⟨Z, 1, none⟩ (.int .i64 a.dst)).setCell ⟨Z, 2, none⟩ (.bool a.srv)).setCell ⟨Z, 3, none⟩ (.int .i64 a.rpt)).setCell ⟨Z, 4, none⟩ (.int .i64 a.cel)).alloc (.cells (FC f) 36)).drew w.heap.size (.slice (some ⟨wd.heap.size, 0, none⟩) 1 1) [f] ∧ Below w.heap.size w ((((((wd.setCell ⟨Z, 0, none⟩ (.int .u64 a.las)).setCell ⟨Z, 1, none⟩ (.int .i64 a.dst)).setCell ⟨Z, 2, none⟩ (.bool a.srv)).setCell ⟨Z, 3, none⟩ (.int .i64 a.rpt)).setCell ⟨Z, 4, none⟩ (.int .i64 a.cel)).alloc (.cells (FC f) 36)).drew) ∧ (AgAt ((((((wd.alloc (.cells (FC f) 36)).setCell ⟨Z, 0, none⟩ (.int .u64 a.las)).setCell ⟨Z, 1, none⟩ (.int .i64 a.dst)).setCell ⟨Z, 2, none⟩ (.bool a.srv)).setCell ⟨Z, 3, none⟩ (.int .i64 a.rpt)).setCell ⟨Z, 4, none⟩ (.int .i64 a.cel)).drew Z a ∧ FrsR ((((((wd.alloc (.cells (FC f) 36)).setCell ⟨Z, 0, none⟩ (.int .u64 a.las)).setCell ⟨Z, 1, none⟩ (.int .i64 a.dst)).setCell ⟨Z, 2, none⟩ (.bool a.srv)).setCell ⟨Z, 3, none⟩ (.int .i64 a.rpt)).setCell ⟨Z, 4, none⟩ (.int .i64 a.cel)).drew w.heap.size (.slice (some ⟨wd.heap.size, 0, none⟩) 1 1) [f] ∧ Below w.heap.size w ((((((wd.alloc (.cells (FC f) 36)).setCell ⟨Z, 0, none⟩ (.int .u64 a.las)).setCell ⟨Z, 1, none⟩ (.int .i64 a.dst)).setCell ⟨Z, 2, none⟩ (.bool a.srv)).setCell ⟨Z, 3, none⟩ (.int .i64 a.rpt)).setCell ⟨Z, 4, none⟩ (.int .i64 a.cel)).drew) := by
  have hlt := block_lt hz
  have hb1 := put5A_below (X := Z) (a := a) hb hZ
  have hs : (put5A wd Z a).heap.size = wd.heap.size := by simp [put5A, World.setCell]
  have hf1 := FrAt.new (put5A wd Z a) f
  rw [hs] at hf1
  have hf2 := (FrAt.new wd f).grown (put5A_grown (wd.alloc (.cells (FC f) 36)) Z a) (fun e => by injection e with e; omega)
  have hz1 : AgAt (put5A wd Z a) Z a := hz.put5 a
  have hz2 : AgAt (put5A (wd.alloc (.cells (FC f) 36)) Z a) Z a := (hz.keep (below_newF _ _)).put5 a
  exact ⟨⟨(hz1.keep (below_newF _ _)).keep (Below.refl _ _).drew, (FrsR.one hf1 hb.size).drew, (hb1.alloc hb1.size _).drew⟩, hz2.keep (Below.refl _ _).drew, (FrsR.one hf2 hb.size).drew, (put5A_below (hb.alloc hb.size _) hZ).drew⟩
set_option maxRecDepth 100000 in
set_option maxHeartbeats 8000000 in
theorem refHear_c (a : AgtD) (r : Int) (f : FrD) (w : World) : Calls Try.prog 14 #[AV a, .int .i64 r, FV f] w (AFPost w (hearA a r f) (hearL r f)) := by
  have HT := Lib.hid (three_af w a ⟨0, 0, false, 0, 0⟩ f)
  have CV := Lib.hid (fun W => refValid_c f W)
  have HN1 := Lib.hid (fun h => hear_not (a := a) (mineF_no (r := r) (f := f) h))
  have HN2 := Lib.hid (fun h => hear_not (a := a) (mineF_other (r := r) (f := f) h))
  have HY := Lib.hid (fun h h2 => hear_mine (a := a) (mineF_yes (r := r) (f := f) h h2))
  have HL1 := Lib.hid (fun h h2 hk => hearL_one (mineF_yes (r := r) (f := f) h h2) hk)
  have HL0 := Lib.hid (fun hk => hearL_no (r := r) (f := f) hk)
  have K1 := Lib.hid (fun h h2 => hearK_fresh (a := a) (f := f) h h2)
  have K2 := Lib.hid (fun h h2 => hearK_old (a := a) (f := f) h h2)
  have K3 := Lib.hid (fun h => hearK_ack (a := a) (f := f) h)
  have K4 := Lib.hid (fun h => hearK_no (a := a) (f := f) h)
  generalize hearL r f = L at *
  generalize hearA a r f = R at *
  generalize hearK a f = K at *
  obtain ⟨z, hz⟩ : ∃ z, validF f = z := ⟨_, rfl⟩
  rw [hz] at CV
  have HZ := Lib.hid hz
  obtain ⟨y, hy⟩ : ∃ y, freshB a.las f.seq = y := ⟨_, rfl⟩
  have CF := Lib.hid (fun W => refFresh_qa a.las f.seq y hy W)
  have HYY := Lib.hid hy
  clear hz hy
  obtain ⟨las, dst, srv, rpt, cel⟩ := a
  obtain ⟨kind, robot, seq, cell, flag⟩ := f
  go_enter Try.func14, Try.ntmps14
  go_wp2_with fail
  have hs3 : (((w.alloc (.cells (AC ⟨las, dst, srv, rpt, cel⟩) 32)).alloc (.cells (FC ⟨kind, robot, seq, cell, flag⟩) 36)).alloc (.cells (AC ⟨0, 0, false, 0, 0⟩) 32)).heap.size = w.heap.size + 1 + 1 + 1 := by simp
  generalize (((w.alloc (.cells (AC ⟨las, dst, srv, rpt, cel⟩) 32)).alloc (.cells (FC ⟨kind, robot, seq, cell, flag⟩) 36)).alloc (.cells (AC ⟨0, 0, false, 0, 0⟩) 32)) = w4 at *
  refine (CV.out _).mono ?_
  rintro e w5 ⟨rfl, hb5⟩
  obtain ⟨t1, t2, t3, t5⟩ := HT.out
  have HA := Lib.hid (t1.keep hb5)
  have HF := Lib.hid (t2.keep hb5)
  have HR := Lib.hid (t3.keep hb5)
  have HB := Lib.hid (t5.trans (hb5.mono t5.size))
  clear t1 t2 t3 t5 hb5 HT CV
  obtain ⟨x0, x1, x2, x3, x4⟩ := HA.out.cell
  obtain ⟨y0, y1, y2, y3, y4⟩ := HF.out.cell
  obtain ⟨z0, z1, z2, z3, z4⟩ := HR.out.cell
  have zf := HR.out.frozen
  have xf := HA.out.frozen
  rcases z with _ | _
  · have HR1 := Lib.hid (HN1.out HZ.out)
    clear HN1 HN2 HY HL1 HL0 K1 K2 K3 K4 CF
    go_wp2
    obtain ⟨e1, e2⟩ := HR1.out
    subst e1 e2
    refine bodyPost_ret (results_ag rfl _ _ _ ⟨las, dst, srv, rpt, cel⟩ (.slice none 0 0) rfl (HR.out.put5 ⟨las, dst, srv, rpt, cel⟩) rfl) rfl ⟨.slice none 0 0, rfl, ?_, put5A_below (X := w.heap.size + 1 + 1) (a := ⟨las, dst, srv, rpt, cel⟩) HB.out (by omega)⟩
    exact FrsR.nil _ _
  · by_cases hr : robot = r
    · have hr' : (robot != r) = false := by simpa using hr
      have HRK := Lib.hid (HY.out HZ.out hr)
      by_cases hk : kind = 1
      · have hk' : (kind == 1) = true := by simpa using hk
        have HLL : Hid (L = [⟨3, r, seq, 0, 0⟩]) := Lib.hid (HL1.out HZ.out hr hk)
        rcases y with _ | _
        · have HR1 : Hid (R = ⟨las, dst, srv, rpt, cel⟩ ∧ L = [⟨3, r, seq, 0, 0⟩]) := Lib.hid ⟨by rw [HRK.out, K2.out hk HYY.out], HLL.out⟩
          clear HN1 HN2 HY HL1 HL0 K1 K2 K3 K4 HRK HLL hr hk
          go_wp2_with fail
          refine (CF.out _).mono ?_
          rintro e w6 ⟨rfl, rfl⟩
          go_upto_region 7 with fail
          obtain ⟨e1, e2⟩ := HR1.out
          subst e1 e2
          have hkk : Below w5.heap.size w5 (w5.alloc (.cells (FC ⟨3, r, seq, 0, 0⟩) 36)) := below_newF _ _
          obtain ⟨p0, p1, p2, p3, p4⟩ := (HA.out.keep hkk).cell
          obtain ⟨q0, q1, q2, q3, q4⟩ := (HF.out.keep hkk).cell
          obtain ⟨m0, m1, m2, m3, m4⟩ := (HR.out.keep hkk).cell
          have mf := (HR.out.keep hkk).frozen
          clear hkk HA HF
          have HS := Lib.hid (sent_after HR.out HB.out (by omega) ⟨las, dst, srv, rpt, cel⟩ ⟨3, r, seq, 0, 0⟩)
          clear HR1 HR HB
          go_region
          all_goals
            go_wp2
            refine bodyPost_ret (results_ag rfl _ _ _ ⟨las, dst, srv, rpt, cel⟩ (.slice (some ⟨w5.heap.size, 0, none⟩) 1 1) rfl ?_ rfl) rfl ⟨.slice (some ⟨w5.heap.size, 0, none⟩) 1 1, rfl, ?_, ?_⟩
            all_goals first | with_reducible exact HS.out.1.1 | with_reducible exact HS.out.1.2.1 | with_reducible exact HS.out.1.2.2 | with_reducible exact HS.out.2.1 | with_reducible exact HS.out.2.2.1 | with_reducible exact HS.out.2.2.2
        · by_cases hf : flag = 1
          · have hf' : (flag == 1) = true := by simpa using hf
            have HR1 : Hid (R = ⟨seq, cell, true, 0, 0⟩ ∧ L = [⟨3, r, seq, 0, 0⟩]) := Lib.hid ⟨by rw [HRK.out, K1.out hk HYY.out]; (try simp only); rw [decide_eq_true hf], HLL.out⟩
            clear HN1 HN2 HY HL1 HL0 K1 K2 K3 K4 HRK HLL hr hk hf
            go_wp2_with fail
            refine (CF.out _).mono ?_
            rintro e w6 ⟨rfl, rfl⟩
            go_upto_region 7 with fail
            have hg7 := put5A_grown w5 (w.heap.size) ⟨seq, cell, true, 0, 0⟩
            have HA7 : Hid (AgAt (put5A w5 (w.heap.size) ⟨seq, cell, true, 0, 0⟩) (w.heap.size) ⟨seq, cell, true, 0, 0⟩) := Lib.hid (HA.out.put5 ⟨seq, cell, true, 0, 0⟩)
            have HF7 := Lib.hid (HF.out.grown hg7 (fun e => by injection e with e; omega))
            have HR7 := Lib.hid (HR.out.grown hg7 (fun e => by injection e with e; omega))
            have HB7 := Lib.hid (put5A_below (X := w.heap.size) (a := ⟨seq, cell, true, 0, 0⟩) HB.out (Nat.le_refl _))
            change Code.wp _ _ _ _ (put5A w5 (w.heap.size) ⟨seq, cell, true, 0, 0⟩)
            generalize put5A w5 (w.heap.size) ⟨seq, cell, true, 0, 0⟩ = w7 at *
            clear x0 x1 x2 x3 x4 y0 y1 y2 y3 y4 z0 z1 z2 z3 z4 xf zf hg7 HA HF HR HB
            obtain ⟨x0, x1, x2, x3, x4⟩ := HA7.out.cell
            obtain ⟨y0, y1, y2, y3, y4⟩ := HF7.out.cell
            obtain ⟨z0, z1, z2, z3, z4⟩ := HR7.out.cell
            have zf := HR7.out.frozen
            obtain ⟨e1, e2⟩ := HR1.out
            subst e1 e2
            have hkk : Below w7.heap.size w7 (w7.alloc (.cells (FC ⟨3, r, seq, 0, 0⟩) 36)) := below_newF _ _
            obtain ⟨p0, p1, p2, p3, p4⟩ := (HA7.out.keep hkk).cell
            obtain ⟨q0, q1, q2, q3, q4⟩ := (HF7.out.keep hkk).cell
            obtain ⟨m0, m1, m2, m3, m4⟩ := (HR7.out.keep hkk).cell
            have mf := (HR7.out.keep hkk).frozen
            clear hkk HA7 HF7
            have HS := Lib.hid (sent_after HR7.out HB7.out (by omega) ⟨seq, cell, true, 0, 0⟩ ⟨3, r, seq, 0, 0⟩)
            clear HR1 HR7 HB7
            go_region
            all_goals
              go_wp2
              refine bodyPost_ret (results_ag rfl _ _ _ ⟨seq, cell, true, 0, 0⟩ (.slice (some ⟨w7.heap.size, 0, none⟩) 1 1) rfl ?_ rfl) rfl ⟨.slice (some ⟨w7.heap.size, 0, none⟩) 1 1, rfl, ?_, ?_⟩
              all_goals first | with_reducible exact HS.out.1.1 | with_reducible exact HS.out.1.2.1 | with_reducible exact HS.out.1.2.2 | with_reducible exact HS.out.2.1 | with_reducible exact HS.out.2.2.1 | with_reducible exact HS.out.2.2.2
          · have hf' : (flag == 1) = false := by simpa using hf
            have HR1 : Hid (R = ⟨seq, cell, false, 0, 0⟩ ∧ L = [⟨3, r, seq, 0, 0⟩]) := Lib.hid ⟨by rw [HRK.out, K1.out hk HYY.out]; (try simp only); rw [decide_eq_false hf], HLL.out⟩
            clear HN1 HN2 HY HL1 HL0 K1 K2 K3 K4 HRK HLL hr hk hf
            go_wp2_with fail
            refine (CF.out _).mono ?_
            rintro e w6 ⟨rfl, rfl⟩
            go_upto_region 7 with fail
            have hg7 := put5A_grown w5 (w.heap.size) ⟨seq, cell, false, 0, 0⟩
            have HA7 : Hid (AgAt (put5A w5 (w.heap.size) ⟨seq, cell, false, 0, 0⟩) (w.heap.size) ⟨seq, cell, false, 0, 0⟩) := Lib.hid (HA.out.put5 ⟨seq, cell, false, 0, 0⟩)
            have HF7 := Lib.hid (HF.out.grown hg7 (fun e => by injection e with e; omega))
            have HR7 := Lib.hid (HR.out.grown hg7 (fun e => by injection e with e; omega))
            have HB7 := Lib.hid (put5A_below (X := w.heap.size) (a := ⟨seq, cell, false, 0, 0⟩) HB.out (Nat.le_refl _))
            change Code.wp _ _ _ _ (put5A w5 (w.heap.size) ⟨seq, cell, false, 0, 0⟩)
            generalize put5A w5 (w.heap.size) ⟨seq, cell, false, 0, 0⟩ = w7 at *
            clear x0 x1 x2 x3 x4 y0 y1 y2 y3 y4 z0 z1 z2 z3 z4 xf zf hg7 HA HF HR HB
            obtain ⟨x0, x1, x2, x3, x4⟩ := HA7.out.cell
            obtain ⟨y0, y1, y2, y3, y4⟩ := HF7.out.cell
            obtain ⟨z0, z1, z2, z3, z4⟩ := HR7.out.cell
            have zf := HR7.out.frozen
            obtain ⟨e1, e2⟩ := HR1.out
            subst e1 e2
            have hkk : Below w7.heap.size w7 (w7.alloc (.cells (FC ⟨3, r, seq, 0, 0⟩) 36)) := below_newF _ _
            obtain ⟨p0, p1, p2, p3, p4⟩ := (HA7.out.keep hkk).cell
            obtain ⟨q0, q1, q2, q3, q4⟩ := (HF7.out.keep hkk).cell
            obtain ⟨m0, m1, m2, m3, m4⟩ := (HR7.out.keep hkk).cell
            have mf := (HR7.out.keep hkk).frozen
            clear hkk HA7 HF7
            have HS := Lib.hid (sent_after HR7.out HB7.out (by omega) ⟨seq, cell, false, 0, 0⟩ ⟨3, r, seq, 0, 0⟩)
            clear HR1 HR7 HB7
            go_region
            all_goals
              go_wp2
              refine bodyPost_ret (results_ag rfl _ _ _ ⟨seq, cell, false, 0, 0⟩ (.slice (some ⟨w7.heap.size, 0, none⟩) 1 1) rfl ?_ rfl) rfl ⟨.slice (some ⟨w7.heap.size, 0, none⟩) 1 1, rfl, ?_, ?_⟩
              all_goals first | with_reducible exact HS.out.1.1 | with_reducible exact HS.out.1.2.1 | with_reducible exact HS.out.1.2.2 | with_reducible exact HS.out.2.1 | with_reducible exact HS.out.2.2.1 | with_reducible exact HS.out.2.2.2
      · have hk' : (kind == 1) = false := by simpa using hk
        have HLL : Hid (L = []) := Lib.hid (HL0.out hk)
        by_cases hk3 : kind = 3
        · have hk3' : (kind == 3) = true := by simpa using hk3
          by_cases h1 : rpt = 0
          · have h1' : (rpt != 0) = false := by simpa using h1
            have HR1 : Hid (R = ⟨las, dst, srv, rpt, cel⟩ ∧ L = []) := Lib.hid ⟨by rw [HRK.out, K4.out hk (fun h => h.2.1 h1)], HLL.out⟩
            clear HN1 HN2 HY HL1 HL0 K1 K2 K3 K4 HRK HLL hr hk hk3 h1 CF
            go_wp2
            obtain ⟨e1, e2⟩ := HR1.out
            subst e1 e2
            refine bodyPost_ret (results_ag rfl _ _ _ ⟨las, dst, srv, rpt, cel⟩ (.slice none 0 0) rfl (HR.out.put5 ⟨las, dst, srv, rpt, cel⟩) rfl) rfl ⟨.slice none 0 0, rfl, ?_, put5A_below (X := w.heap.size + 1 + 1) (a := ⟨las, dst, srv, rpt, cel⟩) HB.out (by omega)⟩
            exact FrsR.nil _ _
          · have h1' : (rpt != 0) = true := by simpa using h1
            by_cases h2 : seq = las
            · have h2' : (seq == las) = true := by simpa using h2
              by_cases h3 : flag = rpt
              · have h3' : (flag == rpt) = true := by simpa using h3
                have HR1 : Hid (R = ⟨las, dst, srv, 0, 0⟩ ∧ L = []) := Lib.hid ⟨by rw [HRK.out, K3.out hk3 h1 h2 h3], HLL.out⟩
                clear HN1 HN2 HY HL1 HL0 K1 K2 K3 K4 HRK HLL hr hk hk3 h1 h2 h3 CF
                go_upto_region 11 with fail
                have hgx : ∀ (W : World) (i : Nat) (v : Value), W.grownBy (W.setCell ⟨w.heap.size, i, none⟩ v) (some w.heap.size) := fun W i v => grown_put (Below.refl W.heap.size W) (Nat.le_refl _)
                have HR7 := Lib.hid ((HR.out.grown (hgx _ 3 (.int .i64 0)) (fun e => by injection e with e; omega)).grown (hgx _ 4 (.int .i64 0)) (fun e => by injection e with e; omega))
                have HA7 : Hid (AgAt ((w5.setCell ⟨w.heap.size, 3, none⟩ (.int .i64 0)).setCell ⟨w.heap.size, 4, none⟩ (.int .i64 0)) w.heap.size ⟨las, dst, srv, 0, 0⟩) := Lib.hid (HA.out.put34)
                have HB7 : Hid (Below w.heap.size w ((w5.setCell ⟨w.heap.size, 3, none⟩ (.int .i64 0)).setCell ⟨w.heap.size, 4, none⟩ (.int .i64 0))) := Lib.hid (below_put (below_put HB.out (Nat.le_refl _)) (Nat.le_refl _))
                generalize (w5.setCell ⟨w.heap.size, 3, none⟩ (.int .i64 0)).setCell ⟨w.heap.size, 4, none⟩ (.int .i64 0) = w7 at *
                clear x0 x1 x2 x3 x4 y0 y1 y2 y3 y4 z0 z1 z2 z3 z4 xf zf hgx HA HF HR HB
                obtain ⟨x0, x1, x2, x3, x4⟩ := HA7.out.cell
                obtain ⟨z0, z1, z2, z3, z4⟩ := HR7.out.cell
                have zf := HR7.out.frozen
                go_wp2
                obtain ⟨e1, e2⟩ := HR1.out
                subst e1 e2
                refine bodyPost_ret (results_ag rfl _ _ _ ⟨las, dst, srv, 0, 0⟩ (.slice none 0 0) rfl (HR7.out.put5 ⟨las, dst, srv, 0, 0⟩) rfl) rfl ⟨.slice none 0 0, rfl, ?_, put5A_below (X := w.heap.size + 1 + 1) (a := ⟨las, dst, srv, 0, 0⟩) HB7.out (by omega)⟩
                exact FrsR.nil _ _
              · have h3' : (flag == rpt) = false := by simpa using h3
                have HR1 : Hid (R = ⟨las, dst, srv, rpt, cel⟩ ∧ L = []) := Lib.hid ⟨by rw [HRK.out, K4.out hk (fun h => h3 h.2.2.2)], HLL.out⟩
                clear HN1 HN2 HY HL1 HL0 K1 K2 K3 K4 HRK HLL hr hk hk3 h1 h2 h3 CF
                go_wp2
                obtain ⟨e1, e2⟩ := HR1.out
                subst e1 e2
                refine bodyPost_ret (results_ag rfl _ _ _ ⟨las, dst, srv, rpt, cel⟩ (.slice none 0 0) rfl (HR.out.put5 ⟨las, dst, srv, rpt, cel⟩) rfl) rfl ⟨.slice none 0 0, rfl, ?_, put5A_below (X := w.heap.size + 1 + 1) (a := ⟨las, dst, srv, rpt, cel⟩) HB.out (by omega)⟩
                exact FrsR.nil _ _
            · have h2' : (seq == las) = false := by simpa using h2
              have HR1 : Hid (R = ⟨las, dst, srv, rpt, cel⟩ ∧ L = []) := Lib.hid ⟨by rw [HRK.out, K4.out hk (fun h => h2 h.2.2.1)], HLL.out⟩
              clear HN1 HN2 HY HL1 HL0 K1 K2 K3 K4 HRK HLL hr hk hk3 h1 h2 CF
              go_wp2
              obtain ⟨e1, e2⟩ := HR1.out
              subst e1 e2
              refine bodyPost_ret (results_ag rfl _ _ _ ⟨las, dst, srv, rpt, cel⟩ (.slice none 0 0) rfl (HR.out.put5 ⟨las, dst, srv, rpt, cel⟩) rfl) rfl ⟨.slice none 0 0, rfl, ?_, put5A_below (X := w.heap.size + 1 + 1) (a := ⟨las, dst, srv, rpt, cel⟩) HB.out (by omega)⟩
              exact FrsR.nil _ _
        · have hk3' : (kind == 3) = false := by simpa using hk3
          have HR1 : Hid (R = ⟨las, dst, srv, rpt, cel⟩ ∧ L = []) := Lib.hid ⟨by rw [HRK.out, K4.out hk (fun h => hk3 h.1)], HLL.out⟩
          clear HN1 HN2 HY HL1 HL0 K1 K2 K3 K4 HRK HLL hr hk hk3 CF
          go_wp2
          obtain ⟨e1, e2⟩ := HR1.out
          subst e1 e2
          refine bodyPost_ret (results_ag rfl _ _ _ ⟨las, dst, srv, rpt, cel⟩ (.slice none 0 0) rfl (HR.out.put5 ⟨las, dst, srv, rpt, cel⟩) rfl) rfl ⟨.slice none 0 0, rfl, ?_, put5A_below (X := w.heap.size + 1 + 1) (a := ⟨las, dst, srv, rpt, cel⟩) HB.out (by omega)⟩
          exact FrsR.nil _ _
    · have hr' : (robot != r) = true := by simpa using hr
      have HR1 := Lib.hid (HN2.out hr)
      clear HN1 HN2 HY HL1 HL0 K1 K2 K3 K4 hr CF
      go_wp2
      obtain ⟨e1, e2⟩ := HR1.out
      subst e1 e2
      refine bodyPost_ret (results_ag rfl _ _ _ ⟨las, dst, srv, rpt, cel⟩ (.slice none 0 0) rfl (HR.out.put5 ⟨las, dst, srv, rpt, cel⟩) rfl) rfl ⟨.slice none 0 0, rfl, ?_, put5A_below (X := w.heap.size + 1 + 1) (a := ⟨las, dst, srv, rpt, cel⟩) HB.out (by omega)⟩
      exact FrsR.nil _ _
end Go.Proofs.Ytmdnkpiihhaoeaa
