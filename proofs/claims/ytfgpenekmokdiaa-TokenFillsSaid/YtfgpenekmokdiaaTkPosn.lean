/- Positions made of a tape are valid. -/
import Derived.Test.YtfgpenekmokdiaaMzAI
import Derived.Test.YtfgpenekmokdiaaMzAD
import Derived.Test.YtfgpenekmokdiaaMzAE
import Derived.Test.YtfgpenekmokdiaaMzAO
import Derived.Test.YtfgpenekmokdiaaMzAF
import Derived.Deep.RegionHeld3
namespace Go.Proofs.Ytfgpenekmokdiaa
open Go Go.RowKit Fl

section
variable {ops : Array Oper} {rest : List Oper} {o : Oper} {a : Act} {Q : Exit → Act → World → Prop}
theorem app_intL (w : World) (hgd : o.guard = none) (s x : Operand) (ho : o.op = .call { callee := .builtin .append, args := #[s, x], argTypes := #[23, 23] }) (base : Nat) (v : Value) (n : Nat) (xs : List Value) (hs : a.eval s = v) (hown : w.ownsRow base 3 1 v n xs)
    (B : Nat) (z : Int) (hx : a.eval x = .slice (some ⟨B, 0, none⟩) 1 1) (hc : w.cell? ⟨B, 0, none⟩ = some (Iv z)) (hn : n ≤ 1000000000) (hbase : base ≤ w.heap.size)
    (h : ∀ g cap w', w'.ownsRow base 3 1 (.slice (some ⟨g, 0, none⟩) (n + 1) cap) (n + 1) (xs ++ [Iv z]) → w.grownBy w' v.ownBlock → (v.ownBlock = some g ∨ g = w.heap.size) → wpList Try.prog ops Q rest (a.put o.dst (.slice (some ⟨g, 0, none⟩) (n + 1) cap)) w') : wpList Try.prog ops Q (o :: rest) a w := by
  obtain ⟨i0, hi, h2, h3, h4⟩ := info_parts Try.infoIntG
  refine wpList_append_lies w hgd s x 23 ho base 3 i0 (.int .i64 0) 1 8 Try.underlying23 hi h2 h3 h4 rfl (by decide) v n xs hs hown ⟨B, 0, none⟩ 1 1 [Iv z] hx rfl ?_ ?_ (by decide) (by unfold maxLen; omega) (by omega) hbase _ rfl (fun g cap w' g1 g2 g3 _ => h g cap w' g1 g2 g3)
  · intro j y hy
    rcases j with _ | j
    · simp at hy; subst hy; simpa [Addr.add] using hc
    · simp at hy
  · intro y hy; simp at hy; subst hy; rfl
end
/-- Two rows of the call's own, in blocks of their own. -/
structure TwoRows (w : World) (base : Nat) (v1 v2 : Value) (ts ws : List Int) : Prop where
  one : w.ownsRow base 3 1 v1 ts.length (ts.map Iv)
  two : w.ownsRow base 3 1 v2 ws.length (ws.map Iv)
  apart : ∀ g, v1.ownBlock = some g → v2.ownBlock ≠ some g
theorem TwoRows.swap {w : World} {base : Nat} {v1 v2 : Value} {ts ws : List Int} (h : TwoRows w base v1 v2 ts ws) : TwoRows w base v2 v1 ws ts := ⟨h.two, h.one, fun g h1 h2 => h.apart g h2 h1⟩
theorem TwoRows.alloc {w : World} {base : Nat} {v1 v2 : Value} {ts ws : List Int} (h : TwoRows w base v1 v2 ts ws) (o : Obj) : TwoRows (w.alloc o) base v1 v2 ts ws := ⟨h.one.alloc o, h.two.alloc o, h.apart⟩
theorem TwoRows.more {w w' : World} {base g cap n : Nat} {v1 v2 : Value} {ts ws : List Int} {x : Int} (h : TwoRows w base v1 v2 ts ws) (hg : w.grownBy w' v1.ownBlock) (ho : w'.ownsRow base 3 1 (.slice (some ⟨g, 0, none⟩) n cap) n (ts.map Iv ++ [Iv x])) (hn : n = ts.length + 1) (hb : v1.ownBlock = some g ∨ g = w.heap.size) : TwoRows w' base (.slice (some ⟨g, 0, none⟩) n cap) v2 (ts ++ [x]) ws := by
  refine ⟨by rw [List.length_append, List.map_append]; subst hn; exact ho, h.two.kept hg ?_, fun q hq h2 => ?_⟩
  · rcases hv : v2.ownBlock with _ | q
    · exact .inl rfl
    · exact .inr (fun e => h.apart q e.symm hv)
  · simp only [Value.ownBlock, Option.some.injEq] at hq
    subst hq
    rcases hb with hb | hb
    · exact h.apart _ hb h2
    · have := (h.two.lt _ h2).2; omega
theorem TwoRows.but {w w' : World} {base q : Nat} {v1 v2 : Value} {ts ws : List Int} (h : TwoRows w base v1 v2 ts ws) (hw : w.grownBy w' (some q)) (hq : q < base) : TwoRows w' base v1 v2 ts ws := ⟨own_but h.one hw hq, own_but h.two hw hq, h.apart⟩
theorem posOk_more {g : GraphD} {ts ws : List Int} {v : Nat} {x : Int} (h : PosOk g ts ws) (hv : v < g.length) (hn : (v : Int) ∉ ts) (h24 : ts.length < 24) (hx : x = -1 ∨ x ∈ g[v]) : PosOk g (ts ++ [(v : Int)]) (ws ++ [x]) := by
  refine ⟨h.graph, by simp [h.len], by rw [List.length_append]; simp; omega, fun i hi => ?_, ?_, fun i hi hi' => ?_⟩
  · rw [List.length_append] at hi
    simp at hi
    rcases Nat.lt_or_ge i ts.length with h1 | h1
    · rw [List.getElem_append_left h1]; exact h.place i h1
    · rw [List.getElem_append_right h1]; simp; omega
  · rw [List.nodup_append]
    refine ⟨h.apart, by simp, fun a ha b hb e => ?_⟩
    obtain rfl := List.mem_singleton.1 hb
    exact hn (e ▸ ha)
  · rw [List.length_append] at hi
    simp at hi
    rcases Nat.lt_or_ge i ts.length with h1 | h1
    · rw [List.getElem_append_left h1, List.getElem_append_left (by rw [← h.len]; exact h1)]; exact h.want i h1 (by rw [← h.len]; exact h1)
    · rw [List.getElem_append_right h1, List.getElem_append_right (by rw [← h.len]; exact h1)]
      simp only [List.getElem_singleton, Int.toNat_natCast, rowG_at hv]
      exact hx
theorem still_own {w w' : World} {U base gt n : Nat} {e : TypeId} {v : Value} {xs : List Value} (h : w.ownsRow base e 1 v n xs) {o : Obj} (hg : (w.alloc o).grownBy w' v.ownBlock) (hU : base ≤ w.heap.size) (hb : U ≤ base) : Still gt U (w.alloc o) w' :=
  ⟨hg.os, hg.tape, hg.output, hg.size, fun k hk _ => hg.block k (by simp; omega) (fun e => by have := own_base h k e.symm; omega)⟩
theorem Still.asGrown {g : Nat} {a b : World} (h : Still g a.heap.size a b) : a.grownBy b (some g) :=
  ⟨h.os, h.tape, h.output, h.size, fun k hk hne => h.block k hk (fun e => hne (by rw [e]))⟩
/-- A row of a graph stays as it is while the tape is read. -/
theorem rows_fix {w : World} {base gt c : Nat} {A : Option Addr} {g : GraphD} (h : RowsOwn w base (.slice A g.length c) g) (hg : gt < base) {k : Nat} (hk : k < g.length) : ∃ b o A1 c1, A = some ⟨b, o, none⟩ ∧ ∀ W, Still gt w.heap.size w W → W.cell? ⟨b, o + k, none⟩ = some (.slice A1 g[k].length c1) ∧ Holds W A1 (g[k].map Iv) := by
  obtain ⟨vs, h1, h2, h3⟩ := h
  obtain ⟨A', c', hv, hh⟩ := own_is h2
  injection hv with e1 _ _
  subst e1
  obtain ⟨b, o, rfl, _, _⟩ := hh.at_ (by omega)
  have e1 := List.getElem?_eq_getElem (l := vs) (i := k) (by omega)
  have e2 := List.getElem?_eq_getElem hk
  have h4 := h3 k _ _ e1 e2
  obtain ⟨A1, c1, hv1, _⟩ := own_is h4
  refine ⟨b, o, A1, c1, rfl, fun W hs => ?_⟩
  have g2 := own_but h2 hs.asGrown hg
  have g4 := own_but h4 hs.asGrown hg
  constructor
  · obtain ⟨A2, c2, hv2, hh2⟩ := own_is g2
    injection hv2 with e3 _ _
    subst e3
    obtain ⟨b', o', hA, _, hc⟩ := hh2.at_ (by omega)
    injection hA with hA
    injection hA with q1 q2
    subst q1 q2
    rw [hc k (by omega), hv1]
  · obtain ⟨A2, c2, hv2, hh2⟩ := own_is g4
    rw [hv1] at hv2
    injection hv2 with e3 _ _
    subst e3
    exact hh2
/-- What position returns. -/
def PosnPost (w : World) (B gt T most : Nat) (g : GraphD) (e : Ending) (w' : World) : Prop := ∃ v1 v2 ts ws, e = .returned (.tuple #[v1, v2]) ∧ TwoRows w' w.heap.size v1 v2 ts ws ∧ PosOk g ts ws ∧ ts.length ≤ most ∧ TapeOk w' B gt (T + 100) ∧ Still gt w.heap.size w w'
set_option maxRecDepth 100000 in
set_option maxHeartbeats 4000000 in
theorem position0_c (B gt T most : Nat) (A : Option Addr) (c : Nat) (w : World) (ht : TapeOk w B gt T) (hT : T ≤ 1000000) (hm : most ≤ 20) :
    Calls Try.prog 12 #[.pointer (some ⟨gt, 0, none⟩), .slice A 0 c, .int .i64 most] w (PosnPost w B gt T most []) := by
  have HT := Lib.hid ht
  have hw1 : IntKind.i64.wrap ((most : Int) + 1) = (most : Int) + 1 := IntWalk.i64_in _ (by omega)
  clear ht
  go_enter Try.func12, Try.ntmps12
  go_wp2_with fail
  refine (next_c B gt T _ w HT.out (by omega) (by omega) (by omega)).mono ?_
  rintro e w1 ⟨k0, hk0, rfl, ht1, hg1⟩
  have HT1 := Lib.hid ht1
  have HS1 := Lib.hid (Still.of_grown hg1 (Nat.le_refl _))
  have hk20 : k0 ≤ most := by omega
  clear HT ht1 hg1 hw1
  go_wp2
  go_loopw [8, 9, 10] (fun v1 v2 k wr => ∃ (k' i : Nat), k = .int .i64 k' ∧ k' + i = k0 ∧ v1 = .slice none 0 0 ∧ v2 = .slice none 0 0 ∧ Hid (TapeOk wr B gt (T + 1 + i)) ∧ Hid (Still gt w.heap.size w wr)) (fun _ _ k _ => (intOf k).toNat)
  case atStart => exact ⟨k0, 0, rfl, rfl, rfl, rfl, HT1, HS1⟩
  case round =>
    clear HT1 HS1 hk0
    obtain ⟨k, i, rfl, hki, rfl, rfl, HT, HS⟩ := hrel
    by_cases hk : 0 < k
    · have hwk : IntKind.i64.wrap ((k : Int) - 1) = ((k - 1 : Nat) : Int) := by
        rw [show ((k - 1 : Nat) : Int) = (k : Int) - 1 by omega]
        exact IntWalk.i64_in _ (by omega)
      go_wp2_with fail
      refine (next0_c B gt _ _ wr HT.out (by omega) (by omega) (by omega)).mono ?_
      rintro e w2 ⟨r, hr, rfl, ht2, hg2⟩
      have HT2 := Lib.hid ht2
      have HS2 := Lib.hid (HS.out.trans (Still.of_grown hg2 HS.out.size))
      clear HT HS ht2 hg2
      go_wp2
      go_roundw
      case rel => exact ⟨k - 1, i + 1, by go_num, by omega, rfl, rfl, HT2, HS2⟩
      case measure => simp [intOf]; omega
    · obtain rfl : k = 0 := by omega
      go_wp2
      go_ret2
      exact ⟨_, _, [], [], rfl, ⟨World.ownsRow_nil _ _ _ _, World.ownsRow_nil _ _ _ _, fun g h => by simp [Value.ownBlock] at h⟩, ⟨by decide, rfl, by simp, by simp, .nil, by simp⟩, by simp, HT.out.more (by omega), HS.out⟩
set_option maxRecDepth 100000 in
set_option maxHeartbeats 8000000 in
theorem position_c (B gt T most base : Nat) (A : Option Addr) (c : Nat) (g : GraphD) (w : World) (ht : TapeOk w B gt T) (hT : T ≤ 1000000) (hm : most ≤ 20) (hgt : gt < w.heap.size) (hg : validG g = true) (h20 : 1 ≤ g.length ∧ g.length ≤ 20) (hG : RowsOwn w base (.slice A g.length c) g) (hgb : gt < base) :
    Calls Try.prog 12 #[.pointer (some ⟨gt, 0, none⟩), .slice A g.length c, .int .i64 most] w (PosnPost w B gt T most g) := by
  have HT := Lib.hid ht
  have HG := Lib.hid (fun k (hk : k < g.length) => rows_fix hG hgb hk)
  have HV := Lib.hid hg
  have hw1 : IntKind.i64.wrap ((most : Int) + 1) = (most : Int) + 1 := IntWalk.i64_in _ (by omega)
  obtain ⟨h21, h22⟩ := h20
  clear ht hG hg
  go_enter Try.func12, Try.ntmps12
  go_wp2_with fail
  refine (next_c B gt T _ w HT.out (by omega) (by omega) (by omega)).mono ?_
  rintro e w1 ⟨k0, hk0, rfl, ht1, hg1⟩
  have HT1 := Lib.hid ht1
  have HS1 := Lib.hid (Still.of_grown hg1 (Nat.le_refl _))
  have hk20 : k0 ≤ most := by omega
  clear HT ht1 hg1 hw1
  go_wp2
  go_loopw [8, 9, 10] (fun v1 v2 k wr => ∃ (ts ws : List Int) (k' i : Nat), k = .int .i64 k' ∧ k' + i = k0 ∧ ts.length ≤ i ∧ Hid (TwoRows wr w.heap.size v1 v2 ts ws) ∧ Hid (PosOk g ts ws) ∧ Hid (TapeOk wr B gt (T + 1 + 3 * i)) ∧ Hid (Still gt w.heap.size w wr)) (fun _ _ k _ => (intOf k).toNat)
  case atStart => exact ⟨[], [], k0, 0, rfl, rfl, Nat.le_refl _, Lib.hid ⟨World.ownsRow_nil _ _ _ _, World.ownsRow_nil _ _ _ _, fun g h => by simp [Value.ownBlock] at h⟩, Lib.hid ⟨HV.out, rfl, by simp, by simp, .nil, by simp⟩, HT1, HS1⟩
  case round =>
    clear HT1 HS1 hk0
    obtain ⟨ts, ws, k, i, rfl, hki, hti, HR, HP, HT, HS⟩ := hrel
    have hwl : ws.length ≤ i := by have := HP.out.len; omega
    by_cases hk : 0 < k
    · have hBg : Hid (B ≤ gt) := Lib.hid (by obtain ⟨_, _, _, _, _, _, _, _, h, _⟩ := HT.out; exact h)
      have hwk : IntKind.i64.wrap ((k : Int) - 1) = ((k - 1 : Nat) : Int) := by
        rw [show ((k - 1 : Nat) : Int) = (k : Int) - 1 by omega]
        exact IntWalk.i64_in _ (by omega)
      · go_wp2_with fail
        refine (next_c B gt _ g.length wr HT.out (by omega) (by omega) (by omega)).mono ?_
        rintro e w2 ⟨v, hv', rfl, ht2, hg2⟩
        have HR2 := Lib.hid (HR.out.but hg2 hgt)
        have HT2 := Lib.hid ht2
        have HS2 := Lib.hid (HS.out.trans (Still.of_grown hg2 HS.out.size))
        have hv : v < g.length := by omega
        clear HR HT HS ht2 hg2
        obtain ⟨A8, c8, rfl, hh8⟩ := own_is HR2.out.one
        have CH := Lib.hid (has_c A8 c8 ts v w2 hh8 (by omega))
        have h0i : ((g.length : Int) == 0) = false := by rw [beq_eq_false_iff_ne]; omega
        have h0n : ¬ g.length = 0 := by omega
        obtain ⟨bg, og, A1, cr, hA, hrow⟩ := HG.out v hv
        have hrl : g[v].length ≤ 24 := validG_short HV.out _ (List.getElem_mem hv)
        have HRw := Lib.hid hrow
        clear hh8 hrow
        subst hA
        by_cases hin : (v : Int) ∈ ts
        · rw [decide_eq_true hin] at CH
          go_wp2_with fail
          refine CH.out.mono ?_
          rintro e w3 ⟨rfl, rfl⟩
          clear CH hin
          go_wp2
          go_roundw
          case rel => exact ⟨ts, ws, k - 1, i + 1, by go_num, by omega, by omega, HR2, HP, Lib.hid (HT2.out.more (by omega)), HS2⟩
          case measure => simp [intOf]; omega
        · rw [decide_eq_false hin] at CH
          go_wp2_with fail
          refine CH.out.mono ?_
          rintro e w3 ⟨rfl, rfl⟩
          clear CH
          obtain ⟨row, hrw⟩ : ∃ row, row = g[v] := ⟨_, rfl⟩
          have HMem : Hid (∀ r (h : r < row.length), row[r] ∈ g[v]) := Lib.hid (fun r h => by subst hrw; exact List.getElem_mem h)
          rw [← hrw] at HRw hrl
          clear hrw
          have rc := (HRw.out w2 HS2.out).1
          by_cases hr0 : 0 < row.length
          · go_wp2_with fail
            refine (next_c B gt _ 8 w2 HT2.out (by omega) (by omega) (by omega)).mono ?_
            rintro e w3 ⟨r8, hr8, rfl, ht3, hg3⟩
            have HR3 := Lib.hid (HR2.out.but hg3 hgt)
            have HT3 := Lib.hid ht3
            have HS3 := Lib.hid (HS2.out.trans (Still.of_grown hg3 HS2.out.size))
            clear HR2 HT2 HS2 ht3 hg3 rc
            by_cases hz : 0 < r8
            · obtain ⟨b1, o1, hA1, _, _⟩ := (HRw.out w3 HS3.out).2.at_ (by rw [List.length_map]; exact hr0)
              subst hA1
              have HSt : Hid (∀ W, Still gt w.heap.size w W → W.cell? ⟨bg, og + v, none⟩ = some (.slice (some ⟨b1, o1, none⟩) row.length cr) ∧ ∀ r, r < row.length → W.cell? ⟨b1, o1 + r, none⟩ = some (.int .i64 (atI row r))) := Lib.hid (fun W hW => ⟨(HRw.out W hW).1, fun r hr => by
                obtain ⟨b', o', hA, e⟩ := (HRw.out W hW).2.iv hr
                injection hA with hA
                injection hA with q1 q2
                subst q1 q2
                rw [Fl.atI_get hr]
                exact e⟩)
              have rc3 := (HSt.out w3 HS3.out).1
              go_wp2_with fail
              have HSd : Hid (Still gt w.heap.size w w3.drew) := Lib.hid (HS3.out.trans (Still.of_below ((Below.refl w3.heap.size w3).drew.mono HS3.out.size)))
              have HTd := Lib.hid (HT3.out.keep ((Below.refl w3.heap.size w3).drew))
              have HRd : Hid (TwoRows w3.drew w.heap.size (.slice A8 ts.length c8) u9 ts ws) := Lib.hid ⟨HR3.out.one.drew, HR3.out.two.drew, HR3.out.apart⟩
              have HIn : Hid (∀ r : Nat, (r : Int) < row.length → r < row.length) := Lib.hid (fun r hr => by omega)
              clear HR3 HT3
              go_region_held3 (fun W => W.cell? ⟨bg, og + v, none⟩ = some (.slice (some ⟨b1, o1, none⟩) row.length cr) ∧ ∀ r, r < row.length → W.cell? ⟨b1, o1 + r, none⟩ = some (.int .i64 (atI row r))) (first | exact HSt.out _ HSd.out | exact HSt.out _ HS4.out) (first | (go_at_call 22; refine (next_c B gt _ row.length _ HTd.out (by omega) (by omega) (by omega)).mono ?_; rintro e w4 ⟨r, hr, rfl, ht4, hg4⟩; have hrn := HIn.out r hr; have HR4 := Lib.hid (HRd.out.but hg4 hgt); have HT4 := Lib.hid ht4; have HS4 := Lib.hid (HSd.out.trans (Still.of_grown hg4 HSd.out.size)); clear ht4 hg4))
              all_goals
                have HX4 : Hid (atI row r ∈ g[v]) := Lib.hid (by rw [Fl.atI_get hrn]; exact HMem.out r hrn)
                clear HSd HTd HRd HS3 rc3
                generalize atI row r = xr at *
                have hsz4 : w.heap.size ≤ w4.heap.size := HS4.out.size
                go_wp2_with (at_builtin; refine app_intL _ rfl _ _ rfl w.heap.size _ _ _ rfl (HR4.out.one.alloc _) w4.heap.size v rfl (by simp [go_sem]) (by omega) (by simp; omega) ?_)
                intro g1 cap1 wA ownA hgA hbA
                have hbl1 := (HR4.out.alloc (.cells #[Iv v] 3)).more hgA ownA rfl (by simpa using hbA)
                have HRA := Lib.hid hbl1
                have HTA : Hid (TapeOk wA B gt (T + 1 + 3 * i + 1 + 1 + 1)) := Lib.hid ((HT4.out.keep ((Below.refl _ _).alloc (Nat.le_refl _) _)).grown hgA (fun e => by have := own_base HR4.out.one _ e; omega) (fun k hk => by have := own_base HR4.out.one _ hk; have := hBg.out; omega))
                have HSA : Hid (Still gt w.heap.size w wA) := Lib.hid (HS4.out.trans ((Still.of_below (((Below.refl _ _).alloc (Nat.le_refl _) _).mono hsz4)).trans (still_own HR4.out.one hgA hsz4 (Nat.le_refl _))))
                clear ownA hgA hbA hbl1 HR4 HT4 HS4
                have hszA : w.heap.size ≤ wA.heap.size := HSA.out.size
                go_wp2_with (at_builtin; refine app_intL _ rfl _ _ rfl w.heap.size _ _ _ rfl (HRA.out.two.alloc _) wA.heap.size xr rfl (by simp [go_sem]) (by omega) (by simp; omega) ?_)
                intro g2 cap2 wB ownB hgB hbB
                have hbl2 := ((HRA.out.alloc (.cells #[Iv xr] 3)).swap.more hgB ownB rfl (by simpa using hbB)).swap
                have HRB := Lib.hid hbl2
                have HTB : Hid (TapeOk wB B gt (T + 1 + 3 * i + 1 + 1 + 1)) := Lib.hid ((HTA.out.keep ((Below.refl _ _).alloc (Nat.le_refl _) _)).grown hgB (fun e => by have := own_base HRA.out.two _ e; omega) (fun k hk => by have := own_base HRA.out.two _ hk; have := hBg.out; omega))
                have HSB : Hid (Still gt w.heap.size w wB) := Lib.hid (HSA.out.trans ((Still.of_below (((Below.refl _ _).alloc (Nat.le_refl _) _).mono hszA)).trans (still_own HRA.out.two hgB hszA (Nat.le_refl _))))
                have HPB := Lib.hid (posOk_more HP.out hv hin (by omega) (.inr HX4.out))
                clear ownB hgB hbB hbl2 HRA HTA HSA HP
                go_wp2
                go_roundw
                case rel => exact ⟨ts ++ [(v : Int)], ws ++ [xr], k - 1, i + 1, by go_num, by omega, by rw [List.length_append]; simp; omega, by first | exact HRB | (rw [List.length_append, List.length_append]; exact HRB), HPB, Lib.hid (HTB.out.more (by omega)), HSB⟩
                case measure => simp [intOf]; omega
            · obtain rfl : r8 = 0 := by omega
              have hsz3 : w.heap.size ≤ w3.heap.size := HS3.out.size
              go_wp2_with (at_builtin; refine app_intL _ rfl _ _ rfl w.heap.size _ _ _ rfl (HR3.out.one.alloc _) w3.heap.size v rfl (by simp [go_sem]) (by omega) (by simp; omega) ?_)
              intro g1 cap1 wA ownA hgA hbA
              have hbl1 := (HR3.out.alloc (.cells #[Iv v] 3)).more hgA ownA rfl (by simpa using hbA)
              have HRA := Lib.hid hbl1
              have HTA : Hid (TapeOk wA B gt (T + 1 + 3 * i + 1 + 1)) := Lib.hid ((HT3.out.keep ((Below.refl _ _).alloc (Nat.le_refl _) _)).grown hgA (fun e => by have := own_base HR3.out.one _ e; omega) (fun k hk => by have := own_base HR3.out.one _ hk; have := hBg.out; omega))
              have HSA : Hid (Still gt w.heap.size w wA) := Lib.hid (HS3.out.trans ((Still.of_below (((Below.refl _ _).alloc (Nat.le_refl _) _).mono hsz3)).trans (still_own HR3.out.one hgA hsz3 (Nat.le_refl _))))
              clear ownA hgA hbA hbl1 HR3 HT3 HS3
              have hszA : w.heap.size ≤ wA.heap.size := HSA.out.size
              go_wp2_with (at_builtin; refine app_intL _ rfl _ _ rfl w.heap.size _ _ _ rfl (HRA.out.two.alloc _) wA.heap.size (-1) rfl (by simp [go_sem]) (by omega) (by simp; omega) ?_)
              intro g2 cap2 wB ownB hgB hbB
              have hbl2 := ((HRA.out.alloc (.cells #[Iv (-1)] 3)).swap.more hgB ownB rfl (by simpa using hbB)).swap
              have HRB := Lib.hid hbl2
              have HTB : Hid (TapeOk wB B gt (T + 1 + 3 * i + 1 + 1)) := Lib.hid ((HTA.out.keep ((Below.refl _ _).alloc (Nat.le_refl _) _)).grown hgB (fun e => by have := own_base HRA.out.two _ e; omega) (fun k hk => by have := own_base HRA.out.two _ hk; have := hBg.out; omega))
              have HSB : Hid (Still gt w.heap.size w wB) := Lib.hid (HSA.out.trans ((Still.of_below (((Below.refl _ _).alloc (Nat.le_refl _) _).mono hszA)).trans (still_own HRA.out.two hgB hszA (Nat.le_refl _))))
              have HPB := Lib.hid (posOk_more HP.out hv hin (by omega) (.inl rfl))
              clear ownB hgB hbB hbl2 HRA HTA HSA HP
              go_wp2
              go_roundw
              case rel => exact ⟨ts ++ [(v : Int)], ws ++ [(-1)], k - 1, i + 1, by go_num, by omega, by rw [List.length_append]; simp; omega, by first | exact HRB | (rw [List.length_append, List.length_append]; exact HRB), HPB, Lib.hid (HTB.out.more (by omega)), HSB⟩
              case measure => simp [intOf]; omega
          · obtain rfl : row = [] := List.eq_nil_of_length_eq_zero (by omega)
            have rc0 : w2.cell? ⟨bg, og + v, none⟩ = some (.slice A1 0 cr) := rc
            clear rc hr0
            have hsz2 : w.heap.size ≤ w2.heap.size := HS2.out.size
            go_wp2_with (at_builtin; refine app_intL _ rfl _ _ rfl w.heap.size _ _ _ rfl (HR2.out.one.alloc _) w2.heap.size v rfl (by simp [go_sem]) (by omega) (by simp; omega) ?_)
            intro g1 cap1 wA ownA hgA hbA
            have hbl1 := (HR2.out.alloc (.cells #[Iv v] 3)).more hgA ownA rfl (by simpa using hbA)
            have HRA := Lib.hid hbl1
            have HTA : Hid (TapeOk wA B gt (T + 1 + 3 * i + 1)) := Lib.hid ((HT2.out.keep ((Below.refl _ _).alloc (Nat.le_refl _) _)).grown hgA (fun e => by have := own_base HR2.out.one _ e; omega) (fun k hk => by have := own_base HR2.out.one _ hk; have := hBg.out; omega))
            have HSA : Hid (Still gt w.heap.size w wA) := Lib.hid (HS2.out.trans ((Still.of_below (((Below.refl _ _).alloc (Nat.le_refl _) _).mono hsz2)).trans (still_own HR2.out.one hgA hsz2 (Nat.le_refl _))))
            clear ownA hgA hbA hbl1 HR2 HT2 HS2
            have hszA : w.heap.size ≤ wA.heap.size := HSA.out.size
            go_wp2_with (at_builtin; refine app_intL _ rfl _ _ rfl w.heap.size _ _ _ rfl (HRA.out.two.alloc _) wA.heap.size (-1) rfl (by simp [go_sem]) (by omega) (by simp; omega) ?_)
            intro g2 cap2 wB ownB hgB hbB
            have hbl2 := ((HRA.out.alloc (.cells #[Iv (-1)] 3)).swap.more hgB ownB rfl (by simpa using hbB)).swap
            have HRB := Lib.hid hbl2
            have HTB : Hid (TapeOk wB B gt (T + 1 + 3 * i + 1)) := Lib.hid ((HTA.out.keep ((Below.refl _ _).alloc (Nat.le_refl _) _)).grown hgB (fun e => by have := own_base HRA.out.two _ e; omega) (fun k hk => by have := own_base HRA.out.two _ hk; have := hBg.out; omega))
            have HSB : Hid (Still gt w.heap.size w wB) := Lib.hid (HSA.out.trans ((Still.of_below (((Below.refl _ _).alloc (Nat.le_refl _) _).mono hszA)).trans (still_own HRA.out.two hgB hszA (Nat.le_refl _))))
            have HPB := Lib.hid (posOk_more HP.out hv hin (by omega) (.inl rfl))
            clear ownB hgB hbB hbl2 HRA HTA HSA HP
            go_wp2
            go_roundw
            case rel => exact ⟨ts ++ [(v : Int)], ws ++ [(-1)], k - 1, i + 1, by go_num, by omega, by rw [List.length_append]; simp; omega, by first | exact HRB | (rw [List.length_append, List.length_append]; exact HRB), HPB, Lib.hid (HTB.out.more (by omega)), HSB⟩
            case measure => simp [intOf]; omega
    · obtain rfl : k = 0 := by omega
      go_wp2
      go_ret2
      exact ⟨_, _, ts, ws, rfl, HR.out, HP.out, by omega, HT.out.more (by omega), HS.out⟩
theorem position_any (B gt T most base : Nat) (A : Option Addr) (c : Nat) (g : GraphD) (w : World) (ht : TapeOk w B gt T) (hT : T ≤ 1000000) (hm : most ≤ 20) (hgt : gt < w.heap.size) (hg : validG g = true) (h20 : g.length ≤ 20) (hG : RowsOwn w base (.slice A g.length c) g) (hgb : gt < base) :
    Calls Try.prog 12 #[.pointer (some ⟨gt, 0, none⟩), .slice A g.length c, .int .i64 most] w (PosnPost w B gt T most g) := by
  rcases Nat.eq_zero_or_pos g.length with h | h
  · obtain rfl : g = [] := List.eq_nil_of_length_eq_zero h
    exact position0_c B gt T most A c w ht hT hm
  · exact position_c B gt T most base A c g w ht hT hm hgt hg ⟨h, h20⟩ hG hgb
end Go.Proofs.Ytfgpenekmokdiaa
