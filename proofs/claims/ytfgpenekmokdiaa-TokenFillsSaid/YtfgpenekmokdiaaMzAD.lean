/- Joined texts. -/
import Derived.Test.YtfgpenekmokdiaaMzAC
import Derived.ArgAppend
namespace Go.Proofs.Ytfgpenekmokdiaa
open Go Go.RowKit Fl

/-- The slice v holds the numbers xs somewhere in a row of the call's own, or is nil. -/
def QueueOwn (w : World) (base : Nat) (v : Value) (xs : List Int) : Prop :=
  (v = .slice none 0 0 ∧ xs = []) ∨ ∃ b o cap cur, v = .slice (some ⟨b, o, none⟩) xs.length cap ∧ base ≤ b ∧ w.heap[b]? = some (.cells cur 3 (0, 0)) ∧ o + cap ≤ cur.size ∧ xs.length ≤ cap ∧ ∀ j (h : j < xs.length), cur[o + j]? = some (Iv xs[j])
theorem QueueOwn.keep {w w' : World} {base : Nat} {v : Value} {xs : List Int} (h : QueueOwn w base v xs) (hb : Below w.heap.size w w') : QueueOwn w' base v xs := by
  rcases h with h | ⟨b, o, cap, cur, h1, h2, h3, h4⟩
  · exact .inl h
  · exact .inr ⟨b, o, cap, cur, h1, h2, (hb.block b (block_lt h3)).trans h3, h4⟩
theorem QueueOwn.other {w w' : World} {base X : Nat} {v : Value} {xs : List Int} {cs : Array Value} {t : TypeId} {fz : Nat × Nat} (h : QueueOwn w base v xs) (hX : w.heap[X]? = some (.cells cs t fz)) (ht : 3 ≠ t) (hw : ∀ b, b ≠ X → w'.heap[b]? = w.heap[b]?) : QueueOwn w' base v xs := by
  rcases h with h | ⟨b, o, cap, cur, h1, h2, h3, h4⟩
  · exact .inl h
  · refine .inr ⟨b, o, cap, cur, h1, h2, (hw b (fun e => ?_)).trans h3, h4⟩
    subst e
    rw [h3] at hX
    injection hX with hX
    injection hX with _ h2
    exact ht h2
theorem QueueOwn.one {w : World} {base F : Nat} {z : Int} (h : w.heap[F]? = some (.cells #[Iv z] 3 (0, 0))) (hb : base ≤ F) : QueueOwn w base (.slice (some ⟨F, 0, none⟩) 1 1) [z] :=
  .inr ⟨F, 0, 1, _, rfl, hb, h, by simp, by simp, fun j hj => by
    obtain rfl : j = 0 := by simpa using hj
    rfl⟩
theorem QueueOwn.form {w : World} {base : Nat} {v : Value} {xs : List Int} (h : QueueOwn w base v xs) : ∃ A c, v = .slice A xs.length c := by
  rcases h with ⟨rfl, rfl⟩ | ⟨b, o, cap, cur, rfl, _⟩
  · exact ⟨none, 0, rfl⟩
  · exact ⟨_, _, rfl⟩
/-- The head, and the rest behind it. -/
theorem QueueOwn.pop {w : World} {base : Nat} {v : Value} {x : Int} {xs : List Int} (h : QueueOwn w base v (x :: xs)) : ∃ b o cap, v = .slice (some ⟨b, o, none⟩) (xs.length + 1) cap ∧ xs.length + 1 ≤ cap ∧ w.cell? ⟨b, o, none⟩ = some (.int .i64 x) ∧ QueueOwn w base (.slice (some ⟨b, if cap = 1 then o else o + 1, none⟩) xs.length (cap - 1)) xs := by
  rcases h with ⟨_, h⟩ | ⟨b, o, cap, cur, h1, h2, h3, h4, h5, h6⟩
  · cases h
  · simp only [List.length_cons] at h1 h5 h6
    refine ⟨b, o, cap, h1, h5, ?_, .inr ⟨b, _, cap - 1, cur, rfl, h2, h3, ?_, by omega, fun j hj => ?_⟩⟩
    · rw [cell_of_row w b o cur _ _ h3]
      have := h6 0 (by omega)
      simpa using this
    · split <;> omega
    · have := h6 (j + 1) (by omega)
      rw [if_neg (by omega), show o + 1 + j = o + (j + 1) by omega, this]
      simp
section
variable {ops : Array Oper} {rest : List Oper} {o : Oper} {a : Act} {Q : Exit → Act → World → Prop}
theorem setCells_one (w : World) (b o : Nat) (v : Value) : w.setCells b o [v] = w.setCell ⟨b, o, none⟩ v := rfl
theorem app_queue (w : World) (hgd : o.guard = none) (s x : Operand) (ho : o.op = .call { callee := .builtin .append, args := #[s, x], argTypes := #[23, 23] }) (base : Nat) (v : Value) (xs : List Int) (hs : a.eval s = v) (hown : QueueOwn w base v xs)
    (B : Nat) (z : Int) (hx : a.eval x = .slice (some ⟨B, 0, none⟩) 1 1) (hc : w.cell? ⟨B, 0, none⟩ = some (Iv z)) (hn : xs.length ≤ 1000000000) (hbase : base ≤ w.heap.size)
    (h : ∀ v' w' row, QueueOwn w' base v' (xs ++ [z]) → w.grownBy w' row → (∀ k, row = some k → base ≤ k ∧ ∃ cur, w.heap[k]? = some (.cells cur 3 (0, 0))) → wpList Try.prog ops Q rest (a.put o.dst v') w') : wpList Try.prog ops Q (o :: rest) a w := by
  obtain ⟨i, i1, i2, i3, i4⟩ := info_parts Try.infoIntG
  have hnews : ∀ j u, [Iv z][j]? = some u → w.cell? ((⟨B, 0, none⟩ : Addr).add j) = some u := fun j u hu => by
    rcases j with _ | j
    · simp at hu; subst hu; simpa [Addr.add] using hc
    · simp at hu
  have hone : ∀ u ∈ [Iv z], u.oneCell' = true := fun u hu => by simp at hu; subst hu; rfl
  have fromRow : ∀ v' w', w'.ownsRow w.heap.size 3 1 v' (xs.length + 1) (xs.map Iv ++ [Iv z]) → QueueOwn w' base v' (xs ++ [z]) := fun v' w' g => by
    obtain ⟨g1, g2⟩ := g
    rcases g2 with ⟨_, h0⟩ | ⟨g, cap, cur, hv, hgb, hh, hnc, hcm, hcs, hxs⟩
    · omega
    · refine .inr ⟨g, 0, cap, cur, by rw [hv]; simp, by omega, hh, by omega, by simp; omega, fun j hj => ?_⟩
      have e : (cur.toList.take ((xs.length + 1) * 1))[j]? = some (Iv (xs ++ [z])[j]) := by
        rw [hxs, show xs.map Iv ++ [Iv z] = (xs ++ [z]).map Iv by simp, List.getElem?_map, List.getElem?_eq_getElem hj]; rfl
      rw [List.getElem?_take] at e
      split at e
      · rw [Nat.zero_add]; simpa using e
      · cases e
  rcases hown with ⟨rfl, rfl⟩ | ⟨b, of, cap, cur, rfl, hb, hh, hof, hle, hcells⟩
  · refine wpList_append_grows w hgd s x 23 ho 3 i (.int .i64 0) 1 8 Try.underlying23 i1 i2 i3 i4 rfl (by decide) none 0 0 [] hs (fun _ => ⟨rfl, rfl⟩) rfl (fun _ h => by cases h) ⟨B, 0, none⟩ 1 1 [Iv z] hx rfl hnews hone (by decide) (by unfold maxLen; omega) (by omega) (fun v' w' g1 g2 => h v' w' none (fromRow v' w' (by simpa using g1)) g2 (fun k hk => by cases hk))
  · have hcell : ∀ j u, (xs.map Iv)[j]? = some u → w.cell? ⟨b, of + j, none⟩ = some u := fun j u hu => by
      rw [List.getElem?_map] at hu
      rcases hx' : xs[j]? with _ | y
      · rw [hx'] at hu; cases hu
      · rw [hx'] at hu
        obtain ⟨hj, rfl⟩ := List.getElem?_eq_some_iff.1 hx'
        rw [cell_of_row w b _ cur _ _ hh, hcells j hj]
        exact hu
    refine wpList_append_arg w hgd s x 23 ho 3 i (.int .i64 0) 1 8 Try.underlying23 i1 i2 i3 i4 rfl (by decide) b of xs.length cap (xs.map Iv) hs (by simp) hcell ⟨B, 0, none⟩ 1 1 [Iv z] hx rfl hnews hone (fun hr j hj => ?_) (by unfold maxLen; omega) (by omega) (fun hr => ?_) (fun _ v' w' g1 g2 => h v' w' none (fromRow v' w' (by simpa using g1)) g2 (fun k hk => by cases hk))
    · obtain rfl : j = 0 := by simpa using hj
      refine ⟨?_, by simp [World.frozen?, hh]⟩
      rw [cell_of_row w b _ cur _ _ hh, Array.getElem?_eq_getElem (by omega)]
      rfl
    · rw [setCells_one, Nat.mul_one]
      refine h _ _ (some b) (.inr ⟨b, of, cap, cur.setIfInBounds (of + xs.length) (Iv z), by simp, hb, ?_, by simpa using hof, by simp; omega, fun j hj => ?_⟩) ⟨rfl, rfl, rfl, by simp [World.setCell], fun k _ hne => Below.heap_setCell w _ _ k (fun e => hne (by rw [e]))⟩ (fun k hk => by injection hk with hk; subst hk; exact ⟨hb, cur, hh⟩)
      · rw [setCell_eq_setRow w b _ cur _ _ _ hh]
        exact setRow_heap _ _ _ _ _ _ hh
      · rw [List.length_append, List.length_singleton] at hj
        by_cases e : j = xs.length
        · subst e
          rw [Array.getElem?_setIfInBounds, if_pos rfl, if_pos (by omega)]
          simp
        · have hj' : j < xs.length := by omega
          rw [List.getElem_append_left hj', Array.getElem?_setIfInBounds, if_neg (by omega)]
          exact hcells j hj'
end
end Go.Proofs.Ytfgpenekmokdiaa
namespace Go.Proofs.Ytfgpenekmokdiaa
open Go Go.RowKit Fl

set_option maxRecDepth 100000 in
set_option maxHeartbeats 2000000 in
theorem refGValid_c (A : Option Addr) (c : Nat) (g : GraphD) (w : World) (hh : RowsAt w A g) (hl : g.length ≤ 1000000000000000000) (hr : ∀ r ∈ g, r.length ≤ 1000000000000000000) :
    Calls Try.prog 41 #[.slice A g.length c] w fun e w' => e = .returned (.bool (validG g)) ∧ w = w' := by
  have HH := Lib.hid hh
  have HR := Lib.hid hr
  clear hh hr
  by_cases h24 : 24 < g.length
  · have HD : Hid (validG g = false) := Lib.hid (by unfold validG; rw [decide_eq_false (by omega)]; rfl)
    have hd : decide ((24 : Int) < (g.length : Int)) = true := by simp; omega
    go_enter Try.func41, Try.ntmps41
    go_wp2
    go_ret
    exact ⟨gr_bool HD.out.symm, rfl⟩
  · go_enter Try.func41, Try.ntmps41
    go_wp2
    go_loop [3] (fun v => ∃ k : Nat, k ≤ g.length ∧ v = .int .i64 k ∧ Hid (validG g = rowsOk g.length k (g.drop k))) (fun v => g.length - (intOf v).toNat)
    case atStart => exact ⟨0, Nat.zero_le _, rfl, Lib.hid (by unfold validG; rw [decide_eq_true (by omega), Bool.true_and]; rfl)⟩
    case round =>
      obtain ⟨k, hk, rfl, HV⟩ := hrel
      by_cases hlt : k < g.length
      · obtain ⟨b, o, A1, c1, rfl, e1, h1⟩ := HH.out.one hlt
        have hrl := HR.out _ (List.getElem_mem hlt)
        have HV1 : Hid (validG g = (rowOk g.length k (prevOf g[k] 0) (g[k].drop 0) && rowsOk g.length ((k : Int) + 1) (g.drop (k + 1)))) := Lib.hid (by rw [HV.out, rowsOk_step hlt]; rfl)
        have H1 := Lib.hid h1
        clear HV h1
        generalize g[k] = r at *
        go_wp2
        go_loop [4] (fun v => ∃ j : Nat, j ≤ r.length ∧ v = .int .i64 j ∧ Hid (validG g = (rowOk g.length k (prevOf r j) (r.drop j) && rowsOk g.length ((k : Int) + 1) (g.drop (k + 1))))) (fun v => r.length - (intOf v).toNat)
        case atStart => exact ⟨0, Nat.zero_le _, rfl, HV1⟩
        case round =>
          clear HV1
          obtain ⟨j, hj, rfl, HV⟩ := hrel
          by_cases hjt : j < r.length
          · obtain ⟨b2, o2, rfl, e2⟩ := H1.out.iv hjt
            have HS : Hid (rowOk g.length k (prevOf r j) (r.drop j) = ((decide (0 ≤ r[j] ∧ r[j] < g.length ∧ r[j] ≠ k) && overP (prevOf r j) r[j]) && rowOk g.length k (prevOf r (j + 1)) (r.drop (j + 1)))) := Lib.hid (rowOk_step hjt)
            by_cases hin : 0 ≤ r[j] ∧ r[j] < g.length ∧ r[j] ≠ k
            · obtain ⟨hn0, hn1, hn2⟩ := hin
              have hd1 : decide (r[j] < 0) = false := by simp; omega
              have hd2 : decide ((g.length : Int) ≤ r[j]) = false := by simp; omega
              have hd3 : (r[j] == (k : Int)) = false := by simpa using hn2
              by_cases hj0 : j = 0
              · subst hj0
                have HV2 := Lib.hid (HV.out.trans (by rw [HS.out, decide_eq_true ⟨hn0, hn1, hn2⟩]; rfl : _ = (rowOk g.length k (prevOf r 1) (r.drop 1) && rowsOk g.length ((k : Int) + 1) (g.drop (k + 1)))))
                clear HS HV hn2
                generalize r[0] = x at *
                rw [Nat.add_zero] at e2
                go_wp2
                go_round
                case rel => exact ⟨1, by omega, by go_num, HV2⟩
                case measure => simp [intOf]; omega
              · have hjp : j - 1 < r.length := by omega
                obtain ⟨b3, o3, hA3, e3⟩ := H1.out.iv hjp
                obtain ⟨rfl, rfl⟩ : b2 = b3 ∧ o2 = o3 := by injection hA3 with h; injection h with h1 h2; exact ⟨h1, h2⟩
                clear hA3
                have hpv : prevOf r j = some r[j - 1] := by
                  obtain ⟨i, rfl⟩ : ∃ i, j = i + 1 := ⟨j - 1, by omega⟩
                  simp [prevOf]
                have hpos : 0 < j := by omega
                have hcast : (j : Int) - 1 = ((j - 1 : Nat) : Int) := by omega
                by_cases hlo : r[j - 1] < r[j]
                · have hd4 : decide (r[j] ≤ r[j - 1]) = false := by simp; omega
                  have HV2 := Lib.hid (HV.out.trans (by rw [HS.out, decide_eq_true ⟨hn0, hn1, hn2⟩, hpv, show overP (some r[j - 1]) r[j] = true by simpa [overP] using hlo]; rfl : _ = (rowOk g.length k (prevOf r (j + 1)) (r.drop (j + 1)) && rowsOk g.length ((k : Int) + 1) (g.drop (k + 1)))))
                  clear HS HV hn2 hpv hlo
                  generalize r[j] = x at *
                  generalize r[j - 1] = y at *
                  go_wp2
                  go_round
                  case rel => exact ⟨j + 1, by omega, by go_num, HV2⟩
                  case measure => simp [intOf]; omega
                · have hd4 : decide (r[j] ≤ r[j - 1]) = true := by simp; omega
                  have HV2 : Hid (validG g = false) := Lib.hid (by rw [HV.out, HS.out, hpv, show overP (some r[j - 1]) r[j] = false by simpa [overP] using hlo]; simp)
                  clear HS HV hn2 hpv hlo
                  generalize r[j] = x at *
                  generalize r[j - 1] = y at *
                  go_wp2
                  go_ret
                  exact ⟨gr_bool HV2.out.symm, rfl⟩
            · have HV2 : Hid (validG g = false) := Lib.hid (by rw [HV.out, HS.out, decide_eq_false hin]; rfl)
              clear HS HV
              have hor : decide (r[j] < 0) = true ∨ decide (r[j] < 0) = false ∧ decide ((g.length : Int) ≤ r[j]) = true ∨ decide (r[j] < 0) = false ∧ decide ((g.length : Int) ≤ r[j]) = false ∧ (r[j] == (k : Int)) = true := by
                simp only [decide_eq_true_eq, decide_eq_false_iff_not, beq_iff_eq]
                omega
              clear hin
              generalize r[j] = x at *
              rcases hor with hd1 | ⟨hd1, hd2⟩ | ⟨hd1, hd2, hd3⟩
              all_goals
                go_wp2
                go_ret
                exact ⟨gr_bool HV2.out.symm, rfl⟩
          · have HV2 := Lib.hid (HV.out.trans (by rw [rowOk_end (by omega), Bool.true_and] : _ = rowsOk g.length ((k : Int) + 1) (g.drop (k + 1))))
            clear HV
            go_wp2
            go_round
            case rel => exact ⟨k + 1, by omega, by go_num, Lib.hid (by rw [HV2.out]; rfl)⟩
            case measure => simp [intOf]; omega
      · have HV2 : Hid (validG g = true) := Lib.hid (by rw [HV.out, rowsOk_end (by omega)])
        clear HV
        go_wp2
        go_ret
        exact ⟨gr_bool HV2.out.symm, rfl⟩
/-- The first error of a graph with m shut marks. -/
def chkG (g : GraphD) (m : Nat) : Int := if validG g then (if m = g.length then 0 else 19) else 20
theorem refCheck_c (A B : Option Addr) (c d m : Nat) (g : GraphD) (w : World) (hh : RowsAt w A g) (hl : g.length ≤ 1000000000000000000) (hr : ∀ r ∈ g, r.length ≤ 1000000000000000000) :
    Calls Try.prog 75 #[.slice A g.length c, .slice B m d] w fun e w' => e = .returned (.int .i64 (chkG g m)) ∧ w = w' := by
  have C := Lib.hid (refGValid_c A c g w hh hl hr)
  clear hh hr
  rcases hv : validG g with _ | _
  · have HD : Hid (chkG g m = 20) := Lib.hid (by unfold chkG; rw [hv]; rfl)
    rw [hv] at C
    clear hv
    go_enter Try.func75, Try.ntmps75
    go_wp2_with fail
    refine C.out.mono ?_
    rintro e w1 ⟨rfl, rfl⟩
    go_wp2
    go_ret
    exact ⟨gr_int HD.out.symm, rfl⟩
  · rw [hv] at C
    by_cases hm : m = g.length
    · have HD : Hid (chkG g m = 0) := Lib.hid (by unfold chkG; rw [hv, hm]; simp)
      subst hm
      clear hv
      have hne : ((g.length : Int) != (g.length : Int)) = false := by simp
      go_enter Try.func75, Try.ntmps75
      go_wp2_with fail
      refine C.out.mono ?_
      rintro e w1 ⟨rfl, rfl⟩
      go_wp2
      go_ret
      exact ⟨gr_int HD.out.symm, rfl⟩
    · have HD : Hid (chkG g m = 19) := Lib.hid (by unfold chkG; rw [hv]; simp [hm])
      clear hv
      have hne : ((m : Int) != (g.length : Int)) = true := by rw [bne_iff_ne]; omega
      go_enter Try.func75, Try.ntmps75
      go_wp2_with fail
      refine C.out.mono ?_
      rintro e w1 ⟨rfl, rfl⟩
      go_wp2
      go_ret
      exact ⟨gr_int HD.out.symm, rfl⟩
end Go.Proofs.Ytfgpenekmokdiaa
namespace Go.Proofs.Ytfgpenekmokdiaa
open Go Go.RowKit Fl

set_option maxRecDepth 100000 in
set_option maxHeartbeats 1000000 in
theorem has_c (A : Option Addr) (c : Nat) (l : List Int) (x : Int) (w : World) (hh : Holds w A (l.map Iv)) (hl : l.length ≤ 1000000000000000000) :
    Calls Try.prog 32 #[.slice A l.length c, .int .i64 x] w fun e w' => e = .returned (.bool (decide (x ∈ l))) ∧ w = w' := by
  have HH := Lib.hid hh
  clear hh
  go_enter Try.func32, Try.ntmps32
  go_wp2
  go_loop [5] (fun i => ∃ k : Nat, k ≤ l.length ∧ i = .int .i64 k ∧ Hid (x ∉ l.take k)) (fun i => l.length - (intOf i).toNat)
  case atStart => exact ⟨0, Nat.zero_le _, rfl, Lib.hid (by simp)⟩
  case round =>
    obtain ⟨k, hk, rfl, HA⟩ := hrel
    by_cases hlt : k < l.length
    · obtain ⟨b, o, rfl, hc⟩ := HH.out.iv hlt
      by_cases he : l[k] = x
      · have HD : Hid (decide (x ∈ l) = true) := Lib.hid (by rw [decide_eq_true_eq, ← he]; exact List.getElem_mem hlt)
        have hb : (l[k] == x) = true := by rw [he]; simp
        clear HA he
        generalize l[k] = z at *
        go_wp2
        go_ret
        exact ⟨gr_bool HD.out.symm, rfl⟩
      · have hb : (l[k] == x) = false := by simpa using he
        have HA2 : Hid (x ∉ l.take (k + 1)) := Lib.hid (by
          rw [List.take_succ_eq_append_getElem hlt, List.mem_append, List.mem_singleton]
          rintro (h | h)
          · exact HA.out h
          · exact he h.symm)
        clear HA he
        generalize l[k] = z at *
        go_wp2
        go_round
        case rel => exact ⟨k + 1, by omega, by go_num, HA2⟩
        case measure => simp [intOf]; omega
    · have HD : Hid (decide (x ∈ l) = false) := Lib.hid (by
        have := HA.out
        rw [List.take_of_length_le (by omega)] at this
        rwa [decide_eq_false_iff_not])
      go_wp2
      go_ret
      exact ⟨gr_bool HD.out.symm, rfl⟩
/-- A list with x put before its k-th element on. -/
theorem insL_before {l : List Int} {x : Int} {k : Nat} (h : k < l.length) (hb : ∀ y ∈ l.take k, y ≤ x) (hx : x < l[k]) : insL l x = l.take k ++ x :: l.drop k := by
  induction l generalizing k with
  | nil => simp at h
  | cons y l ih =>
    cases k with
    | zero =>
      have hx' : x < y := by simpa using hx
      rw [insL, if_pos hx']; rfl
    | succ k =>
      have hy : y ≤ x := hb y (by simp)
      rw [insL, if_neg (by omega), ih (by simpa using h) (fun z hz => hb z (by simp [hz])) (by simpa using hx)]
      rfl
theorem insL_end {l : List Int} {x : Int} (hb : ∀ y ∈ l, y ≤ x) : insL l x = l ++ [x] := by
  induction l with
  | nil => rfl
  | cons y l ih =>
    have hy : y ≤ x := hb y (by simp)
    rw [insL, if_neg (by omega), ih (fun z hz => hb z (by simp [hz]))]
    rfl
/-- What Insert has made of the first k elements. -/
def InsRel (l : List Int) (x : Int) (k : Nat) (done : Bool) (out : List Int) : Prop :=
  (done = false ∧ out = l.take k ∧ ∀ y ∈ l.take k, y ≤ x) ∨ (done = true ∧ ∃ j, j < k ∧ ∃ h : j < l.length, x < l[j] ∧ (∀ y ∈ l.take j, y ≤ x) ∧ out = l.take j ++ x :: (l.take k).drop j)
theorem InsRel.length {l : List Int} {x : Int} {k : Nat} {d : Bool} {out : List Int} (h : InsRel l x k d out) : out.length ≤ k + 1 := by
  rcases h with ⟨_, rfl, _⟩ | ⟨_, j, hj, h1, _, _, rfl⟩
  · rw [List.length_take]; omega
  · simp; omega
theorem InsRel.put {l : List Int} {x : Int} {k : Nat} {out : List Int} (h : InsRel l x k false out) (hk : k < l.length) (hx : x < l[k]) : InsRel l x (k + 1) true ((out ++ [x]) ++ [l[k]]) := by
  rcases h with ⟨_, rfl, hb⟩ | ⟨h, _⟩
  · refine .inr ⟨rfl, k, by omega, hk, hx, hb, ?_⟩
    rw [List.take_succ_eq_append_getElem hk, List.drop_append, List.drop_of_length_le (by rw [List.length_take]; omega)]
    have : k - (l.take k).length = 0 := by rw [List.length_take]; omega
    rw [this]; simp
  · cases h
theorem InsRel.go {l : List Int} {x : Int} {k : Nat} {d : Bool} {out : List Int} (h : InsRel l x k d out) (hk : k < l.length) (hx : d = false → ¬ x < l[k]) : InsRel l x (k + 1) d (out ++ [l[k]]) := by
  rcases h with ⟨rfl, rfl, hb⟩ | ⟨rfl, j, hj, h1, h2, h3, rfl⟩
  · refine .inl ⟨rfl, (List.take_succ_eq_append_getElem hk).symm, fun y hy => ?_⟩
    rw [List.take_succ_eq_append_getElem hk, List.mem_append, List.mem_singleton] at hy
    have := hx rfl
    rcases hy with hy | rfl
    · exact hb y hy
    · omega
  · refine .inr ⟨rfl, j, by omega, h1, h2, h3, ?_⟩
    rw [List.take_succ_eq_append_getElem hk, List.drop_append_of_le_length (by rw [List.length_take]; omega)]
    simp
theorem InsRel.last {l : List Int} {x : Int} {k : Nat} {d : Bool} {out : List Int} (h : InsRel l x k d out) (hk : l.length ≤ k) : (if d then out else out ++ [x]) = insL l x := by
  rcases h with ⟨rfl, rfl, hb⟩ | ⟨rfl, j, hj, h1, h2, h3, rfl⟩
  · rw [List.take_of_length_le hk] at hb ⊢
    rw [insL_end hb]; rfl
  · rw [List.take_of_length_le hk, insL_before h1 h3 h2]; rfl
set_option maxRecDepth 100000 in
set_option maxHeartbeats 2000000 in
theorem insert_c (A : Option Addr) (c : Nat) (l : List Int) (x : Int) (w : World) (hh : Holds w A (l.map Iv)) (hl : l.length ≤ 1000000) :
    Calls Try.prog 34 #[.slice A l.length c, .int .i64 x] w fun e w' => ∃ v, e = .returned v ∧ w'.ownsRow w.heap.size 3 1 v (insL l x).length ((insL l x).map Iv) ∧ Below w.heap.size w w' := by
  have HH := Lib.hid hh
  clear hh
  go_enter Try.func34, Try.ntmps34
  go_wp2
  go_loopw [5, 6, 7] (fun v d i wr => ∃ (k : Nat) (db : Bool) (out : List Int), i = .int .i64 k ∧ k ≤ l.length ∧ d = .bool db ∧ Hid (InsRel l x k db out) ∧ Hid (wr.ownsRow w.heap.size 3 1 v out.length (out.map Iv)) ∧ Below w.heap.size w wr) (fun _ _ i _ => l.length - (intOf i).toNat)
  case atStart => exact ⟨0, false, [], rfl, Nat.zero_le _, rfl, Lib.hid (.inl ⟨rfl, rfl, by simp⟩), Lib.hid (World.ownsRow_nil _ _ _ _), Below.refl _ _⟩
  case round =>
    obtain ⟨k, db, out, rfl, hk, rfl, HI, HO, hb⟩ := hrel
    have hol := HI.out.length
    have hsz := hb.size
    by_cases hlt : k < l.length
    · obtain ⟨b, o, rfl, hc0⟩ := HH.out.iv hlt
      have hbw : b < w.heap.size := World.block_lt_of_cell? _ _ hc0
      have hc := (hb.cell (p := ⟨b, o + k, none⟩) hbw).trans hc0
      have HC0 := Lib.hid hc0
      have HG : Hid (db = true ∨ ¬ x < l[k] → InsRel l x (k + 1) db (out ++ [l[k]])) := Lib.hid (fun h => HI.out.go hlt (fun e => by rcases h with h | h; (rw [h] at e; cases e); exact h))
      have HP : Hid (db = false → x < l[k] → InsRel l x (k + 1) true ((out ++ [x]) ++ [l[k]])) := Lib.hid (fun e h => by subst e; exact HI.out.put hlt h)
      have base := own_base HO.out
      clear HI hc0
      generalize l[k] = z at *
      by_cases hp : db = false ∧ x < z
      · obtain ⟨rfl, hx⟩ := hp
        have HP2 := Lib.hid (HP.out rfl hx)
        clear HG HP
        go_wp2_with (at_builtin; refine app_int _ rfl _ _ rfl w.heap.size _ _ _ rfl (HO.out.alloc _) wr.heap.size x rfl (by simp [go_sem]) (by omega) (by simp; omega) ?_)
        intro v' w7 own7 hg7
        have hb7 : Below w.heap.size w w7 := (hb.alloc hb.size _).grown hg7 (by simp; omega) (fun k hk => base k hk)
        have HO7 : Hid (w7.ownsRow w.heap.size 3 1 v' (out ++ [x]).length ((out ++ [x]).map Iv)) := Lib.hid (by simpa using own7)
        have hc7 : w7.cell? ⟨b, o + k, none⟩ = some (.int .i64 z) := (hb7.cell (p := ⟨b, o + k, none⟩) hbw).trans HC0.out
        clear own7 hg7 base HO hc
        have base := own_base HO7.out
        have hl7 : (out ++ [x]).length ≤ 1000002 := by simp; omega
        have hsz := hb7.size
        generalize out ++ [x] = out' at *
        go_wp2_with (at_builtin; refine app_int _ rfl _ _ rfl w.heap.size _ _ _ rfl (HO7.out.alloc _) w7.heap.size z rfl (by simp [go_sem]) (by omega) (by simp; omega) ?_)
        intro v8 w8 own8 hg8
        have hb8 : Below w.heap.size w w8 := (hb7.alloc hb7.size _).grown hg8 (by simp; omega) (fun k hk => base k hk)
        have HO8 : Hid (w8.ownsRow w.heap.size 3 1 v8 (out' ++ [z]).length ((out' ++ [z]).map Iv)) := Lib.hid (by simpa using own8)
        clear own8 hg8 base HO7 hc7
        go_wp2
        go_roundw
        case rel => exact ⟨k + 1, true, _, by go_num, by omega, rfl, HP2, HO8, hb8⟩
        case measure => simp [intOf]; omega
      · have HG2 := Lib.hid (HG.out (by rcases db with _ | _; (right; exact fun h => hp ⟨rfl, h⟩); left; rfl))
        have hdd : db = true ∨ db = false ∧ decide (x < z) = false := by rcases db with _ | _; (right; refine ⟨rfl, ?_⟩; simp at hp; simpa using hp); left; rfl
        clear HG HP hp
        rcases hdd with rfl | ⟨rfl, hdx⟩
        all_goals
          go_wp2_with (at_builtin; refine app_int _ rfl _ _ rfl w.heap.size _ _ _ rfl (HO.out.alloc _) wr.heap.size z rfl (by simp [go_sem]) (by omega) (by simp; omega) ?_)
          intro v8 w8 own8 hg8
          have hb8 : Below w.heap.size w w8 := (hb.alloc hb.size _).grown hg8 (by simp; omega) (fun k hk => base k hk)
          have HO8 : Hid (w8.ownsRow w.heap.size 3 1 v8 (out ++ [z]).length ((out ++ [z]).map Iv)) := Lib.hid (by simpa using own8)
          clear own8 hg8 base HO hc
          go_wp2
          go_roundw
          case rel => exact ⟨k + 1, _, _, by go_num, by omega, rfl, HG2, HO8, hb8⟩
          case measure => simp [intOf]; omega
    · have HL := Lib.hid (HI.out.last (by omega))
      have base := own_base HO.out
      clear HI
      rcases db with _ | _
      · go_wp2_with (at_builtin; refine app_int _ rfl _ _ rfl w.heap.size _ _ _ rfl (HO.out.alloc _) wr.heap.size x rfl (by simp [go_sem]) (by omega) (by simp; omega) ?_)
        intro v8 w8 own8 hg8
        have hb8 : Below w.heap.size w w8 := (hb.alloc hb.size _).grown hg8 (by simp; omega) (fun k hk => base k hk)
        have HO8 : Hid (w8.ownsRow w.heap.size 3 1 v8 (out ++ [x]).length ((out ++ [x]).map Iv)) := Lib.hid (by simpa using own8)
        clear own8 hg8 base HO
        go_wp2
        go_ret
        exact ⟨_, rfl, by rw [← HL.out]; exact HO8.out, hb8⟩
      · go_wp2
        go_ret
        exact ⟨_, rfl, by rw [← HL.out]; exact HO.out, hb⟩
end Go.Proofs.Ytfgpenekmokdiaa
