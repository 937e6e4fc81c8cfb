/- What the statements' ways give: no error, turns and areas in whole numbers; whole ways appended. -/
import Derived.Test.YtifnmfljlgaeoaaPlBase
import Derived.Laws.AppendOwnNone
namespace Go.Proofs.Ytifnmfljlgaeoaa
open Go Go.RowKit Fl

theorem okAll_way {l : List BlockD} (h : ∀ b ∈ l, okB b = true) (hl : l.length ≤ 48) : wayE l = 0 ∧ turnsR l = turnsK l (l.length - 2) ∧ areaR l = polyZ l := by
  have h0 : wayE l = 0 := by
    rcases wayE_cases l with ⟨h1, _⟩ | ⟨_, h2, _⟩ | ⟨_, _, h3⟩
    · omega
    · rw [allB_iff.2 h] at h2; cases h2
    · exact h3
  refine ⟨h0, ?_, ?_⟩
  · unfold turnsR; rw [if_pos h0]
  · unfold areaR; rw [if_pos h0, areaZ_eq]
theorem area_small {l : List BlockD} (h : ∀ b ∈ l, okB b = true) (hl : l.length ≤ 48) : -10000000000 ≤ areaR l ∧ areaR l ≤ 10000000000 := by
  rw [(okAll_way h hl).2.2, ← areaK_all]
  have := area_bound h l.length
  omega
section
variable {ops : Array Oper} {rest : List Oper} {o : Oper} {a : Act} {Q : Exit → Act → World → Prop}
/-- What is appended: nothing, or a list of blocks in memory. -/
def ArgB (w : World) (v : Value) (M : List BlockD) : Prop := (v = .slice none 0 0 ∧ M = []) ∨ ∃ ad c, v = .slice (some ad) M.length c ∧ ∀ j u, (blockCells M)[j]? = some u → w.cell? (ad.add j) = some u
theorem blockCells_one : ∀ (l : List BlockD), ∀ u ∈ blockCells l, u.oneCell' = true
  | [], u, h => by simp [blockCells] at h
  | b :: l, u, h => by
    simp only [blockCells, List.mem_cons] at h
    rcases h with rfl | rfl | rfl | h
    · rfl
    · rfl
    · rfl
    · exact blockCells_one l u h
/-- A list of blocks more. -/
theorem app_blocks (w : World) (hgd : o.guard = none) (s x : Operand) (ho : o.op = .call { callee := .builtin .append, args := #[s, x], argTypes := #[26, 26] }) (base : Nat) (v : Value) (l : List BlockD) (hs : a.eval s = v) (hown : w.ownsRow base 23 3 v l.length (blockCells l))
    (u : Value) (M : List BlockD) (hx : a.eval x = u) (hM : ArgB w u M) (hn : l.length + M.length ≤ 1000000) (hbase : base ≤ w.heap.size)
    (h : ∀ v' w', w'.ownsRow base 23 3 v' (l ++ M).length (blockCells (l ++ M)) → w.grownBy w' v.ownBlock → wpList Try.prog ops Q rest (a.put o.dst v') w') : wpList Try.prog ops Q (o :: rest) a w := by
  obtain ⟨i, h1, h2, h3, h4⟩ := info_partsP Try.infoBlkP
  rcases hM with ⟨rfl, rfl⟩ | ⟨ad, c, rfl, hc⟩
  · refine wpList_append_own_none hgd s x 26 ho base 23 i 3 Try.underlying26 h1 v l.length (blockCells l) hs hown hx ?_
    refine h v w (by rwa [List.append_nil]) ?_
    exact ⟨rfl, rfl, rfl, Nat.le_refl _, fun _ _ _ => rfl⟩
  · refine wpList_append_own w hgd s x 26 ho base 23 i _ 3 32 Try.underlying26 h1 h2 h3 h4 rfl (by decide) v l.length (blockCells l) hs hown ad M.length c (blockCells M) hx (blockCells_length M) hc (blockCells_one M) ?_ ?_ hbase (fun v' w' g1 g2 _ => h v' w' ?_ g2)
    · unfold maxLen; omega
    · omega
    · rw [blockCells_append, List.length_append]
      exact g1
end
/-- The same at a step of a region that draws its order. -/
theorem step_blocks {ops : Array Oper} {o : Oper} {a : Act} {K : Act → World → Prop} {Q : Exit → Act → World → Prop} {E : Prop} (w : World) (hgd : o.guard = none) (s x : Operand) (ho : o.op = .call { callee := .builtin .append, args := #[s, x], argTypes := #[26, 26] }) (base : Nat) (v : Value) (l : List BlockD) (hs : a.eval s = v) (hown : w.ownsRow base 23 3 v l.length (blockCells l))
    (u : Value) (M : List BlockD) (hx : a.eval x = u) (hM : ArgB w u M) (hm : 0 < M.length) (hn : l.length + M.length ≤ 1000000) (hbase : base ≤ w.heap.size)
    (h : ∀ v' w', w'.ownsRow base 23 3 v' (l ++ M).length (blockCells (l ++ M)) → w.grownBy w' v.ownBlock → K (a.put o.dst v') w') : if Region.wanted o (yielded ops a.tmps) = true then Oper.wp Try.prog o a w K Q else E := by
  have hw : Region.wanted o (yielded ops a.tmps) = true := by simp [Region.wanted, hgd]
  rw [if_pos hw]
  obtain ⟨i, h1, h2, h3, h4⟩ := info_partsP Try.infoBlkP
  rcases hM with ⟨_, rfl⟩ | ⟨ad, c, rfl, hc⟩
  · simp at hm
  · refine wp_append_own w s x 26 ho base 23 i _ 3 32 Try.underlying26 h1 h2 h3 h4 rfl (by decide) v l.length (blockCells l) hs hown ad M.length c (blockCells M) hx (blockCells_length M) hc (blockCells_one M) ?_ ?_ hbase (fun v' w' g1 g2 _ => h v' w' ?_ g2)
    · unfold maxLen; omega
    · omega
    · rw [blockCells_append, List.length_append]
      exact g1
theorem add_addr (g o j : Nat) : Addr.add ⟨g, o, none⟩ j = ⟨g, o + j, none⟩ := by
  unfold Addr.add
  split
  · rename_i h; subst h; rfl
  · rfl
/-- A literal of one block is a row of the call's own. -/
theorem own_litB {w : World} {base q : Nat} {b : BlockD} (h : BlkAt w q b) (hb : base ≤ q) : w.ownsRow base 23 3 (.slice (some ⟨q, 0, none⟩) 1 1) [b].length (blockCells [b]) :=
  ⟨rfl, .inr ⟨q, 1, _, rfl, hb, h, Nat.le_refl _, by decide, rfl, rfl⟩⟩
theorem own_arg {w : World} {base : Nat} {v : Value} {l : List BlockD} (h : w.ownsRow base 23 3 v l.length (blockCells l)) : ArgB w v l := by
  obtain ⟨h1, h2⟩ := h
  rcases h2 with ⟨rfl, h3⟩ | ⟨g, cap, cur, rfl, _, hh, _, _, _, hx⟩
  · exact .inl ⟨rfl, List.eq_nil_of_length_eq_zero h3⟩
  · refine .inr ⟨_, cap, rfl, fun j u hu => ?_⟩
    rw [← hx] at hu
    have hj := (List.getElem?_eq_some_iff.1 hu).1
    rw [List.getElem?_take] at hu
    split at hu
    · have e1 := cell_of_row w g j cur _ (0, 0) hh
      rw [add_addr, Nat.zero_add, e1]
      simpa using hu
    · cases hu
theorem own_form {w : World} {base n : Nat} {v : Value} {l : List BlockD} (h : w.ownsRow base 23 3 v n (blockCells l)) : ∃ A c, v = .slice A n c := by
  rcases h.2 with ⟨rfl, rfl⟩ | ⟨g, cap, cur, rfl, _⟩
  · exact ⟨none, 0, rfl⟩
  · exact ⟨_, cap, rfl⟩
/-- A row of the call's own, made behind world w1, grows at a step of a region that draws its order. -/
theorem step_more {ops : Array Oper} {o : Oper} {a : Act} {K : Act → World → Prop} {Q : Exit → Act → World → Prop} {E : Prop} (w1 w : World) (hgd : o.guard = none) (s x : Operand) (ho : o.op = .call { callee := .builtin .append, args := #[s, x], argTypes := #[26, 26] }) (v : Value) (l : List BlockD) (hs : a.eval s = v) (hown : w.ownsRow w1.heap.size 23 3 v l.length (blockCells l))
    (u : Value) (M : List BlockD) (hx : a.eval x = u) (hM : ArgB w u M) (hm : 0 < M.length) (N : Nat) (hN : (l ++ M).length = N) (hn : N ≤ 1000000) (hW : Below w1.heap.size w1 w)
    (h : ∀ A c w', w'.ownsRow w1.heap.size 23 3 (.slice A N c) (l ++ M).length (blockCells (l ++ M)) → w.grownBy w' v.ownBlock → Below w1.heap.size w1 w' → K (a.put o.dst (.slice A N c)) w') : if Region.wanted o (yielded ops a.tmps) = true then Oper.wp Try.prog o a w K Q else E :=
  step_blocks w hgd s x ho w1.heap.size v l hs hown u M hx hM hm (by rw [← List.length_append, hN]; exact hn) hW.size fun v' w' g1 g2 => by
    obtain ⟨A, c, rfl⟩ := own_form g1
    rw [hN] at g1 ⊢
    exact h A c w' (by rw [hN]; exact g1) g2 (hW.grown g2 hW.size (ownB_base hown))
theorem holds_front {w : World} {A : Option Addr} {xs ys : List Value} (h : Holds w A (xs ++ ys)) : Holds w A xs := by
  rcases h with h | ⟨b, o, rfl, hlt, hc⟩
  · exact .inl (List.append_eq_nil_iff.1 h).1
  · exact .inr ⟨b, o, rfl, hlt, fun j hj => by
      rw [hc j (by rw [List.length_append]; omega), List.getElem_append_left hj]⟩
theorem holds_take {w : World} {A : Option Addr} {l : List BlockD} (h : Holds w A (blockCells l)) (n : Nat) : Holds w A (blockCells (l.take n)) := by
  rw [← List.take_append_drop n l, blockCells_append] at h
  exact holds_front h
/-- A part of a list in memory. -/
theorem holds_arg {w : World} {b o c : Nat} {l : List BlockD} (i n : Nat) (hin : i + n ≤ l.length) (h : Holds w (some ⟨b, o, none⟩) (blockCells l)) : ArgB w (.slice (some ⟨b, o + i * 3, none⟩) n c) ((l.drop i).take n) := by
  have hlen : ((l.drop i).take n).length = n := by rw [List.length_take, List.length_drop]; omega
  refine .inr ⟨_, c, by rw [hlen], fun j u hu => ?_⟩
  have hpre : (blockCells l)[i * 3 + j]? = some u := by
    have e1 : blockCells l = blockCells (l.take i) ++ blockCells ((l.drop i).take n) ++ blockCells ((l.drop i).drop n) := by
      rw [← blockCells_append, ← blockCells_append, List.append_assoc, List.take_append_drop, List.take_append_drop]
    have hj := (List.getElem?_eq_some_iff.1 hu).1
    have e2 : (blockCells (l.take i)).length = i * 3 := by rw [blockCells_length, List.length_take, Nat.min_eq_left (by omega)]
    rw [e1, List.getElem?_append_left (by rw [List.length_append, e2]; omega), List.getElem?_append_right (by omega), e2, Nat.add_sub_cancel_left]
    exact hu
  have := h.look hpre
  rwa [add_addr, Nat.add_assoc]
theorem own_holdsB {w : World} {base N c : Nat} {A : Option Addr} {l : List BlockD} (h : w.ownsRow base 23 3 (.slice A N c) l.length (blockCells l)) : Holds w A (blockCells l) := by
  obtain ⟨A', c', e, hh⟩ := own_blocks h
  injection e with e1 e2 e3
  subst e1
  exact hh
theorem box_drew {w : World} {q : Nat} {b : BlockD} (h : BlkAt w q b) : BlkAt w.drew q b := h
/-- A literal that was made before a nil slice was appended to. -/
theorem lit_kept {W w : World} {base q : Nat} {b : BlockD} (hg : W.grownBy w (Value.slice none 0 0).ownBlock) (hb : BlkAt W q b) (hq : base ≤ q) : w.ownsRow base 23 3 (.slice (some ⟨q, 0, none⟩) 1 1) [b].length (blockCells [b]) :=
  own_litB (hb.keep ((Below.refl W.heap.size W).grown hg (Nat.le_refl _) (fun k hk => by simp [Value.ownBlock] at hk))) hq
end Go.Proofs.Ytifnmfljlgaeoaa
