/- A list of numbers of the call's own that is appended to and whose head is cut off: its place in its row moves. -/
import Derived.Test.YtcpoojlhfebcmaaGrApp
import Derived.ArgAppend
namespace Go.Proofs.Ytcpoojlhfebcmaa
open Go Go.RowKit Fl

/-- The slice v holds the numbers xs somewhere in a row of the call's own, or is nil. -/
def QueueOwn (w : World) (base : Nat) (v : Value) (xs : List Int) : Prop :=
  (v = .slice none 0 0 ∧ xs = []) ∨ ∃ b o cap cur, v = .slice (some ⟨b, o, none⟩) xs.length cap ∧ base ≤ b ∧ w.heap[b]? = some (.cells cur 3 (0, 0)) ∧ o + cap ≤ cur.size ∧ xs.length ≤ cap ∧ ∀ j (h : j < xs.length), cur[o + j]? = some (Iv xs[j])
theorem QueueOwn.keep {w w' : World} {base : Nat} {v : Value} {xs : List Int} (h : QueueOwn w base v xs) (hb : Below w.heap.size w w') : QueueOwn w' base v xs := by
  rcases h with h | ⟨b, o, cap, cur, h1, h2, h3, h4⟩
  · exact .inl h
  · exact .inr ⟨b, o, cap, cur, h1, h2, (hb.block b (block_lt h3)).trans h3, h4⟩
theorem QueueOwn.other {w w' : World} {base X : Nat} {v : Value} {xs : List Int} {cs : Array Value} {t : TypeId} {fz : Nat × Nat} (h : QueueOwn w base v xs) (hX : w.heap[X]? = some (.cells cs t fz)) (ht : 3 ≠ t) (hw : ∀ b, b ≠ X → w'.heap[b]? = w.heap[b]?) : QueueOwn w' base v xs := by
  rcases h with h | ⟨b, o, cap, cur, h1, h2, h3, h4⟩
  · exact .inl h
  · refine .inr ⟨b, o, cap, cur, h1, h2, (hw b (fun e => ?_)).trans h3, h4⟩
    subst e
    rw [h3] at hX
    injection hX with hX
    injection hX with _ h2
    exact ht h2
theorem QueueOwn.one {w : World} {base F : Nat} {z : Int} (h : w.heap[F]? = some (.cells #[Iv z] 3 (0, 0))) (hb : base ≤ F) : QueueOwn w base (.slice (some ⟨F, 0, none⟩) 1 1) [z] :=
  .inr ⟨F, 0, 1, _, rfl, hb, h, by simp, by simp, fun j hj => by
    obtain rfl : j = 0 := by simpa using hj
    rfl⟩
theorem QueueOwn.form {w : World} {base : Nat} {v : Value} {xs : List Int} (h : QueueOwn w base v xs) : ∃ A c, v = .slice A xs.length c := by
  rcases h with ⟨rfl, rfl⟩ | ⟨b, o, cap, cur, rfl, _⟩
  · exact ⟨none, 0, rfl⟩
  · exact ⟨_, _, rfl⟩
/-- The head, and the rest behind it. -/
theorem QueueOwn.pop {w : World} {base : Nat} {v : Value} {x : Int} {xs : List Int} (h : QueueOwn w base v (x :: xs)) : ∃ b o cap, v = .slice (some ⟨b, o, none⟩) (xs.length + 1) cap ∧ xs.length + 1 ≤ cap ∧ w.cell? ⟨b, o, none⟩ = some (.int .i64 x) ∧ QueueOwn w base (.slice (some ⟨b, if cap = 1 then o else o + 1, none⟩) xs.length (cap - 1)) xs := by
  rcases h with ⟨_, h⟩ | ⟨b, o, cap, cur, h1, h2, h3, h4, h5, h6⟩
  · cases h
  · simp only [List.length_cons] at h1 h5 h6
    refine ⟨b, o, cap, h1, h5, ?_, .inr ⟨b, _, cap - 1, cur, rfl, h2, h3, ?_, by omega, fun j hj => ?_⟩⟩
    · rw [cell_of_row w b o cur _ _ h3]
      have := h6 0 (by omega)
      simpa using this
    · split <;> omega
    · have := h6 (j + 1) (by omega)
      rw [if_neg (by omega), show o + 1 + j = o + (j + 1) by omega, this]
      simp
section
variable {ops : Array Oper} {rest : List Oper} {o : Oper} {a : Act} {Q : Exit → Act → World → Prop}
theorem setCells_one (w : World) (b o : Nat) (v : Value) : w.setCells b o [v] = w.setCell ⟨b, o, none⟩ v := rfl
theorem app_queue (w : World) (hgd : o.guard = none) (s x : Operand) (ho : o.op = .call { callee := .builtin .append, args := #[s, x], argTypes := #[25, 25] }) (base : Nat) (v : Value) (xs : List Int) (hs : a.eval s = v) (hown : QueueOwn w base v xs)
    (B : Nat) (z : Int) (hx : a.eval x = .slice (some ⟨B, 0, none⟩) 1 1) (hc : w.cell? ⟨B, 0, none⟩ = some (Iv z)) (hn : xs.length ≤ 1000000000) (hbase : base ≤ w.heap.size)
    (h : ∀ v' w' row, QueueOwn w' base v' (xs ++ [z]) → w.grownBy w' row → (∀ k, row = some k → base ≤ k ∧ ∃ cur, w.heap[k]? = some (.cells cur 3 (0, 0))) → wpList Try.prog ops Q rest (a.put o.dst v') w') : wpList Try.prog ops Q (o :: rest) a w := by
  obtain ⟨i, i1, i2, i3, i4⟩ := info_parts Try.infoIntG
  have hnews : ∀ j u, [Iv z][j]? = some u → w.cell? ((⟨B, 0, none⟩ : Addr).add j) = some u := fun j u hu => by
    rcases j with _ | j
    · simp at hu; subst hu; simpa [Addr.add] using hc
    · simp at hu
  have hone : ∀ u ∈ [Iv z], u.oneCell' = true := fun u hu => by simp at hu; subst hu; rfl
  have fromRow : ∀ v' w', w'.ownsRow w.heap.size 3 1 v' (xs.length + 1) (xs.map Iv ++ [Iv z]) → QueueOwn w' base v' (xs ++ [z]) := fun v' w' g => by
    obtain ⟨g1, g2⟩ := g
    rcases g2 with ⟨_, h0⟩ | ⟨g, cap, cur, hv, hgb, hh, hnc, hcm, hcs, hxs⟩
    · omega
    · refine .inr ⟨g, 0, cap, cur, by rw [hv]; simp, by omega, hh, by omega, by simp; omega, fun j hj => ?_⟩
      have e : (cur.toList.take ((xs.length + 1) * 1))[j]? = some (Iv (xs ++ [z])[j]) := by
        rw [hxs, show xs.map Iv ++ [Iv z] = (xs ++ [z]).map Iv by simp, List.getElem?_map, List.getElem?_eq_getElem hj]; rfl
      rw [List.getElem?_take] at e
      split at e
      · rw [Nat.zero_add]; simpa using e
      · cases e
  rcases hown with ⟨rfl, rfl⟩ | ⟨b, of, cap, cur, rfl, hb, hh, hof, hle, hcells⟩
  · refine wpList_append_grows w hgd s x 25 ho 3 i (.int .i64 0) 1 8 Try.underlying25 i1 i2 i3 i4 rfl (by decide) none 0 0 [] hs (fun _ => ⟨rfl, rfl⟩) rfl (fun _ h => by cases h) ⟨B, 0, none⟩ 1 1 [Iv z] hx rfl hnews hone (by decide) (by unfold maxLen; omega) (by omega) (fun v' w' g1 g2 => h v' w' none (fromRow v' w' (by simpa using g1)) g2 (fun k hk => by cases hk))
  · have hcell : ∀ j u, (xs.map Iv)[j]? = some u → w.cell? ⟨b, of + j, none⟩ = some u := fun j u hu => by
      rw [List.getElem?_map] at hu
      rcases hx' : xs[j]? with _ | y
      · rw [hx'] at hu; cases hu
      · rw [hx'] at hu
        obtain ⟨hj, rfl⟩ := List.getElem?_eq_some_iff.1 hx'
        rw [cell_of_row w b _ cur _ _ hh, hcells j hj]
        exact hu
    refine wpList_append_arg w hgd s x 25 ho 3 i (.int .i64 0) 1 8 Try.underlying25 i1 i2 i3 i4 rfl (by decide) b of xs.length cap (xs.map Iv) hs (by simp) hcell ⟨B, 0, none⟩ 1 1 [Iv z] hx rfl hnews hone (fun hr j hj => ?_) (by unfold maxLen; omega) (by omega) (fun hr => ?_) (fun _ v' w' g1 g2 => h v' w' none (fromRow v' w' (by simpa using g1)) g2 (fun k hk => by cases hk))
    · obtain rfl : j = 0 := by simpa using hj
      refine ⟨?_, by simp [World.frozen?, hh]⟩
      rw [cell_of_row w b _ cur _ _ hh, Array.getElem?_eq_getElem (by omega)]
      rfl
    · rw [setCells_one, Nat.mul_one]
      refine h _ _ (some b) (.inr ⟨b, of, cap, cur.setIfInBounds (of + xs.length) (Iv z), by simp, hb, ?_, by simpa using hof, by simp; omega, fun j hj => ?_⟩) ⟨rfl, rfl, rfl, by simp [World.setCell], fun k _ hne => Below.heap_setCell w _ _ k (fun e => hne (by rw [e]))⟩ (fun k hk => by injection hk with hk; subst hk; exact ⟨hb, cur, hh⟩)
      · rw [setCell_eq_setRow w b _ cur _ _ _ hh]
        exact setRow_heap _ _ _ _ _ _ hh
      · rw [List.length_append, List.length_singleton] at hj
        by_cases e : j = xs.length
        · subst e
          rw [Array.getElem?_setIfInBounds, if_pos rfl, if_pos (by omega)]
          simp
        · have hj' : j < xs.length := by omega
          rw [List.getElem_append_left hj', Array.getElem?_setIfInBounds, if_neg (by omega)]
          exact hcells j hj'
end
end Go.Proofs.Ytcpoojlhfebcmaa
