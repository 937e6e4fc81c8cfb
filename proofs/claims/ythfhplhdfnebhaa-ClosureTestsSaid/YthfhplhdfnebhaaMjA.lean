/- Joined texts. -/
import Derived.Test.YthfhplhdfnebhaaRcSpec
import Derived.Test.YthfhplhdfnebhaaGrApp
import Derived.ArgAppend
import Derived.Test.YthfhplhdfnebhaaGrValid
import Derived.Test.YthfhplhdfnebhaaGrSame
import Derived.Deep.LoopGhost
import Derived.Deep.AppendLies
import Derived.Deep.RegionLaw
import Derived.Test.YthfhplhdfnebhaaTape
namespace Go.Proofs.Ythfhplhdfnebhaa.Fl

def closedAt (g : GraphD) (s M : List Bool) (u : Nat) : Prop := ∀ y, EdgeG g u y → y < g.length → atB s y = false → atB M y = true
structure BfsInv (g : GraphD) (s : List Bool) (v : Nat) (M : List Bool) (Q : List Int) : Prop where
  len : M.length = g.length
  start : atB M v = true
  sound : ∀ u, atB M u = true → PathG g s v u
  queue : ∀ q ∈ Q, ∃ u : Nat, q = u ∧ u < g.length ∧ atB M u = true
  done : ∀ u, atB M u = true → (u : Int) ∈ Q ∨ closedAt g s M u
/-- In the midst of vertex x: m elements of its row are through. -/
structure BfsMid (g : GraphD) (s : List Bool) (v : Nat) (M : List Bool) (Q : List Int) (x m : Nat) : Prop where
  len : M.length = g.length
  start : atB M v = true
  sound : ∀ u, atB M u = true → PathG g s v u
  queue : ∀ q ∈ Q, ∃ u : Nat, q = u ∧ u < g.length ∧ atB M u = true
  here : atB M x = true
  done : ∀ u, atB M u = true → (u : Int) ∈ Q ∨ u = x ∨ closedAt g s M u
  part : ∀ j (h : j < (rowG g x).length), j < m → ∀ y : Nat, (rowG g x)[j] = y → y < g.length → atB s y = false → atB M y = true
def unm (M : List Bool) : Nat := M.count false
theorem atB_set {M : List Bool} {u y : Nat} (hy : y < M.length) : atB (M.set y true) u = if u = y then true else atB M u := by
  unfold atB
  rw [List.getD_eq_getElem?_getD, List.getElem?_set, List.getD_eq_getElem?_getD]
  by_cases e : u = y
  · subst e; simp [hy]
  · rw [if_neg (fun h => e h.symm), if_neg e]
theorem unm_set : ∀ {M : List Bool} {y : Nat}, y < M.length → atB M y = false → unm (M.set y true) + 1 = unm M
  | [], y, h, _ => by simp at h
  | b :: M, 0, _, hb => by
    have e : b = false := by simpa [atB] using hb
    subst e
    simp [unm]
  | b :: M, y + 1, h, hb => by
    have ih := unm_set (M := M) (y := y) (by simpa using h) (by simpa [atB] using hb)
    unfold unm at ih ⊢
    rw [List.set_cons_succ, List.count_cons, List.count_cons]
    omega
theorem bfs_start {g : GraphD} {s : List Bool} {v : Nat} (hv : v < g.length) (hs : atB s v = false) : BfsInv g s v ((List.replicate g.length false).set v true) [(v : Int)] := by
  have key : ∀ u, atB ((List.replicate g.length false).set v true) u = if u = v then true else false := fun u => by
    rw [atB_set (by simpa using hv)]
    by_cases e : u = v
    · rw [if_pos e, if_pos e]
    · rw [if_neg e, if_neg e]
      unfold atB
      rw [List.getD_eq_getElem?_getD, List.getElem?_replicate]
      split <;> rfl
  refine ⟨by simp, by rw [key, if_pos rfl], fun u hu => ?_, fun q hq => ?_, fun u hu => ?_⟩
  · rw [key] at hu
    split at hu
    · rename_i e; subst e; exact .refl hv hs
    · cases hu
  · simp at hq
    exact ⟨v, hq, hv, by rw [key, if_pos rfl]⟩
  · rw [key] at hu
    split at hu
    · rename_i e; subst e; exact .inl (by simp)
    · cases hu
theorem BfsInv.pop {g : GraphD} {s : List Bool} {v : Nat} {M : List Bool} {x : Int} {Q : List Int} (h : BfsInv g s v M (x :: Q)) : ∃ u : Nat, x = u ∧ u < g.length ∧ BfsMid g s v M Q u 0 := by
  obtain ⟨u, rfl, hu, hm⟩ := h.queue x (by simp)
  refine ⟨u, rfl, hu, h.len, h.start, h.sound, fun q hq => h.queue q (by simp [hq]), hm, fun z hz => ?_, fun j _ hj => by omega⟩
  rcases h.done z hz with h1 | h1
  · rcases List.mem_cons.1 h1 with h2 | h2
    · exact .inr (.inl (by omega))
    · exact .inl h2
  · exact .inr (.inr h1)
theorem BfsMid.skip {g : GraphD} {s : List Bool} {v : Nat} {M : List Bool} {Q : List Int} {x m : Nat} (h : BfsMid g s v M Q x m) (hs : ∀ (h : m < (rowG g x).length) (y : Nat), (rowG g x)[m] = y → atB s y = true ∨ atB M y = true) : BfsMid g s v M Q x (m + 1) := by
  refine ⟨h.len, h.start, h.sound, h.queue, h.here, h.done, fun j hj hjm y hy hyl hys => ?_⟩
  rcases Nat.lt_succ_iff_lt_or_eq.1 hjm with h' | rfl
  · exact h.part j hj h' y hy hyl hys
  · rcases hs hj y hy with h1 | h1
    · rw [h1] at hys; cases hys
    · exact h1
theorem BfsMid.mark {g : GraphD} {s : List Bool} {v : Nat} {M : List Bool} {Q : List Int} {x m y : Nat} (h : BfsMid g s v M Q x m) (hm : m < (rowG g x).length) (hy : (rowG g x)[m] = y) (hyl : y < g.length) (hys : atB s y = false) : BfsMid g s v (M.set y true) (Q ++ [(y : Int)]) x (m + 1) := by
  have hyM : y < M.length := by rw [h.len]; exact hyl
  have mono : ∀ u, atB M u = true → atB (M.set y true) u = true := fun u hu => by
    rw [atB_set hyM]; split
    · rfl
    · exact hu
  have hedge : EdgeG g x y := by unfold EdgeG; rw [← hy]; exact List.getElem_mem hm
  refine ⟨by simpa using h.len, mono _ h.start, fun u hu => ?_, fun q hq => ?_, mono _ h.here, fun u hu => ?_, fun j hj hjm z hz hzl hzs => ?_⟩
  · rw [atB_set hyM] at hu
    split at hu
    · rename_i e; subst e
      exact .step (h.sound x h.here) hedge hyl hys
    · exact h.sound u hu
  · rcases List.mem_append.1 hq with hq | hq
    · obtain ⟨u, h1, h2, h3⟩ := h.queue q hq
      exact ⟨u, h1, h2, mono _ h3⟩
    · simp at hq
      exact ⟨y, hq, hyl, by rw [atB_set hyM, if_pos rfl]⟩
  · rw [atB_set hyM] at hu
    split at hu
    · rename_i e; subst e; exact .inl (by simp)
    · rcases h.done u hu with h1 | h1 | h1
      · exact .inl (by simp [h1])
      · exact .inr (.inl h1)
      · exact .inr (.inr fun z hz hzl hzs => mono _ (h1 z hz hzl hzs))
  · rcases Nat.lt_succ_iff_lt_or_eq.1 hjm with h' | rfl
    · exact mono _ (h.part j hj h' z hz hzl hzs)
    · have : z = y := by omega
      subst this
      rw [atB_set hyM, if_pos rfl]
theorem BfsMid.over {g : GraphD} {s : List Bool} {v : Nat} {M : List Bool} {Q : List Int} {x m : Nat} (h : BfsMid g s v M Q x m) (hm : (rowG g x).length ≤ m) : BfsInv g s v M Q := by
  refine ⟨h.len, h.start, h.sound, h.queue, fun u hu => ?_⟩
  rcases h.done u hu with h1 | rfl | h1
  · exact .inl h1
  · refine .inr fun y hy hyl hys => ?_
    unfold EdgeG at hy
    obtain ⟨j, hj, e⟩ := List.mem_iff_getElem.1 hy
    exact h.part j hj (by omega) y e hyl hys
  · exact .inr h1
theorem BfsInv.end_ {g : GraphD} {s : List Bool} {v : Nat} {M : List Bool} (h : BfsInv g s v M []) : M = reachL g s v := by
  refine reachL_eq h.len fun x hx => ⟨h.sound x, fun hp => ?_⟩
  refine PathG.closed (P := fun u => atB M u = true) h.start (fun a b ha he hb hs => ?_) hp
  rcases h.done a ha with h1 | h1
  · simp at h1
  · exact h1 b he hb hs
theorem reachL_shut {g : GraphD} {s : List Bool} {v : Nat} (hs : atB s v = true) : reachL g s v = List.replicate g.length false := by
  refine (reachL_eq (by simp) fun x hx => ?_).symm
  constructor
  · intro h
    unfold atB at h
    rw [List.getD_eq_getElem?_getD, List.getElem?_replicate, if_pos hx] at h
    cases h
  · intro h
    have := h.left.2
    rw [hs] at this; cases this
end Go.Proofs.Ythfhplhdfnebhaa.Fl
namespace Go.Proofs.Ythfhplhdfnebhaa
open Go Go.RowKit Fl

/-- The slice v holds the numbers xs somewhere in a row of the call's own, or is nil. -/
def QueueOwn (w : World) (base : Nat) (v : Value) (xs : List Int) : Prop :=
  (v = .slice none 0 0 ∧ xs = []) ∨ ∃ b o cap cur, v = .slice (some ⟨b, o, none⟩) xs.length cap ∧ base ≤ b ∧ w.heap[b]? = some (.cells cur 3 (0, 0)) ∧ o + cap ≤ cur.size ∧ xs.length ≤ cap ∧ ∀ j (h : j < xs.length), cur[o + j]? = some (Iv xs[j])
theorem QueueOwn.keep {w w' : World} {base : Nat} {v : Value} {xs : List Int} (h : QueueOwn w base v xs) (hb : Below w.heap.size w w') : QueueOwn w' base v xs := by
  rcases h with h | ⟨b, o, cap, cur, h1, h2, h3, h4⟩
  · exact .inl h
  · exact .inr ⟨b, o, cap, cur, h1, h2, (hb.block b (block_lt h3)).trans h3, h4⟩
theorem QueueOwn.other {w w' : World} {base X : Nat} {v : Value} {xs : List Int} {cs : Array Value} {t : TypeId} {fz : Nat × Nat} (h : QueueOwn w base v xs) (hX : w.heap[X]? = some (.cells cs t fz)) (ht : 3 ≠ t) (hw : ∀ b, b ≠ X → w'.heap[b]? = w.heap[b]?) : QueueOwn w' base v xs := by
  rcases h with h | ⟨b, o, cap, cur, h1, h2, h3, h4⟩
  · exact .inl h
  · refine .inr ⟨b, o, cap, cur, h1, h2, (hw b (fun e => ?_)).trans h3, h4⟩
    subst e
    rw [h3] at hX
    injection hX with hX
    injection hX with _ h2
    exact ht h2
theorem QueueOwn.one {w : World} {base F : Nat} {z : Int} (h : w.heap[F]? = some (.cells #[Iv z] 3 (0, 0))) (hb : base ≤ F) : QueueOwn w base (.slice (some ⟨F, 0, none⟩) 1 1) [z] :=
  .inr ⟨F, 0, 1, _, rfl, hb, h, by simp, by simp, fun j hj => by
    obtain rfl : j = 0 := by simpa using hj
    rfl⟩
theorem QueueOwn.form {w : World} {base : Nat} {v : Value} {xs : List Int} (h : QueueOwn w base v xs) : ∃ A c, v = .slice A xs.length c := by
  rcases h with ⟨rfl, rfl⟩ | ⟨b, o, cap, cur, rfl, _⟩
  · exact ⟨none, 0, rfl⟩
  · exact ⟨_, _, rfl⟩
/-- The head, and the rest behind it. -/
theorem QueueOwn.pop {w : World} {base : Nat} {v : Value} {x : Int} {xs : List Int} (h : QueueOwn w base v (x :: xs)) : ∃ b o cap, v = .slice (some ⟨b, o, none⟩) (xs.length + 1) cap ∧ xs.length + 1 ≤ cap ∧ w.cell? ⟨b, o, none⟩ = some (.int .i64 x) ∧ QueueOwn w base (.slice (some ⟨b, if cap = 1 then o else o + 1, none⟩) xs.length (cap - 1)) xs := by
  rcases h with ⟨_, h⟩ | ⟨b, o, cap, cur, h1, h2, h3, h4, h5, h6⟩
  · cases h
  · simp only [List.length_cons] at h1 h5 h6
    refine ⟨b, o, cap, h1, h5, ?_, .inr ⟨b, _, cap - 1, cur, rfl, h2, h3, ?_, by omega, fun j hj => ?_⟩⟩
    · rw [cell_of_row w b o cur _ _ h3]
      have := h6 0 (by omega)
      simpa using this
    · split <;> omega
    · have := h6 (j + 1) (by omega)
      rw [if_neg (by omega), show o + 1 + j = o + (j + 1) by omega, this]
      simp
section
variable {ops : Array Oper} {rest : List Oper} {o : Oper} {a : Act} {Q : Exit → Act → World → Prop}
theorem setCells_one (w : World) (b o : Nat) (v : Value) : w.setCells b o [v] = w.setCell ⟨b, o, none⟩ v := rfl
theorem app_queue (w : World) (hgd : o.guard = none) (s x : Operand) (ho : o.op = .call { callee := .builtin .append, args := #[s, x], argTypes := #[25, 25] }) (base : Nat) (v : Value) (xs : List Int) (hs : a.eval s = v) (hown : QueueOwn w base v xs)
    (B : Nat) (z : Int) (hx : a.eval x = .slice (some ⟨B, 0, none⟩) 1 1) (hc : w.cell? ⟨B, 0, none⟩ = some (Iv z)) (hn : xs.length ≤ 1000000000) (hbase : base ≤ w.heap.size)
    (h : ∀ v' w' row, QueueOwn w' base v' (xs ++ [z]) → w.grownBy w' row → (∀ k, row = some k → base ≤ k ∧ ∃ cur, w.heap[k]? = some (.cells cur 3 (0, 0))) → wpList Try.prog ops Q rest (a.put o.dst v') w') : wpList Try.prog ops Q (o :: rest) a w := by
  obtain ⟨i, i1, i2, i3, i4⟩ := info_parts Try.infoIntG
  have hnews : ∀ j u, [Iv z][j]? = some u → w.cell? ((⟨B, 0, none⟩ : Addr).add j) = some u := fun j u hu => by
    rcases j with _ | j
    · simp at hu; subst hu; simpa [Addr.add] using hc
    · simp at hu
  have hone : ∀ u ∈ [Iv z], u.oneCell' = true := fun u hu => by simp at hu; subst hu; rfl
  have fromRow : ∀ v' w', w'.ownsRow w.heap.size 3 1 v' (xs.length + 1) (xs.map Iv ++ [Iv z]) → QueueOwn w' base v' (xs ++ [z]) := fun v' w' g => by
    obtain ⟨g1, g2⟩ := g
    rcases g2 with ⟨_, h0⟩ | ⟨g, cap, cur, hv, hgb, hh, hnc, hcm, hcs, hxs⟩
    · omega
    · refine .inr ⟨g, 0, cap, cur, by rw [hv]; simp, by omega, hh, by omega, by simp; omega, fun j hj => ?_⟩
      have e : (cur.toList.take ((xs.length + 1) * 1))[j]? = some (Iv (xs ++ [z])[j]) := by
        rw [hxs, show xs.map Iv ++ [Iv z] = (xs ++ [z]).map Iv by simp, List.getElem?_map, List.getElem?_eq_getElem hj]; rfl
      rw [List.getElem?_take] at e
      split at e
      · rw [Nat.zero_add]; simpa using e
      · cases e
  rcases hown with ⟨rfl, rfl⟩ | ⟨b, of, cap, cur, rfl, hb, hh, hof, hle, hcells⟩
  · refine wpList_append_grows w hgd s x 25 ho 3 i (.int .i64 0) 1 8 Try.underlying25 i1 i2 i3 i4 rfl (by decide) none 0 0 [] hs (fun _ => ⟨rfl, rfl⟩) rfl (fun _ h => by cases h) ⟨B, 0, none⟩ 1 1 [Iv z] hx rfl hnews hone (by decide) (by unfold maxLen; omega) (by omega) (fun v' w' g1 g2 => h v' w' none (fromRow v' w' (by simpa using g1)) g2 (fun k hk => by cases hk))
  · have hcell : ∀ j u, (xs.map Iv)[j]? = some u → w.cell? ⟨b, of + j, none⟩ = some u := fun j u hu => by
      rw [List.getElem?_map] at hu
      rcases hx' : xs[j]? with _ | y
      · rw [hx'] at hu; cases hu
      · rw [hx'] at hu
        obtain ⟨hj, rfl⟩ := List.getElem?_eq_some_iff.1 hx'
        rw [cell_of_row w b _ cur _ _ hh, hcells j hj]
        exact hu
    refine wpList_append_arg w hgd s x 25 ho 3 i (.int .i64 0) 1 8 Try.underlying25 i1 i2 i3 i4 rfl (by decide) b of xs.length cap (xs.map Iv) hs (by simp) hcell ⟨B, 0, none⟩ 1 1 [Iv z] hx rfl hnews hone (fun hr j hj => ?_) (by unfold maxLen; omega) (by omega) (fun hr => ?_) (fun _ v' w' g1 g2 => h v' w' none (fromRow v' w' (by simpa using g1)) g2 (fun k hk => by cases hk))
    · obtain rfl : j = 0 := by simpa using hj
      refine ⟨?_, by simp [World.frozen?, hh]⟩
      rw [cell_of_row w b _ cur _ _ hh, Array.getElem?_eq_getElem (by omega)]
      rfl
    · rw [setCells_one, Nat.mul_one]
      refine h _ _ (some b) (.inr ⟨b, of, cap, cur.setIfInBounds (of + xs.length) (Iv z), by simp, hb, ?_, by simpa using hof, by simp; omega, fun j hj => ?_⟩) ⟨rfl, rfl, rfl, by simp [World.setCell], fun k _ hne => Below.heap_setCell w _ _ k (fun e => hne (by rw [e]))⟩ (fun k hk => by injection hk with hk; subst hk; exact ⟨hb, cur, hh⟩)
      · rw [setCell_eq_setRow w b _ cur _ _ _ hh]
        exact setRow_heap _ _ _ _ _ _ hh
      · rw [List.length_append, List.length_singleton] at hj
        by_cases e : j = xs.length
        · subst e
          rw [Array.getElem?_setIfInBounds, if_pos rfl, if_pos (by omega)]
          simp
        · have hj' : j < xs.length := by omega
          rw [List.getElem_append_left hj', Array.getElem?_setIfInBounds, if_neg (by omega)]
          exact hcells j hj'
end
end Go.Proofs.Ythfhplhdfnebhaa
namespace Go.Proofs.Ythfhplhdfnebhaa
open Go Go.RowKit Fl

theorem own_row_other {w w' : World} {base n : Nat} {e t : TypeId} {v : Value} {xs : List Value} {row : Option Nat} (h : w.ownsRow base e 1 v n xs) (hg : w.grownBy w' row) (hr : ∀ k, row = some k → ∃ cur, w.heap[k]? = some (.cells cur t (0, 0))) (ht : e ≠ t) : w'.ownsRow base e 1 v n xs := by
  obtain ⟨h1, hr1⟩ := h
  refine ⟨h1, ?_⟩
  rcases hr1 with hr1 | ⟨b, cap, cur, hv, hgb, hh, hrest⟩
  · exact .inl hr1
  · refine .inr ⟨b, cap, cur, hv, hgb, (hg.block b (block_lt hh) (fun e1 => ?_)).trans hh, hrest⟩
    obtain ⟨cur', h2⟩ := hr b e1.symm
    rw [hh] at h2
    injection h2 with h2
    injection h2 with _ h3
    exact ht h3
theorem own_marks {w : World} {base n g cap : Nat} {L : List Bool} (h : w.ownsRow base 4 1 (.slice (some ⟨g, 0, none⟩) n cap) n (L.map Bo)) (i : Nat) (hi : i < L.length) : w.cell? ⟨g, i, none⟩ = some (.bool L[i]) ∧ w.frozen? ⟨g, i, none⟩ = false :=
  own_get h (by simp [hi])
theorem own_marks_set {w : World} {base n g cap : Nat} {L : List Bool} (h : w.ownsRow base 4 1 (.slice (some ⟨g, 0, none⟩) n cap) n (L.map Bo)) (i : Nat) (z : Bool) : (w.setCell ⟨g, i, none⟩ (.bool z)).ownsRow base 4 1 (.slice (some ⟨g, 0, none⟩) n cap) n ((L.set i z).map Bo) := by
  rw [List.map_set]; exact own_put h
theorem own_row_block {w : World} {base n g cap : Nat} {e : TypeId} {xs : List Value} (h : w.ownsRow base e 1 (.slice (some ⟨g, 0, none⟩) n cap) n xs) : ∃ cs, w.heap[g]? = some (.cells cs e (0, 0)) := by
  obtain ⟨_, h⟩ := h
  rcases h with ⟨hv, _⟩ | ⟨g', cap', cur, hv, _, hh, _⟩
  · cases hv
  · injection hv with hA _ _
    injection hA with hA
    injection hA with hA
    subst hA
    exact ⟨cur, hh⟩
theorem atB_at {s : List Bool} {v : Nat} (h : v < s.length) : atB s v = s[v] := by unfold atB; rw [List.getD_eq_getElem?_getD, List.getElem?_eq_getElem h]; rfl
theorem alloc_set (w : World) (a : Addr) (u : Value) (o : Obj) : ((w.setCell a u).alloc o).heap[w.heap.size]? = some o := by
  have h := heap_alloc_new (w.setCell a u) o
  have e : (w.setCell a u).heap.size = w.heap.size := by simp [World.setCell]
  rwa [e] at h
set_option maxRecDepth 100000 in
set_option maxHeartbeats 8000000 in
theorem reach_c (A B : Option Addr) (c d : Nat) (g : GraphD) (s : List Bool) (v : Nat) (w : World) (hh : RowsAt w A g) (hs : Holds w B (s.map Bo)) (hg : validG g = true) (hsl : s.length = g.length) (hv : v < g.length) :
    Calls Try.prog 49 #[.slice A g.length c, .slice B s.length d, .int .i64 v] w fun e w' => ∃ u, e = .returned u ∧ w'.ownsRow w.heap.size 4 1 u g.length ((reachL g s v).map Bo) ∧ Below w.heap.size w w' := by
  have hvs : v < s.length := by omega
  obtain ⟨bs, os, rfl, hsc⟩ := hs.bo hvs
  have hbs : bs < w.heap.size := World.block_lt_of_cell? _ _ hsc
  have hat := atB_at hvs
  have HH := Lib.hid hh
  have HS := Lib.hid hs
  have HG := Lib.hid hg
  have HSL := Lib.hid hsl
  have hl24 := validG_len hg
  have HR24 := Lib.hid (validG_short hg)
  clear hh hs hg hsl
  go_enter Try.func49, Try.ntmps49
  go_wp2_with (refine make_any _ rfl _ _ 30 4 (.bool false) 1 Try.underlying30 Try.infoBoolS rfl (by decide) rfl .i64 .i64 _ _ g.length rfl rfl rfl rfl (by omega) ?_)
  intro w1 own1 hb1
  have HO1 : Hid (w1.ownsRow w.heap.size 4 1 (.slice (some ⟨w.heap.size, 0, none⟩) g.length g.length) g.length ((List.replicate g.length false).map Bo)) := Lib.hid (by rw [List.map_replicate]; exact own1)
  obtain ⟨G, hG⟩ : ∃ G, G = w.heap.size := ⟨_, rfl⟩
  rw [← hG] at HO1 hb1 hbs ⊢
  have HGG := Lib.hid hG
  have hsc1 : w1.cell? ⟨bs, os + v, none⟩ = some (.bool s[v]) := (hb1.cell (p := ⟨bs, os + v, none⟩) hbs).trans hsc
  clear own1 hG hsc
  rcases hsv : s[v] with _ | _
  · rw [hsv] at hat hsc1
    have HI := Lib.hid (bfs_start hv hat)
    obtain ⟨cu, c1, f1⟩ : ∃ cu, w1.cell? ⟨G, v, none⟩ = some cu ∧ w1.frozen? ⟨G, v, none⟩ = false := ⟨_, own_marks HO1.out v (by simpa using hv)⟩
    have HO2 := Lib.hid (own_marks_set HO1.out v true)
    have hb2 := below_put (i := v) (v := .bool true) hb1 (Nat.le_refl _)
    have hb1' := hb1
    have hun0 : 2 * unm ((List.replicate g.length false).set v true) + 1 ≤ 100 := by
      have : unm ((List.replicate g.length false).set v true) ≤ g.length := by unfold unm; refine Nat.le_trans List.count_le_length (by simp)
      omega
    generalize (List.replicate g.length false).set v true = M0 at *
    clear hsv hat HO1 hb1
    go_wp2
    have HO3 := Lib.hid (HO2.out.alloc (.cells #[.int .i64 v] 3))
    have HQ3 : Hid (QueueOwn ((w1.setCell ⟨G, v, none⟩ (.bool true)).alloc (.cells #[.int .i64 v] 3)) G (.slice (some ⟨w1.heap.size, 0, none⟩) 1 1) [(v : Int)]) := Lib.hid (QueueOwn.one (alloc_set _ _ _ _) (by have := hb1'.size; have := HGG.out; omega))
    have hb3 := hb2.alloc (by have := hb2.size; have := HGG.out; omega) (.cells #[.int .i64 v] 3)
    clear HO2 hb2 c1 f1 hsc1
    generalize (w1.setCell ⟨G, v, none⟩ (.bool true)).alloc (.cells #[.int .i64 v] 3) = w3 at *
    go_loopg [8] (2 * unm M0 + 1) (fun gk q wr => ∃ (M : List Bool) (Q : List Int) (A1 : Option Addr) (c1 : Nat), q = .slice A1 Q.length c1 ∧ Hid (BfsInv g s v M Q) ∧ 2 * unm M + Q.length ≤ gk ∧ gk ≤ 100 ∧ Hid (QueueOwn wr G (.slice A1 Q.length c1) Q) ∧ Hid (wr.ownsRow G 4 1 (.slice (some ⟨G, 0, none⟩) g.length g.length) g.length (M.map Bo)) ∧ Below G w wr)
    case atStart => exact ⟨M0, [(v : Int)], _, _, rfl, HI, by simp, hun0, HQ3, HO3, hb3⟩
    case round =>
      clear HQ3 HO3 hb3 HI
      obtain ⟨M, Q, A1, c1, rfl, HI, hms, hql, HQ, HO, hb⟩ := hrel
      cases Q with
      | nil =>
        have HE : Hid (M = reachL g s v) := Lib.hid HI.out.end_
        go_wp2
        go_ret
        exact ⟨_, rfl, by rw [← HE.out, ← HGG.out]; exact HO.out, by rw [← HGG.out]; exact hb⟩
      | cons x Q =>
        obtain ⟨xn, rfl, hxn, hmid⟩ := HI.out.pop
        obtain ⟨b, o, cap, hv1, hcap, hx, hq⟩ := HQ.out.pop
        have HM := Lib.hid hmid
        have HQ2 := Lib.hid hq
        simp only [List.length_cons] at hv1 hms hql ⊢
        injection hv1 with hv1 _ hv2
        subst hv1 hv2
        obtain ⟨bg, og, A2, c2, rfl, e1, h1⟩ := HH.out.one hxn
        have hbg : bg < G := by have h : bg < w.heap.size := World.block_lt_of_cell? _ _ e1; have := HGG.out; omega
        have HE1 : Hid (∀ W, Below G w W → W.cell? ⟨bg, og + xn, none⟩ = some (.slice A2 g[xn].length c2)) := Lib.hid (fun W hW => (hW.cell (p := ⟨bg, og + xn, none⟩) hbg).trans e1)
        have hr24 := HR24.out _ (List.getElem_mem hxn)
        have HX := Lib.hid (rowOk_row HG.out hxn)
        have hrow := rowG_at hxn
        rw [hrow] at HX
        have HRow := Lib.hid hrow
        have H1 := Lib.hid h1
        clear hmid hq HI HQ e1 h1 hrow
        generalize g[xn] = r at *
        have hgk : 1 ≤ gk := by omega
        have hb0 := hb
        obtain ⟨o1, HO1⟩ : ∃ o1, Hid (o1 = if c1 = 1 then o else o + 1) := ⟨_, Lib.hid rfl⟩
        rw [← HO1.out] at HQ2
        rcases Nat.lt_or_ge 1 c1 with hc1 | hc1
        · have ho : o1 = o + 1 := by have := HO1.out; rw [if_neg (by omega)] at this; exact this
          have hne : ¬ c1 = 1 := by omega
          subst ho
          go_wp2
          go_loopw [8, 10] (fun q i wr => ∃ (m : Nat) (M : List Bool) (Q : List Int) (A1 : Option Addr) (c1 : Nat), i = .int .i64 m ∧ m ≤ r.length ∧ q = .slice A1 Q.length c1 ∧ Hid (BfsMid g s v M Q xn m) ∧ 2 * unm M + Q.length ≤ gk - 1 ∧ Hid (QueueOwn wr G (.slice A1 Q.length c1) Q) ∧ Hid (wr.ownsRow G 4 1 (.slice (some ⟨G, 0, none⟩) g.length g.length) g.length (M.map Bo)) ∧ Below G w wr) (fun _ i _ => r.length - (intOf i).toNat)
          case atStart => exact ⟨0, M, _, _, _, rfl, Nat.zero_le _, rfl, HM, by first | omega | (simp at hms ⊢; omega), HQ2, HO, hb⟩
          case round =>
            clear HM HQ2 HO hb hb0 hcap HO1 hms
            obtain ⟨m, M, Q, A1, c1, rfl, hm, rfl, HM, hms, HQ, HO, hb⟩ := hrel
            have e1 := HE1.out wr hb
            by_cases hmlt : m < r.length
            · obtain ⟨br, or_, rfl, e2⟩ := H1.out.iv hmlt
              have hbr : br < G := by have h : br < w.heap.size := World.block_lt_of_cell? _ _ e2; have := HGG.out; omega
              have e2r : wr.cell? ⟨br, or_ + m, none⟩ = some (.int .i64 r[m]) := (hb.cell (p := ⟨br, or_ + m, none⟩) hbr).trans e2
              obtain ⟨y0, y1, y2⟩ := HX.out r[m] (List.getElem_mem hmlt)
              obtain ⟨y, hy⟩ := Int.eq_ofNat_of_zero_le y0
              have hmr : m < (rowG g xn).length := by rw [HRow.out]; exact hmlt
              have hyr : (rowG g xn)[m] = (y : Int) := by
                have h : (rowG g xn)[m]? = some r[m] := by rw [HRow.out]; exact List.getElem?_eq_getElem hmlt
                rw [List.getElem?_eq_getElem hmr] at h
                injection h with h
                rw [h]; exact hy
              rw [hy] at e2r y1
              have hyn : y < g.length := by omega
              have hys : y < s.length := by have := HSL.out; omega
              have hyM : y < M.length := by rw [HM.out.len]; exact hyn
              obtain ⟨bs2, os2, hBeq, es⟩ := HS.out.bo hys
              injection hBeq with hBeq
              injection hBeq with hB1 hB2
              subst hB1 hB2
              have esr : wr.cell? ⟨bs, os + y, none⟩ = some (.bool s[y]) := (hb.cell (p := ⟨bs, os + y, none⟩) hbs).trans es
              obtain ⟨em, fm⟩ := own_marks HO.out y hyM
              have hS := atB_at hys
              have hMk := atB_at hyM
              have HSkip := Lib.hid (fun h => HM.out.skip (m := m) h)
              have HMark := Lib.hid (fun h => HM.out.mark (y := y) hmr hyr hyn h)
              have HYr := Lib.hid hyr
              have HUn := Lib.hid (unm_set hyM)
              have HSet := Lib.hid (own_marks_set HO.out y true)
              have hcase : s[y] = true ∨ s[y] = false ∧ M[y] = true ∨ s[y] = false ∧ M[y] = false := by rcases s[y] with _ | _ <;> rcases M[y] with _ | _ <;> simp
              clear es e2 y0 y1 y2 hy hyr HM
              rcases hcase with h1 | ⟨h1, h2⟩ | ⟨h1, h2⟩
              · have HM2 := Lib.hid (HSkip.out (fun _ z hz => .inl (by have : z = y := by have := HYr.out; omega
                                                                       subst this; rw [hS, h1])))
                rw [h1] at esr
                clear HSkip HMark HYr HUn HSet em fm hS hMk h1
                go_wp2
                go_roundw
                case rel => exact ⟨m + 1, M, Q, _, _, by go_num, by omega, rfl, HM2, hms, HQ, HO, hb⟩
                case measure => simp [intOf]; omega
              · have HM2 := Lib.hid (HSkip.out (fun _ z hz => .inr (by have : z = y := by have := HYr.out; omega
                                                                       subst this; rw [hMk, h2])))
                rw [h1] at esr
                rw [h2] at em
                clear HSkip HMark HYr HUn HSet hS hMk h1 h2
                go_wp2
                go_roundw
                case rel => exact ⟨m + 1, M, Q, _, _, by go_num, by omega, rfl, HM2, hms, HQ, HO, hb⟩
                case measure => simp [intOf]; omega
              · have HM2 := Lib.hid (HMark.out (by rw [hS, h1]))
                have hun := HUn.out (by rw [hMk, h2])
                rw [h1] at esr
                rw [h2] at em
                have hb5 := below_put (i := y) (v := .bool true) hb (Nat.le_refl _)
                obtain ⟨csM, hcsM⟩ := own_row_block HO.out
                have HQ5 := Lib.hid (HQ.out.other (w' := wr.setCell ⟨G, y, none⟩ (.bool true)) hcsM (by decide) (fun b hb => Below.heap_setCell _ _ _ _ hb))
                have hszw : G ≤ wr.heap.size := by have := hb.size; have := HGG.out; omega
                clear HSkip HMark HYr HUn hS hMk h1 h2 hcsM HQ
                go_wp2_with (at_builtin; refine app_queue _ rfl _ _ rfl G _ Q rfl (HQ5.out.keep ((Below.refl _ _).alloc (Nat.le_refl _) _)) _ y rfl (by rw [cell_of_row _ _ 0 _ _ _ (alloc_set _ _ _ _)]; rfl) (by omega) (by simp [World.setCell]; omega) ?_)
                intro v8 w8 row own8 hg8 hrow
                have HO8 := Lib.hid (own_row_other (HSet.out.alloc _) hg8 (fun k hk => (hrow k hk).2) (by decide))
                have hb8 : Below G w w8 := (hb5.alloc (by have := hb5.size; have := HGG.out; omega) _).grown hg8 (by simp [World.setCell]; omega) (fun k hk => (hrow k hk).1)
                obtain ⟨A8, c8, hv8⟩ := own8.form
                subst hv8
                have HQ8 := Lib.hid own8
                have hms8 : 2 * unm (M.set y true) + (Q ++ [(y : Int)]).length ≤ gk - 1 := by simp only [List.length_append, List.length_singleton]; omega
                clear own8 hg8 hrow HSet HQ5 hb5 hun
                go_wp2
                go_roundw
                case rel => exact ⟨m + 1, _, _, _, _, by go_num, by omega, rfl, HM2, hms8, HQ8, HO8, hb8⟩
                case measure => simp [intOf]; omega
            · have HI2 := Lib.hid (HM.out.over (by rw [HRow.out]; omega))
              go_wp2
              go_roundg (gk - 1)
              case measure => omega
              case rel => exact ⟨M, Q, _, _, rfl, HI2, hms, by omega, HQ, HO, hb⟩
        · have ho : o1 = o := by have := HO1.out; rw [if_pos (by omega)] at this; exact this
          obtain rfl : c1 = 1 := by omega
          obtain rfl : Q = [] := List.eq_nil_of_length_eq_zero (by omega)
          subst ho
          go_wp2
          go_loopw [8, 10] (fun q i wr => ∃ (m : Nat) (M : List Bool) (Q : List Int) (A1 : Option Addr) (c1 : Nat), i = .int .i64 m ∧ m ≤ r.length ∧ q = .slice A1 Q.length c1 ∧ Hid (BfsMid g s v M Q xn m) ∧ 2 * unm M + Q.length ≤ gk - 1 ∧ Hid (QueueOwn wr G (.slice A1 Q.length c1) Q) ∧ Hid (wr.ownsRow G 4 1 (.slice (some ⟨G, 0, none⟩) g.length g.length) g.length (M.map Bo)) ∧ Below G w wr) (fun _ i _ => r.length - (intOf i).toNat)
          case atStart => exact ⟨0, M, _, _, _, rfl, Nat.zero_le _, rfl, HM, by first | omega | (simp at hms ⊢; omega), HQ2, HO, hb⟩
          case round =>
            clear HM HQ2 HO hb hb0 hcap HO1 hms
            obtain ⟨m, M, Q, A1, c1, rfl, hm, rfl, HM, hms, HQ, HO, hb⟩ := hrel
            have e1 := HE1.out wr hb
            by_cases hmlt : m < r.length
            · obtain ⟨br, or_, rfl, e2⟩ := H1.out.iv hmlt
              have hbr : br < G := by have h : br < w.heap.size := World.block_lt_of_cell? _ _ e2; have := HGG.out; omega
              have e2r : wr.cell? ⟨br, or_ + m, none⟩ = some (.int .i64 r[m]) := (hb.cell (p := ⟨br, or_ + m, none⟩) hbr).trans e2
              obtain ⟨y0, y1, y2⟩ := HX.out r[m] (List.getElem_mem hmlt)
              obtain ⟨y, hy⟩ := Int.eq_ofNat_of_zero_le y0
              have hmr : m < (rowG g xn).length := by rw [HRow.out]; exact hmlt
              have hyr : (rowG g xn)[m] = (y : Int) := by
                have h : (rowG g xn)[m]? = some r[m] := by rw [HRow.out]; exact List.getElem?_eq_getElem hmlt
                rw [List.getElem?_eq_getElem hmr] at h
                injection h with h
                rw [h]; exact hy
              rw [hy] at e2r y1
              have hyn : y < g.length := by omega
              have hys : y < s.length := by have := HSL.out; omega
              have hyM : y < M.length := by rw [HM.out.len]; exact hyn
              obtain ⟨bs2, os2, hBeq, es⟩ := HS.out.bo hys
              injection hBeq with hBeq
              injection hBeq with hB1 hB2
              subst hB1 hB2
              have esr : wr.cell? ⟨bs, os + y, none⟩ = some (.bool s[y]) := (hb.cell (p := ⟨bs, os + y, none⟩) hbs).trans es
              obtain ⟨em, fm⟩ := own_marks HO.out y hyM
              have hS := atB_at hys
              have hMk := atB_at hyM
              have HSkip := Lib.hid (fun h => HM.out.skip (m := m) h)
              have HMark := Lib.hid (fun h => HM.out.mark (y := y) hmr hyr hyn h)
              have HYr := Lib.hid hyr
              have HUn := Lib.hid (unm_set hyM)
              have HSet := Lib.hid (own_marks_set HO.out y true)
              have hcase : s[y] = true ∨ s[y] = false ∧ M[y] = true ∨ s[y] = false ∧ M[y] = false := by rcases s[y] with _ | _ <;> rcases M[y] with _ | _ <;> simp
              clear es e2 y0 y1 y2 hy hyr HM
              rcases hcase with h1 | ⟨h1, h2⟩ | ⟨h1, h2⟩
              · have HM2 := Lib.hid (HSkip.out (fun _ z hz => .inl (by have : z = y := by have := HYr.out; omega
                                                                       subst this; rw [hS, h1])))
                rw [h1] at esr
                clear HSkip HMark HYr HUn HSet em fm hS hMk h1
                go_wp2
                go_roundw
                case rel => exact ⟨m + 1, M, Q, _, _, by go_num, by omega, rfl, HM2, hms, HQ, HO, hb⟩
                case measure => simp [intOf]; omega
              · have HM2 := Lib.hid (HSkip.out (fun _ z hz => .inr (by have : z = y := by have := HYr.out; omega
                                                                       subst this; rw [hMk, h2])))
                rw [h1] at esr
                rw [h2] at em
                clear HSkip HMark HYr HUn HSet hS hMk h1 h2
                go_wp2
                go_roundw
                case rel => exact ⟨m + 1, M, Q, _, _, by go_num, by omega, rfl, HM2, hms, HQ, HO, hb⟩
                case measure => simp [intOf]; omega
              · have HM2 := Lib.hid (HMark.out (by rw [hS, h1]))
                have hun := HUn.out (by rw [hMk, h2])
                rw [h1] at esr
                rw [h2] at em
                have hb5 := below_put (i := y) (v := .bool true) hb (Nat.le_refl _)
                obtain ⟨csM, hcsM⟩ := own_row_block HO.out
                have HQ5 := Lib.hid (HQ.out.other (w' := wr.setCell ⟨G, y, none⟩ (.bool true)) hcsM (by decide) (fun b hb => Below.heap_setCell _ _ _ _ hb))
                have hszw : G ≤ wr.heap.size := by have := hb.size; have := HGG.out; omega
                clear HSkip HMark HYr HUn hS hMk h1 h2 hcsM HQ
                go_wp2_with (at_builtin; refine app_queue _ rfl _ _ rfl G _ Q rfl (HQ5.out.keep ((Below.refl _ _).alloc (Nat.le_refl _) _)) _ y rfl (by rw [cell_of_row _ _ 0 _ _ _ (alloc_set _ _ _ _)]; rfl) (by omega) (by simp [World.setCell]; omega) ?_)
                intro v8 w8 row own8 hg8 hrow
                have HO8 := Lib.hid (own_row_other (HSet.out.alloc _) hg8 (fun k hk => (hrow k hk).2) (by decide))
                have hb8 : Below G w w8 := (hb5.alloc (by have := hb5.size; have := HGG.out; omega) _).grown hg8 (by simp [World.setCell]; omega) (fun k hk => (hrow k hk).1)
                obtain ⟨A8, c8, hv8⟩ := own8.form
                subst hv8
                have HQ8 := Lib.hid own8
                have hms8 : 2 * unm (M.set y true) + (Q ++ [(y : Int)]).length ≤ gk - 1 := by simp only [List.length_append, List.length_singleton]; omega
                clear own8 hg8 hrow HSet HQ5 hb5 hun
                go_wp2
                go_roundw
                case rel => exact ⟨m + 1, _, _, _, _, by go_num, by omega, rfl, HM2, hms8, HQ8, HO8, hb8⟩
                case measure => simp [intOf]; omega
            · have HI2 := Lib.hid (HM.out.over (by rw [HRow.out]; omega))
              go_wp2
              go_roundg (gk - 1)
              case measure => omega
              case rel => exact ⟨M, Q, _, _, rfl, HI2, hms, by omega, HQ, HO, hb⟩
  · rw [hsv] at hat hsc1
    have HR : Hid (reachL g s v = List.replicate g.length false) := Lib.hid (reachL_shut hat)
    go_wp2
    go_ret
    exact ⟨_, rfl, by rw [HR.out, ← HGG.out]; exact HO1.out, by rw [← HGG.out]; exact hb1⟩
end Go.Proofs.Ythfhplhdfnebhaa
namespace Go.Proofs.Ythfhplhdfnebhaa
open Go Go.RowKit Fl

theorem chkG_cases (g : GraphD) (m : Nat) : (chkG g m = 0 ∧ validG g = true ∧ m = g.length) ∨ chkG g m = 19 ∨ chkG g m = 20 := by
  unfold chkG
  rcases h : validG g with _ | _
  · simp
  · by_cases e : m = g.length
    · left; simp [e]
    · right; left; simp [e]
/-- The error of From. -/
def fromE (g : GraphD) (m : Nat) (v : Int) : Int := if chkG g m = 0 then (if 0 ≤ v ∧ v < g.length then 0 else 19) else chkG g m
open Classical in
noncomputable def fromL (g : GraphD) (s : List Bool) (v : Int) : List Bool := if fromE g s.length v = 0 then reachL g s v.toNat else []
theorem fromL_ok {g : GraphD} {s : List Bool} {v : Int} (h : fromE g s.length v = 0) : fromL g s v = reachL g s v.toNat := by unfold fromL; rw [if_pos h]
theorem fromL_err {g : GraphD} {s : List Bool} {v : Int} (h : fromE g s.length v ≠ 0) : fromL g s v = [] := by unfold fromL; rw [if_neg h]
def FromPost (w : World) (l : List Bool) (k : Int) (e : Ending) (w' : World) : Prop := ∃ u, e = .returned (.tuple #[u, .int .i64 k]) ∧ w'.ownsRow w.heap.size 4 1 u l.length (l.map Bo) ∧ Below w.heap.size w w'
/-- All open vertices reach each other, and there is one. -/
def mutP (g : GraphD) (s : List Bool) : Prop := (∃ v, v < g.length ∧ atB s v = false) ∧ ∀ u v, u < g.length → v < g.length → atB s u = false → atB s v = false → PathG g s u v
open Classical in
noncomputable def mutB (g : GraphD) (s : List Bool) : Bool := decide (chkG g s.length = 0 ∧ mutP g s)
open Classical in
theorem mutB_iff (g : GraphD) (s : List Bool) : mutB g s = true ↔ chkG g s.length = 0 ∧ mutP g s := by unfold mutB; exact decide_eq_true_iff
theorem mutB_no {g : GraphD} {s : List Bool} (h : ¬ (chkG g s.length = 0 ∧ mutP g s)) : mutB g s = false := by
  rcases e : mutB g s with _ | _
  · rfl
  · exact absurd ((mutB_iff g s).1 e) h
set_option maxRecDepth 100000 in
set_option maxHeartbeats 4000000 in
theorem refMutual_c (A B : Option Addr) (c d : Nat) (g : GraphD) (s : List Bool) (w : World) (hh : RowsAt w A g) (hs : Holds w B (s.map Bo)) (hl : g.length ≤ 1000000000000000000) (hr : ∀ r ∈ g, r.length ≤ 1000000000000000000) :
    Calls Try.prog 38 #[.slice A g.length c, .slice B s.length d] w fun e w' => e = .returned (.tuple #[.bool (mutB g s), .int .i64 (chkG g s.length)]) ∧ Below w.heap.size w w' := by
  have CC := Lib.hid (refCheck_c A B c d s.length g w hh hl hr)
  by_cases h0 : chkG g s.length = 0
  · have hv : validG g = true ∧ s.length = g.length := by
      rcases chkG_cases g s.length with h | h | h
      · exact h.2
      · omega
      · omega
    rw [h0] at CC ⊢
    have hl24 := validG_len hv.1
    have HSL := Lib.hid hv.2
    have HS := Lib.hid hs
    have CR := Lib.hid (fun W v (hW : Below w.heap.size w W) hvn => reach_c A B c d g s v W (hh.keep hW) (hs.keep hW) hv.1 hv.2 hvn)
    have HT : Hid (mutP g s → mutB g s = true) := Lib.hid (fun h => (mutB_iff g s).2 ⟨h0, h⟩)
    have HF : Hid (¬ mutP g s → mutB g s = false) := Lib.hid (fun h => mutB_no fun h2 => h h2.2)
    clear hh hs hr h0 hv
    generalize mutB g s = res at *
    go_enter Try.func38, Try.ntmps38
    go_wp2_with fail
    refine CC.out.mono ?_
    rintro e w1 ⟨rfl, rfl⟩
    go_wp2
    go_loopw [7, 8] (fun o i wr => ∃ (k : Nat) (z : Int), i = .int .i64 k ∧ k ≤ g.length ∧ o = .int .i64 z ∧ 0 ≤ z ∧ z ≤ k ∧ Hid (0 < z → ∃ v, v < k ∧ atB s v = false) ∧ Hid (z = 0 → ∀ v, v < k → atB s v = true) ∧ Hid (∀ u v, u < k → v < g.length → atB s u = false → atB s v = false → PathG g s u v) ∧ Below w.heap.size w wr) (fun _ i _ => g.length - (intOf i).toNat)
    case atStart => exact ⟨0, 0, rfl, Nat.zero_le _, rfl, by omega, by omega, Lib.hid (fun h => by omega), Lib.hid (fun _ v hv => by omega), Lib.hid (fun u v hu => by omega), Below.refl _ _⟩
    case round =>
      obtain ⟨k, z, rfl, hk, rfl, hz0, hz1, HZ1, HZ2, HP, hb⟩ := hrel
      by_cases hlt : k < g.length
      · have hks : k < s.length := by have := HSL.out; omega
        obtain ⟨bs, os, rfl, hsc⟩ := HS.out.bo hks
        have hbs : bs < w.heap.size := World.block_lt_of_cell? _ _ hsc
        have hscr : wr.cell? ⟨bs, os + k, none⟩ = some (.bool s[k]) := (hb.cell (p := ⟨bs, os + k, none⟩) hbs).trans hsc
        have hat := atB_at hks
        clear hsc
        rcases hsk : s[k] with _ | _
        · rw [hsk] at hscr hat
          have HA := Lib.hid hat
          have HR := Lib.hid (CR.out wr k hb hlt)
          have hszr := hb.size
          have HRA := Lib.hid (fun x (hx : x < g.length) => reachL_at (s := s) (v := k) hx)
          have HRL := Lib.hid (reachL_length g s k)
          clear hsk hat
          go_wp2_with fail
          refine HR.out.mono ?_
          rintro e w3 ⟨u, rfl, own3, hb3⟩
          obtain ⟨Au, cu, rfl, hu⟩ := own_is own3
          have HU := Lib.hid hu
          have hb13 := hb.trans (hb3.mono hszr)
          have hscr3 := (hb3.cell (p := ⟨bs, os + k, none⟩) (by show bs < wr.heap.size; omega)).trans hscr
          clear own3 hu hb3 HR hb hscr hscr3
          generalize reachL g s k = R at *
          go_wp2
          go_loop [10] (fun i => ∃ (j : Nat), i = .int .i64 j ∧ j ≤ g.length ∧ Hid (∀ x, x < j → atB s x = false → PathG g s k x)) (fun i => g.length - (intOf i).toNat)
          case atStart => exact ⟨0, rfl, Nat.zero_le _, Lib.hid (fun x hx => by omega)⟩
          case round =>
            obtain ⟨j, rfl, hj, HJ⟩ := hrel
            by_cases hjt : j < g.length
            · have hjs : j < s.length := by have := HSL.out; omega
              have hjR : j < R.length := by have := HRL.out; omega
              obtain ⟨b2, o2, hBeq, es⟩ := HS.out.bo hjs
              injection hBeq with hBeq
              injection hBeq with hB1 hB2
              subst hB1 hB2
              have es3 : w3.cell? ⟨bs, os + j, none⟩ = some (.bool s[j]) := (hb13.cell (p := ⟨bs, os + j, none⟩) hbs).trans es
              obtain ⟨bu, ou, rfl, eu⟩ := HU.out.bo hjR
              have h1 := atB_at hjs
              have h2 := atB_at hjR
              have h3 := HRA.out j hjt
              rw [h2] at h3
              have H3 := Lib.hid h3
              have H1 := Lib.hid h1
              clear es h1 h2 h3
              have hcase : s[j] = true ∨ s[j] = false ∧ R[j] = true ∨ s[j] = false ∧ R[j] = false := by rcases s[j] with _ | _ <;> rcases R[j] with _ | _ <;> simp
              rcases hcase with q1 | ⟨q1, q2⟩ | ⟨q1, q2⟩
              · rw [q1] at es3 H1
                have HJ2 : Hid (∀ x, x < j + 1 → atB s x = false → PathG g s k x) := Lib.hid (fun x hx hs => by
                  rcases Nat.lt_succ_iff_lt_or_eq.1 hx with h | rfl
                  · exact HJ.out x h hs
                  · rw [H1.out] at hs; cases hs)
                clear q1 H3 H1
                go_wp2
                go_round
                case rel => exact ⟨j + 1, by go_num, by omega, HJ2⟩
                case measure => simp [intOf]; omega
              · rw [q1] at es3
                rw [q2] at eu H3
                have HJ2 : Hid (∀ x, x < j + 1 → atB s x = false → PathG g s k x) := Lib.hid (fun x hx hs => by
                  rcases Nat.lt_succ_iff_lt_or_eq.1 hx with h | rfl
                  · exact HJ.out x h hs
                  · exact H3.out.1 rfl)
                clear q1 q2 H3 H1
                go_wp2
                go_round
                case rel => exact ⟨j + 1, by go_num, by omega, HJ2⟩
                case measure => simp [intOf]; omega
              · rw [q1] at es3 H1
                rw [q2] at eu H3
                have HE := Lib.hid (HF.out (fun hm => by
                  have := H3.out.2 (hm.2 k j hlt hjt HA.out H1.out)
                  cases this))
                clear q1 q2 H3 H1
                go_wp2
                go_ret2
                exact ⟨by rw [HE.out]; rfl, hb13⟩
            · have HP2 : Hid (∀ u v, u < k + 1 → v < g.length → atB s u = false → atB s v = false → PathG g s u v) := Lib.hid (fun u v hu hv h1 h2 => by
                rcases Nat.lt_succ_iff_lt_or_eq.1 hu with h | rfl
                · exact HP.out u v h hv h1 h2
                · exact HJ.out v (by omega) h2)
              go_wp2
              go_roundw
              case rel => exact ⟨k + 1, z + 1, by go_num, by omega, rfl, by omega, by omega, Lib.hid (fun _ => ⟨k, by omega, HA.out⟩), Lib.hid (fun h => by omega), HP2, hb13⟩
              case measure => simp [intOf]; omega
        · rw [hsk] at hscr hat
          have HA := Lib.hid hat
          have HP2 : Hid (∀ u v, u < k + 1 → v < g.length → atB s u = false → atB s v = false → PathG g s u v) := Lib.hid (fun u v hu hv h1 h2 => by
            rcases Nat.lt_succ_iff_lt_or_eq.1 hu with h | rfl
            · exact HP.out u v h hv h1 h2
            · rw [HA.out] at h1; cases h1)
          have HZ1' : Hid (0 < z → ∃ v, v < k + 1 ∧ atB s v = false) := Lib.hid (fun h => by obtain ⟨v, h1, h2⟩ := HZ1.out h; exact ⟨v, by omega, h2⟩)
          have HZ2' : Hid (z = 0 → ∀ v, v < k + 1 → atB s v = true) := Lib.hid (fun h v hv => by
            rcases Nat.lt_succ_iff_lt_or_eq.1 hv with h' | rfl
            · exact HZ2.out h v h'
            · exact HA.out)
          clear hsk hat HZ1 HZ2 HP
          go_wp2
          go_roundw
          case rel => exact ⟨k + 1, z, by go_num, by omega, rfl, hz0, by omega, HZ1', HZ2', HP2, hb⟩
          case measure => simp [intOf]; omega
      · obtain rfl : k = g.length := by omega
        have hcase : decide (0 < z) = true ∨ decide (0 < z) = false := by rcases decide (0 < z) with _ | _ <;> simp
        rcases hcase with hd | hd
        · have HE := Lib.hid (HT.out ⟨by obtain ⟨v, h1, h2⟩ := HZ1.out (by simpa using hd); exact ⟨v, h1, h2⟩, fun u v hu hv h1 h2 => HP.out u v hu hv h1 h2⟩)
          clear HZ1 HZ2 HP
          go_wp2
          go_ret2
          exact ⟨by rw [HE.out]; rfl, hb⟩
        · have HE := Lib.hid (HF.out (fun hm => by
            obtain ⟨v, h1, h2⟩ := hm.1
            have h3 : z = 0 := by have h4 : ¬ 0 < z := by simpa using hd
                                  omega
            have := HZ2.out h3 v h1
            rw [h2] at this; cases this))
          clear HZ1 HZ2 HP
          go_wp2
          go_ret2
          exact ⟨by rw [HE.out]; rfl, hb⟩
  · have hcase : chkG g s.length = 19 ∨ chkG g s.length = 20 := by
      rcases chkG_cases g s.length with h | h | h
      · exact absurd h.1 h0
      · exact .inl h
      · exact .inr h
    have HE : Hid (mutB g s = false) := Lib.hid (mutB_no fun h => h0 h.1)
    clear hh hs hr h0
    rcases hcase with h | h
    all_goals
      rw [h] at CC ⊢
      clear h
      go_enter Try.func38, Try.ntmps38
      go_wp2_with fail
      refine CC.out.mono ?_
      rintro e w1 ⟨rfl, rfl⟩
      go_wp2
      go_ret2
      exact ⟨by rw [HE.out]; rfl, Below.refl _ _⟩
end Go.Proofs.Ythfhplhdfnebhaa
namespace Go.Proofs.Ythfhplhdfnebhaa
open Go Go.RowKit Fl

/-- As RowsOwn, the rows' blocks all different. -/
def RowsD (w : World) (base : Nat) (v : Value) (g : GraphD) : Prop :=
  ∃ vs : List Value, vs.length = g.length ∧ w.ownsRow base 25 1 v g.length vs ∧ (∀ (k : Nat) (u : Value) (r : List Int), vs[k]? = some u → g[k]? = some r → w.ownsRow base 3 1 u r.length (r.map Iv)) ∧
    ∀ (i j : Nat) (u1 u2 : Value) (b : Nat), vs[i]? = some u1 → vs[j]? = some u2 → i ≠ j → u1.ownBlock = some b → u2.ownBlock ≠ some b
theorem RowsD.rows {w : World} {base : Nat} {v : Value} {g : GraphD} (h : RowsD w base v g) : RowsOwn w base v g := by
  obtain ⟨vs, h1, h2, h3, _⟩ := h
  exact ⟨vs, h1, h2, h3⟩
theorem RowsD.keep {w w' : World} {base : Nat} {v : Value} {g : GraphD} (h : RowsD w base v g) (hb : Below w.heap.size w w') : RowsD w' base v g := by
  obtain ⟨vs, h1, h2, h3, h4⟩ := h
  exact ⟨vs, h1, ownsRow_below h2 hb, fun k u r hk hr => ownsRow_below (h3 k u r hk hr) hb, h4⟩
theorem rowsD_new {w : World} {base q n : Nat} (h : w.ownsRow base 25 1 (.slice (some ⟨q, 0, none⟩) n n) n (List.replicate n (.slice none 0 0))) : RowsD w base (.slice (some ⟨q, 0, none⟩) n n) (List.replicate n []) := by
  refine ⟨List.replicate n (.slice none 0 0), by simp, by simpa using h, fun k u r hk hr => ?_, fun i j u1 u2 b h1 h2 _ hb => ?_⟩
  · rw [List.getElem?_replicate] at hk hr
    by_cases hkn : k < n
    · rw [if_pos hkn] at hk hr
      injection hk with hk
      injection hr with hr
      subst hk hr
      exact World.ownsRow_nil _ _ _ _
    · rw [if_neg hkn] at hk
      cases hk
  · rw [List.getElem?_replicate] at h1
    split at h1
    · injection h1 with h1
      subst h1
      simp [Value.ownBlock] at hb
    · cases h1
/-- The k-th row's slice. -/
theorem RowsD.elem {w : World} {base q n cap k : Nat} {g : GraphD} (h : RowsD w base (.slice (some ⟨q, 0, none⟩) n cap) g) (hk : k < g.length) : ∃ A1 c1, w.cell? ⟨q, k, none⟩ = some (.slice A1 g[k].length c1) ∧ w.frozen? ⟨q, k, none⟩ = false ∧ w.ownsRow base 3 1 (.slice A1 g[k].length c1) g[k].length (g[k].map Iv) := by
  obtain ⟨vs, h1, h2, h3, _⟩ := h
  have e1 := List.getElem?_eq_getElem (l := vs) (i := k) (by omega)
  have h4 := h3 k _ _ e1 (List.getElem?_eq_getElem hk)
  obtain ⟨A1, c1, hv, h5⟩ := own_is h4
  have hn : n = g.length := by
    obtain ⟨A, c, hv2, _⟩ := own_is h2
    injection hv2 with _ hn _
  subst hn
  obtain ⟨c2, c3⟩ := own_get h2 e1
  exact ⟨A1, c1, by rw [c2, hv], c3, by rw [← hv]; exact h4⟩
theorem RowsD.app {W wn : World} {base q n cap k gg c1 c2 : Nat} {A1 : Option Addr} {g : GraphD} {z : Int} {o : Obj} (h : RowsD W base (.slice (some ⟨q, 0, none⟩) n cap) g) (hk : k < g.length) (hc : W.cell? ⟨q, k, none⟩ = some (.slice A1 g[k].length c1))
    (hg : (W.alloc o).grownBy wn (Value.slice A1 g[k].length c1).ownBlock) (hat : (Value.slice A1 g[k].length c1).ownBlock = some gg ∨ gg = (W.alloc o).heap.size)
    (hown : wn.ownsRow base 3 1 (.slice (some ⟨gg, 0, none⟩) (g[k].length + 1) c2) (g[k].length + 1) (g[k].map Iv ++ [Iv z])) :
    RowsD (wn.setCell ⟨q, k, none⟩ (.slice (some ⟨gg, 0, none⟩) (g[k].length + 1) c2)) base (.slice (some ⟨q, 0, none⟩) n cap) (g.set k (g[k] ++ [z])) := by
  obtain ⟨vs, h1, h2, h3, h4⟩ := h
  have hn : n = g.length := by
    obtain ⟨A, c, hv2, _⟩ := own_is h2
    injection hv2 with _ hn _
  subst hn
  have hkv : k < vs.length := by omega
  have e1 := List.getElem?_eq_getElem (l := vs) (i := k) hkv
  have hu : vs[k] = .slice A1 g[k].length c1 := by
    have := (own_get h2 e1).1
    rw [hc] at this
    injection this with this
    exact this.symm
  rw [hu] at e1
  have hq := own_row_block h2
  obtain ⟨csq, hq⟩ := hq
  have hown1 := h3 k _ _ e1 (List.getElem?_eq_getElem hk)
  have hblk : ∀ b, (Value.slice A1 g[k].length c1).ownBlock = some b → ∃ cur, W.heap[b]? = some (.cells cur 3 (0, 0)) := fun b hb => by
    obtain ⟨_, hr⟩ := hown1
    rcases hr with ⟨hv, _⟩ | ⟨g', cap', cur, hv, _, hh, _⟩
    · rw [hv] at hb; simp [Value.ownBlock] at hb
    · rw [hv] at hb
      simp [Value.ownBlock] at hb
      subst hb
      exact ⟨cur, hh⟩
  have hqne : ∀ b, (Value.slice A1 g[k].length c1).ownBlock = some b → b ≠ q := fun b hb e => by
    subst e
    obtain ⟨cur, h5⟩ := hblk b hb
    rw [hq] at h5
    injection h5 with h5
    injection h5 with _ h6
    exact absurd h6 (by decide)
  have hqlt := block_lt hq
  have hqn : wn.heap[q]? = some (.cells csq 25 (0, 0)) := (hg.block q (by simp; omega) (fun e => hqne q e.symm rfl)).trans ((heap_alloc_old W o hqlt).trans hq)
  have hkeep : ∀ (u : Value) (m : Nat) (xs : List Value) (e : TypeId), W.ownsRow base e 1 u m xs → (∀ b, u.ownBlock = some b → (Value.slice A1 g[k].length c1).ownBlock ≠ some b) → wn.ownsRow base e 1 u m xs := fun u m xs e ho hne => by
    obtain ⟨ho1, hr⟩ := ho
    refine ⟨ho1, ?_⟩
    rcases hr with hr | ⟨b, cap', cur, hv, hgb, hh, hrest⟩
    · exact .inl hr
    · refine .inr ⟨b, cap', cur, hv, hgb, (hg.block b (by have := block_lt hh; simp; omega) (fun e => hne b (by rw [hv]; rfl) e.symm)).trans ((heap_alloc_old W o (block_lt hh)).trans hh), hrest⟩
  have hset : ∀ (u : Value) (m : Nat) (xs : List Value), wn.ownsRow base 3 1 u m xs → (wn.setCell ⟨q, k, none⟩ (.slice (some ⟨gg, 0, none⟩) (g[k].length + 1) c2)).ownsRow base 3 1 u m xs := fun u m xs ho => by
    obtain ⟨ho1, hr⟩ := ho
    refine ⟨ho1, ?_⟩
    rcases hr with hr | ⟨b, cap', cur, hv, hgb, hh, hrest⟩
    · exact .inl hr
    · refine .inr ⟨b, cap', cur, hv, hgb, (Below.heap_setCell _ _ _ _ (fun e => ?_)).trans hh, hrest⟩
      simp only at e
      subst e
      rw [hh] at hqn
      injection hqn with hqn
      injection hqn with _ h6
      exact absurd h6 (by decide)
  have hrows : wn.ownsRow base 25 1 (.slice (some ⟨q, 0, none⟩) g.length cap) g.length vs := hkeep _ _ _ _ h2 (fun b hb hb2 => by
    simp [Value.ownBlock] at hb
    subst hb
    exact hqne q hb2 rfl)
  refine ⟨vs.set k (.slice (some ⟨gg, 0, none⟩) (g[k].length + 1) c2), by simpa using h1, by rw [List.length_set]; exact own_put hrows, fun i u r hi hr => ?_, fun i j u1 u2 b hi hj hij hb => ?_⟩
  · rw [List.getElem?_set] at hi hr
    by_cases e : k = i
    · subst e
      rw [if_pos rfl, if_pos hkv] at hi
      rw [if_pos rfl, if_pos hk] at hr
      injection hi with hi
      injection hr with hr
      subst hi hr
      exact hset _ _ _ (by simpa using hown)
    · rw [if_neg e] at hi hr
      exact hset _ _ _ (hkeep _ _ _ _ (h3 i u r hi hr) (fun b hb => fun hb2 => h4 i k u _ b hi e1 (fun e2 => e e2.symm) hb hb2))
  · rw [List.getElem?_set] at hi hj
    have hlt : ∀ (i : Nat) (u : Value), vs[i]? = some u → ∀ b, u.ownBlock = some b → b < W.heap.size := fun i u hi b hb => by
      obtain ⟨hi2, rfl⟩ := List.getElem?_eq_some_iff.1 hi
      have ho := h3 i _ _ hi (List.getElem?_eq_getElem (by omega))
      obtain ⟨_, hr⟩ := ho
      rcases hr with ⟨hv, _⟩ | ⟨b', cap', cur, hv, _, hh, _⟩
      · rw [hv] at hb; simp [Value.ownBlock] at hb
      · rw [hv] at hb
        simp [Value.ownBlock] at hb
        subst hb
        exact block_lt hh
    have hsz : (W.alloc o).heap.size = W.heap.size + 1 := by simp
    by_cases e : k = i
    · subst e
      rw [if_pos rfl, if_pos hkv] at hi
      rw [if_neg (fun e2 => hij e2)] at hj
      injection hi with hi
      subst hi
      simp [Value.ownBlock] at hb
      subst hb
      intro h6
      rcases hat with h7 | h7
      · exact h4 k j _ _ gg e1 hj hij h7 h6
      · have := hlt j u2 hj gg h6
        omega
    · rw [if_neg e] at hi
      by_cases e2 : k = j
      · subst e2
        rw [if_pos rfl, if_pos hkv] at hj
        injection hj with hj
        subst hj
        intro h6
        simp [Value.ownBlock] at h6
        subst h6
        rcases hat with h7 | h7
        · exact h4 i k _ _ gg hi e1 (fun e3 => e e3.symm) hb h7
        · have := hlt i u1 hi gg hb
          omega
      · rw [if_neg e2] at hj
        exact h4 i j u1 u2 b hi hj hij hb
/-- The block of the rows' slices is not touched where a row grows. -/
theorem RowsD.far {W wn : World} {base q n cap k c1 : Nat} {A1 : Option Addr} {g : GraphD} {o : Obj} (h : RowsD W base (.slice (some ⟨q, 0, none⟩) n cap) g) (hk : k < g.length) (hc : W.cell? ⟨q, k, none⟩ = some (.slice A1 g[k].length c1))
    (hg : (W.alloc o).grownBy wn (Value.slice A1 g[k].length c1).ownBlock) (i : Nat) : wn.cell? ⟨q, i, none⟩ = W.cell? ⟨q, i, none⟩ ∧ wn.frozen? ⟨q, i, none⟩ = W.frozen? ⟨q, i, none⟩ := by
  obtain ⟨vs, h1, h2, h3, h4⟩ := h
  have hn : n = g.length := by
    obtain ⟨A, c, hv2, _⟩ := own_is h2
    injection hv2 with _ hn _
  subst hn
  have e1 := List.getElem?_eq_getElem (l := vs) (i := k) (by omega)
  have hu : vs[k] = .slice A1 g[k].length c1 := by
    have := (own_get h2 e1).1
    rw [hc] at this
    injection this with this
    exact this.symm
  rw [hu] at e1
  obtain ⟨csq, hq⟩ := own_row_block h2
  have hown1 := h3 k _ _ e1 (List.getElem?_eq_getElem hk)
  have hqne : (Value.slice A1 g[k].length c1).ownBlock ≠ some q := fun hb => by
    obtain ⟨_, hr⟩ := hown1
    rcases hr with ⟨hv, _⟩ | ⟨g', cap', cur, hv, _, hh, _⟩
    · rw [hv] at hb; simp [Value.ownBlock] at hb
    · rw [hv] at hb
      simp [Value.ownBlock] at hb
      subst hb
      rw [hq] at hh
      injection hh with hh
      injection hh with _ h6
      exact absurd h6 (by decide)
  have hqlt := block_lt hq
  have hb : wn.heap[q]? = W.heap[q]? := (hg.block q (by simp; omega) (fun e => hqne e.symm)).trans (heap_alloc_old W o hqlt)
  exact ⟨World.cell?_of_block (w := W) (a := ⟨q, i, none⟩) hb, World.frozen?_of_block (w := W) (a := ⟨q, i, none⟩) hb⟩
theorem grownBy_drew {w wn : World} {row : Option Nat} (h : w.drew.grownBy wn row) : w.grownBy wn row := ⟨h.os, h.tape, h.output, h.size, h.block⟩
/-- Rows by a function of their number. -/
def rowsF (n : Nat) (f : Nat → List Int) : GraphD := (List.range n).map f
theorem rowsF_length (n : Nat) (f : Nat → List Int) : (rowsF n f).length = n := by simp [rowsF]
theorem rowsF_at {n k : Nat} {f : Nat → List Int} (h : k < (rowsF n f).length) : (rowsF n f)[k] = f k := by simp [rowsF]
theorem rowsF_set {n k : Nat} {f f' : Nat → List Int} {z : List Int} (hz : f' k = z) (hf : ∀ i, i ≠ k → f' i = f i) : (rowsF n f).set k z = rowsF n f' := by
  apply List.ext_getElem?
  intro i
  rw [List.getElem?_set]
  by_cases e : k = i
  · subst e
    by_cases hk : k < n
    · simp [rowsF, hk, hz]
    · simp [rowsF, hk]
  · rw [if_neg e]
    by_cases hi : i < n
    · simp [rowsF, hi, hf i (fun e2 => e e2.symm)]
    · simp [rowsF, hi]
theorem rowsF_congr {n : Nat} {f f' : Nat → List Int} (h : ∀ i, i < n → f i = f' i) : rowsF n f = rowsF n f' := by
  unfold rowsF
  exact List.map_congr_left fun i hi => h i (List.mem_range.1 hi)
theorem rowsF_nil (n : Nat) : rowsF n (fun _ => []) = List.replicate n [] := by simp [rowsF, List.map_const']
end Go.Proofs.Ythfhplhdfnebhaa
namespace Go.Proofs.Ythfhplhdfnebhaa
open Go Go.RowKit Fl

/-- Row i, when vertices before v are through, and m elements of v's row. -/
def woF (g : GraphD) (s : List Bool) (v m i : Nat) : List Int := if i < v then (if atB s i then [] else woRow s (rowG g i)) else if i = v then (if atB s v then [] else woRow s ((rowG g v).take m)) else []
theorem woF_start (g : GraphD) (s : List Bool) : rowsF g.length (woF g s 0 0) = List.replicate g.length [] := by
  rw [← rowsF_nil]
  refine rowsF_congr fun i _ => ?_
  unfold woF
  rw [if_neg (show ¬ i < 0 by omega)]
  split
  · split
    · rfl
    · simp [woRow]
  · rfl
theorem woF_next {g : GraphD} {s : List Bool} {v m : Nat} (hm : (rowG g v).length ≤ m) : rowsF g.length (woF g s v m) = rowsF g.length (woF g s (v + 1) 0) := by
  refine rowsF_congr fun i _ => ?_
  unfold woF
  by_cases h1 : i < v
  · rw [if_pos h1, if_pos (show i < v + 1 by omega)]
  · by_cases h2 : i = v
    · subst h2
      rw [if_neg h1, if_pos rfl, if_pos (show i < i + 1 by omega), List.take_of_length_le hm]
    · rw [if_neg h1, if_neg h2, if_neg (show ¬ i < v + 1 by omega)]
      split
      · split
        · rfl
        · simp [woRow]
      · rfl
theorem woF_end (g : GraphD) (s : List Bool) : rowsF g.length (woF g s g.length 0) = woG g s := by
  unfold woG rowsF
  refine List.map_congr_left fun i hi => ?_
  unfold woF
  rw [if_pos (List.mem_range.1 hi)]
theorem woF_skip {g : GraphD} {s : List Bool} {v m : Nat} (h : atB s v = true ∨ ∀ (hm : m < (rowG g v).length), atB s (rowG g v)[m].toNat = true) : rowsF g.length (woF g s v (m + 1)) = rowsF g.length (woF g s v m) := by
  refine rowsF_congr fun i _ => ?_
  unfold woF
  by_cases h1 : i < v
  · rw [if_pos h1, if_pos h1]
  · by_cases h2 : i = v
    · rw [if_neg h1, if_pos h2, if_neg h1, if_pos h2]
      rcases h with h | h
      · rw [if_pos h, if_pos h]
      · congr 1
        by_cases hm : m < (rowG g v).length
        · unfold woRow
          rw [List.take_succ_eq_append_getElem hm, List.filter_append]
          simp [h hm]
        · rw [List.take_of_length_le (by omega), List.take_of_length_le (by omega)]
    · rw [if_neg h1, if_neg h2, if_neg h1, if_neg h2]
theorem woF_put {g : GraphD} {s : List Bool} {v m : Nat} {x : Int} (hv : atB s v = false) (hm : m < (rowG g v).length) (hx : (rowG g v)[m] = x) (hs : atB s x.toNat = false) (hvg : v < (rowsF g.length (woF g s v m)).length) : (rowsF g.length (woF g s v m)).set v ((rowsF g.length (woF g s v m))[v] ++ [x]) = rowsF g.length (woF g s v (m + 1)) := by
  rw [rowsF_at]
  refine rowsF_set ?_ fun i hi => ?_
  · unfold woF
    rw [if_neg (show ¬ v < v by omega), if_pos rfl, if_neg (show ¬ v < v by omega), if_pos rfl, hv]
    unfold woRow
    rw [List.take_succ_eq_append_getElem hm, List.filter_append, hx]
    simp [hs]
  · unfold woF
    by_cases h1 : i < v
    · rw [if_pos h1, if_pos h1]
    · rw [if_neg h1, if_neg hi, if_neg h1, if_neg hi]
/-- What Without returns. -/
def WoPost (w : World) (l : GraphD) (k : Int) (e : Ending) (w' : World) : Prop := ∃ u, e = .returned (.tuple #[u, .int .i64 k]) ∧ RowsOwn w' w.heap.size u l ∧ Below w.heap.size w w'
def woL (g : GraphD) (s : List Bool) : GraphD := if chkG g s.length = 0 then woG g s else []
theorem rowsOwn_nil (w : World) (base : Nat) : RowsOwn w base (.slice none 0 0) [] := ⟨[], rfl, World.ownsRow_nil _ _ _ _, fun k u r h => by simp at h⟩
theorem woF_short {g : GraphD} {s : List Bool} (hg : validG g = true) (v m i : Nat) : (woF g s v m i).length ≤ 24 := by
  have key : ∀ j, (rowG g j).length ≤ 24 := fun j => by
    rcases Nat.lt_or_ge j g.length with h | h
    · rw [rowG_at h]; exact validG_short hg _ (List.getElem_mem h)
    · rw [rowG_out h]; simp
  unfold woF
  split
  · split
    · simp
    · exact Nat.le_trans (List.length_filter_le _ _) (key i)
  · split
    · split
      · simp
      · exact Nat.le_trans (List.length_filter_le _ _) (Nat.le_trans (List.length_take_le' _ _) (key v))
    · simp
theorem size_alloc_drew {w : World} {B : Nat} (h : B ≤ w.heap.size) (o : Obj) : B ≤ ((w.alloc o).drew).heap.size := by
  have e : (w.alloc o).heap.size = w.heap.size + 1 := by simp
  show B ≤ (w.alloc o).heap.size
  omega
end Go.Proofs.Ythfhplhdfnebhaa
namespace Go.Proofs.Ythfhplhdfnebhaa
open Go Go.RowKit Fl

/-- Row x, when vertices before v are through, and m elements of v's row. -/
def revF (g : GraphD) (v m x : Nat) : List Int := intoK g v x ++ (if (x : Int) ∈ (rowG g v).take m then [(v : Int)] else [])
theorem intoK_succ (g : GraphD) (v x : Nat) : intoK g (v + 1) x = intoK g v x ++ (if (x : Int) ∈ rowG g v then [(v : Int)] else []) := by
  unfold intoK
  rw [List.range_succ, List.filter_append, List.map_append]
  congr 1
  by_cases h : (x : Int) ∈ rowG g v
  · simp [h]
  · simp [h]
theorem intoK_short (g : GraphD) (v x : Nat) : (intoK g v x).length ≤ v := by
  unfold intoK
  rw [List.length_map]
  exact Nat.le_trans (List.length_filter_le _ _) (by simp)
theorem revF_start (g : GraphD) : rowsF g.length (revF g 0 0) = List.replicate g.length [] := by
  rw [← rowsF_nil]
  exact rowsF_congr fun i _ => by simp [revF, intoK]
theorem revF_next {g : GraphD} {v m : Nat} (hm : (rowG g v).length ≤ m) : rowsF g.length (revF g v m) = rowsF g.length (revF g (v + 1) 0) := by
  refine rowsF_congr fun i _ => ?_
  unfold revF
  rw [intoK_succ, List.take_of_length_le hm]
  simp
theorem revF_end (g : GraphD) : rowsF g.length (revF g g.length 0) = revG g := by
  unfold revG rowsF
  exact List.map_congr_left fun i _ => by simp [revF]
theorem revF_put {g : GraphD} {v m y : Nat} (hg : validG g = true) (hv : v < g.length) (hm : m < (rowG g v).length) (hx : (rowG g v)[m] = (y : Int)) (hyg : y < (rowsF g.length (revF g v m)).length) : (rowsF g.length (revF g v m)).set y ((rowsF g.length (revF g v m))[y] ++ [(v : Int)]) = rowsF g.length (revF g v (m + 1)) := by
  rw [rowsF_at]
  have hs : (rowG g v).Pairwise (· < ·) := by rw [rowG_at hv]; exact validG_sorted' hg hv
  refine rowsF_set ?_ fun i hi => ?_
  · unfold revF
    have hn : (y : Int) ∉ (rowG g v).take m := fun h => by
      obtain ⟨j, hj, e⟩ := List.mem_iff_getElem.1 h
      rw [List.getElem_take] at e
      have hjm : j < m := by rw [List.length_take] at hj; omega
      have := List.pairwise_iff_getElem.1 hs j m (by omega) hm hjm
      omega
    rw [List.take_succ_eq_append_getElem hm, hx, if_neg hn, if_pos (by simp)]
    simp
  · unfold revF
    rw [List.take_succ_eq_append_getElem hm, hx]
    have hne : (i : Int) ≠ y := by omega
    congr 1
    by_cases h : (i : Int) ∈ (rowG g v).take m
    · rw [if_pos h, if_pos (by simp [h])]
    · rw [if_neg h, if_neg (by simp [h, hne])]
theorem revF_short (g : GraphD) (v m x : Nat) : (revF g v m x).length ≤ v + 1 := by
  unfold revF
  have := intoK_short g v x
  rw [List.length_append]
  split <;> simp <;> omega
def revL (g : GraphD) : GraphD := if validG g then revG g else []
def revE (g : GraphD) : Int := if validG g then 0 else 20
end Go.Proofs.Ythfhplhdfnebhaa
namespace Go.Proofs.Ythfhplhdfnebhaa
open Go Go.RowKit Fl

def FromRes (w : World) (l : List Bool) (k : Int) (e : Ending) (w' : World) : Prop := ∃ A c, e = .returned (.tuple #[.slice A l.length c, .int .i64 k]) ∧ Holds w' A (l.map Bo) ∧ Below w.heap.size w w'
def GraphRes (w : World) (l : GraphD) (k : Int) (e : Ending) (w' : World) : Prop := ∃ A c, e = .returned (.tuple #[.slice A l.length c, .int .i64 k]) ∧ RowsAt w' A l ∧ Below w.heap.size w w'
def Sized (g : GraphD) : Prop := g.length ≤ 1000000000000000000 ∧ ∀ r ∈ g, r.length ≤ 1000000000000000000
theorem Sized.valid {g : GraphD} (h : validG g = true) : Sized g := ⟨by have := validG_len h; omega, fun r hr => by have := validG_short h r hr; omega⟩
def DevMutual : Prop := ∀ (A B : Option Addr) (c d : Nat) (g : GraphD) (s : List Bool) (w : World), RowsAt w A g → Holds w B (s.map Bo) → Sized g →
  Calls Try.prog 23 #[.slice A g.length c, .slice B s.length d] w fun e w' => e = .returned (.tuple #[.bool (mutB g s), .int .i64 (chkG g s.length)]) ∧ Below w.heap.size w w'
def DevValid : Prop := ∀ (A : Option Addr) (c : Nat) (g : GraphD) (w : World), RowsAt w A g → Sized g →
  Calls Try.prog 47 #[.slice A g.length c] w fun e w' => e = .returned (.bool (validG g)) ∧ Below w.heap.size w w'
end Go.Proofs.Ythfhplhdfnebhaa
namespace Go.Proofs.Ythfhplhdfnebhaa
open Go.RowKit

theorem cut0_c (v n : Int) (w : World) (h1 : n ≤ 0) (hn : -1000000 ≤ n) (_ : -9223372036854775808 ≤ v) (_ : v ≤ 9223372036854775807) : Calls Try.prog 18 #[.int .i64 v, .int .i64 n] w fun e w' => CutPost 1 e w w' := by
  go_enter Try.func18, Try.ntmps18
  go_wp2
  go_ret
  exact ⟨0, by omega, rfl, rfl⟩
set_option maxHeartbeats 1000000 in
theorem next0_c (B g T : Nat) (n : Int) (w : World) (ht : TapeOk w B g T) (hT : T ≤ 1000000000) (h1 : n ≤ 0) (hn : -1000000 ≤ n) : Calls Try.prog 8 #[.pointer (some ⟨g, 0, none⟩), .int .i64 n] w (NextPost B g T 1 w) := by
  obtain ⟨A, len, c, at_, zs, hh, hlen, hat, hBg, hmax, hcells⟩ := ht
  unfold maxLen at hmax
  have hHH := Lib.hid hh
  have hlt := block_lt hh
  have c0 : w.cell? ⟨g, 0, none⟩ = some (.slice A len c) := by rw [cell_of_row w g 0 _ _ (0, 0) hh]; rfl
  have c1 : w.cell? ⟨g, 1, none⟩ = some (.int .i64 at_) := by rw [cell_of_row w g 1 _ _ (0, 0) hh]; rfl
  have hfz : w.frozen? ⟨g, 1, none⟩ = false := by simp [World.frozen?, hh]
  clear hh
  have HC := Lib.hid hcells
  by_cases hin : at_ < len
  · obtain ⟨b, o, rfl, _, hc⟩ := hcells (by omega)
    obtain ⟨e1, e2, e3⟩ := hc at_ (by omega)
    have HL := Lib.hid hlen
    clear hc hcells
    generalize zs[at_] = z at *
    clear hlen
    go_enter Try.func8, Try.ntmps8
    go_wp2
    go_quiet (fail)
    go_wp2
    go_quiet (fail)
    go_wp2_with fail
    refine (cut0_c _ _ _ h1 hn e2 e3).mono ?_
    rintro e w1 ⟨r, hr, rfl, rfl⟩
    go_wp2_with fail
    go_ret
    have hts := fun q => tape_step (nq := q) hHH.out HL.out hat hBg hmax HC.out
    exact ⟨r, hr, rfl, (hts _).1, (hts _).2⟩
  · clear hcells
    go_enter Try.func8, Try.ntmps8
    go_wp2
    go_quiet (fail)
    go_wp2_with fail
    refine (cut0_c _ _ _ h1 hn (by omega) (by omega)).mono ?_
    rintro e w1 ⟨r, hr, rfl, rfl⟩
    go_wp2_with fail
    go_ret
    obtain ⟨h2, h3⟩ := tape_step (nq := nq) hHH.out hlen hat hBg hmax HC.out
    exact ⟨r, hr, rfl, h2, h3⟩
/-- The list of numbers that an argument holds. -/
def IntsAt (w : World) (B : Nat) (A : Option Addr) (zs : List Int) : Prop :=
  0 < zs.length → ∃ b o, A = some ⟨b, o, none⟩ ∧ b < B ∧ ∀ j (h : j < zs.length), w.cell? ⟨b, o + j, none⟩ = some (.int .i64 zs[j]) ∧ -9223372036854775808 ≤ zs[j] ∧ zs[j] ≤ 9223372036854775807
theorem tape_new {w w1 : World} {B : Nat} {A : Option Addr} {c : Nat} {zs : List Int} (h : IntsAt w B A zs) (hB : B ≤ w.heap.size) (hb : Below w.heap.size w w1) (hl : zs.length ≤ maxLen) :
    TapeOk (w1.alloc (.cells #[.slice A zs.length c, .int .i64 0] 35)) B w1.heap.size 0 := by
  refine ⟨A, zs.length, c, 0, zs, heap_alloc_new w1 _, rfl, Nat.le_refl _, by have := hb.size; omega, hl, fun hn => ?_⟩
  obtain ⟨b, o, hA, hlt, hc⟩ := h hn
  refine ⟨b, o, hA, hlt, fun j hj => ⟨?_, (hc j hj).2⟩⟩
  have hbb : Below w.heap.size w (w1.alloc (.cells #[.slice A zs.length c, .int .i64 0] 35)) := hb.alloc hb.size _
  rw [hbb.cell (p := ⟨b, o + j, none⟩) (by show b < _; omega)]
  exact (hc j hj).1
theorem IntsAt.keep {w w' : World} {B : Nat} {A : Option Addr} {zs : List Int} (h : IntsAt w B A zs) (hB : B ≤ w.heap.size) (hb : Below w.heap.size w w') : IntsAt w' B A zs := fun hn => by
  obtain ⟨b, o, hA, hlt, hc⟩ := h hn
  exact ⟨b, o, hA, hlt, fun j hj => ⟨(hb.cell (p := ⟨b, o + j, none⟩) (by show b < _; omega)).trans (hc j hj).1, (hc j hj).2⟩⟩
theorem IntsAt.more {w : World} {B B' : Nat} {A : Option Addr} {zs : List Int} (h : IntsAt w B A zs) (hB : B ≤ B') : IntsAt w B' A zs := fun hn => by
  obtain ⟨b, o, hA, hlt, hc⟩ := h hn
  exact ⟨b, o, hA, by omega, hc⟩
end Go.Proofs.Ythfhplhdfnebhaa
namespace Go.Proofs.Ythfhplhdfnebhaa
open Go Go.RowKit Fl

theorem chkG_ok {g : GraphD} {m : Nat} (hg : validG g = true) (hm : m = g.length) : chkG g m = 0 := by unfold chkG; rw [hg, hm]; simp
theorem mutual_ok (hM : DevMutual) {A B : Option Addr} {c d n : Nat} {g : GraphD} {s : List Bool} {W : World} (hr : RowsAt W A g) (hs : Holds W B (s.map Bo)) (hg : validG g = true) (hn : g.length = n) (hsl : s.length = n) :
    Calls Try.prog 23 #[.slice A n c, .slice B n d] W fun e w' => e = .returned (.tuple #[.bool (mutB g s), .int .i64 0]) ∧ Below W.heap.size W w' := by
  have h := hM A B c d g s W hr hs (Sized.valid hg)
  rw [chkG_ok hg (by omega), hsl, hn] at h
  exact h
theorem reach_at {g : GraphD} {s : List Bool} {w : World} {X : Option Addr} {a k n : Nat} (hn : g.length = n) (h : Holds w X ((reachL g s a).map Bo)) (hk : k < n) : ∃ b o z, X = some ⟨b, o, none⟩ ∧ w.cell? ⟨b, o + k, none⟩ = some (.bool z) ∧ (z = true ↔ PathG g s a k) := by
  have hk' : k < (reachL g s a).length := by rw [reachL_length]; omega
  obtain ⟨b, o, h1, h2⟩ := h.bo hk'
  refine ⟨b, o, _, h1, h2, ?_⟩
  rw [← atB_at hk']
  exact reachL_at (by omega)
theorem marks_at {s : List Bool} {w : World} {B : Option Addr} {k : Nat} (h : Holds w B (s.map Bo)) (hk : k < s.length) : ∃ b o, B = some ⟨b, o, none⟩ ∧ w.cell? ⟨b, o + k, none⟩ = some (.bool (atB s k)) := by
  obtain ⟨b, o, h1, h2⟩ := h.bo hk
  exact ⟨b, o, h1, by rw [atB_at hk]; exact h2⟩
theorem Still.grown {g : Nat} {a b : World} (h : Still g a.heap.size a b) : a.grownBy b (some g) :=
  ⟨h.os, h.tape, h.output, h.size, fun k hk hne => h.block k hk (fun e => hne (by rw [e]))⟩
end Go.Proofs.Ythfhplhdfnebhaa
