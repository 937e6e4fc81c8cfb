/- A network that is loosened, in memory: its box, its lists, the tape. -/
import Derived.Test.YtgjnhefmheefbaaDoorNmAt
namespace Go.Proofs.YtgjnhefmheefbaaDoor
open Go Go.RowKit Fl

/-- The network lies in box X, its lists are the call's own, the robots' row behind all others; what lay below G0 is as it was, but for the tape. -/
structure LS (w : World) (B gt T G0 X base top : Nat) (N : NetD) (Ab An As Ar : Option Addr) (cb cn cs cr : Nat) (wr : World) : Prop where
  nm : NM w B gt T G0 base top N Ab An As Ar cb cn cs cr wr
  box : wr.heap[X]? = some (.cells (netCells Ab An As Ar cb cn cs cr N) 31 (0, 0))
  res : ∃ cz, wr.heap[G0]? = some (.cells cz 31 (0, 0)) ∧ cz.size = 8
  ordX : top ≤ X
section
variable {w wr w' : World} {B gt T G0 X base top : Nat} {N : NetD} {Ab An As Ar : Option Addr} {cb cn cs cr : Nat}
theorem NM.low (h : NM w B gt T G0 base top N Ab An As Ar cb cn cs cr wr) {T' : Nat} (ht : TapeOk w' B gt T') (hs : Still gt G0 wr w') (hz : wr.heap.size ≤ w'.heap.size) (hb : ∀ k, base ≤ k → k < wr.heap.size → w'.heap[k]? = wr.heap[k]?) : NM w B gt T' G0 base top N Ab An As Ar cb cn cs cr w' := by
  obtain ⟨o1, o2, o3, o4⟩ := h.ord
  exact ⟨ht, ownN_to h.blocks fun k hk hlt => hb k (ownN_type h.blocks hk).2 hlt, h.next.keep fun k hk hlt _ => hb k hk hlt, ownN_to h.spurs fun k hk hlt => hb k (ownN_type h.spurs hk).2 hlt, ownN_to h.robots fun k hk hlt => hb k (Nat.le_trans o3 (ownN_type h.robots hk).2) hlt, h.still.trans hs, Nat.le_trans h.size hz, h.ord⟩
theorem LS.cells (h : LS w B gt T G0 X base top N Ab An As Ar cb cn cs cr wr) : BoxAt wr X Ab An As Ar cb cn cs cr N := boxAt_of h.box
theorem LS.froz (h : LS w B gt T G0 X base top N Ab An As Ar cb cn cs cr wr) (i : Nat) : wr.frozen? ⟨X, i, none⟩ = false := by
  have := h.box
  simp [World.frozen?, this]
theorem LS.xlt (h : LS w B gt T G0 X base top N Ab An As Ar cb cn cs cr wr) : X < wr.heap.size := block_lt h.box
theorem LS.next_ (h : LS w B gt T G0 X base top N Ab An As Ar cb cn cs cr wr) (ht : TapeOk w' B gt (T + 1)) (hg : wr.grownBy w' (some gt)) : LS w B gt (T + 1) G0 X base top N Ab An As Ar cb cn cs cr w' := by
  obtain ⟨o1, o2, o3, o4⟩ := h.nm.ord
  have o5 := h.ordX
  have hx := h.xlt
  obtain ⟨cz, z1, z2⟩ := h.res
  exact ⟨h.nm.low ht (Still.of_grown hg (by omega)) hg.size (fun k hk hlt => hg.block k hlt (fun e => by injection e with e; omega)), (hg.block X hx (fun e => by injection e with e; omega)).trans h.box, ⟨cz, (hg.block G0 (by omega) (fun e => by injection e with e; omega)).trans z1, z2⟩, o5⟩
theorem LS.keep (h : LS w B gt T G0 X base top N Ab An As Ar cb cn cs cr wr) (hb : Below wr.heap.size wr w') : LS w B gt T G0 X base top N Ab An As Ar cb cn cs cr w' := by
  obtain ⟨o1, o2, o3, o4⟩ := h.nm.ord
  have o5 := h.ordX
  have hx := h.xlt
  obtain ⟨cz, z1, z2⟩ := h.res
  exact ⟨h.nm.low (h.nm.tape.keep hb) (Still.of_below (hb.mono (by omega))) hb.size (fun k hk hlt => hb.block k hlt), (hb.block X hx).trans h.box, ⟨cz, (hb.block G0 (by omega)).trans z1, z2⟩, o5⟩
theorem LS.more {T' : Nat} (h : LS w B gt T G0 X base top N Ab An As Ar cb cn cs cr wr) (hT : T ≤ T') : LS w B gt T' G0 X base top N Ab An As Ar cb cn cs cr wr :=
  ⟨⟨h.nm.tape.more hT, h.nm.blocks, h.nm.next, h.nm.spurs, h.nm.robots, h.nm.still, h.nm.size, h.nm.ord⟩, h.box, h.res, h.ordX⟩
/-- A row of lanes is emptied. -/
theorem LS.setNil {q k : Nat} (h : LS w B gt T G0 X base top N Ab (some ⟨q, 0, none⟩) As Ar cb cn cs cr wr) : LS w B gt T G0 X base top { N with next := N.next.set k [] } Ab (some ⟨q, 0, none⟩) As Ar cb cn cs cr (wr.setCell ⟨q, k, none⟩ (.slice none 0 0)) := by
  obtain ⟨o1, o2, o3, o4⟩ := h.nm.ord
  have o5 := h.ordX
  have hx := h.xlt
  obtain ⟨cz, z1, z2⟩ := h.res
  obtain ⟨vs, v1, v2, v3⟩ := h.nm.next
  obtain ⟨⟨cq, hq⟩, hqb⟩ := ownN_type v2 (k := q) rfl
  have hqx : q ≠ X := fun e => by
    rw [e, h.box] at hq
    injection hq with hq
    injection hq with _ hq
    exact absurd hq (by decide)
  have hg : wr.grownBy (wr.setCell ⟨q, k, none⟩ (.slice none 0 0)) (some q) := put_grown _ _ _ _
  have key : ∀ {n size : Nat} {e : TypeId} {v : Value} {xs : List Value} {b : Nat}, 23 ≠ e → wr.ownsRow b e size v n xs → (wr.setCell ⟨q, k, none⟩ (.slice none 0 0)).ownsRow b e size v n xs := fun hne hh => ownN_to hh fun j hj hlt => hg.block j hlt (fun e => by
    injection e with e
    obtain ⟨⟨cs, h1⟩, _⟩ := ownN_type hh hj
    rw [e, hq] at h1
    injection h1 with h1
    injection h1 with _ h1
    exact hne h1)
  have hlen : (N.next.set k []).length = N.next.length := by simp
  refine ⟨⟨h.nm.tape.grown hg (fun e => by injection e with e; omega) (fun j hj => by injection hj with hj; omega), key (by decide) h.nm.blocks, ?_, key (by decide) h.nm.spurs, key (by decide) h.nm.robots, h.nm.still.trans ⟨rfl, rfl, rfl, hg.size, fun j hj _ => hg.block j (by omega) (fun e => by injection e with e; omega)⟩, Nat.le_trans h.nm.size hg.size, h.nm.ord⟩, ?_, ⟨cz, (hg.block G0 (by omega) (fun e => by injection e with e; omega)).trans z1, z2⟩, o5⟩
  · refine ⟨vs.set k (.slice none 0 0), by simpa using v1, ?_, fun j u r hj hr => ?_⟩
    · simp only [hlen]
      exact own_put v2
    · rw [List.getElem?_set] at hj hr
      by_cases e : k = j
      · subst e
        rw [if_pos rfl] at hj hr
        split at hj
        · split at hr
          · injection hj with hj
            injection hr with hr
            subst hj hr
            exact ⟨World.ownsRow_nil _ _ _ _, fun i hi => by simp [Value.ownBlock] at hi⟩
          · cases hr
        · cases hj
      · rw [if_neg e] at hj hr
        exact ⟨key (by decide) (v3 j u r hj hr).1, (v3 j u r hj hr).2⟩
  · rw [hg.block X hx (fun e => by injection e with e; exact hqx e.symm), h.box]
    show some (Obj.cells #[.slice Ab N.blocks.length cb, .slice (some ⟨q, 0, none⟩) N.next.length cn, .slice As N.spurs.length cs, .slice Ar N.robots.length cr, Iv N.queue, Iv N.aging, Iv N.detours, Iv N.patience] 31 (0, 0)) = some (Obj.cells #[.slice Ab N.blocks.length cb, .slice (some ⟨q, 0, none⟩) (N.next.set k []).length cn, .slice As N.spurs.length cs, .slice Ar N.robots.length cr, Iv N.queue, Iv N.aging, Iv N.detours, Iv N.patience] 31 (0, 0))
    rw [hlen]
/-- A robot appended: the row first, then the box. -/
theorem LS.push {gg cap : Nat} {x : Int} {o : Obj} (h : LS w B gt T G0 X base top N Ab An As Ar cb cn cs cr wr) (hg : (wr.alloc o).grownBy w' (Value.slice Ar N.robots.length cr).ownBlock) (ho : w'.ownsRow top 3 1 (.slice (some ⟨gg, 0, none⟩) (N.robots.length + 1) cap) (N.robots.length + 1) (N.robots.map Iv ++ [Iv x])) :
    LS w B gt T G0 X base top { N with robots := N.robots ++ [x] } Ab An As (some ⟨gg, 0, none⟩) cb cn cs cap (w'.setCell ⟨X, 3, none⟩ (.slice (some ⟨gg, 0, none⟩) (N.robots.length + 1) cap)) := by
  have h1 := h.keep ((Below.refl _ _).alloc (Nat.le_refl _) o)
  obtain ⟨o1, o2, o3, o4⟩ := h.nm.ord
  have o5 := h.ordX
  have hx := h1.xlt
  obtain ⟨cz, z1, z2⟩ := h1.res
  have hrow : ∀ k, (Value.slice Ar N.robots.length cr).ownBlock = some k → (∃ cs, (wr.alloc o).heap[k]? = some (.cells cs 3 (0, 0))) ∧ top ≤ k := fun k hk => ownN_type h1.nm.robots hk
  have ne : ∀ k, k < top → some k ≠ (Value.slice Ar N.robots.length cr).ownBlock := fun k hk e => by have := (hrow k e.symm).2; omega
  have hXn : some X ≠ (Value.slice Ar N.robots.length cr).ownBlock := fun e => by
    obtain ⟨⟨cs, h2⟩, _⟩ := hrow X e.symm
    rw [h1.box] at h2
    injection h2 with h2
    injection h2 with _ h2
    exact absurd h2 (by decide)
  have hset : ∀ k, k ≠ X → (w'.setCell ⟨X, 3, none⟩ (.slice (some ⟨gg, 0, none⟩) (N.robots.length + 1) cap)).heap[k]? = w'.heap[k]? := fun k hk => Below.heap_setCell _ _ _ _ hk
  have hbox := (hg.block X hx hXn).trans h1.box
  have hlen : (N.robots ++ [x]).length = N.robots.length + 1 := by simp
  have key : ∀ {n size : Nat} {e : TypeId} {v : Value} {xs : List Value} {b : Nat}, 3 ≠ e → 31 ≠ e → (wr.alloc o).ownsRow b e size v n xs → (w'.setCell ⟨X, 3, none⟩ (.slice (some ⟨gg, 0, none⟩) (N.robots.length + 1) cap)).ownsRow b e size v n xs := fun hne hnx hh => ownN_to hh fun j hj hlt => by
    obtain ⟨⟨cs, h2⟩, _⟩ := ownN_type hh hj
    refine (hset j fun e => ?_).trans (hg.block j hlt fun e => ?_)
    · rw [e, h1.box] at h2
      injection h2 with h2
      injection h2 with _ h2
      exact hnx h2
    · obtain ⟨⟨cs', h3⟩, _⟩ := hrow j e.symm
      rw [h3] at h2
      injection h2 with h2
      injection h2 with _ h2
      exact hne h2
  have low : ∀ k, k < top → (w'.setCell ⟨X, 3, none⟩ (.slice (some ⟨gg, 0, none⟩) (N.robots.length + 1) cap)).heap[k]? = (wr.alloc o).heap[k]? := fun k hk => (hset k (by omega)).trans (hg.block k (by have := h1.nm.size; omega) (ne k hk))
  have hz : (wr.alloc o).heap.size ≤ (w'.setCell ⟨X, 3, none⟩ (.slice (some ⟨gg, 0, none⟩) (N.robots.length + 1) cap)).heap.size := by have := hg.size; simp [World.setCell] at *; omega
  refine ⟨⟨?_, key (by decide) (by decide) h1.nm.blocks, ?_, key (by decide) (by decide) h1.nm.spurs, ?_, h1.nm.still.trans ⟨hg.os, hg.tape, hg.output, hz, fun k hk _ => low k (by omega)⟩, Nat.le_trans h1.nm.size hz, h.nm.ord⟩, ?_, ⟨cz, (low G0 (by omega)).trans z1, z2⟩, o5⟩
  · have h2 : TapeOk w' B gt T := h1.nm.tape.grown hg (fun e => ne gt (by omega) e.symm) (fun k hk => by have := (hrow k hk).2; omega)
    exact h2.grown (row := some X) (put_grown _ _ _ _) (fun e => by injection e with e; omega) (fun k hk => by injection hk with hk; omega)
  · obtain ⟨vs, v1, v2, v3⟩ := h1.nm.next
    exact ⟨vs, v1, key (by decide) (by decide) v2, fun k u r a b => ⟨ownN_to (v3 k u r a b).1 fun j hj _ => low j ((v3 k u r a b).2 j hj), (v3 k u r a b).2⟩⟩
  · simp only [hlen]
    have h2 : w'.ownsRow top 3 1 (.slice (some ⟨gg, 0, none⟩) (N.robots.length + 1) cap) (N.robots.length + 1) ((N.robots ++ [x]).map Iv) := by
      rw [List.map_append]; exact ho
    refine ownN_to h2 fun k hk hlt => hset k fun e => ?_
    obtain ⟨⟨cs, h3⟩, _⟩ := ownN_type h2 hk
    rw [e, hbox] at h3
    injection h3 with h3
    injection h3 with _ h3
    exact absurd h3 (by decide)
  · rw [set1_at hbox]
    show _ = some (Obj.cells #[.slice Ab N.blocks.length cb, .slice An N.next.length cn, .slice As N.spurs.length cs, .slice (some ⟨gg, 0, none⟩) (N.robots ++ [x]).length cap, Iv N.queue, Iv N.aging, Iv N.detours, Iv N.patience] 31 (0, 0))
    rw [hlen]
    rfl
theorem LS.behind {o : Obj} (h : LS w B gt T G0 X base top N Ab An As Ar cb cn cs cr wr) (hg : (wr.alloc o).grownBy w' (Value.slice Ar N.robots.length cr).ownBlock) : w'.cell? ⟨X, 3, none⟩ = some (.slice Ar N.robots.length cr) ∧ w'.frozen? ⟨X, 3, none⟩ = false := by
  have h1 := h.keep ((Below.refl _ _).alloc (Nat.le_refl _) o)
  have hXn : some X ≠ (Value.slice Ar N.robots.length cr).ownBlock := fun e => by
    obtain ⟨⟨cs, h2⟩, _⟩ := ownN_type h1.nm.robots e.symm
    rw [h1.box] at h2
    injection h2 with h2
    injection h2 with _ h2
    exact absurd h2 (by decide)
  have e1 := (hg.block X h1.xlt hXn).trans h1.box
  exact ⟨(boxAt_of e1).c3, by simp [World.frozen?, e1]⟩
theorem NM.rowCell {q k : Nat} (h : NM w B gt T G0 base top N Ab (some ⟨q, 0, none⟩) As Ar cb cn cs cr wr) (hk : k < N.next.length) : ∃ u, wr.cell? ⟨q, k, none⟩ = some u ∧ wr.frozen? ⟨q, k, none⟩ = false := by
  obtain ⟨vs, v1, v2, _⟩ := h.next
  exact ⟨vs[k]'(by omega), own_get v2 (List.getElem?_eq_getElem _)⟩
theorem NM.head (h : NM w B gt T G0 base top N Ab An As Ar cb cn cs cr wr) (h0 : 0 < N.next.length) : ∃ q, An = some ⟨q, 0, none⟩ := by
  obtain ⟨vs, _, v2, _⟩ := h.next
  obtain ⟨q, cap, e, _⟩ := own_at v2 h0
  injection e with e1 _ _
  exact ⟨q, e1⟩
theorem NM.headS (h : NM w B gt T G0 base top N Ab An As Ar cb cn cs cr wr) (h0 : 0 < N.spurs.length) : ∃ q, As = some ⟨q, 0, none⟩ := by
  obtain ⟨_, h2⟩ := h.spurs
  rcases h2 with ⟨_, hn⟩ | ⟨g, cap, cur, hv, _⟩
  · omega
  · injection hv with e1 _ _
    exact ⟨g, e1⟩
theorem NM.spur {gs k : Nat} (h : NM w B gt T G0 base top N Ab An (some ⟨gs, 0, none⟩) Ar cb cn cs cr wr) (hk : k < N.spurs.length) : wr.cell? ⟨gs, k * 6 + 1, none⟩ = some (Bo N.spurs[k].depot) ∧ wr.cell? ⟨gs, k * 6 + 4, none⟩ = some (Iv N.spurs[k].slots) ∧ wr.cell? ⟨gs, k * 6 + 5, none⟩ = some (Iv N.spurs[k].base) := by
  obtain ⟨bs, os, e, _, h1⟩ := (ownsRow_holds h.spurs).spur hk
  injection e with e
  injection e with e1 e2
  subst e1 e2
  have c1 := h1.c1
  have c4 := h1.c4
  have c5 := h1.c5
  simp only [Nat.zero_add] at c1 c4 c5
  exact ⟨c1, c4, c5⟩
theorem NM.capR (h : NM w B gt T G0 base top N Ab An As Ar cb cn cs cr wr) : N.robots.length ≤ cr := by
  obtain ⟨_, h2⟩ := h.robots
  rcases h2 with ⟨_, h0⟩ | ⟨g, cap, cur, hv, _, _, hn, _⟩
  · omega
  · injection hv with _ _ hc
    omega
theorem NM.at_ (h : NM w B gt T G0 base top N Ab An As Ar cb cn cs cr wr) : NetAt wr Ab An As Ar N := by
  obtain ⟨A, c, h1, h2⟩ := h.next.own.at_
  injection h1 with h1
  subst h1
  exact ⟨ownsRow_holds h.blocks, h2, ownsRow_holds h.spurs, ownsRow_holds h.robots⟩
theorem nm_more {T' : Nat} (h : NM w B gt T G0 base top N Ab An As Ar cb cn cs cr wr) (hT : T ≤ T') : NM w B gt T' G0 base top N Ab An As Ar cb cn cs cr wr :=
  ⟨h.tape.more hT, h.blocks, h.next, h.spurs, h.robots, h.still, h.size, h.ord⟩
/-- What is returned: the box is read, the result's box is written. -/
theorem LS.done {W : World} (h : LS w B gt T G0 X base top N Ab An As Ar cb cn cs cr wr) (hg : wr.grownBy W (some G0)) : NM w B gt T G0 base top N Ab An As Ar cb cn cs cr W := by
  obtain ⟨o1, o2, o3, o4⟩ := h.nm.ord
  have o5 := h.ordX
  have hx := h.xlt
  exact h.nm.low (h.nm.tape.grown hg (fun e => by injection e with e; omega) (fun k hk => by injection hk with hk; omega)) ⟨hg.os, hg.tape, hg.output, hg.size, fun k hk _ => hg.block k (by omega) (fun e => by injection e with e; omega)⟩ hg.size (fun k hk hlt => hg.block k hlt (fun e => by injection e with e; omega))
end
/-- What is known of a network that was loosened. -/
structure LooseMade (most : Nat) (N : NetD) : Prop where
  ok : NetOk N
  most_ : N.blocks.length ≤ most
  blocks : MadeB N.blocks
  graph : GrOk N.blocks.length N.next
  spurs : MadeS N.blocks.length N.spurs
  spurs3 : 3 ≤ N.spurs.length
  spurs5 : N.spurs.length ≤ 5
theorem LooseMade.setNil {most : Nat} {N : NetD} (h : LooseMade most N) (k : Nat) : LooseMade most { N with next := N.next.set k [] } := by
  have h1 : ∀ r ∈ N.next.set k [], r.length ≤ 4 := outs_set h.ok.outs (by simp)
  have h2 : GrOk N.blocks.length (N.next.set k []) := h.graph.row .nil (fun x hx => by simp at hx)
  exact ⟨⟨h.ok.some, h.ok.few, by simp only [List.length_set]; exact h.ok.lanes, h.ok.places, h1, h2.valid h.ok.few, h.ok.spurs6, h.ok.named, h.ok.apart, h.ok.robots8, h.ok.conf, h.ok.spurOk, h.ok.bases, h.ok.homes, h.ok.once, h.ok.depot⟩, h.most_, h.blocks, h2, h.spurs, h.spurs3, h.spurs5⟩
theorem LooseMade.push {most : Nat} {N : NetD} (h : LooseMade most N) {x : Int} (h8 : N.robots.length < 8) (hd : inDepot N.spurs x) (hn : x ∉ N.robots) : LooseMade most { N with robots := N.robots ++ [x] } :=
  ⟨h.ok.robots (by simp; omega) (fun y hy => by
      rcases List.mem_append.1 hy with hy | hy
      · exact h.ok.homes y hy
      · rw [List.mem_singleton.1 hy]; exact hd) (List.nodup_append.2 ⟨h.ok.once, by simp, fun y hy z hz e => by
      rw [List.mem_singleton.1 hz] at e
      exact hn (e ▸ hy)⟩), h.most_, h.blocks, h.graph, h.spurs, h.spurs3, h.spurs5⟩
theorem NetMade.loose {most : Nat} {N : NetD} (h : NetMade most N) : LooseMade most N := ⟨h.ok, h.most_, h.blocks, h.graph, h.spurs, h.spurs3, h.spurs5⟩
end Go.Proofs.YtgjnhefmheefbaaDoor
