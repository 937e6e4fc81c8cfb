/- Blocks appended to a row of the call's own; contract of the statements' blocks. -/
import Derived.Test.YtifnmfljlgaeoaaPlMove
import Derived.Test.YtifnmfljlgaeoaaTpArg
namespace Go.Proofs.Ytifnmfljlgaeoaa
open Go Go.RowKit Fl

theorem Try.infoBlkP : (Try.prog.info? 23).map (fun i => (i.zero, i.size, i.bytes)) = some (some (.agg #[.string ByteArray.empty, .int .i64 0, .int .i64 0]), 3, 32) := by kernel_rfl
theorem info_partsP {t : TypeId} {z : Value} {s b : Nat} (h : (Try.prog.info? t).map (fun i => (i.zero, i.size, i.bytes)) = some (some z, s, b)) : ∃ i, Try.prog.info? t = some i ∧ i.zero = some z ∧ i.size = s ∧ i.bytes = b := by
  obtain ⟨i, h1, h2⟩ := Option.map_eq_some_iff.1 h
  injection h2 with h2 h3
  injection h3 with h3 h4
  exact ⟨i, h1, h2, h3, h4⟩
section
variable {ops : Array Oper} {rest : List Oper} {o : Oper} {a : Act} {Q : Exit → Act → World → Prop}
/-- One block more. -/
theorem app_block (w : World) (hgd : o.guard = none) (s x : Operand) (ho : o.op = .call { callee := .builtin .append, args := #[s, x], argTypes := #[26, 26] }) (base : Nat) (v : Value) (l : List BlockD) (hs : a.eval s = v) (hown : w.ownsRow base 23 3 v l.length (blockCells l))
    (B : Nat) (b : BlockD) (hx : a.eval x = .slice (some ⟨B, 0, none⟩) 1 1) (hc : BlkAt w B b) (hn : l.length ≤ 1000000) (hbase : base ≤ w.heap.size)
    (h : ∀ v' w', w'.ownsRow base 23 3 v' (l ++ [b]).length (blockCells (l ++ [b])) → w.grownBy w' v.ownBlock → wpList Try.prog ops Q rest (a.put o.dst v') w') : wpList Try.prog ops Q (o :: rest) a w := by
  obtain ⟨i, h1, h2, h3, h4⟩ := info_partsP Try.infoBlkP
  obtain ⟨c0, c1, c2⟩ := hc.cell
  refine wpList_append_own w hgd s x 26 ho base 23 i _ 3 32 Try.underlying26 h1 h2 h3 h4 rfl (by decide) v l.length (blockCells l) hs hown ⟨B, 0, none⟩ 1 1 [Sv b.name, Iv b.x, Iv b.y] hx rfl ?_ ?_ ?_ ?_ hbase (fun v' w' g1 g2 _ => h v' w' ?_ g2)
  · intro j y hy
    match j, hy with
    | 0, hy => simp at hy; subst hy; simpa [Addr.add] using c0
    | 1, hy => simp at hy; subst hy; simpa [Addr.add] using c1
    | 2, hy => simp at hy; subst hy; simpa [Addr.add] using c2
    | j + 3, hy => simp at hy
  · intro y hy
    simp at hy
    rcases hy with rfl | rfl | rfl <;> rfl
  · unfold maxLen; omega
  · omega
  · rw [blockCells_append, List.length_append]
    exact g1
end
/-- What the statements' blocks are: valid, without names. -/
def MadeW (n : Nat) (l : List BlockD) : Prop := l.length = n ∧ ∀ b ∈ l, okB b = true ∧ b.name = []
theorem own_blocks {w : World} {base n : Nat} {v : Value} {l : List BlockD} (h : w.ownsRow base 23 3 v n (blockCells l)) : ∃ A c, v = .slice A n c ∧ Holds w A (blockCells l) := by
  have h0 := h
  obtain ⟨h1, h2⟩ := h
  rcases h2 with ⟨rfl, rfl⟩ | ⟨g, cap, cur, rfl, _⟩
  · exact ⟨none, 0, rfl, ownsRow_holds h0⟩
  · exact ⟨_, cap, rfl, ownsRow_holds h0⟩
theorem own_blocksCap {w : World} {base n : Nat} {v : Value} {l : List BlockD} (h : w.ownsRow base 23 3 v n (blockCells l)) : ∃ A c, v = .slice A n c ∧ Holds w A (blockCells l) ∧ n ≤ c := by
  have h0 := h
  obtain ⟨h1, h2⟩ := h
  rcases h2 with ⟨rfl, rfl⟩ | ⟨g, cap, cur, rfl, _, _, hn, _⟩
  · exact ⟨none, 0, rfl, ownsRow_holds h0, Nat.le_refl _⟩
  · exact ⟨_, cap, rfl, ownsRow_holds h0, hn⟩
theorem ownB_base {w : World} {base n : Nat} {v : Value} {xs : List Value} (h : w.ownsRow base 23 3 v n xs) : ∀ k, v.ownBlock = some k → base ≤ k := by
  intro k hk
  obtain ⟨_, hr⟩ := h
  rcases hr with ⟨rfl, _⟩ | ⟨g, cap, cur, rfl, hb, _⟩
  · simp [Value.ownBlock] at hk
  · simp [Value.ownBlock] at hk
    omega
theorem ownB_but {w w' : World} {base q n : Nat} {v : Value} {xs : List Value} (h : w.ownsRow base 23 3 v n xs) (hw : w.grownBy w' (some q)) (hq : q < base) : w'.ownsRow base 23 3 v n xs := by
  obtain ⟨h1, hr⟩ := h
  refine ⟨h1, ?_⟩
  rcases hr with hr | ⟨b, cap, cur, hv, hgb, hh, hrest⟩
  · exact .inl hr
  · exact .inr ⟨b, cap, cur, hv, hgb, (hw.block b (block_lt hh) (fun e => by injection e with e; omega)).trans hh, hrest⟩
theorem ownB_to {w w' : World} {base n : Nat} {v : Value} {xs : List Value} (h : w.ownsRow base 23 3 v n xs) (hs : ∀ k, v.ownBlock = some k → k < w.heap.size → w'.heap[k]? = w.heap[k]?) : w'.ownsRow base 23 3 v n xs := by
  obtain ⟨h1, hr⟩ := h
  refine ⟨h1, ?_⟩
  rcases hr with hr | ⟨g, cap, cur, hv, hgb, hh, hrest⟩
  · exact .inl hr
  · exact .inr ⟨g, cap, cur, hv, hgb, (hs g (by rw [hv]; rfl) (block_lt hh)).trans hh, hrest⟩
theorem ownB_lt {w : World} {base n : Nat} {v : Value} {xs : List Value} (h : w.ownsRow base 23 3 v n xs) : ∀ k, v.ownBlock = some k → k < w.heap.size := by
  intro k hk
  obtain ⟨_, hr⟩ := h
  rcases hr with ⟨rfl, _⟩ | ⟨g, cap, cur, rfl, _, hh, _⟩
  · simp [Value.ownBlock] at hk
  · simp [Value.ownBlock] at hk
    subst hk
    exact block_lt hh
/-- Three cells of a block are written: all other blocks stay. -/
theorem set3_far (w : World) (H : Nat) (u v x : Value) : ∀ k, k ≠ H → (((w.setCell ⟨H, 0, none⟩ u).setCell ⟨H, 1, none⟩ v).setCell ⟨H, 2, none⟩ x).heap[k]? = w.heap[k]? := fun k hk => by
  rw [Below.heap_setCell _ _ _ _ hk, Below.heap_setCell _ _ _ _ hk, Below.heap_setCell _ _ _ _ hk]
theorem set3_grown (w : World) (H : Nat) (u v x : Value) : w.grownBy (((w.setCell ⟨H, 0, none⟩ u).setCell ⟨H, 1, none⟩ v).setCell ⟨H, 2, none⟩ x) (some H) :=
  ⟨rfl, rfl, rfl, by simp [World.setCell], fun k _ hne => set3_far w H u v x k (fun e => hne (by rw [e]))⟩
set_option maxRecDepth 100000 in
set_option maxHeartbeats 8000000 in
theorem blocksCap_c (C : Option Addr) (k n : Nat) (zs : List Int) (w : World) (hz : IntsAt w w.heap.size C zs) (hzl : zs.length ≤ maxLen) (hn : n ≤ 10) :
    Calls Try.prog 10 #[.slice C zs.length k, .int .i64 n] w fun e w' => ∃ A c l, e = .returned (.slice A n c) ∧ MadeW n l ∧ Holds w' A (blockCells l) ∧ Below w.heap.size w w' ∧ n ≤ c := by
  have ht := tape_new (c := k) hz (Nat.le_refl _) (Below.refl _ _) hzl
  have hb2 : Below w.heap.size w (w.alloc (.cells #[.slice C zs.length k, .int .i64 0] 53)) := (Below.refl _ _).alloc (Nat.le_refl _) _
  have HT := Lib.hid ht
  have HB := Lib.hid hb2
  have hsz : w.heap.size < (w.alloc (.cells #[.slice C zs.length k, .int .i64 0] 53)).heap.size := by simp
  clear ht hb2 hz hzl
  go_enter Try.func10, Try.ntmps10
  go_wp2
  obtain ⟨gt, hgt⟩ : ∃ gt, gt = w.heap.size := ⟨_, rfl⟩
  rw [← hgt] at HT HB hsz ⊢
  have HGT := Lib.hid hgt
  clear hgt
  have HO : Hid (∀ W : World, W.ownsRow (gt + 1) 23 3 (.slice none 0 0) ([] : List BlockD).length (blockCells [])) := Lib.hid (fun W => World.ownsRow_nil _ _ _ _)
  go_loopw [6, 7, 8] (fun v kv _ wr => ∃ (m : Nat) (l : List BlockD), kv = .int .i64 m ∧ m ≤ n ∧ Hid (MadeW m l) ∧ Hid (wr.ownsRow (gt + 1) 23 3 v l.length (blockCells l)) ∧ Hid (TapeOk wr gt gt (10 * m)) ∧ Hid (Below gt w wr) ∧ gt < wr.heap.size) (fun _ kv _ _ => n - (intOf kv).toNat)
  case atStart => exact ⟨0, [], rfl, Nat.zero_le _, Lib.hid ⟨rfl, fun b hb => by simp at hb⟩, Lib.hid (HO.out _), HT, HB, hsz⟩
  case round =>
    clear HT HB hsz HO
    obtain ⟨m, l, rfl, hm, HM, HOw, HT, HB, hsz⟩ := hrel
    by_cases hlt : m < n
    · go_wp2_with fail
      refine (next_c gt gt _ 7 wr HT.out (by omega) (by omega) (by omega)).mono ?_
      rintro e w3 ⟨x, hx, rfl, ht3, hg3⟩
      have HT3 := Lib.hid ht3
      have HO3 := Lib.hid (ownB_but HOw.out hg3 (by omega))
      have HB3 := Lib.hid (HB.out.grown hg3 (by omega) (fun q hq => by injection hq with hq; omega))
      have hsz3 := Nat.lt_of_lt_of_le hsz hg3.size
      clear ht3 hg3 HT HOw HB
      have hwx : IntKind.i64.wrap ((x : Int) - 3) = (x : Int) - 3 := wrap_in (by omega)
      go_wp2_with fail
      refine (next_c gt gt _ 7 w3 HT3.out (by omega) (by omega) (by omega)).mono ?_
      rintro e w4 ⟨y, hy, rfl, ht4, hg4⟩
      have HT4 := Lib.hid ht4
      have HO4 := Lib.hid (ownB_but HO3.out hg4 (by omega))
      have HB4 := Lib.hid (HB3.out.grown hg4 (by omega) (fun q hq => by injection hq with hq; omega))
      have hsz4 := Nat.lt_of_lt_of_le hsz3 hg4.size
      clear ht4 hg4 HT3 HO3 HB3
      have hwy : IntKind.i64.wrap ((y : Int) - 3) = (y : Int) - 3 := wrap_in (by omega)
      obtain ⟨H, hH⟩ : ∃ H, H = w4.heap.size := ⟨_, rfl⟩
      have HQ : Hid (∀ q, u6.ownBlock = some q → q < H) := Lib.hid (by rw [hH]; exact ownB_lt HO4.out)
      have hb0 := box_new w4 (⟨[], (x : Int) - 3, (y : Int) - 3⟩ : BlockD)
      have hba0 : Below w4.heap.size w4 (w4.alloc (.cells #[Sv [], Iv ((x : Int) - 3), Iv ((y : Int) - 3)] 23)) := below_newP _ _
      have HK5 : Hid (BlkAt (w4.alloc (.cells #[Sv [], Iv ((x : Int) - 3), Iv ((y : Int) - 3)] 23)) H ⟨[], (x : Int) - 3, (y : Int) - 3⟩) := Lib.hid (by rw [hH]; exact hb0)
      have HT5 := Lib.hid (HT4.out.keep hba0)
      have HO5 := Lib.hid (HO4.out.alloc (.cells #[Sv [], Iv ((x : Int) - 3), Iv ((y : Int) - 3)] 23))
      have HB5 := Lib.hid (HB4.out.trans (hba0.mono (by omega)))
      have hHg : gt < H := by omega
      have hsz5 : gt < (w4.alloc (.cells #[Sv [], Iv ((x : Int) - 3), Iv ((y : Int) - 3)] 23)).heap.size := by simp; omega
      go_wp2_with fail
      rw [← hH]
      clear hb0 hba0 HT4 HO4 HB4 hH
      generalize w4.alloc (.cells #[Sv [], Iv ((x : Int) - 3), Iv ((y : Int) - 3)] 23) = w5 at *
      refine (next_c gt gt _ 6 w5 HT5.out (by omega) (by omega) (by omega)).mono ?_
      rintro e w6 ⟨z, hz, rfl, ht6, hg6⟩
      have HT6 := Lib.hid ht6
      have HO6 := Lib.hid (ownB_but HO5.out hg6 (by omega))
      have HB6 := Lib.hid (HB5.out.grown hg6 (by omega) (fun q hq => by injection hq with hq; omega))
      have HK6 : Hid (BlkAt w6 H ⟨[], (x : Int) - 3, (y : Int) - 3⟩) := Lib.hid ((hg6.block H HK5.out.lt (fun e => by injection e with e; omega)).trans HK5.out)
      have hsz6 := Nat.lt_of_lt_of_le hsz5 hg6.size
      clear ht6 hg6 HT5 HO5 HB5 HK5
      by_cases hz0 : z = 0
      · subst hz0
        go_wp2_with fail
        refine (next_c gt gt _ 3 w6 HT6.out (by omega) (by omega) (by omega)).mono ?_
        rintro e w7 ⟨r, hr, rfl, ht7, hg7⟩
        have HT7 := Lib.hid ht7
        have HO7 := Lib.hid (ownB_but HO6.out hg7 (by omega))
        have HB7 := Lib.hid (HB6.out.grown hg7 (by omega) (fun q hq => by injection hq with hq; omega))
        have HK7 : Hid (BlkAt w7 H ⟨[], (x : Int) - 3, (y : Int) - 3⟩) := Lib.hid ((hg7.block H HK6.out.lt (fun e => by injection e with e; omega)).trans HK6.out)
        have hsz7 := Nat.lt_of_lt_of_le hsz6 hg7.size
        have hwr1 : IntKind.i64.wrap ((r : Int) - 1) = (r : Int) - 1 := wrap_in (by omega)
        have hwr2 : IntKind.i64.wrap (9999 * ((r : Int) - 1)) = 9999 * ((r : Int) - 1) := wrap_in (by omega)
        clear ht7 hg7 HT6 HO6 HB6 HK6
        go_wp2_with fail
        refine (next_c gt gt _ 3 w7 HT7.out (by omega) (by omega) (by omega)).mono ?_
        rintro e w8 ⟨s, hs, rfl, ht8, hg8⟩
        have HT8 := Lib.hid ht8
        have HO8 := Lib.hid (ownB_but HO7.out hg8 (by omega))
        have HB8 := Lib.hid (HB7.out.grown hg8 (by omega) (fun q hq => by injection hq with hq; omega))
        have HK8 : Hid (BlkAt w8 H ⟨[], (x : Int) - 3, (y : Int) - 3⟩) := Lib.hid ((hg8.block H HK7.out.lt (fun e => by injection e with e; omega)).trans HK7.out)
        have hsz8 := Nat.lt_of_lt_of_le hsz7 hg8.size
        have hws1 : IntKind.i64.wrap ((s : Int) - 1) = (s : Int) - 1 := wrap_in (by omega)
        have hws2 : IntKind.i64.wrap (9999 * ((s : Int) - 1)) = 9999 * ((s : Int) - 1) := wrap_in (by omega)
        clear ht8 hg8 HT7 HO7 HB7 HK7
        obtain ⟨c0, c1, c2⟩ := HK8.out.cell
        have f0 := HK8.out.frozen 0
        have f1 := HK8.out.frozen 1
        have f2 := HK8.out.frozen 2
        have HKs := Lib.hid (HK8.out.set3 [] (9999 * ((r : Int) - 1)) (9999 * ((s : Int) - 1)))
        have hg9 := set3_grown w8 H (Sv []) (Iv (9999 * ((r : Int) - 1))) (Iv (9999 * ((s : Int) - 1)))
        have HT8x : Hid (TapeOk (((w8.setCell ⟨H, 0, none⟩ (Sv [])).setCell ⟨H, 1, none⟩ (Iv (9999 * ((r : Int) - 1)))).setCell ⟨H, 2, none⟩ (Iv (9999 * ((s : Int) - 1)))) gt gt (10 * m + 1 + 1 + 1 + 1 + 1)) := Lib.hid (HT8.out.grown hg9 (fun e => by injection e with e; omega) (fun q hq => by injection hq with hq; omega))
        have HO8x : Hid ((((w8.setCell ⟨H, 0, none⟩ (Sv [])).setCell ⟨H, 1, none⟩ (Iv (9999 * ((r : Int) - 1)))).setCell ⟨H, 2, none⟩ (Iv (9999 * ((s : Int) - 1)))).ownsRow (gt + 1) 23 3 u6 l.length (blockCells l)) := Lib.hid (ownB_to HO8.out fun q hq _ => set3_far _ _ _ _ _ q (by have := HQ.out q hq; omega))
        have HB8x : Hid (Below gt w (((w8.setCell ⟨H, 0, none⟩ (Sv [])).setCell ⟨H, 1, none⟩ (Iv (9999 * ((r : Int) - 1)))).setCell ⟨H, 2, none⟩ (Iv (9999 * ((s : Int) - 1))))) := Lib.hid (below_set3 HB8.out (by omega) _ _ _)
        have hsz9x : gt < (((w8.setCell ⟨H, 0, none⟩ (Sv [])).setCell ⟨H, 1, none⟩ (Iv (9999 * ((r : Int) - 1)))).setCell ⟨H, 2, none⟩ (Iv (9999 * ((s : Int) - 1)))).heap.size := Nat.lt_of_lt_of_le hsz8 hg9.size
        have HK9 := HKs
        clear hg9 HT8 HO8 HB8 HK8 HKs
        go_upto_region 9 with fail
        clear c0 c1 c2 f0 f1 f2
        generalize (((w8.setCell ⟨H, 0, none⟩ (Sv [])).setCell ⟨H, 1, none⟩ (Iv (9999 * ((r : Int) - 1)))).setCell ⟨H, 2, none⟩ (Iv (9999 * ((s : Int) - 1)))) = w9 at *
        obtain ⟨d0, d1, d2⟩ := HK9.out.cell
        have HBa := Lib.hid (ownB_base HO8x.out)
        have hml : l.length ≤ 1000000 := by have := HM.out.1; omega
        have HM2 : Hid (MadeW (m + 1) (l ++ [⟨[], 9999 * ((r : Int) - 1), 9999 * ((s : Int) - 1)⟩])) := Lib.hid ⟨by rw [List.length_append, HM.out.1]; rfl, fun b hb => by
          rcases List.mem_append.1 hb with hb | hb
          · exact HM.out.2 b hb
          · rw [List.mem_singleton.1 hb]
            exact ⟨okB_iff.2 (by simp only; omega), rfl⟩⟩
        go_wp2_with (at_builtin; refine app_block _ rfl _ _ rfl (gt + 1) _ l rfl (HO8x.out.alloc _) _ ⟨[], 9999 * ((r : Int) - 1), 9999 * ((s : Int) - 1)⟩ rfl (box_new w9 ⟨[], 9999 * ((r : Int) - 1), 9999 * ((s : Int) - 1)⟩) hml (by simp; omega) ?_)
        intro v' w' hown hgrow
        have HO9 := Lib.hid hown
        have HT9 : Hid (TapeOk w' gt gt (10 * (m + 1))) := Lib.hid (((HT8x.out.keep (below_newP _ _)).grown hgrow (fun e => by have := HBa.out _ e; omega) (fun q hq => by have := HBa.out q hq; omega)).more (by omega))
        have HB9 : Hid (Below gt w w') := Lib.hid ((HB8x.out.alloc (by omega) _).grown hgrow (by simp; omega) (fun q hq => by have := HBa.out q hq; omega))
        have hsz9 : gt < w'.heap.size := by have := hgrow.size; simp at this; omega
        clear hown hgrow HBa d0 d1 d2 HO8x HT8x HB8x HK9 HM
        go_wp2
        go_roundw
        case rel => exact ⟨m + 1, _, by go_num, by omega, HM2, Lib.hid (by have h := HO9.out; simpa using h), HT9, HB9, hsz9⟩
        case measure => simp [intOf]; omega
      · have hzn : ((z : Int) == 0) = false := by rw [beq_eq_false_iff_ne]; omega
        obtain ⟨d0, d1, d2⟩ := HK6.out.cell
        have HBa := Lib.hid (ownB_base HO6.out)
        have hml : l.length ≤ 1000000 := by have := HM.out.1; omega
        have HM2 : Hid (MadeW (m + 1) (l ++ [⟨[], (x : Int) - 3, (y : Int) - 3⟩])) := Lib.hid ⟨by rw [List.length_append, HM.out.1]; rfl, fun b hb => by
          rcases List.mem_append.1 hb with hb | hb
          · exact HM.out.2 b hb
          · rw [List.mem_singleton.1 hb]
            exact ⟨okB_iff.2 (by simp only; omega), rfl⟩⟩
        go_wp2_with (at_builtin; refine app_block _ rfl _ _ rfl (gt + 1) _ l rfl (HO6.out.alloc _) _ ⟨[], (x : Int) - 3, (y : Int) - 3⟩ rfl (box_new w6 ⟨[], (x : Int) - 3, (y : Int) - 3⟩) hml (by simp; omega) ?_)
        intro v' w' hown hgrow
        have HO9 := Lib.hid hown
        have HT9 : Hid (TapeOk w' gt gt (10 * (m + 1))) := Lib.hid (((HT6.out.keep (below_newP _ _)).grown hgrow (fun e => by have := HBa.out _ e; omega) (fun q hq => by have := HBa.out q hq; omega)).more (by omega))
        have HB9 : Hid (Below gt w w') := Lib.hid ((HB6.out.alloc (by omega) _).grown hgrow (by simp; omega) (fun q hq => by have := HBa.out q hq; omega))
        have hsz9 : gt < w'.heap.size := by have := hgrow.size; simp at this; omega
        clear hown hgrow HBa d0 d1 d2 HO6 HT6 HB6 HK6 HM
        go_wp2
        go_roundw
        case rel => exact ⟨m + 1, _, by go_num, by omega, HM2, Lib.hid (by have h := HO9.out; simpa using h), HT9, HB9, hsz9⟩
        case measure => simp [intOf]; omega
    · obtain rfl : m = n := by omega
      obtain ⟨A, c, rfl, hA, hcap⟩ := own_blocksCap HOw.out
      have hml := HM.out.1
      have HA := Lib.hid hA
      have HCap := Lib.hid hcap
      rw [hml] at HCap
      clear hA hcap
      go_wp2
      go_ret
      rw [hml]
      exact ⟨A, c, l, rfl, HM.out, HA.out, by rw [← HGT.out]; exact HB.out, HCap.out⟩
theorem blocks_c (C : Option Addr) (k n : Nat) (zs : List Int) (w : World) (hz : IntsAt w w.heap.size C zs) (hzl : zs.length ≤ maxLen) (hn : n ≤ 10) :
    Calls Try.prog 10 #[.slice C zs.length k, .int .i64 n] w fun e w' => ∃ A c l, e = .returned (.slice A n c) ∧ MadeW n l ∧ Holds w' A (blockCells l) ∧ Below w.heap.size w w' :=
  (blocksCap_c C k n zs w hz hzl hn).mono (fun _ _ h => by
    obtain ⟨A, c, l, h1, h2, h3, h4, _⟩ := h
    exact ⟨A, c, l, h1, h2, h3, h4⟩)
end Go.Proofs.Ytifnmfljlgaeoaa
