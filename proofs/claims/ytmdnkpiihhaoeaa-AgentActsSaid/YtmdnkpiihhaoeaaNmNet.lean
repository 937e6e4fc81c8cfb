/- Contract of the statements' Net: it makes a valid network. -/
import Derived.Test.YtmdnkpiihhaoeaaMzAI
import Derived.Test.YtmdnkpiihhaoeaaMzAO
import Derived.Deep.DrawnRows
namespace Go.Proofs.Ytmdnkpiihhaoeaa
open Go Go.RowKit Fl
attribute [local go_sem ↓] Go.wp_at_zero Go.wp_at_succ

/-- What Net returns. -/
def NetPost (w : World) (B gt T most : Nat) (e : Ending) (w' : World) : Prop := ∃ (N : NetD) (Ab An As Ar : Option Addr) (cb cn cs cr top : Nat), e = .returned (.agg #[.slice Ab N.blocks.length cb, .slice An N.next.length cn, .slice As N.spurs.length cs, .slice Ar N.robots.length cr, Iv N.queue, Iv N.aging, Iv N.detours, Iv N.patience]) ∧ NetMade most N ∧ NM w B gt (T + 200) w.heap.size (w.heap.size + 2) top N Ab An As Ar cb cn cs cr w'
abbrev zeroN : NetD := ⟨[], [], [], [], 0, 0, 0, 0⟩
theorem ns_start {w w1 : World} {B gt T : Nat} (ht : TapeOk w1 B gt T) (hg : ((w.alloc (.cells #[.slice none 0 0, .slice none 0 0, .slice none 0 0, .slice none 0 0, .int .i64 0, .int .i64 0, .int .i64 0, .int .i64 0] 29)).alloc (.cells #[.slice none 0 0, .slice none 0 0, .slice none 0 0, .slice none 0 0, .int .i64 0, .int .i64 0, .int .i64 0, .int .i64 0] 29)).grownBy w1 (some gt)) (hgt : gt < w.heap.size) (hB : B ≤ gt) : NS w B gt T w.heap.size (w.heap.size + 1) (w.heap.size + 2) zeroN none none none none 0 0 0 0 w1 := by
  have s2 : ((w.alloc (.cells #[.slice none 0 0, .slice none 0 0, .slice none 0 0, .slice none 0 0, .int .i64 0, .int .i64 0, .int .i64 0, .int .i64 0] 29)).alloc (.cells #[.slice none 0 0, .slice none 0 0, .slice none 0 0, .slice none 0 0, .int .i64 0, .int .i64 0, .int .i64 0, .int .i64 0] 29)).heap.size = w.heap.size + 2 := by simp
  have h0 : ((w.alloc (.cells #[.slice none 0 0, .slice none 0 0, .slice none 0 0, .slice none 0 0, .int .i64 0, .int .i64 0, .int .i64 0, .int .i64 0] 29)).alloc (.cells #[.slice none 0 0, .slice none 0 0, .slice none 0 0, .slice none 0 0, .int .i64 0, .int .i64 0, .int .i64 0, .int .i64 0] 29)).heap[w.heap.size]? = some (.cells #[.slice none 0 0, .slice none 0 0, .slice none 0 0, .slice none 0 0, .int .i64 0, .int .i64 0, .int .i64 0, .int .i64 0] 29) := by
    rw [Below.heap_alloc _ _ _ (by simp)]
    exact heap_alloc_new w _
  have h1 : ((w.alloc (.cells #[.slice none 0 0, .slice none 0 0, .slice none 0 0, .slice none 0 0, .int .i64 0, .int .i64 0, .int .i64 0, .int .i64 0] 29)).alloc (.cells #[.slice none 0 0, .slice none 0 0, .slice none 0 0, .slice none 0 0, .int .i64 0, .int .i64 0, .int .i64 0, .int .i64 0] 29)).heap[w.heap.size + 1]? = some (.cells #[.slice none 0 0, .slice none 0 0, .slice none 0 0, .slice none 0 0, .int .i64 0, .int .i64 0, .int .i64 0, .int .i64 0] 29) := by
    have := heap_alloc_new (w.alloc (.cells #[.slice none 0 0, .slice none 0 0, .slice none 0 0, .slice none 0 0, .int .i64 0, .int .i64 0, .int .i64 0, .int .i64 0] 29)) (.cells #[.slice none 0 0, .slice none 0 0, .slice none 0 0, .slice none 0 0, .int .i64 0, .int .i64 0, .int .i64 0, .int .i64 0] 29)
    rwa [show (w.alloc (.cells #[.slice none 0 0, .slice none 0 0, .slice none 0 0, .slice none 0 0, .int .i64 0, .int .i64 0, .int .i64 0, .int .i64 0] 29)).heap.size = w.heap.size + 1 by simp] at this
  have k0 : some w.heap.size ≠ some gt := fun e => by injection e with e; omega
  have k1 : some (w.heap.size + 1) ≠ some gt := fun e => by injection e with e; omega
  refine ⟨(hg.block _ (by omega) k1).trans h1, ⟨_, (hg.block _ (by omega) k0).trans h0, rfl⟩, ht, World.ownsRow_nil _ _ _ _, ⟨[], rfl, World.ownsRow_nil _ _ _ _, fun k u r hk => by simp at hk⟩, World.ownsRow_nil _ _ _ _, World.ownsRow_nil _ _ _ _, ?_, by have := hg.size; omega, by omega, by omega, by omega, hB⟩
  exact (Still.of_below ((((Below.refl w.heap.size w).alloc (Nat.le_refl _) (.cells #[.slice none 0 0, .slice none 0 0, .slice none 0 0, .slice none 0 0, .int .i64 0, .int .i64 0, .int .i64 0, .int .i64 0] 29)).alloc (by simp) (.cells #[.slice none 0 0, .slice none 0 0, .slice none 0 0, .slice none 0 0, .int .i64 0, .int .i64 0, .int .i64 0, .int .i64 0] 29)))).trans (Still.of_grown hg (by omega))
set_option maxRecDepth 100000 in
set_option maxHeartbeats 16000000 in
theorem net_c (B gt T most : Nat) (w : World) (ht : TapeOk w B gt T) (hT : T ≤ 100000) (hm : 1 ≤ most ∧ most ≤ 8) (hgt : gt < w.heap.size) (hB : B ≤ gt) :
    Calls Try.prog 26 #[.pointer (some ⟨gt, 0, none⟩), .int .i64 most] w fun e w' => NetPost w B gt T most e w' := by
  have HT0 := Lib.hid ((ht.keep (w' := (w.alloc (.cells #[.slice none 0 0, .slice none 0 0, .slice none 0 0, .slice none 0 0, .int .i64 0, .int .i64 0, .int .i64 0, .int .i64 0] 29)).alloc (.cells #[.slice none 0 0, .slice none 0 0, .slice none 0 0, .slice none 0 0, .int .i64 0, .int .i64 0, .int .i64 0, .int .i64 0] 29)) (((Below.refl w.heap.size w).alloc (Nat.le_refl _) (.cells #[.slice none 0 0, .slice none 0 0, .slice none 0 0, .slice none 0 0, .int .i64 0, .int .i64 0, .int .i64 0, .int .i64 0] 29)).alloc (by simp) (.cells #[.slice none 0 0, .slice none 0 0, .slice none 0 0, .slice none 0 0, .int .i64 0, .int .i64 0, .int .i64 0, .int .i64 0] 29))))
  have HSt := Lib.hid (fun (w1 : World) (T' : Nat) (h1 : TapeOk w1 B gt T') (h2 : ((w.alloc (.cells #[.slice none 0 0, .slice none 0 0, .slice none 0 0, .slice none 0 0, .int .i64 0, .int .i64 0, .int .i64 0, .int .i64 0] 29)).alloc (.cells #[.slice none 0 0, .slice none 0 0, .slice none 0 0, .slice none 0 0, .int .i64 0, .int .i64 0, .int .i64 0, .int .i64 0] 29)).grownBy w1 (some gt)) => ns_start h1 h2 hgt hB)
  clear ht
  go_enter Try.func26, Try.ntmps26
  go_wp2_with fail
  refine (next_c B gt T most _ HT0.out (by omega) (by omega) (by omega)).mono ?_
  rintro e w1 ⟨k0, hk0, rfl, ht1, hg1⟩
  have H1 := Lib.hid (HSt.out w1 _ ht1 hg1)
  clear ht1 hg1 HT0 HSt
  obtain ⟨G0, hG0⟩ : ∃ G0, G0 = w.heap.size := ⟨_, rfl⟩
  rw [← hG0] at H1 ⊢
  have HG0 := Lib.hid hG0
  clear hG0
  have hk8 : k0 + 1 ≤ most := by omega
  go_wp2
  go_loopw [6] (fun kv wr => ∃ (k m : Nat) (Ab An : Option Addr) (cb cn : Nat) (l : List BlockD), kv = .int .i64 k ∧ k + m = k0 + 1 ∧ l.length = m ∧ Hid (MadeB l) ∧ Hid (NS w B gt (T + 1 + 2 * m) G0 (G0 + 1) (G0 + 2) ⟨l, List.replicate m [], [], [], 0, 0, 0, 0⟩ Ab An none none cb cn 0 0 wr)) (fun kv _ => (intOf kv).toNat)
  case atStart => exact ⟨k0 + 1, 0, none, none, 0, 0, [], by go_num, rfl, rfl, Lib.hid MadeB.nil, H1⟩
  case round =>
    clear H1
    obtain ⟨k, m, Ab, An, cb, cn, l, rfl, hkm, hl, HB, H⟩ := hrel
    obtain ⟨e0, e1, _, _⟩ := H.out.c
    by_cases hk : 0 < k
    · simp only [hl] at e0
      have hm7 : m < 8 := by omega
      have hcat : (ByteArray.mk #[98]) ++ (ByteArray.mk (dec (m : Int)).toArray) = ByteArray.mk (bnm m).toArray := by
        apply ByteArray.ext
        simp [bnm]
      have hdl : ¬ 9223372036854775807 < 1 + (dec (m : Int)).length := by have := dec_length (m : Int); omega
      have HD := Lib.hid (fun W => digits_c (m : Int) W (by omega) (by omega))
      obtain ⟨i0, hi, hz0, hz1, hz2⟩ := info_parts Try.infoBlockN
      go_wp2_with fail
      go_cut [7] (fun iv wx => iv = .int .i64 m ∧ ∃ (Ab2 : Option Addr) (cb2 : Nat) (x : BlockD), x.name = bnm m ∧ (-9999 ≤ x.x ∧ x.x ≤ 9999 ∧ -9999 ≤ x.y ∧ x.y ≤ 9999) ∧ Hid (NS w B gt (T + 1 + 2 * (m + 1)) G0 (G0 + 1) (G0 + 2) ⟨l ++ [x], List.replicate m [], [], [], 0, 0, 0, 0⟩ Ab2 An none none cb2 cn 0 0 wx))
      case first =>
        go_region_law (first | (refine step_append_lies _ (by rfl) _ _ _ (by rfl) (G0 + 2) 87 i0 (.agg #[.string ByteArray.empty, .int .i64 0, .int .i64 0]) 3 32 Try.underlying22 hi hz0 hz1 hz2 rfl (by omega) (.slice Ab m cb) m (blockCells l) (by rfl) (HBL.out _) ⟨_, 0, none⟩ 1 1 [Sv (bnm m), Iv ((r1 : Int) - 4), Iv ((r2 : Int) - 4)] (by rfl) (by rfl) (World.news_of_block (cs := #[Sv (bnm m), Iv ((r1 : Int) - 4), Iv ((r2 : Int) - 4)]) (t := 87) (fr := (0, 0)) (heap_alloc_new _ _)) (by simp [Value.oneCell']) (by omega) (by unfold maxLen; omega) (by omega) (HSA.out _) _ rfl ?_; intro gg cap wn hown hgrow hat hlt; obtain ⟨z1, z2⟩ := HN6.out.behind HBB.out hgrow 0; rw [HE6.out] at z1; have HOW := Lib.hid hown; have HGR := Lib.hid hgrow; clear hown hgrow hat hlt) | (go_simp; have h := HN5; clear h; go_at_call 11; go_loud (refine (next_c B gt _ 9 _ HN5.out.tape (by omega) (by omega) (by omega)).mono ?_; rintro e w6 ⟨r2, hr2, rfl, ht6, hg6⟩; have HN6 := Lib.hid (HN5.out.next_ ht6 hg6); have e06 : w6.cell? ⟨G0 + 1, 0, none⟩ = some (.slice Ab m cb) := (by rw [← hl]; exact HN6.out.c.1); have HE6 := Lib.hid e06; have e06a : ∀ ob, (w6.alloc ob).cell? ⟨G0 + 1, 0, none⟩ = some (.slice Ab m cb) := fun ob => alloc_cells e06 ob; have HSA : Hid (∀ ob, G0 + 2 ≤ (w6.alloc ob).heap.size) := Lib.hid (fun ob => (HN6.out.alloc ob).size); have HBL : Hid (∀ ob, (w6.alloc ob).ownsRow (G0 + 2) 87 3 (.slice Ab m cb) m (blockCells l)) := Lib.hid (by rw [← hl]; exact fun ob => (HN6.out.alloc ob).blocks); have HBB : Hid (∀ k, (Value.slice Ab m cb).ownBlock = some k → G0 + 2 ≤ k) := Lib.hid (by rw [← hl]; exact fun k hk => (ownN_type HN6.out.blocks hk).2); have hw2 : IntKind.i64.wrap ((r2 : Int) - 4) = (r2 : Int) - 4 := IntWalk.i64_in _ (by omega); clear ht6 hg6)) | (go_simp; have h := HN4; clear h; go_at_call 11; refine (next_c B gt _ 9 _ HN4.out.tape (by omega) (by omega) (by omega)).mono ?_; rintro e w5 ⟨r1, hr1, rfl, ht5, hg5⟩; have HN5 := Lib.hid (HN4.out.next_ ht5 hg5); have e05 : w5.cell? ⟨G0 + 1, 0, none⟩ = some (.slice Ab m cb) := (by rw [← hl]; exact HN5.out.c.1); have hw1 : IntKind.i64.wrap ((r1 : Int) - 4) = (r1 : Int) - 4 := IntWalk.i64_in _ (by omega); clear ht5 hg5) | (go_simp; go_at_call 43; refine (HD.out _).mono ?_; rintro e w4 ⟨rfl, hb4⟩; have HN4 := Lib.hid (H.out.drew.keep hb4); have e04 : w4.cell? ⟨G0 + 1, 0, none⟩ = some (.slice Ab m cb) := (by rw [← hl]; exact HN4.out.c.1); clear hb4))
        all_goals
          have HP : Hid (NS w B gt (T + 1 + 2 * (m + 1)) G0 (G0 + 1) (G0 + 2) ⟨l ++ [⟨bnm m, (r1 : Int) - 4, (r2 : Int) - 4⟩], List.replicate m [], [], [], 0, 0, 0, 0⟩ (some ⟨gg, 0, none⟩) An none none cap cn 0 0 (wn.setCell ⟨G0 + 1, 0, none⟩ (.slice (some ⟨gg, 0, none⟩) (m + 1) cap))) := Lib.hid (by
            have h1 := HGR.out
            have h2 := HOW.out
            have h3 := HN6.out
            subst hl
            exact h3.pushBlock (x := ⟨bnm l.length, (r1 : Int) - 4, (r2 : Int) - 4⟩) h1 h2)
          clear HGR HOW HN6 HN5 HN4 HBL HBB HSA HE6 e06 e06a e05 e04 z1 z2
          go_wp2_with fail
          go_meet
          case rel => exact ⟨rfl, _, _, _, rfl, ⟨by simp only; omega, by simp only; omega, by simp only; omega, by simp only; omega⟩, HP⟩
      case rest =>
        obtain ⟨rfl, Ab2, cb2, x, hxn, hxb, HP⟩ := hcut
        clear H e0 e1 HD hcat hdl
        obtain ⟨vs, v1, v2, v3⟩ := HP.out.next
        have hrl : (List.replicate m ([] : List Int)).length = m := by simp
        have f1 : wc.cell? ⟨G0 + 1, 1, none⟩ = some (.slice An m cn) := by have := HP.out.c.2.1; simp only [hrl] at this; exact this
        have f1a : ∀ ob, (wc.alloc ob).cell? ⟨G0 + 1, 1, none⟩ = some (.slice An m cn) := fun ob => alloc_cells f1 ob
        have v2' : wc.ownsRow (G0 + 2) 25 1 (.slice An m cn) m vs := by simp only [hrl] at v2; exact v2
        have HV : Hid (∀ ob, (wc.alloc ob).ownsRow (G0 + 2) 25 1 (.slice An m cn) m vs) := Lib.hid (fun ob => v2'.alloc ob)
        have HVB : Hid (∀ k, (Value.slice An m cn).ownBlock = some k → G0 + 2 ≤ k) := Lib.hid (fun k hk => (ownN_type v2' hk).2)
        have HSA : Hid (∀ ob, G0 + 2 ≤ (wc.alloc ob).heap.size) := Lib.hid (fun ob => (HP.out.alloc ob).size)
        have HPush : Hid (∀ (gg cap : Nat) (o : Obj) (w' : World), (wc.alloc o).grownBy w' (Value.slice An m cn).ownBlock → w'.ownsRow (G0 + 2) 25 1 (.slice (some ⟨gg, 0, none⟩) (m + 1) cap) (m + 1) (vs ++ [.slice none 0 0]) → NS w B gt (T + 1 + 2 * (m + 1)) G0 (G0 + 1) (G0 + 2) ⟨l ++ [x], List.replicate (m + 1) [], [], [], 0, 0, 0, 0⟩ Ab2 (some ⟨gg, 0, none⟩) none none cb2 cap 0 0 (w'.setCell ⟨G0 + 1, 1, none⟩ (.slice (some ⟨gg, 0, none⟩) (m + 1) cap))) := Lib.hid (fun gg cap o w' a1 a2 => by
          have h3 := HP.out.pushNext (gg := gg) (cap := cap) (o := o) (w' := w') v1 v2 v3 (by simp only [hrl]; exact a1) (by simp only [hrl]; exact a2)
          rw [List.replicate_succ']
          simp only [hrl] at h3
          exact h3)
        have hxl : (l ++ [x]).length = m + 1 := by simp [hl]
        have HB2 : Hid (MadeB (l ++ [x])) := Lib.hid (by
          have h3 := HB.out.push (by omega) ⟨hxb.1, hxb.2.1⟩ ⟨hxb.2.2.1, hxb.2.2.2⟩
          rw [hl, ← hxn] at h3
          exact h3)
        obtain ⟨j0, hj, hj0, hj1, hj2⟩ := info_parts Try.infoRowG
        clear v1 v2 v3 v2' hrl HB hxn hxb
        go_wp2_with (at_builtin; refine wpList_append_lies _ rfl _ _ 23 rfl (G0 + 2) 25 j0 (.slice none 0 0) 1 24 Try.underlying23 hj hj0 hj1 hj2 rfl (by omega) (.slice An m cn) m vs (by rfl) (HV.out _) ⟨_, 0, none⟩ 1 1 [.slice none 0 0] (by rfl) (by rfl) (World.news_of_block (cs := #[.slice none 0 0]) (t := 25) (fr := (0, 0)) (heap_alloc_new _ _)) (by simp [Value.oneCell']) (by omega) (by unfold maxLen; omega) (by omega) (HSA.out _) _ rfl ?_)
        intro gg cap wn hown hgrow hat hlt
        obtain ⟨z1, z2⟩ := HP.out.behind HVB.out hgrow 1
        rw [f1] at z1
        have HQ := Lib.hid (HPush.out gg cap _ wn hgrow hown)
        clear hown hgrow hat hlt HP HPush HV HVB HSA f1 f1a
        go_wp2
        go_roundw
        case rel => exact ⟨k - 1, m + 1, Ab2, some ⟨gg, 0, none⟩, cb2, cap, l ++ [x], by go_num, by omega, hxl, HB2, HQ⟩
        case measure => simp [intOf]; omega
    · obtain rfl : k = 0 := by omega
      have hm0 : 1 ≤ m ∧ m ≤ 8 := by omega
      have hmm : m ≤ most := by omega
      have hrl : (List.replicate m ([] : List Int)).length = m := by simp
      obtain ⟨q, rfl⟩ := H.out.head (by simp only [hrl]; omega)
      have hrn : RowsOwn wr (G0 + 2) (.slice (some ⟨q, 0, none⟩) m cn) (List.replicate m []) := by have := H.out.next; simp only [hrl] at this; exact this
      have e0' : wr.cell? ⟨G0 + 1, 0, none⟩ = some (.slice Ab m cb) := by simp only [hl] at e0; exact e0
      have e1' : wr.cell? ⟨G0 + 1, 1, none⟩ = some (.slice (some ⟨q, 0, none⟩) m cn) := by simp only [hrl] at e1; exact e1
      have hord := H.out.ord
      have CR := Lib.hid (ring_c B gt _ (G0 + 1) (G0 + 2) q cn m cb Ab (List.replicate m []) wr H.out.tape (by omega) e0' e1' hrn (grOk_empty m) (fun r hr => by rw [List.eq_of_mem_replicate hr]; simp) (by omega) (by omega) (by omega) (by omega) (by omega) (by omega))
      have HNx := Lib.hid (fun (w' : World) (g : GraphD) (T' : Nat) (a : g.length = m) b c d => H.out.ring (w' := w') (g := g) (T' := T') (by simp only [hrl]; exact a) b c d)
      clear e0 e1 e0' e1' hrn hkm
      go_wp2_with fail
      refine CR.out.mono ?_
      rintro e w2 ⟨rfl, g, hg, ho, hr2, ht2, hf2⟩
      have HG := Lib.hid hg
      have HOu := Lib.hid ho
      have HN0 := HNx.out w2 g _ hg.len (by simp only [hrl]; exact hr2) ht2 hf2
      have H2 := Lib.hid HN0
      clear CR HNx HN0 hr2 ht2 hf2 H hg ho hrl
      obtain ⟨b, hb⟩ : ∃ b, b = m := ⟨_, rfl⟩
      have hgb : g.length = b := by rw [hb]; exact HG.out.len
      have hlb : l.length = b := by rw [hb]; exact hl
      rw [← hb] at hm0 hmm HG
      obtain ⟨T2, hT2⟩ : ∃ T2, Hid (NS w B gt T2 G0 (G0 + 1) (G0 + 2) ⟨l, g, [], [], 0, 0, 0, 0⟩ Ab (some ⟨q, 0, none⟩) none none cb cn 0 0 w2) ∧ T2 ≤ T + 50 := ⟨_, H2, by omega⟩
      clear H2 hl hb hk8
      clear hk0
      obtain ⟨H2, hT2⟩ := hT2
      have f0 : w2.cell? ⟨G0 + 1, 0, none⟩ = some (.slice Ab b cb) := by have := H2.out.c.1; simp only [hlb] at this; exact this
      go_wp2_with fail
      refine (next_c B gt _ 3 _ H2.out.tape (by omega) (by omega) (by omega)).mono ?_
      rintro e w3 ⟨k1, hk1, rfl, ht3, hg3⟩
      have H3 := Lib.hid (H2.out.next_ ht3 hg3)
      clear ht3 hg3 H2 f0
      go_wp2
      go_loopw [8, 9] (fun zv kv wr => ∃ (k m : Nat) (z : Int) (As : Option Addr) (cs : Nat) (ls : List SpurD), zv = .int .i64 z ∧ kv = .int .i64 k ∧ k + m = k1 + 3 ∧ ls.length = m ∧ Hid (MadeS b ls) ∧ Hid (z = b + slotsK ls ls.length) ∧ Hid (NS w B gt (T2 + 1 + 5 * m) G0 (G0 + 1) (G0 + 2) ⟨l, g, ls, [], 0, 0, 0, 0⟩ Ab (some ⟨q, 0, none⟩) As none cb cn cs 0 wr)) (fun _ kv _ => (intOf kv).toNat)
      case atStart => exact ⟨k1 + 3, 0, _, none, 0, [], rfl, by go_num, rfl, rfl, Lib.hid (MadeS.nil b), Lib.hid (by simp [slotsK]), H3⟩
      case round =>
        clear H3
        obtain ⟨k, m, z, As, cs, ls, rfl, rfl, hkm, hls, HS, HZ, H⟩ := hrel
        have f2 : wr.cell? ⟨G0 + 1, 2, none⟩ = some (.slice As m cs) := by have := H.out.c.2.2.1; simp only [hls] at this; exact this
        by_cases hk : 0 < k
        · have hm5 : m < 5 := by omega
          have hzb : 0 ≤ z ∧ z ≤ 100 := by
            have hz := HZ.out
            have h1 := slotsK_bounds (l := ls) (fun s hs => by have := (HS.out.ok s hs).slots; omega) ls.length (Nat.le_refl _)
            omega
          go_wp2_with fail
          refine netSpur w wr B gt _ G0 b cb cn cs m z Ab (some ⟨q, 0, none⟩) As l g ls _ _ _ _ _ _ _ _ _ _ _ _ _ _ _ _ _ _ _ _ _ _ _ _ _ _ _ _ _ _ _ _ _ _ _ _ _ _ _ _ _ _ _ _ _ _ _ _ _ _ _ _ _ _ _ _ _ _ _ _ _ _ _ _ _ _ _ _ _ _ _ _ _ _ _ _ _ _ _ _ _ _ _ _ _ _ _ _ _ _ _ _ _ _ _ _ _ _ _ _ _ _ _ _ _ _ _ _ _ _ _ _ _ _ _ _ _ _ _ _ _ _ _ _ _ _ _ _ _ _ _ _ _ _ _ _ _ _ _ _ _ _ _ _ _ _ _ _ _ _ _ _ _ _ _ _ _ _ _ _ _ _ _ _ _ _ _ _ _ _ _ _ _ _ _ _ _ _ _ _ _ _ _ _ _ _ _ _ (by omega) hlb hm0 hm5 H.out ?_
          intro Y s W v65 v66 v67 v68 v69 v70 v71 v72 v73 v74 v75 v76 v77 v78 v79 v80 v81 v82 v83 v84 v85 v86 v87 v88 v89 v90 v91 v92 v93 hsn hso hsb hsd HY HN
          clear H f2
          have hso4 := hso.slots
          have HSx : Hid (s.name = snm m ∧ SpurOk b s ∧ s.base = z ∧ (m = 0 → s.depot = true)) := Lib.hid ⟨hsn, hso, hsb, hsd⟩
          clear hsn hso hsb hsd
          obtain ⟨y0, y1, y2, y3, y4, y5⟩ := SpurBlk.cells (s0 := 0) ⟨HY.out, Nat.zero_le _⟩
          have f2 : W.cell? ⟨G0 + 1, 2, none⟩ = some (.slice As m cs) := by have := HN.out.c.2.2.1; simp only [hls] at this; exact this
          have f2a : ∀ ob, (W.alloc ob).cell? ⟨G0 + 1, 2, none⟩ = some (.slice As m cs) := fun ob => alloc_cells f2 ob
          have HSp : Hid (∀ ob, (W.alloc ob).ownsRow (G0 + 2) 66 6 (.slice As m cs) m (spurCells ls)) := Lib.hid (by rw [← hls]; exact fun ob => (HN.out.alloc ob).spurs)
          have HVB : Hid (∀ k, (Value.slice As m cs).ownBlock = some k → G0 + 2 ≤ k) := Lib.hid (by rw [← hls]; exact fun k hk => (ownN_type HN.out.spurs hk).2)
          have HSA : Hid (∀ ob, G0 + 2 ≤ (W.alloc ob).heap.size) := Lib.hid (fun ob => (HN.out.alloc ob).size)
          have HPush : Hid (∀ (gg cap : Nat) (o : Obj) (w' : World), (W.alloc o).grownBy w' (Value.slice As m cs).ownBlock → w'.ownsRow (G0 + 2) 66 6 (.slice (some ⟨gg, 0, none⟩) (m + 1) cap) (m + 1) (spurCells ls ++ [Sv s.name, Bo s.depot, Iv s.inn, Iv s.out, Iv s.slots, Iv s.base]) → NS w B gt (T2 + 1 + 5 * (m + 1)) G0 (G0 + 1) (G0 + 2) ⟨l, g, ls ++ [s], [], 0, 0, 0, 0⟩ Ab (some ⟨q, 0, none⟩) (some ⟨gg, 0, none⟩) none cb cn cap 0 (w'.setCell ⟨G0 + 1, 2, none⟩ (.slice (some ⟨gg, 0, none⟩) (m + 1) cap))) := Lib.hid (fun gg cap o w' a1 a2 => by
            have h3 := HN.out.pushSpur (x := s) (gg := gg) (cap := cap) (o := o) (w' := w') (by simp only [hls]; exact a1) (by simp only [hls]; exact a2)
            simp only [hls] at h3
            exact h3.more (by omega))
          have hsl : (ls ++ [s]).length = m + 1 := by simp [hls]
          have HS2 : Hid (MadeS b (ls ++ [s])) := Lib.hid (by
            obtain ⟨hsn, hso, hsb, hsd⟩ := HSx.out
            exact HS.out.push (by omega) (by rw [hls]; exact hsn) hso (by rw [hsb]; exact HZ.out) (by rw [hls]; exact hsd))
          have HZ2 : Hid (z + s.slots = b + slotsK (ls ++ [s]) (ls ++ [s]).length) := Lib.hid (by rw [slotsK_push, HZ.out]; omega)
          have hwz : IntKind.i64.wrap (z + s.slots) = z + s.slots := IntWalk.i64_in _ (by omega)
          obtain ⟨j0, hj, hj0, hj1, hj2⟩ := info_parts Try.infoSpurN
          clear HY HS HZ HSx
          obtain ⟨sn, sd, si, so, sl, sb⟩ := s
          simp only at y0 y1 y2 y3 y4 y5 hso4 HPush HS2 HZ2 hwz hsl
          go_wp2_with (at_builtin; refine wpList_append_lies _ rfl _ _ 24 rfl (G0 + 2) 66 j0 (.agg #[.string ByteArray.empty, .bool false, .int .i64 0, .int .i64 0, .int .i64 0, .int .i64 0]) 6 56 Try.underlying24 hj hj0 hj1 hj2 rfl (by omega) (.slice As m cs) m (spurCells ls) (by rfl) (HSp.out _) ⟨_, 0, none⟩ 1 1 [Sv sn, Bo sd, Iv si, Iv so, Iv sl, Iv sb] (by rfl) (by rfl) (World.news_of_block (cs := #[Sv sn, Bo sd, Iv si, Iv so, Iv sl, Iv sb]) (t := 66) (fr := (0, 0)) (heap_alloc_new _ _)) (by simp [Value.oneCell']) (by omega) (by unfold maxLen; omega) (by omega) (HSA.out _) _ rfl ?_)
          intro gg cap wn hown hgrow hat hlt
          obtain ⟨z1, z2⟩ := HN.out.behind HVB.out hgrow 2
          rw [f2] at z1
          have HQ := Lib.hid (HPush.out gg cap _ wn hgrow hown)
          clear hown hgrow hat hlt HN HPush HVB HSp HSA f2 f2a y0 y1 y2 y3 y4 y5
          go_wp2
          go_roundw
          case rel => exact ⟨k - 1, m + 1, z + sl, some ⟨gg, 0, none⟩, cap, _, rfl, by go_num, by omega, hsl, HS2, HZ2, HQ⟩
          case measure => simp [intOf]; omega
        · obtain rfl : k = 0 := by omega
          have hm35 : 3 ≤ m ∧ m ≤ 5 := by omega
          obtain ⟨T3, H3, hT3⟩ : ∃ T3, Hid (NS w B gt T3 G0 (G0 + 1) (G0 + 2) ⟨l, g, ls, [], 0, 0, 0, 0⟩ Ab (some ⟨q, 0, none⟩) As none cb cn cs 0 wr) ∧ T3 ≤ T + 100 := ⟨_, H, by omega⟩
          clear H hT2 HZ hkm hk1 f2
          go_wp2_with fail
          refine (next_c B gt _ 4 _ H3.out.tape (by omega) (by omega) (by omega)).mono ?_
          rintro e w4 ⟨r4, hr4, rfl, ht4, hg4⟩
          have H4 := Lib.hid (H3.out.next_ ht4 hg4)
          clear ht4 hg4 H3
          go_wp2_with fail
          refine (next_c B gt _ 3 _ H4.out.tape (by omega) (by omega) (by omega)).mono ?_
          rintro e w5 ⟨r5, hr5, rfl, ht5, hg5⟩
          have H5 := Lib.hid (H4.out.next_ ht5 hg5)
          clear ht5 hg5 H4
          go_wp2_with fail
          refine (next_c B gt _ 3 _ H5.out.tape (by omega) (by omega) (by omega)).mono ?_
          rintro e w6 ⟨r6, hr6, rfl, ht6, hg6⟩
          have H6 := Lib.hid (H5.out.next_ ht6 hg6)
          clear ht6 hg6 H5
          go_wp2_with fail
          refine (next_c B gt _ 8 _ H6.out.tape (by omega) (by omega) (by omega)).mono ?_
          rintro e w7 ⟨r7, hr7, rfl, ht7, hg7⟩
          have H7 := Lib.hid (H6.out.next_ ht7 hg7)
          clear ht7 hg7 H6
          have hw4 : IntKind.i64.wrap (1 + (r4 : Int)) = 1 + (r4 : Int) := IntWalk.i64_in _ (by omega)
          have hw7 : IntKind.i64.wrap (1 + (r7 : Int)) = 1 + (r7 : Int) := IntWalk.i64_in _ (by omega)
          have H8 := Lib.hid (H7.out.config (q := 1 + (r4 : Int)) (a := (r5 : Int)) (d := (r6 : Int)) (p := 1 + (r7 : Int)))
          have hok : NetOk ⟨l, g, ls, [], 1 + (r4 : Int), (r5 : Int), (r6 : Int), 1 + (r7 : Int)⟩ := made_ok (by simpa using HB.out) (by simp only [hlb]; omega) (by simp only [hlb, hgb]) (by simp only [hlb]; exact HG.out) HOu.out (by simp only [hlb]; exact HS.out) (by simp only [hls]; omega) ⟨by simp only; omega, by simp only; omega, by simp only; omega, by simp only; omega⟩ (by simp) (by simp) (by simp)
          have HOk := Lib.hid hok
          have CF : Hid (∀ W, NS w B gt (T3 + 1 + 1 + 1 + 1) G0 (G0 + 1) (G0 + 2) ⟨l, g, ls, [], 1 + (r4 : Int), (r5 : Int), (r6 : Int), 1 + (r7 : Int)⟩ Ab (some ⟨q, 0, none⟩) As none cb cn cs 0 W → Calls Try.prog 45 #[.agg #[.slice Ab b cb, .slice (some ⟨q, 0, none⟩) b cn, .slice As m cs, .slice none 0 0, Iv (1 + (r4 : Int)), Iv r5, Iv r6, Iv (1 + (r7 : Int))]] W (FleetPost W ⟨l, g, ls, [], 1 + (r4 : Int), (r5 : Int), (r6 : Int), 1 + (r7 : Int)⟩)) := Lib.hid (fun W hW => by
            have h := fleet_c Ab (some ⟨q, 0, none⟩) As none cb cn cs 0 ⟨l, g, ls, [], 1 + (r4 : Int), (r5 : Int), (r6 : Int), 1 + (r7 : Int)⟩ W hW.at_ hok (by simp)
            simp only [hlb, hgb, hls] at h
            exact h)
          clear hok
          obtain ⟨x0, x1, x2, x3, x4, x5, x6, x7⟩ := boxAt_of H7.out.box
          simp only [hlb, hgb, hls, List.length_nil] at x0 x1 x2 x3
          have fz4 := H7.out.f 4
          have fz5 := H7.out.f 5
          have fz6 := H7.out.f 6
          have fz7 := H7.out.f 7
          go_wp2_with fail
          refine (CF.out _ H8.out).mono ?_
          rintro e w8 ⟨v, rfl, own8, hb8⟩
          have H9 := Lib.hid (H8.out.keep hb8)
          obtain ⟨Ac, cc, rfl, _⟩ := own_is own8
          have hcs := cap_small (N := ⟨l, g, ls, [], 1 + (r4 : Int), (r5 : Int), (r6 : Int), 1 + (r7 : Int)⟩) HOk.out
          obtain ⟨cp, hcp⟩ : ∃ cp, cp = capN (girN ⟨l, g, ls, [], 1 + (r4 : Int), (r5 : Int), (r6 : Int), 1 + (r7 : Int)⟩).length (slotsN ⟨l, g, ls, [], 1 + (r4 : Int), (r5 : Int), (r6 : Int), 1 + (r7 : Int)⟩) := ⟨_, rfl⟩
          have HCap : Hid (capN (girN ⟨l, g, ls, [], 1 + (r4 : Int), (r5 : Int), (r6 : Int), 1 + (r7 : Int)⟩).length (slotsN ⟨l, g, ls, [], 1 + (r4 : Int), (r5 : Int), (r6 : Int), 1 + (r7 : Int)⟩) = cp) := Lib.hid hcp.symm
          have HCp1 : Hid (1 ≤ cp) := Lib.hid (by rw [hcp]; exact cap_one HOk.out)
          rw [← hcp] at hcs ⊢
          obtain ⟨hcp0, hcp24, hcps⟩ := hcs
          have HCp := Lib.hid hcps
          clear hcp hcps
          generalize (girN ⟨l, g, ls, [], 1 + (r4 : Int), (r5 : Int), (r6 : Int), 1 + (r7 : Int)⟩).length = gl
          obtain ⟨sl, hsl⟩ : ∃ sl, sl = slotsN ⟨l, g, ls, [], 1 + (r4 : Int), (r5 : Int), (r6 : Int), 1 + (r7 : Int)⟩ := ⟨_, rfl⟩
          rw [← hsl] at HCp ⊢
          have HSl := Lib.hid hsl
          clear own8 hb8 CF hsl x0 x1 x2 x3 x4 x5 x6 x7 fz4 fz5 fz6 fz7 H7 H8 hw4 hw7
          go_wp2_with fail
          refine (next_c B gt _ 3 _ (H9.out.alloc (.cells #[.int .i64 gl, .slice Ac gl cc, .int .i64 sl, .int .i64 cp] 91)).tape (by omega) (by omega) (by omega)).mono ?_
          rintro e w9 ⟨r9, hr9, rfl, ht9, hg9⟩
          have H10 := Lib.hid ((H9.out.alloc (.cells #[.int .i64 gl, .slice Ac gl cc, .int .i64 sl, .int .i64 cp] 91)).next_ ht9 hg9)
          have hc9 : G0 + 2 ≤ w8.heap.size := H9.out.size
          have hc10 : w8.heap.size < w9.heap.size := by have := hg9.size; simp at this; omega
          have HC : Hid (w9.heap[w8.heap.size]? = some (.cells #[.int .i64 gl, .slice Ac gl cc, .int .i64 sl, .int .i64 cp] 91 (0, 0))) := Lib.hid ((hg9.block _ (by simp) (fun e => by injection e with e; omega)).trans (heap_alloc_new w8 _))
          clear ht9 hg9 H9
          obtain ⟨T4, H11, hT4⟩ : ∃ T4, Hid (NS w B gt T4 G0 (G0 + 1) (G0 + 2) ⟨l, g, ls, [], 1 + (r4 : Int), (r5 : Int), (r6 : Int), 1 + (r7 : Int)⟩ Ab (some ⟨q, 0, none⟩) As none cb cn cs 0 w9) ∧ T4 ≤ T + 120 := ⟨_, H10, by omega⟩
          clear H10 hT3
          obtain ⟨C, hC⟩ : ∃ C, C = w8.heap.size := ⟨_, rfl⟩
          rw [← hC] at HC hc9 hc10 ⊢
          clear hC
          have HR0 := Lib.hid (H11.out.nr rfl rfl rfl)
          have HSp : Hid (∀ W, Fro gt (G0 + 1) w9 W → Holds W As (spurCells ls)) := Lib.hid (fun W hW => ownsRow_holds (ownN_to H11.out.spurs fun k hk hlt => hW.block k hlt (by have := (ownN_type H11.out.spurs hk).2; omega) (by have := (ownN_type H11.out.spurs hk).2; omega)))
          have HCc : Hid (∀ W, Fro gt (G0 + 1) w9 W → W.cell? ⟨C, 3, none⟩ = some (Iv cp)) := Lib.hid (fun W hW => hW.cell (by rw [cell_of_row w9 C 3 _ _ _ HC.out]; rfl) (by omega) (by omega))
          clear HC
          have hG09 : G0 + 2 ≤ w9.heap.size := by omega
          go_wp2
          go_loopw [14] (fun kv wr => ∃ (k : Nat) (rb : List Int) (Ar : Option Addr) (cr : Nat), kv = .int .i64 k ∧ k + rb.length = r9 + 1 ∧ (rb.length : Int) ≤ cp ∧ Hid (∀ x ∈ rb, inDepot ls x) ∧ Hid rb.Nodup ∧ Hid (NR w9 B gt (T4 + rb.length) (G0 + 1) ⟨l, g, ls, [], 1 + (r4 : Int), (r5 : Int), (r6 : Int), 1 + (r7 : Int)⟩ Ab (some ⟨q, 0, none⟩) As cb cn cs rb Ar cr wr)) (fun kv _ => (intOf kv).toNat)
          case atStart => exact ⟨r9 + 1, [], none, 0, by go_num, rfl, by simpa using hcp0, Lib.hid (by simp), Lib.hid (by simp), HR0⟩
          case round =>
            clear HR0
            obtain ⟨k, rb, Ar, cr, rfl, hkr, hrc, HD, HNd, HR⟩ := hrel
            obtain ⟨c2, c3, f3⟩ := HR.out.cells
            simp only [hls] at c2
            have kc := HCc.out _ HR.out.fro
            have hr3 : rb.length ≤ 3 := by omega
            by_cases hgo : 0 < k ∧ (rb.length : Int) < cp
            · obtain ⟨hk, hrc2⟩ := hgo
              generalize wr = wm at *
              have hmsz : G0 + 1 < wm.heap.size := by have := HR.out.fro.size; omega
              have HSw := Lib.hid (HSp.out _ HR.out.fro)
              have HRb : Hid (∀ W, Below wm.heap.size wm W → Holds W Ar (rb.map Iv)) := Lib.hid (fun W hW => (ownsRow_holds HR.out.robots).keep hW)
              have HCell : Hid (∀ W, Below wm.heap.size wm W → W.cell? ⟨G0 + 1, 2, none⟩ = some (.slice As m cs) ∧ W.cell? ⟨G0 + 1, 3, none⟩ = some (.slice Ar rb.length cr)) := Lib.hid (fun W hW => ⟨(hW.cell (p := ⟨G0 + 1, 2, none⟩) hmsz).trans c2, (hW.cell (p := ⟨G0 + 1, 3, none⟩) hmsz).trans c3⟩)
              have HSl4 : Hid (∀ s ∈ ls, s.slots ≤ 4) := Lib.hid (fun s hs => by have := (HS.out.ok s hs).slots; omega)
              have HFl : Hid (∀ i, i ≤ m → (freeK ls rb i).length ≤ 4 * i) := Lib.hid (by rw [← hls]; exact freeK_length HSl4.out)
              go_wp2
              go_loopw [15, 16] (fun fv iv wr => ∃ i : Nat, iv = .int .i64 i ∧ i ≤ m ∧ Hid (wr.ownsRow wm.heap.size 3 1 fv (freeK ls rb i).length ((freeK ls rb i).map Iv)) ∧ Hid (Below wm.heap.size wm wr)) (fun _ iv _ => m - (intOf iv).toNat)
              case atStart => exact ⟨0, rfl, Nat.zero_le _, Lib.hid (World.ownsRow_nil _ _ _ _), Lib.hid (Below.refl _ _)⟩
              case round =>
                obtain ⟨i, rfl, him, HO, HB2⟩ := hrel
                obtain ⟨e2, e3⟩ := HCell.out _ HB2.out
                by_cases hi : i < m
                · have hil : i < ls.length := by omega
                  obtain ⟨bs, os, hAs, hbl, hsp⟩ := HSw.out.spur hil
                  have HKp : Hid (∀ W, Below wm.heap.size wm W → SpurAt W bs (os + i * 6) ls[i]) := Lib.hid (fun W hW => hsp.keep hbl hW)
                  have HFs := Lib.hid (freeK_succ (rb := rb) hil)
                  have hfl := HFl.out i (by omega)
                  have hso := (HS.out.ok _ (List.getElem_mem hil)).slots
                  have hsb : 0 ≤ ls[i].base ∧ ls[i].base ≤ 100 := by
                    have h1 := HS.out.bases i hil
                    have h2 := slotsK_bounds (l := ls) (fun s hs => by have := (HS.out.ok s hs).slots; omega) i (by omega)
                    omega
                  clear hsp
                  subst hAs
                  generalize hg2 : freeK ls rb (i + 1) = fr2 at *
                  have HG2 := Lib.hid hg2
                  clear hg2
                  generalize freeK ls rb i = fr at *
                  generalize ls[i] = s at *
                  obtain ⟨nm, dp, si, so, sw, sb⟩ := s
                  simp only at hso hsb
                  have hk1 := HKp.out _ HB2.out
                  obtain ⟨k0', k1', k2', k3', k4', k5'⟩ := hk1
                  simp only at k1' k4' k5'
                  clear k0' k2' k3'
                  rcases dp with _ | _
                  · have hfr : fr2 = fr := by rw [HFs.out]; simp [cellsS]
                    subst hfr
                    go_wp2
                    refine wp_loop_rounds 1 ?_
                    rw [rounds_succ]
                    go_wp2
                    go_roundw
                    case rel => exact ⟨i + 1, by go_num, by omega, by rw [HG2.out]; exact HO, HB2⟩
                    case measure => simp [intOf]; omega
                  · have hfr : fr2 = fr ++ partF rb sb sw.toNat := by rw [HFs.out, partF_all]
                    clear HFs
                    generalize wr = wi at *
                    go_wp2
                    go_loopw [15, 17] (fun fv jv wr => ∃ j : Nat, jv = .int .i64 j ∧ (j : Int) ≤ sw ∧ Hid (wr.ownsRow wm.heap.size 3 1 fv (fr ++ partF rb sb j).length ((fr ++ partF rb sb j).map Iv)) ∧ Hid (Below wm.heap.size wm wr)) (fun _ jv _ => sw.toNat - (intOf jv).toNat)
                    case atStart => exact ⟨0, rfl, by omega, by simpa [partF] using HO, HB2⟩
                    case round =>
                      clear HO HB2 e2 e3 k1' k4' k5'
                      obtain ⟨j, rfl, hjs, HO, HB2⟩ := hrel
                      obtain ⟨e2, e3⟩ := HCell.out _ HB2.out
                      obtain ⟨k0', k1', k2', k3', k4', k5'⟩ := HKp.out _ HB2.out
                      simp only at k1' k4' k5'
                      clear k0' k2' k3'
                      by_cases hj : (j : Int) < sw
                      · have hwx : IntKind.i64.wrap (sb + (j : Int)) = sb + (j : Int) := IntWalk.i64_in _ (by omega)
                        have CH := Lib.hid (has_c Ar cr rb (sb + (j : Int)) wr (HRb.out _ HB2.out) (by omega))
                        by_cases hin : sb + (j : Int) ∈ rb
                        · rw [decide_eq_true hin] at CH
                          have HO2 : Hid (∀ fv : Value, wr.ownsRow wm.heap.size 3 1 fv (fr ++ partF rb sb j).length ((fr ++ partF rb sb j).map Iv) → wr.ownsRow wm.heap.size 3 1 fv (fr ++ partF rb sb (j + 1)).length ((fr ++ partF rb sb (j + 1)).map Iv)) := Lib.hid (by rw [partF_in hin]; exact fun _ h => h)
                          clear hin
                          go_wp2_with fail
                          refine CH.out.mono ?_
                          rintro e wj ⟨rfl, rfl⟩
                          go_wp2
                          go_roundw
                          case rel => exact ⟨j + 1, by go_num, by omega, Lib.hid (HO2.out _ HO.out), HB2⟩
                          case measure => simp [intOf]; omega
                        · rw [decide_eq_false hin] at CH
                          have hpl := partF_length rb sb j
                          have hlen : (fr ++ partF rb sb j).length ≤ 100 := by rw [List.length_append]; omega
                          have HO2 : Hid (∀ (fv : Value) (W : World), W.ownsRow wm.heap.size 3 1 fv ((fr ++ partF rb sb j).length + 1) ((fr ++ partF rb sb j).map Iv ++ [Iv (sb + (j : Int))]) → W.ownsRow wm.heap.size 3 1 fv (fr ++ partF rb sb (j + 1)).length ((fr ++ partF rb sb (j + 1)).map Iv)) := Lib.hid (fun fv W h => by
                            rw [partF_out hin, ← List.append_assoc, List.map_append, List.length_append]
                            exact h)
                          have HBase := Lib.hid (fun k hk => (ownN_type HO.out (k := k) hk).2)
                          have hbz := HB2.out.size
                          clear hin
                          generalize fr ++ partF rb sb j = cur at *
                          go_wp2_with fail
                          refine CH.out.mono ?_
                          rintro e wj ⟨rfl, rfl⟩
                          go_wp2_with (at_builtin; refine app_int _ rfl _ _ rfl wm.heap.size _ _ _ rfl (HO.out.alloc _) _ (sb + (j : Int)) rfl (by rw [cell_of_row _ _ 0 _ _ _ (heap_alloc_new wr _)]; rfl) (by omega) (by simp; omega) ?_)
                          intro v' wn ho hgn
                          have HN1 := Lib.hid (HO2.out _ _ ho)
                          have HN2 : Hid (Below wm.heap.size wm wn) := Lib.hid ((HB2.out.alloc hbz _).grown hgn (by simp; omega) (fun k hk => HBase.out k hk))
                          clear ho hgn HO HB2 HO2 HBase CH
                          go_wp2
                          go_roundw
                          case rel => exact ⟨j + 1, by go_num, by omega, HN1, HN2⟩
                          case measure => simp [intOf]; omega
                      · obtain rfl : j = sw.toNat := by omega
                        have hje : ((sw.toNat : Nat) : Int) = sw := by omega
                        rw [← hfr] at HO
                        go_wp2
                        go_roundw
                        case rel => exact ⟨i + 1, by go_num, by omega, by rw [HG2.out]; exact HO, HB2⟩
                        case measure => simp [intOf]; omega
                · obtain rfl : i = m := by omega
                  clear hi
                  have hpos : 0 < (freeK ls rb i).length := by
                    have h := free_some (N := ⟨l, g, ls, [], 1 + (r4 : Int), (r5 : Int), (r6 : Int), 1 + (r7 : Int)⟩) (by simp only [hlb]; exact HS.out) (rb := rb) (by have := HCp.out; rw [← HSl.out]; omega)
                    simp only [hls] at h
                    exact h
                  have HMem : Hid (∀ x ∈ freeK ls rb i, inDepot ls x ∧ x ∉ rb) := Lib.hid (fun x hx => by
                    obtain ⟨⟨s, h1, h2, h3, h4⟩, h5⟩ := freeK_mem.1 hx
                    exact ⟨⟨s, List.mem_of_mem_take h1, h2, h3, h4⟩, h5⟩)
                  have hfl := HFl.out i (Nat.le_refl _)
                  obtain ⟨F, fc, rfl, hFb, hFn⟩ := own_at HO.out hpos
                  have HRw := Lib.hid ((HR.out.keep HB2.out).keep (w' := wr.drew) (Below.refl _ _).drew)
                  have hwsz := HB2.out.size
                  have HRo := Lib.hid HRw.out.robots
                  generalize freeK ls rb i = fr at *
                  have e3d : wr.drew.cell? ⟨G0 + 1, 3, none⟩ = some (.slice Ar rb.length cr) := e3
                  have HOd : Hid (wr.drew.ownsRow wm.heap.size 3 1 (.slice (some ⟨F, 0, none⟩) fr.length fc) fr.length (fr.map Iv)) := Lib.hid (ownN_to HO.out fun k _ _ => rfl)
                  obtain ⟨j0, hj0, hz0, hz1, hz2⟩ := info_parts Try.infoIntG
                  have hw9m : w9.heap.size ≤ wm.heap.size := HR.out.fro.size
                  clear HO HCell HRb HSw
                  have HDi : Hid (∀ x ∈ rb, inDepot ls x) := HD
                  go_wp2_with fail
                  go_region_law (first | (refine step_append_lies _ (by rfl) _ _ _ (by rfl) w9.heap.size 3 j0 (.int .i64 0) 1 8 Try.underlying25 hj0 hz0 hz1 hz2 rfl (by omega) (.slice Ar rb.length cr) rb.length (rb.map Iv) (by rfl) (HRob.out _) ⟨_, 0, none⟩ 1 1 [Iv x] (by rfl) (by rfl) (World.news_of_block (cs := #[Iv x]) (t := 3) (fr := (0, 0)) (heap_alloc_new _ _)) (by simp [Value.oneCell']) (by omega) (by unfold maxLen; omega) (by omega) (HSA.out _) _ rfl ?_; intro gg cap wn hown hgrow hat hlt; obtain ⟨z1, z2⟩ := HR10.out.behind hgrow; have HOW := Lib.hid hown; have HGR := Lib.hid hgrow; clear hown hgrow hat hlt) | (go_simp; go_at_call 11; refine (next_c B gt _ fr.length _ HRw.out.tape (by omega) (by omega) (by omega)).mono ?_; rintro e w10 ⟨r, hr, rfl, ht, hg⟩; have hrn : r < fr.length := (by omega); have HR10 := Lib.hid (HRw.out.next_ ht hg); have e310 := HR10.out.cells.2.1; have e310a : ∀ ob, (w10.alloc ob).cell? ⟨G0 + 1, 3, none⟩ = some (.slice Ar rb.length cr) := (fun ob => alloc_cells e310 ob); obtain ⟨x, hx⟩ : ∃ x, x = fr[r] := ⟨_, rfl⟩; have HX : Hid (x ∈ fr) := Lib.hid (by rw [hx]; exact List.getElem_mem hrn); have hxc : w10.cell? ⟨F, r, none⟩ = some (Iv x) := (own_get (own_butN HOd.out hg (by omega)) (by rw [List.getElem?_map, List.getElem?_eq_getElem hrn, hx]; rfl)).1; have HRob : Hid (∀ ob, (w10.alloc ob).ownsRow w9.heap.size 3 1 (.slice Ar rb.length cr) rb.length (rb.map Iv)) := Lib.hid (fun ob => HR10.out.robots.alloc ob); have HSA : Hid (∀ ob, w9.heap.size ≤ (w10.alloc ob).heap.size) := Lib.hid (fun ob => Nat.le_trans HR10.out.fro.size (by simp)); clear ht hg hx))
                  all_goals
                    have HP := Lib.hid (HR10.out.push HGR.out HOW.out)
                    have hxl : (rb ++ [x]).length = rb.length + 1 := by simp
                    have HDe : Hid (∀ y ∈ rb ++ [x], inDepot ls y) := Lib.hid (fun y hy => by
                      rcases List.mem_append.1 hy with hy | hy
                      · exact HDi.out y hy
                      · rw [List.mem_singleton.1 hy]; exact (HMem.out x HX.out).1)
                    have HNe : Hid (rb ++ [x]).Nodup := Lib.hid (List.nodup_append.2 ⟨HNd.out, by simp, fun y hy z hz e => by
                      rw [List.mem_singleton.1 hz] at e
                      exact (HMem.out x HX.out).2 (e ▸ hy)⟩)
                    have HQ : Hid (NR w9 B gt (T4 + (rb ++ [x]).length) (G0 + 1) ⟨l, g, ls, [], 1 + (r4 : Int), (r5 : Int), (r6 : Int), 1 + (r7 : Int)⟩ Ab (some ⟨q, 0, none⟩) As cb cn cs (rb ++ [x]) (some ⟨gg, 0, none⟩) cap (wn.setCell ⟨G0 + 1, 3, none⟩ (.slice (some ⟨gg, 0, none⟩) (rb.length + 1) cap))) := Lib.hid (HP.out.more (by omega))
                    clear HP HGR HOW HR10 HRob HSA e310 e310a hxc
                    go_wp2
                    go_roundw
                    case rel => exact ⟨k - 1, rb ++ [x], some ⟨gg, 0, none⟩, cap, by go_num, by omega, by omega, HDe, HNe, HQ⟩
                    case measure => simp [intOf]; omega
            · have hsplit : (0 < k ∧ ¬ (rb.length : Int) < cp) ∨ ¬ 0 < k := by omega
              clear hgo
              obtain ⟨cz, g1, g2⟩ := H11.out.res
              have g3 : wr.heap[G0]? = some (.cells cz 29 (0, 0)) := (HR.out.fro.block G0 (by omega) (by omega) (by omega)).trans g1
              obtain ⟨a0, a1, a2, a3, a4, a5, a6, a7, rfl, d0, d1, d2, d3, d4, d5, d6, d7, dz⟩ := row8_c g3 g2
              have HG3 := Lib.hid g3
              have z0 := dz 0
              have z1 := dz 1
              have z2 := dz 2
              have z3 := dz 3
              have z4 := dz 4
              have z5 := dz 5
              have z6 := dz 6
              have z7 := dz 7
              clear g1 g2 g3 dz c2
              obtain ⟨b0, b1, b2, _, b4, b5, b6, b7⟩ := boxAt_of HR.out.box
              simp only [hlb, hgb, hls] at b0 b1 b2
              have HDone := Lib.hid (fun W hg => NR.done (W := W) H11.out HR.out hg)
              have HMade : Hid (NetMade most { blocks := l, next := g, spurs := ls, robots := rb, queue := 1 + (r4 : Int), aging := (r5 : Int), detours := (r6 : Int), patience := 1 + (r7 : Int) }) := Lib.hid ⟨HOk.out.robots (by omega) HD.out HNd.out, by simp only [hlb]; omega, HB.out, by simp only [hlb]; exact HG.out, by simp only [hlb]; exact HS.out, by simp only [hls]; omega, by simp only [hls]; omega, hr3, by
                have h := HCp1.out
                show 1 ≤ rb.length
                omega, by
                have h := HCap.out
                show (rb.length : Int) ≤ capN (girN ⟨l, g, ls, [], 1 + (r4 : Int), (r5 : Int), (r6 : Int), 1 + (r7 : Int)⟩).length (slotsN ⟨l, g, ls, [], 1 + (r4 : Int), (r5 : Int), (r6 : Int), 1 + (r7 : Int)⟩)
                rw [h]
                exact hrc⟩
              rcases hsplit with ⟨h1, h2⟩ | h1
              all_goals
                go_wp2
                refine bodyPost_ret (results_cell_row rfl _ _ G0 29 _ (0, 0) _ rfl (set8_at HG3.out) Try.underlying29 rfl (by kernel_rfl)) rfl ?_
                refine ⟨{ blocks := l, next := g, spurs := ls, robots := rb, queue := 1 + (r4 : Int), aging := (r5 : Int), detours := (r6 : Int), patience := 1 + (r7 : Int) }, Ab, some ⟨q, 0, none⟩, As, Ar, cb, cn, cs, cr, w9.heap.size, ?_, HMade.out, ?_⟩
                · simp only [hlb, hgb, hls]
                · exact nm_at HG0.out (HDone.out _ (set8_grown _ _ _ _ _ _ _ _ _ _)) (by omega)
end Go.Proofs.Ytmdnkpiihhaoeaa
