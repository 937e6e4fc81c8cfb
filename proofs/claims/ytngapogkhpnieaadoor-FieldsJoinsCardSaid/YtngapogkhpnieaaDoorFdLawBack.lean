/- FieldsBack returns true: well-formed lines are read back from their text, also with a comment and further blanks. -/
import Derived.Test.YtngapogkhpnieaaDoorFdLawFirst
import Derived.Test.YtngapogkhpnieaaDoorFdJoin
import Derived.Test.YtngapogkhpnieaaDoorFdLinesMade
import Derived.Lib.AppendStr
namespace Go.Proofs.YtngapogkhpnieaaDoor
open Go.RowKit Fl
attribute [local go_sem] bget

/-- A comment without line feeds. -/
def noFeed (l : List UInt8) : List UInt8 := l.filter fun c => c != 10
theorem noFeed_10 (l : List UInt8) : 10 ∉ noFeed l := by simp [noFeed]
theorem noFeed_len (l : List UInt8) (k : Nat) : (noFeed (l.take k)).length ≤ k := Nat.le_trans (List.length_filter_le _ _) (List.length_take_le _ _)
theorem noFeed_skip {l : List UInt8} {k : Nat} (h : k < l.length) (hc : l[k] = 10) : noFeed (l.take (k + 1)) = noFeed (l.take k) := by
  unfold noFeed; rw [List.take_succ_eq_append_getElem h, List.filter_append, hc]; simp
theorem noFeed_keep {l : List UInt8} {k : Nat} (h : k < l.length) (hc : l[k] ≠ 10) : noFeed (l.take (k + 1)) = noFeed (l.take k) ++ [l[k]] := by
  unfold noFeed; rw [List.take_succ_eq_append_getElem h, List.filter_append]; simp [hc]
theorem tr_take {t com : List UInt8} {k : Nat} (h : k < t.length) : (t.take (k + 1)).flatMap (tr com) = (t.take k).flatMap (tr com) ++ tr com t[k] := by
  rw [List.take_succ_eq_append_getElem h, List.flatMap_append]; simp
theorem tr_len {com : List UInt8} (hc : com.length ≤ 40) : ∀ (t : List UInt8), (t.flatMap (tr com)).length ≤ 50 * t.length
  | [] => by simp
  | c :: r => by
    have ih := tr_len hc r
    have h1 : (tr com c).length ≤ 50 := by
      unfold tr; split
      · simp; omega
      · split <;> simp
    rw [List.flatMap_cons, List.length_append, List.length_cons]; omega
theorem byte_ne {c d : UInt8} (h : c ≠ d) : ((c.toNat : Int) == (d.toNat : Int)) = false := by
  rw [beq_eq_false_iff_ne]; intro e; exact h (UInt8.toNat_inj.1 (by omega))
theorem join_ok (A : Option Addr) (c : Nat) (ls : List LineD) (t : List UInt8) (w : World) (h : RawAt w A (ls.map toI)) (hl : ls.length ≤ 5) {b : Nat} (hm : madeTo 0 ls b) (ht : joinT (ls.map toI) = .ok t) :
    Calls Tryd.prog 21 #[.slice A ls.length c] w fun e w' => e = .returned (.tuple #[.string ⟨t.toArray⟩, .int .i64 0]) ∧ Below w.heap.size w w' := by
  have hall : ∀ (ls : List LineD) (a : Nat), madeTo a ls b → ∀ x ∈ ls, x.1 ≤ a + 3 * ls.length ∧ x.2.length ≤ 4 ∧ x.2.all fieldOk = true := by
    intro ls
    induction ls with
    | nil => intro a _ x hx; simp at hx
    | cons y r ih =>
      rintro a ⟨g1, g2, g3, g4, g5, g6⟩ x hx
      rcases List.mem_cons.1 hx with rfl | hx
      · exact ⟨by simp; omega, g4, g5⟩
      · have := ih _ g6 x hx
        exact ⟨by simp; omega, this.2⟩
  have hq := hall ls 0 hm
  have hx : ∀ x ∈ ls.map toI, ∃ y ∈ ls, x = toI y := fun x hx => by
    obtain ⟨y, hy, e⟩ := List.mem_map.1 hx
    exact ⟨y, hy, e.symm⟩
  have := join_c A c (ls.map toI) w h (by simp; omega) (fun x h => by
      obtain ⟨y, hy, rfl⟩ := hx x h
      have := (hq y hy).2.1
      show y.2.length ≤ _; omega) (fun x h f hf => by
      obtain ⟨y, hy, rfl⟩ := hx x h
      have := fieldOk_len (List.all_eq_true.1 (hq y hy).2.2 f hf)
      unfold maxLen; omega) (fun x h => by
      obtain ⟨y, hy, rfl⟩ := hx x h
      have := (hq y hy).1
      show (-9223372036854775808 : Int) ≤ (y.1 : Int) ∧ (y.1 : Int) ≤ _
      omega)
  rw [List.length_map] at this
  exact this.mono fun e w' hp => by
    unfold JoinPost at hp; rw [ht] at hp; exact ⟨hp.2, hp.1⟩
theorem made_sizes {ls : List LineD} {a b : Nat} (h : madeTo a ls b) : ∀ x ∈ ls, x.2.length ≤ 1000000000 := by
  induction ls generalizing a with
  | nil => simp
  | cons y r ih =>
    obtain ⟨_, _, _, g4, _, g6⟩ := h
    intro x hx
    rcases List.mem_cons.1 hx with rfl | hx
    · omega
    · exact ih g6 x hx

set_option maxRecDepth 100000 in
set_option maxHeartbeats 8000000 in
theorem fieldsBack_c (A : Option Addr) (c : Nat) (zs : List Int) (com : List UInt8) (m : Int) (w : World) (hz : IntsAt w w.heap.size A zs) (hzl : zs.length ≤ maxLen) (hcl : com.length ≤ 140737488351232) (hm : w.cell? ⟨0, 0, none⟩ = some (.int .i64 m)) :
    Calls Tryd.prog 6 #[.slice A zs.length c, .string ⟨com.toArray⟩] w fun e w' => e = .returned (.bool true) ∧ Below w.heap.size w w' := by
  have C := Lib.hid (known_c m w hm)
  have HM := Lib.hid hm
  have HZ := Lib.hid hz
  have HL := Lib.hid hzl
  clear hm hz hzl
  go_enter Tryd.func6, Tryd.ntmps6
  go_wp2_with fail
  refine C.out.mono ?_
  rintro e w1 ⟨rfl, hb1⟩
  go_wp2_with fail
  refine (linesMade_c A c zs w1 ((HZ.out.keep (Nat.le_refl _) hb1).more hb1.size) HL.out).mono ?_
  rintro e w2 ⟨ls, A2, c2, b2, rfl, hla, hra, hls, hmade, hb2⟩
  have hb12 := below_later hb1 hb2
  obtain ⟨t, ht, htl⟩ := madeTo_T hmade hls
  have JC := Lib.hid (join_ok A2 c2 ls t w2 hra hls hmade ht)
  have hback := linesT_joinT ht htl
  have HBK := Lib.hid hback
  have HLA := Lib.hid hla
  have HSZ := Lib.hid (show ls.length ≤ 1000000000 ∧ ∀ x ∈ ls, x.2.length ≤ 1000000000 from ⟨by omega, made_sizes hmade⟩)
  clear hb1 hb2 hla hra hmade ht hback C HZ HL
  go_wp2_with fail
  refine JC.out.mono ?_
  rintro e w3 ⟨rfl, hb3⟩
  have hb13 := below_later hb12 hb3
  have LC := Lib.hid (lines_ok t ls m w3 (maxLen_kept HM.out hb13) (by unfold maxLen; omega) HBK.out.2.2)
  clear JC
  go_wp2_with fail
  refine LC.out.mono ?_
  rintro e w4 ⟨A4, c4, rfl, hb4, hl4⟩
  have hb14 := below_later hb13 hb4
  have HLA4 := Lib.hid ((HLA.out.keep hb3).keep hb4)
  have SC := Lib.hid (same_lines A4 A2 c4 c2 ls hl4 HLA4.out HSZ.out)
  clear LC hl4 hb12 hb13 hb3 hb4 HLA
  go_wp2_with fail
  refine SC.out.mono ?_
  rintro e w5 ⟨rfl, q5, rfl⟩
  have HLA5 := Lib.hid (HLA4.out.keep (below_drewN (Below.refl _ _) q5))
  have hb15 := below_drewN hb14 q5
  generalize w4.drewN q5 = w5 at *
  clear SC HLA4 hb14
  by_cases hc40 : 40 < com.length
  · go_wp2_with fail
    go_ret
    exact ⟨rfl, hb15⟩
  · have hcl2 : com.length ≤ 40 := by omega
    have hnf : (noFeed com).length ≤ 40 := by have := noFeed_len com com.length; rw [List.take_of_length_le (Nat.le_refl _)] at this; omega
    have HTL := Lib.hid (fun k => tr_len hnf (t.take k))
    clear hc40 hcl
    go_wp2_with fail
    obtain ⟨B0, hB0⟩ : ∃ B0, B0 = w5.heap.size := ⟨_, rfl⟩
    have HB0 := Lib.hid hB0
    have hB0le : B0 ≤ w5.heap.size := by omega
    have hwB : w.heap.size ≤ B0 := by have := hb15.size; omega
    clear hB0
    go_loopw [11, 12] (fun v i wr => ∃ k : Nat, i = .int .i64 k ∧ k ≤ t.length ∧ Hid (wr.ownsRow B0 5 1 v ((t.take k).flatMap (tr (noFeed com))).length (((t.take k).flatMap (tr (noFeed com))).map Bv)) ∧ Below B0 w5 wr) (fun _ i _ => t.length - (intOf i).toNat)
    case atStart => exact ⟨0, rfl, Nat.zero_le _, Lib.hid ⟨by simp, .inl ⟨rfl, by simp⟩⟩, Below.refl _ _⟩
    case round =>
      obtain ⟨k, rfl, hk, HO, hbr⟩ := hrel
      by_cases hlt : k < t.length
      · have htk := HTL.out k
        have htk2 : ((t.take k).flatMap (tr (noFeed com))).length ≤ 300000 := by have := List.length_take_le k t; omega
        have HS := Lib.hid (tr_take (com := noFeed com) hlt)
        clear htk
        have ownB := HO.out
        have hbB := hbr
        clear HO hbr
        by_cases h10 : t[k] = 10
        · have HT := Lib.hid (show tr (noFeed com) t[k] = [32, 9, 35, 32] ++ noFeed com ++ [10] by unfold tr; rw [if_pos h10])
          have e10 : ((t[k].toNat : Int) == 10) = true := by rw [h10]; rfl
          have hck : (t[k].toNat : Int) = ((10 : UInt8).toNat : Int) := by rw [h10]
          have HCK := Lib.hid h10
          clear h10 hck
          generalize hpre : (t.take k).flatMap (tr (noFeed com)) = pre at *
          clear hpre
          have base6 := own_base ownB
          obtain ⟨ti, hti, hz0, hz1, hz2⟩ := info_parts Tryd.infoByte
          go_wp2_with (at_builtin; refine Lib.wpList_append_own_string _ rfl _ _ 35 9 rfl B0 5 ti Tryd.underlying35 Tryd.underlying9 hti hz0 hz1 hz2 _ _ _ rfl ownB ⟨#[32, 9, 35, 32]⟩ rfl ?c1 ?c2 ?c3 ?_)
          case c1 => have : (⟨#[32, 9, 35, 32]⟩ : ByteArray).size = 4 := rfl; unfold maxLen; omega
          case c2 => have : (⟨#[32, 9, 35, 32]⟩ : ByteArray).size = 4 := rfl; omega
          case c3 => have := hbB.size; omega
          intro v7 w7 own7 hg7 _
          have hb7 : Below B0 w5 w7 := hbB.grown hg7 (by have := hbB.size; omega) base6
          have HO7 : Hid (w7.ownsRow B0 5 1 v7 (pre ++ [32, 9, 35, 32] ++ noFeed (com.take 0)).length ((pre ++ [32, 9, 35, 32] ++ noFeed (com.take 0)).map Bv)) := Lib.hid (by
            have e1 : pre.map Bv ++ Lib.strCells ⟨#[32, 9, 35, 32]⟩ = (pre ++ [32, 9, 35, 32] ++ noFeed (com.take 0)).map Bv := by simp only [List.take_zero, noFeed, List.filter_nil, List.append_nil, List.map_append]; rfl
            have e2 : (pre ++ [32, 9, 35, 32] ++ noFeed (com.take 0)).length = pre.length + 4 := by simp [noFeed]
            rw [e2, ← e1]; exact own7)
          clear hg7 base6 hti hz0 hz1 hz2 ownB hbB own7
          go_wp2
          go_loopw [11, 13] (fun v i wi => ∃ j : Nat, i = .int .i64 j ∧ j ≤ com.length ∧ Hid (wi.ownsRow B0 5 1 v (pre ++ [32, 9, 35, 32] ++ noFeed (com.take j)).length ((pre ++ [32, 9, 35, 32] ++ noFeed (com.take j)).map Bv)) ∧ Below B0 w5 wi) (fun _ i _ => com.length - (intOf i).toNat)
          case atStart => exact ⟨0, rfl, Nat.zero_le _, HO7, hb7⟩
          case round =>
            clear HO7 hb7
            obtain ⟨j, rfl, hj, HO, hbr⟩ := hrel
            have hnl := noFeed_len com j
            have htk3 : (pre ++ [32, 9, 35, 32] ++ noFeed (com.take j)).length ≤ 300100 := by simp; omega
            have ownB := HO.out
            have hbB := hbr
            by_cases hjt : j < com.length
            · by_cases hj10 : com[j] = 10
              · have ej : ((com[j].toNat : Int) == 10) = true := by rw [hj10]; rfl
                have HO8 : Hid (wr.ownsRow B0 5 1 u11 (pre ++ [32, 9, 35, 32] ++ noFeed (com.take (j + 1))).length ((pre ++ [32, 9, 35, 32] ++ noFeed (com.take (j + 1))).map Bv)) := Lib.hid (by rw [noFeed_skip hjt hj10]; exact ownB)
                clear ownB hj10 HO
                go_wp2_with fail
                go_roundw
                case rel => exact ⟨j + 1, by go_num, by omega, HO8, hbB⟩
                case measure => simp [intOf]; omega
              · have ej : ((com[j].toNat : Int) == 10) = false := byte_ne hj10
                have HN := Lib.hid (noFeed_keep hjt hj10)
                clear hj10 HO hnl
                generalize hpre2 : (pre ++ [32, 9, 35, 32] ++ noFeed (com.take j)) = pre2 at *
                have base7 := own_base ownB
                obtain ⟨ti, hti, hz0, hz1, hz2⟩ := info_parts Tryd.infoByte
                go_wp2_with (at_builtin; refine wpList_append_own _ rfl _ _ 35 rfl B0 5 ti (.int .u8 0) 1 1 Tryd.underlying35 hti hz0 hz1 hz2 rfl (by decide) _ _ _ rfl (ownB.alloc _) ⟨wr.heap.size, 0, none⟩ 1 1 [Bv com[j]] rfl rfl ?c1 ?c2 ?c3 ?c4 ?c5 ?_)
                case c1 =>
                  intro j u hu
                  rcases j with _ | j
                  · simp at hu; subst hu; simp [go_sem]
                  · simp at hu
                case c2 => intro u hu; simp at hu; subst hu; rfl
                case c3 => unfold maxLen; omega
                case c4 => omega
                case c5 => have := hbB.size; simp; omega
                intro v7 w7 own7 hg7 _
                have hb7 : Below B0 w5 w7 := (hbB.alloc (by have := hbB.size; omega) _).grown hg7 (by have := hbB.size; simp; omega) base7
                replace own7 : w7.ownsRow B0 5 1 v7 (pre2 ++ [com[j]]).length ((pre2 ++ [com[j]]).map Bv) := by simpa using own7
                clear hg7 base7 hti hz0 hz1 hz2 ownB hbB
                have HO8 : Hid (w7.ownsRow B0 5 1 v7 (pre ++ [32, 9, 35, 32] ++ noFeed (com.take (j + 1))).length ((pre ++ [32, 9, 35, 32] ++ noFeed (com.take (j + 1))).map Bv)) := Lib.hid (by rw [HN.out, ← List.append_assoc, hpre2]; exact own7)
                clear own7 hpre2
                go_wp2
                go_roundw
                case rel => exact ⟨j + 1, by go_num, by omega, HO8, hb7⟩
                case measure => simp [intOf]; omega
            · have hje : j = com.length := by omega
              subst hje
              clear HO hnl hbr hjt
              have hcm : com.take com.length = com := List.take_of_length_le (Nat.le_refl _)
              rw [hcm] at ownB htk3
              clear hcm
              generalize hpre2 : pre ++ [32, 9, 35, 32] ++ noFeed com = pre2 at *
              have base7 := own_base ownB
              obtain ⟨ti, hti, hz0, hz1, hz2⟩ := info_parts Tryd.infoByte
              go_wp2_with (at_builtin; refine wpList_append_own _ rfl _ _ 35 rfl B0 5 ti (.int .u8 0) 1 1 Tryd.underlying35 hti hz0 hz1 hz2 rfl (by decide) _ _ _ rfl (ownB.alloc _) ⟨wr.heap.size, 0, none⟩ 1 1 [Bv t[k]] rfl rfl ?c1 ?c2 ?c3 ?c4 ?c5 ?_)
              case c1 =>
                intro j u hu
                rcases j with _ | j
                · simp at hu; subst hu; simp [go_sem]
                · simp at hu
              case c2 => intro u hu; simp at hu; subst hu; rfl
              case c3 => unfold maxLen; omega
              case c4 => omega
              case c5 => have := hbB.size; simp; omega
              intro v7 w7 own7 hg7 _
              have hb7 : Below B0 w5 w7 := (hbB.alloc (by have := hbB.size; omega) _).grown hg7 (by have := hbB.size; simp; omega) base7
              replace own7 : w7.ownsRow B0 5 1 v7 (pre2 ++ [t[k]]).length ((pre2 ++ [t[k]]).map Bv) := by simpa using own7
              clear hg7 base7 hti hz0 hz1 hz2 ownB hbB
              have HO8 : Hid (w7.ownsRow B0 5 1 v7 ((t.take (k + 1)).flatMap (tr (noFeed com))).length (((t.take (k + 1)).flatMap (tr (noFeed com))).map Bv)) := Lib.hid (by
                rw [HS.out, HT.out, show pre ++ ([32, 9, 35, 32] ++ noFeed com ++ [10]) = pre2 ++ [10] by rw [← hpre2]; simp, ← HCK.out]; exact own7)
              clear own7 hpre2
              go_wp2
              go_roundw
              case rel => exact ⟨k + 1, by go_num, by omega, HO8, hb7⟩
              case measure => simp [intOf]; omega
        · by_cases h32 : t[k] = 32
          · have HT := Lib.hid (show tr (noFeed com) t[k] = [9] ++ [t[k]] by unfold tr; rw [if_neg h10, if_pos h32, h32]; rfl)
            have e10 : ((t[k].toNat : Int) == 10) = false := byte_ne h10
            have e32 : ((t[k].toNat : Int) == 32) = true := by rw [h32]; rfl
            clear h10 h32
            generalize hpre : (t.take k).flatMap (tr (noFeed com)) = pre at *
            clear hpre
            have base7 := own_base ownB
            obtain ⟨ti, hti, hz0, hz1, hz2⟩ := info_parts Tryd.infoByte
            go_wp2_with (at_builtin; refine wpList_append_own _ rfl _ _ 35 rfl B0 5 ti (.int .u8 0) 1 1 Tryd.underlying35 hti hz0 hz1 hz2 rfl (by decide) _ _ _ rfl (ownB.alloc _) ⟨wr.heap.size, 0, none⟩ 1 1 [Bv 9] rfl rfl ?c1 ?c2 ?c3 ?c4 ?c5 ?_)
            case c1 =>
              intro j u hu
              rcases j with _ | j
              · simp at hu; subst hu; simp [go_sem]
              · simp at hu
            case c2 => intro u hu; simp at hu; subst hu; rfl
            case c3 => unfold maxLen; omega
            case c4 => omega
            case c5 => have := hbB.size; simp; omega
            intro v7 w7 own7 hg7 _
            have hb7 : Below B0 w5 w7 := (hbB.alloc (by have := hbB.size; omega) _).grown hg7 (by have := hbB.size; simp; omega) base7
            replace own7 : w7.ownsRow B0 5 1 v7 (pre ++ [9]).length ((pre ++ [9]).map Bv) := by simpa using own7
            clear hg7 base7 hti hz0 hz1 hz2 ownB hbB
            have hl7 : (pre ++ [9]).length ≤ 300001 := by simp; omega
            have base8 := own_base own7
            obtain ⟨ti, hti, hz0, hz1, hz2⟩ := info_parts Tryd.infoByte
            go_wp2_with (at_builtin; refine wpList_append_own _ rfl _ _ 35 rfl B0 5 ti (.int .u8 0) 1 1 Tryd.underlying35 hti hz0 hz1 hz2 rfl (by decide) _ _ _ rfl (own7.alloc _) ⟨w7.heap.size, 0, none⟩ 1 1 [Bv t[k]] rfl rfl ?c1 ?c2 ?c3 ?c4 ?c5 ?_)
            case c1 =>
              intro j u hu
              rcases j with _ | j
              · simp at hu; subst hu; simp [go_sem]
              · simp at hu
            case c2 => intro u hu; simp at hu; subst hu; rfl
            case c3 => unfold maxLen; omega
            case c4 => omega
            case c5 => have := hb7.size; simp; omega
            intro v8 w8 own8 hg8 _
            have hb8 : Below B0 w5 w8 := (hb7.alloc (by have := hb7.size; omega) _).grown hg8 (by have := hb7.size; simp; omega) base8
            replace own8 : w8.ownsRow B0 5 1 v8 ((pre ++ [9]) ++ [t[k]]).length (((pre ++ [9]) ++ [t[k]]).map Bv) := by simpa using own8
            clear hg8 base8 hti hz0 hz1 hz2 own7 hb7
            have HO8 : Hid (w8.ownsRow B0 5 1 v8 ((t.take (k + 1)).flatMap (tr (noFeed com))).length (((t.take (k + 1)).flatMap (tr (noFeed com))).map Bv)) := Lib.hid (by
              rw [HS.out, HT.out, ← List.append_assoc]; exact own8)
            clear own8
            go_wp2
            go_roundw
            case rel => exact ⟨k + 1, by go_num, by omega, HO8, hb8⟩
            case measure => simp [intOf]; omega
          · have HT := Lib.hid (show tr (noFeed com) t[k] = [t[k]] by unfold tr; rw [if_neg h10, if_neg h32])
            have e10 : ((t[k].toNat : Int) == 10) = false := byte_ne h10
            have e32 : ((t[k].toNat : Int) == 32) = false := byte_ne h32
            clear h10 h32
            generalize hpre : (t.take k).flatMap (tr (noFeed com)) = pre at *
            clear hpre
            have base7 := own_base ownB
            obtain ⟨ti, hti, hz0, hz1, hz2⟩ := info_parts Tryd.infoByte
            go_wp2_with (at_builtin; refine wpList_append_own _ rfl _ _ 35 rfl B0 5 ti (.int .u8 0) 1 1 Tryd.underlying35 hti hz0 hz1 hz2 rfl (by decide) _ _ _ rfl (ownB.alloc _) ⟨wr.heap.size, 0, none⟩ 1 1 [Bv t[k]] rfl rfl ?c1 ?c2 ?c3 ?c4 ?c5 ?_)
            case c1 =>
              intro j u hu
              rcases j with _ | j
              · simp at hu; subst hu; simp [go_sem]
              · simp at hu
            case c2 => intro u hu; simp at hu; subst hu; rfl
            case c3 => unfold maxLen; omega
            case c4 => omega
            case c5 => have := hbB.size; simp; omega
            intro v7 w7 own7 hg7 _
            have hb7 : Below B0 w5 w7 := (hbB.alloc (by have := hbB.size; omega) _).grown hg7 (by have := hbB.size; simp; omega) base7
            replace own7 : w7.ownsRow B0 5 1 v7 (pre ++ [t[k]]).length ((pre ++ [t[k]]).map Bv) := by simpa using own7
            clear hg7 base7 hti hz0 hz1 hz2 ownB hbB
            have HO8 : Hid (w7.ownsRow B0 5 1 v7 ((t.take (k + 1)).flatMap (tr (noFeed com))).length (((t.take (k + 1)).flatMap (tr (noFeed com))).map Bv)) := Lib.hid (by
              rw [HS.out, HT.out]; exact own7)
            clear own7
            go_wp2
            go_roundw
            case rel => exact ⟨k + 1, by go_num, by omega, HO8, hb7⟩
            case measure => simp [intOf]; omega
      · have hke : k = t.length := by omega
        subst hke
        have ownB := HO.out
        rw [List.take_of_length_le (Nat.le_refl t.length)] at ownB
        clear HO hlt hk
        have hb5r : Below w5.heap.size w5 wr := HB0.out ▸ hbr
        have hb1r := below_later hb15 hb5r
        have HCM := Lib.hid (fun h => linesT_commented HBK.out.1 HBK.out.2.1 (noFeed_10 com) h)
        generalize t.flatMap (tr (noFeed com)) = tt at *
        obtain ⟨A6, c6, rfl⟩ := own_slice ownB
        by_cases h6 : 6000 < tt.length
        · go_wp2_with fail
          go_ret
          exact ⟨rfl, hb1r⟩
        · have LC := Lib.hid (lines_ok tt ls m wr (maxLen_kept HM.out hb1r) (by unfold maxLen; omega) (HCM.out (by omega)))
          have HLA6 := Lib.hid (HLA5.out.keep hb5r)
          have hcv := conv_own ownB
          clear hb5r hbr ownB
          go_wp2_with fail
          refine LC.out.mono ?_
          rintro e w6 ⟨A7, c7, rfl, hb6, hl6⟩
          have hb16 := below_later hb1r hb6
          have SC := Lib.hid (same_lines A7 A2 c7 c2 ls hl6 (HLA6.out.keep hb6) HSZ.out)
          clear LC hcv hb6 hl6 hb1r
          go_wp2_with fail
          refine SC.out.mono ?_
          rintro e w8 ⟨rfl, q8, rfl⟩
          go_wp2_with fail
          go_ret
          exact ⟨rfl, below_drewN hb16 q8⟩
end Go.Proofs.YtngapogkhpnieaaDoor
