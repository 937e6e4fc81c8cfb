/- Contracts of layout.areNames, layout.readNumbers, layout.cloneAll, layout.inRange and (layout.shape).allows. -/
import Derived.Test.YtpglhidhghhmoaaDoorLyShapes
import Derived.Test.YtpglhidhghhmoaaDoorFdName
import Derived.Test.YtpglhidhghhmoaaDoorFdNumber
import Derived.Test.YtpglhidhghhmoaaDoorFdLines
namespace Go.Proofs.YtpglhidhghhmoaaDoor
open Go.RowKit Fl
attribute [local go_sem] bget

abbrev I (z : Int) : Value := .int .i64 z
theorem drop_all {α : Type} {l : List α} {k : Nat} {p : α → Bool} (h : k < l.length) : (l.drop k).all p = (p l[k] && (l.drop (k + 1)).all p) := by
  rw [List.drop_eq_getElem_cons h, List.all_cons]
/-- The string at place k. -/
theorem Holds.str {w : World} {A : Option Addr} {fs : List (List UInt8)} (h : Holds w A (fs.map S)) {k : Nat} (hk : k < fs.length) : ∃ b o, A = some ⟨b, o, none⟩ ∧ w.cell? ⟨b, o + k, none⟩ = some (S fs[k]) := by
  obtain ⟨b, o, hA, _, hc⟩ := h.at_ (by simp; omega)
  exact ⟨b, o, hA, by rw [hc k (by simpa using hk)]; simp⟩
set_option maxRecDepth 100000 in
set_option maxHeartbeats 1000000 in
theorem areNames_c (A : Option Addr) (c : Nat) (fs : List (List UInt8)) (w : World) (hh : Holds w A (fs.map S)) (hl : fs.length ≤ 8796093021952) (hs : ∀ f ∈ fs, f.length ≤ maxLen) :
    Calls Tryd.prog 33 #[.slice A fs.length c] w fun e w' => e = .returned (.bool (fs.all name)) ∧ w = w' := by
  have HH := Lib.hid hh
  have HS := Lib.hid hs
  clear hh hs
  go_enter Tryd.func33, Tryd.ntmps33
  go_wp2
  go_loop [7] (fun i => ∃ k : Nat, k ≤ fs.length ∧ i = .int .i64 k ∧ Hid (fs.all name = (fs.drop k).all name)) (fun i => fs.length - (intOf i).toNat)
  case atStart => exact ⟨0, Nat.zero_le _, rfl, Lib.hid rfl⟩
  case round =>
    obtain ⟨k, hk, rfl, HA⟩ := hrel
    by_cases hlt : k < fs.length
    · obtain ⟨b, o, rfl, hc⟩ := HH.out.str hlt
      have HN := Lib.hid (fun w => Name_c fs[k] w (HS.out _ (List.getElem_mem hlt)))
      have hd := drop_all (p := name) hlt
      rcases Bool.eq_false_or_eq_true (name fs[k]) with hn | hn
      · have HA2 := Lib.hid (HA.out.trans (hd.trans (by rw [hn, Bool.true_and])))
        rw [hn] at HN
        clear hd HA hn
        generalize fs[k] = s at *
        go_wp2_with (go_at_call 51; refine (HN.out _).mono ?_; rintro e w' ⟨rfl, rfl⟩)
        go_round
        case rel => exact ⟨k + 1, by omega, by go_num, HA2⟩
        case measure => simp [intOf]; omega
      · have HA2 := Lib.hid (HA.out.trans (hd.trans (by rw [hn, Bool.false_and])))
        rw [hn] at HN
        clear hd HA hn
        generalize fs[k] = s at *
        go_wp2_with (go_at_call 51; refine (HN.out _).mono ?_; rintro e w' ⟨rfl, rfl⟩)
        go_ret
        exact ⟨ret_bool HA2.out.symm, rfl⟩
    · have HA2 : Hid (fs.all name = true) := Lib.hid (HA.out.trans (by rw [List.drop_of_length_le (by omega)]; rfl))
      go_wp2
      go_ret
      exact ⟨ret_bool HA2.out.symm, rfl⟩

set_option maxRecDepth 100000 in
set_option maxHeartbeats 1000000 in
theorem allows_c (a1 : Int) (a2 : ByteArray) (n x m k : Int) (b : Bool) (w : World) :
    Calls Tryd.prog 32 #[.agg #[.int .i64 a1, .string a2, .int .i64 n, .int .i64 x, .bool b], .int .i64 m, .int .i64 k] w fun e w' => e = .returned (.bool (decide (k = x) && (decide (m = n) || b && decide (n < m)))) ∧ Below w.heap.size w w' := by
  have hb : ∀ o, Below w.heap.size w (w.alloc o) := fun o => (Below.refl _ _).alloc (Nat.le_refl _) _
  go_enter Tryd.func32, Tryd.ntmps32
  go_wp2
  all_goals go_ret
  all_goals exact ⟨ret_bool (by simp_all), hb _⟩

/-- The numbers of fields, behind those that are read already. -/
def numsA (acc : List Int) : List (List UInt8) → Option (List Int)
  | [] => some acc
  | s :: r => match num s with
    | some z => numsA (acc ++ [z]) r
    | none => none
theorem numsA_end {acc : List Int} {l : List (List UInt8)} {k : Nat} (h : l.length ≤ k) : numsA acc (l.drop k) = some acc := by
  rw [List.drop_of_length_le h]; rfl
theorem numsA_some {acc : List Int} {l : List (List UInt8)} {k : Nat} {z : Int} (h : k < l.length) (hz : num l[k] = some z) : numsA acc (l.drop k) = numsA (acc ++ [z]) (l.drop (k + 1)) := by
  rw [List.drop_eq_getElem_cons h, numsA, hz]
theorem numsA_none {acc : List Int} {l : List (List UInt8)} {k : Nat} (h : k < l.length) (hz : num l[k] = none) : numsA acc (l.drop k) = none := by
  rw [List.drop_eq_getElem_cons h, numsA, hz]
theorem Tryd.infoInt : (Tryd.prog.info? 3).map (fun i => (i.zero, i.size, i.bytes)) = some (some (.int .i64 0), 1, 8) := by kernel_rfl
def NumsPost (w : World) (R : Option (List Int)) (e : Ending) (w' : World) : Prop :=
  Below w.heap.size w w' ∧ match R with
    | some zs => ∃ v, e = .returned (.tuple #[v, .bool true]) ∧ w'.ownsRow w.heap.size 3 1 v zs.length (zs.map I)
    | none => e = .returned (.tuple #[.slice none 0 0, .bool false])
set_option maxRecDepth 100000 in
set_option maxHeartbeats 2000000 in
theorem readNumbers_c (A : Option Addr) (c : Nat) (fs : List (List UInt8)) (w : World) (hh : Holds w A (fs.map S)) (hl : fs.length ≤ 8796093021952) (hs : ∀ f ∈ fs, f.length ≤ 9223372036854775000) :
    Calls Tryd.prog 39 #[.slice A fs.length c] w (NumsPost w (numsA [] fs)) := by
  have HH := Lib.hid hh
  have HS := Lib.hid hs
  clear hh hs
  obtain ⟨i0, hi, hz0, hz1, hz2⟩ := info_parts Tryd.infoInt
  go_enter Tryd.func39, Tryd.ntmps39
  go_wp2_with (refine wpList_make_own _ rfl _ _ 23 rfl w.heap.size 3 i0 (.int .i64 0) 1 Tryd.underlying23 hi hz0 hz1 .i64 .i64 _ fs.length rfl rfl rfl (by rw [hz2]; omega) (by unfold maxLen; omega) (Nat.le_refl _) ?_)
  intro w1 own1 hg1
  have hb1 : Below w.heap.size w w1 := (Below.refl _ _).grown hg1 (Nat.le_refl _) (fun k hk => by cases hk)
  obtain ⟨g, hgg⟩ : ∃ g, g = w.heap.size := ⟨_, rfl⟩
  rw [← hgg] at own1 ⊢
  have HG := Lib.hid hgg
  clear hg1 hgg
  go_wp2
  go_loopw [4, 14] (fun v i wr => ∃ (k : Nat) (zs : List Int), v = .slice (some ⟨g, 0, none⟩) k fs.length ∧ i = .int .i64 k ∧ k ≤ fs.length ∧ zs.length = k ∧ Hid (wr.ownsRow w.heap.size 3 1 (.slice (some ⟨g, 0, none⟩) k fs.length) k (zs.map I)) ∧ Below w.heap.size w wr ∧ Hid (numsA [] fs = numsA zs (fs.drop k))) (fun _ i _ => fs.length - (intOf i).toNat)
  case atStart => exact ⟨0, [], rfl, rfl, Nat.zero_le _, rfl, Lib.hid (ownsRow_base own1 (by have := HG.out; omega)), hb1, Lib.hid rfl⟩
  case round =>
    clear hb1 own1
    obtain ⟨k, zs, rfl, rfl, hk, hzl, HO, hb, HA⟩ := hrel
    by_cases hlt : k < fs.length
    · obtain ⟨b, o, rfl, hc⟩ := (HH.out.keep hb).str hlt
      have HN := Lib.hid (fun w => Number_c fs[k] w (HS.out _ (List.getElem_mem hlt)))
      rcases hn : num fs[k] with _ | z
      · have HA2 := Lib.hid (HA.out.trans (numsA_none hlt hn))
        rw [hn, show ret2 none = .tuple #[.int .i64 0, .bool false] from rfl] at HN
        clear hn
        generalize fs[k] = s at *
        go_wp2_with (go_at_call 53; refine (HN.out _).mono ?_; rintro e w' ⟨rfl, rfl⟩)
        go_ret2
        exact ⟨hb, by rw [HA2.out]; rfl⟩
      · have HA2 := Lib.hid (HA.out.trans (numsA_some hlt hn))
        rw [hn, show ret2 (some z) = .tuple #[.int .i64 z, .bool true] from rfl] at HN
        clear hn HA
        generalize fs[k] = s at *
        go_wp2_with (first | (go_at_call 53; refine (HN.out _).mono ?_; rintro e w' ⟨rfl, rfl⟩) | (at_builtin; go_loud (refine wpList_append_fits _ rfl _ _ 23 rfl w.heap.size 3 i0 1 Tryd.underlying23 hi hz1 g k fs.length (zs.map I) rfl (HO.out.alloc _) ⟨wr.heap.size, 0, none⟩ 1 1 [.int .i64 z] rfl rfl ?c1 ?c2 ?c3 ?_)))
        case c1 =>
          intro j u hu
          rcases j with _ | j
          · simp at hu; subst hu; simp [go_sem]
          · simp at hu
        case c2 => intro u hu; simp at hu; subst hu; rfl
        case c3 => omega
        intro w2 own2 hg2
        have hb2 : Below w.heap.size w w2 := (hb.alloc hb.size _).grown hg2 (by have := hb.size; simp; omega) (fun k hk => by injection hk with hk; have := HG.out; omega)
        have HO2 : Hid (w2.ownsRow w.heap.size 3 1 (.slice (some ⟨g, 0, none⟩) (k + 1) fs.length) (k + 1) ((zs ++ [z]).map I)) := Lib.hid (by simpa using own2)
        clear own2 hg2 HO hb
        go_wp2
        go_roundw
        case rel => exact ⟨k + 1, zs ++ [z], by go_num, by go_num, by omega, by simp; omega, HO2, hb2, HA2⟩
        case measure => simp [intOf]; omega
    · have HA2 := Lib.hid (HA.out.trans (numsA_end (by omega)))
      have HO2 := HO
      go_wp2
      go_ret2
      exact ⟨hb, by rw [HA2.out]; exact ⟨_, rfl, by rw [hzl]; exact HO2.out⟩⟩

def StrsPost (w : World) (fs : List (List UInt8)) (e : Ending) (w' : World) : Prop :=
  Below w.heap.size w w' ∧ ∃ v, e = .returned v ∧ w'.ownsRow w.heap.size 9 1 v fs.length (fs.map S)
set_option maxRecDepth 100000 in
set_option maxHeartbeats 2000000 in
theorem cloneAll_c (A : Option Addr) (c : Nat) (fs : List (List UInt8)) (w : World) (hh : Holds w A (fs.map S)) (hl : fs.length ≤ 8796093021952) (hs : ∀ f ∈ fs, f.length ≤ 100000) :
    Calls Tryd.prog 40 #[.slice A fs.length c] w (StrsPost w fs) := by
  have HH := Lib.hid hh
  have HS := Lib.hid hs
  clear hh hs
  obtain ⟨i0, hi, hz0, hz1, hz2⟩ := info_parts Tryd.infoString
  go_enter Tryd.func40, Tryd.ntmps40
  go_wp2_with (refine wpList_make_own _ rfl _ _ 51 rfl w.heap.size 9 i0 (.string ByteArray.empty) 1 Tryd.underlying51 hi hz0 hz1 .i64 .i64 _ fs.length rfl rfl rfl (by rw [hz2]; omega) (by unfold maxLen; omega) (Nat.le_refl _) ?_)
  intro w1 own1 hg1
  have hb1 : Below w.heap.size w w1 := (Below.refl _ _).grown hg1 (Nat.le_refl _) (fun k hk => by cases hk)
  obtain ⟨g, hgg⟩ : ∃ g, g = w.heap.size := ⟨_, rfl⟩
  rw [← hgg] at own1 ⊢
  have HG := Lib.hid hgg
  clear hg1 hgg
  go_wp2
  go_loopw [3, 11] (fun v i wr => ∃ (k : Nat), v = .slice (some ⟨g, 0, none⟩) k fs.length ∧ i = .int .i64 k ∧ k ≤ fs.length ∧ Hid (wr.ownsRow w.heap.size 9 1 (.slice (some ⟨g, 0, none⟩) k fs.length) k ((fs.take k).map S)) ∧ Below w.heap.size w wr) (fun _ i _ => fs.length - (intOf i).toNat)
  case atStart => exact ⟨0, rfl, rfl, Nat.zero_le _, Lib.hid (ownsRow_base own1 (by have := HG.out; omega)), hb1⟩
  case round =>
    clear hb1 own1
    obtain ⟨k, rfl, rfl, hk, HO, hb⟩ := hrel
    by_cases hlt : k < fs.length
    · obtain ⟨b, o, rfl, hc⟩ := (HH.out.keep hb).str hlt
      have HN := Lib.hid (clone_c fs[k] wr (HS.out _ (List.getElem_mem hlt)))
      have HT := Lib.hid (List.take_succ_eq_append_getElem hlt)
      generalize fs[k] = s at *
      go_wp2_with fail
      refine HN.out.mono ?_
      rintro e w2 ⟨rfl, hb2⟩
      have own2 := ownsRow_below HO.out hb2
      clear HO
      go_wp2_with (at_builtin; refine wpList_append_fits _ rfl _ _ 51 rfl w.heap.size 9 i0 1 Tryd.underlying51 hi hz1 g k fs.length ((fs.take k).map S) rfl (own2.alloc _) ⟨w2.heap.size, 0, none⟩ 1 1 [S s] rfl rfl ?c1 ?c2 ?c3 ?_)
      case c1 =>
        intro j u hu
        rcases j with _ | j
        · simp at hu; subst hu; simp [go_sem]
        · simp at hu
      case c2 => intro u hu; simp at hu; subst hu; rfl
      case c3 => omega
      intro w3 own3 hg3
      have hb3 : Below w.heap.size w w3 := ((hb.trans (hb2.mono hb.size)).alloc (Nat.le_trans hb.size hb2.size) _).grown hg3 (by have := hb.size; have := hb2.size; simp; omega) (fun k hk => by injection hk with hk; have := HG.out; omega)
      have HO3 : Hid (w3.ownsRow w.heap.size 9 1 (.slice (some ⟨g, 0, none⟩) (k + 1) fs.length) (k + 1) ((fs.take (k + 1)).map S)) := Lib.hid (by rw [HT.out]; simpa using own3)
      clear own2 own3 hg3 hb hb2
      go_wp2
      go_roundw
      case rel => exact ⟨k + 1, by go_num, by go_num, by omega, HO3, hb3⟩
      case measure => simp [intOf]; omega
    · have HO2 : Hid (wr.ownsRow w.heap.size 9 1 (.slice (some ⟨g, 0, none⟩) fs.length fs.length) fs.length (fs.map S)) := Lib.hid (by
        have h := HO.out
        rw [show k = fs.length by omega, List.take_length] at h
        exact h)
      obtain rfl : k = fs.length := by omega
      go_wp2
      go_ret
      exact ⟨hb, _, rfl, HO2.out⟩
end Go.Proofs.YtpglhidhghhmoaaDoor
