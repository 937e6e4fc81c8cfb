/- Joined texts. -/
import Derived.Test.YtgjnhefmheefbaaDoorFdSmall
import Derived.Test.YtgjnhefmheefbaaDoorShelf
import Derived.Test.YtgjnhefmheefbaaDoorScope
import Derived.Outline
import Derived.Test.YtgjnhefmheefbaaDoorFdSpec
import Derived.Lib.ItoaNum
import Derived.Lib.SplitLaws
import Derived.Lib.Split
import Derived.Lib.Join
import Derived.Lib.Repeat
namespace Go.Proofs.YtgjnhefmheefbaaDoor
open Go.RowKit Fl
attribute [local go_sem] bget jumpTo_normal jumpTo_exit jumpTo_ret jumpTo_panic passOn_normal passOn_exit passOn_ret passOn_panic

abbrev S (l : List UInt8) : Value := .string ⟨l.toArray⟩
def ScanPost (w : World) (R : Except Nat (List (List UInt8))) (e : Ending) (w' : World) : Prop :=
  Below w.heap.size w w' ∧ match R with
    | .ok fs => ∃ v, e = .returned (.tuple #[v, .int .i64 0]) ∧ w'.ownsRow w.heap.size 9 1 v fs.length (fs.map S)
    | .error n => e = .returned (.tuple #[.slice none 0 0, .int .i64 n])
theorem bext (l : List UInt8) (a b : Nat) : (⟨l.toArray⟩ : ByteArray).extract a b = ⟨(seg l a b).toArray⟩ := by
  apply ByteArray.ext
  rw [ByteArray.data_extract]
  simp [seg, List.extract_eq_take_drop, List.drop_take]

attribute [local go_sem] bext
set_option maxRecDepth 100000 in
theorem clone_c (l : List UInt8) (w : World) (hs : l.length ≤ 100000) : Calls Tryd.prog 46 #[.string ⟨l.toArray⟩] w fun e w' => e = .returned (S l) ∧ Below w.heap.size w w' := by
  have C := Lib.hid (Tryd.stringslite_Clone ⟨l.toArray⟩ w (by show l.length ≤ _; omega))
  go_enter Tryd.func46, Tryd.ntmps46
  go_wp2_with (go_at_call 54; refine (C.out).mono ?_; rintro e w1 ⟨rfl, hb⟩)
  go_ret
  exact ⟨rfl, hb⟩
theorem Tryd.infoString : (Tryd.prog.info? 9).map (fun i => (i.zero, i.size, i.bytes)) = some (some (.string ByteArray.empty), 1, 16) := by kernel_rfl

end Go.Proofs.YtgjnhefmheefbaaDoor
namespace Go.Proofs.YtgjnhefmheefbaaDoor
open Go.RowKit Fl

theorem digs_dec : ∀ (f n : Nat) (acc : List UInt8), n < 10 ^ f → 1 ≤ f → digs f n acc = Lib.decDigits n ++ acc
  | 0, _, _, _, h => by omega
  | f + 1, n, acc, hn, _ => by
    rw [digs, Lib.decDigits]
    by_cases h : n < 10
    · rw [if_pos (by omega), dif_pos h]
      have : digC n = UInt8.ofNat (48 + n) := by unfold digC; congr 1; omega
      rw [this]; rfl
    · rw [if_neg (by omega), dif_neg h]
      have hf : 1 ≤ f := by
        rcases Nat.eq_zero_or_pos f with h0 | h0
        · subst h0; simp at hn; omega
        · exact h0
      rw [digs_dec f (n / 10) _ (by rw [Nat.pow_succ] at hn; omega) hf]
      simp [digC]
theorem itoa_dec {n : Int} (h1 : -9223372036854775808 ≤ n) (h2 : n ≤ 9223372036854775807) : Lib.itoa n = dec n := by
  unfold Lib.itoa dec
  split
  · rw [digs_dec 20 _ _ (by omega) (by omega)]
    simp
    congr 1; omega
  · rw [digs_dec 20 _ _ (by omega) (by omega)]
    simp
abbrev Pows (w : World) : Prop := Lib.TabIs Tryd.prog w "internal/strconv.uint64pow10" .u64 Lib.pow10Tab
theorem Pows.keep {w w' : World} (h : Pows w) (hb : Below w.heap.size w w') : Pows w' := by
  have hg : Tryd.prog.globalNamed "internal/strconv.uint64pow10" = some 1 := by kernel_rfl
  unfold Pows Lib.TabIs World.var? at *
  rw [hg, Option.bind_some] at h ⊢
  have hlt : 1 < w.heap.size := by
    rcases Nat.lt_or_ge 1 w.heap.size with h' | h'
    · exact h'
    · rw [Array.getElem?_eq_none h'] at h; cases h
  rw [hb.block _ hlt]
  exact h
theorem itoa_c (n : Int) (w : World) (h1 : -9223372036854775808 ≤ n) (h2 : n ≤ 9223372036854775807) (hp : Pows w) : Calls Tryd.prog 38 #[.int .i64 n] w fun e w' => e = .returned (S (dec n)) ∧ Below w.heap.size w w' :=
  (Tryd.strconv_Itoa n h1 h2 w hp).mono fun e w' ⟨he, k, os, hw⟩ => by
    refine ⟨by rw [he, itoa_dec h1 h2], ?_⟩
    subst hw
    refine ⟨rfl, rfl, rfl, by simp [Sort.grow, World.drewN], fun i hi => ?_⟩
    show (w.heap ++ os)[i]? = _
    rw [Array.getElem?_append_left hi]
end Go.Proofs.YtgjnhefmheefbaaDoor
namespace Go.Proofs.YtgjnhefmheefbaaDoor.Fl
open Go

/-- A text divided at its line feeds. -/
def splitNL (cur : List UInt8) : List UInt8 → List (List UInt8)
  | [] => [cur]
  | c :: r => if c = 10 then cur :: splitNL [] r else splitNL (cur ++ [c]) r
theorem splitNL_cons (cur : List UInt8) : ∀ (l : List UInt8), ∃ p ps, splitNL [] l = p :: ps ∧ splitNL cur l = (cur ++ p) :: ps := by
  intro l
  induction l generalizing cur with
  | nil => exact ⟨[], [], rfl, by simp [splitNL]⟩
  | cons c r ih =>
    by_cases h : c = 10
    · exact ⟨[], splitNL [] r, by simp [splitNL, h], by simp [splitNL, h]⟩
    · obtain ⟨p, ps, h1, h2⟩ := ih [c]
      obtain ⟨p', ps', h3, h4⟩ := ih (cur ++ [c])
      rw [h1] at h3
      injection h3 with h3 h5
      subst h3 h5
      refine ⟨c :: p, ps, ?_, ?_⟩
      · rw [splitNL, if_neg h, List.nil_append, h2]; rfl
      · rw [splitNL, if_neg h, h4]; simp
theorem index_hit (r : List UInt8) : Lib.index (10 :: r) [10] = 0 := by simp [Lib.index, List.isPrefixOf]
theorem index_skip {c : UInt8} (h : c ≠ 10) (r : List UInt8) : Lib.index (c :: r) [10] = if Lib.index r [10] = -1 then -1 else Lib.index r [10] + 1 := by
  have hp : List.isPrefixOf [10] (c :: r) = false := by simp [List.isPrefixOf, Ne.symm h]
  rw [Lib.index]
  simp only [hp]
  simp
theorem index_none_iff (r : List UInt8) : Lib.index r [10] = -1 ↔ Lib.count r [10] = 0 := by
  rw [Lib.count_one]
  induction r with
  | nil => simp [Lib.index]
  | cons c r ih =>
    by_cases h : c = 10
    · subst h
      rw [index_hit]; simp
    · rw [index_skip h, List.count_cons_of_ne (by simpa using h), ← ih]
      have := Lib.index_ge r [10]
      split <;> omega
theorem splitK_eq : ∀ (l : List UInt8) (k : Nat), Lib.count l [10] = k → Lib.splitK [10] 0 k l = splitNL [] l := by
  intro l
  induction l with
  | nil =>
    intro k hk
    have : k = 0 := by rw [← hk, Lib.count_one]; rfl
    subst this
    rfl
  | cons c r ih =>
    intro k hk
    by_cases h : c = 10
    · subst h
      rw [Lib.count_cons_eq] at hk
      obtain ⟨j, rfl⟩ : ∃ j, k = j + 1 := ⟨k - 1, by omega⟩
      rw [Lib.splitK, index_hit]
      simp only [splitNL, if_pos]
      rw [← ih j (by omega)]
      simp
    · rw [Lib.count_cons_ne c 10 r h] at hk
      obtain ⟨p, ps, h1, h2⟩ := splitNL_cons [c] r
      rw [splitNL, if_neg h, List.nil_append, h2]
      have hi := ih k hk
      rw [h1] at hi
      rcases k with _ | j
      · rw [Lib.splitK] at hi ⊢
        injection hi with e1 e2
        rw [← e1, ← e2]; rfl
      · have hne : Lib.index r [10] ≠ -1 := fun e => by rw [(index_none_iff r).1 e] at hk; omega
        have hge := Lib.index_ge r [10]
        rw [Lib.splitK, if_neg (by simpa using hne)] at hi
        rw [Lib.splitK, index_skip h, if_neg hne, if_neg (by simp; omega)]
        injection hi with e1 e2
        rw [← e1, ← e2]
        obtain ⟨i, hi'⟩ := Int.eq_ofNat_of_zero_le (show 0 ≤ Lib.index r [10] by omega)
        rw [hi']
        simp only [List.length_cons, List.length_nil]
        have e3 : ((i : Int) + 1).toNat = i + 1 := by omega
        rw [e3, Int.toNat_natCast]
        simp
/-- What strings.Split returns at a line feed. -/
theorem splitB_nl (l : List UInt8) : (Lib.splitB ⟨#[10]⟩ 0 (Lib.countB ⟨l.toArray⟩ ⟨#[10]⟩) ⟨l.toArray⟩).map Value.string = (splitNL [] l).map (fun p => Value.string ⟨p.toArray⟩) := by
  have h := Lib.splitB_data ⟨#[10]⟩ 0 (Lib.countB ⟨l.toArray⟩ ⟨#[10]⟩) ⟨l.toArray⟩
  have h2 := splitK_eq l (Lib.countB ⟨l.toArray⟩ ⟨#[10]⟩) rfl
  rw [show (⟨#[10]⟩ : ByteArray).data.toList = [10] from rfl, show (⟨l.toArray⟩ : ByteArray).data.toList = l from rfl, h2] at h
  rw [← h, List.map_map]
  apply List.map_congr_left
  intro x _
  rfl
theorem count_nl (l : List UInt8) : Lib.countB ⟨l.toArray⟩ ⟨#[10]⟩ + 1 = (splitNL [] l).length := by
  have h := congrArg List.length (splitB_nl l)
  rw [List.length_map, List.length_map, Lib.splitB_all _ (by decide) _ _ _ rfl] at h
  exact h

/-- The lines of pieces that have fields, with their numbers; or the first error and its line. -/
def linesA (num : Nat) (acc : List (Nat × List (List UInt8))) : List (List UInt8) → Except (Nat × Nat) (List (Nat × List (List UInt8)))
  | [] => .ok acc
  | p :: r => match scanA [] [] p with
    | .error e => .error (num, e)
    | .ok fs => linesA (num + 1) (if fs = [] then acc else acc ++ [(num, fs)]) r
/-- What Lines returns. -/
def linesT (l : List UInt8) : Except (Nat × Nat) (List (Nat × List (List UInt8))) :=
  if 6000 < l.length then .error (0, 1) else linesA 1 [] (splitNL [] l)
theorem linesA_end {num k : Nat} {acc : List (Nat × List (List UInt8))} {ps : List (List UInt8)} (h : ps.length ≤ k) : linesA num acc (ps.drop k) = .ok acc := by
  rw [List.drop_of_length_le h]; rfl
theorem linesA_bad {num k e : Nat} {acc : List (Nat × List (List UInt8))} {ps : List (List UInt8)} (h : k < ps.length) (hs : scanA [] [] ps[k] = .error e) : linesA num acc (ps.drop k) = .error (num, e) := by
  rw [List.drop_eq_getElem_cons h, linesA, hs]
theorem linesA_none {num k : Nat} {acc : List (Nat × List (List UInt8))} {ps : List (List UInt8)} (h : k < ps.length) (hs : scanA [] [] ps[k] = .ok []) : linesA num acc (ps.drop k) = linesA (num + 1) acc (ps.drop (k + 1)) := by
  rw [List.drop_eq_getElem_cons h, linesA, hs]; rfl
theorem linesA_some {num k : Nat} {acc : List (Nat × List (List UInt8))} {ps : List (List UInt8)} {fs : List (List UInt8)} (h : k < ps.length) (hs : scanA [] [] ps[k] = .ok fs) (hf : fs ≠ []) : linesA num acc (ps.drop k) = linesA (num + 1) (acc ++ [(num, fs)]) (ps.drop (k + 1)) := by
  rw [List.drop_eq_getElem_cons h, linesA, hs]
  simp only [if_neg hf]
theorem splitNL_length_le (l : List UInt8) : ∀ cur, (splitNL cur l).length ≤ l.length + 1 := by
  induction l with
  | nil => intro cur; simp [splitNL]
  | cons c r ih =>
    intro cur
    unfold splitNL
    split
    · have := ih []; simp; omega
    · have := ih (cur ++ [c]); simp; omega
theorem splitNL_piece (l : List UInt8) : ∀ cur p, p ∈ splitNL cur l → p.length ≤ cur.length + l.length := by
  induction l with
  | nil => intro cur p hp; simp [splitNL] at hp; subst hp; simp
  | cons c r ih =>
    intro cur p hp
    unfold splitNL at hp
    split at hp
    · rcases List.mem_cons.1 hp with rfl | hp
      · simp
      · have := ih [] p hp; simp at this ⊢; omega
    · have := ih _ p hp; simp at this ⊢; omega
end Go.Proofs.YtgjnhefmheefbaaDoor.Fl
namespace Go.Proofs.YtgjnhefmheefbaaDoor.Fl
open Go

abbrev LineI := Int × List (List UInt8)
def fieldOk (f : List UInt8) : Bool := decide (1 ≤ f.length ∧ f.length ≤ 12) && f.all fieldByte
theorem fieldOk_bad {l : List UInt8} {k : Nat} (h : k < l.length) (hb : fieldByte l[k] = false) : fieldOk l = false := by
  have : l.all fieldByte = false := by
    rw [List.all_eq_false]
    exact ⟨l[k], List.getElem_mem h, by simp [hb]⟩
  simp [fieldOk, this]
theorem fieldOk_size {l : List UInt8} (h : ¬ (1 ≤ l.length ∧ l.length ≤ 12)) : fieldOk l = false := by
  unfold fieldOk; rw [decide_eq_false h]; rfl
theorem fieldOk_good {l : List UInt8} (h : 1 ≤ l.length ∧ l.length ≤ 12) (h2 : l.all fieldByte = true) : fieldOk l = true := by
  unfold fieldOk; rw [decide_eq_true h, h2]; rfl
theorem fieldOk_len {l : List UInt8} (h : fieldOk l = true) : 1 ≤ l.length ∧ l.length ≤ 12 := by
  unfold fieldOk at h
  simp only [Bool.and_eq_true, decide_eq_true_eq] at h
  exact h.1
/-- Lines as Lines returns them: the numbers rise, no line is empty, every field is one. -/
def formed (last : Int) : List LineI → Bool
  | [] => true
  | x :: r => decide (last < x.1) && decide (x.2 ≠ []) && x.2.all fieldOk && formed x.1 r
theorem formed_drop {last : Int} {ls : List LineI} {k : Nat} (h : k < ls.length) : formed last (ls.drop k) = (decide (last < ls[k].1) && decide (ls[k].2 ≠ []) && ls[k].2.all fieldOk && formed ls[k].1 (ls.drop (k + 1))) := by
  rw [List.drop_eq_getElem_cons h, formed]
/-- The text of the lines behind acc, which ends with line 'last'; 1: it would be too long. -/
def joinA (last : Int) (acc : List UInt8) : List LineI → Except Nat (List UInt8)
  | [] => .ok acc
  | x :: r => if 6000 < x.1 then .error 1 else
    if 6000 < (acc ++ Lib.repeatL [10] (x.1 - last - 1).toNat ++ Lib.join x.2 [32] ++ [10]).length then .error 1
    else joinA x.1 (acc ++ Lib.repeatL [10] (x.1 - last - 1).toNat ++ Lib.join x.2 [32] ++ [10]) r
/-- What Join returns; 20: the lines are not well formed. -/
def joinT (ls : List LineI) : Except Nat (List UInt8) := if formed 0 ls then joinA 0 [] ls else .error 20
theorem joinA_end {last : Int} {acc : List UInt8} {ls : List LineI} {k : Nat} (h : ls.length ≤ k) : joinA last acc (ls.drop k) = .ok acc := by
  rw [List.drop_of_length_le h]; rfl
theorem joinA_num {last : Int} {acc : List UInt8} {ls : List LineI} {k : Nat} (h : k < ls.length) (hn : 6000 < ls[k].1) : joinA last acc (ls.drop k) = .error 1 := by
  rw [List.drop_eq_getElem_cons h, joinA, if_pos hn]
theorem joinA_big {last : Int} {acc t : List UInt8} {ls : List LineI} {k : Nat} (h : k < ls.length) (hn : ls[k].1 ≤ 6000) (ht : t = acc ++ Lib.repeatL [10] (ls[k].1 - last - 1).toNat ++ Lib.join ls[k].2 [32] ++ [10]) (hb : 6000 < t.length) : joinA last acc (ls.drop k) = .error 1 := by
  subst ht
  rw [List.drop_eq_getElem_cons h, joinA, if_neg (by omega), if_pos hb]
theorem joinA_step {last : Int} {acc t : List UInt8} {ls : List LineI} {k : Nat} (h : k < ls.length) (hn : ls[k].1 ≤ 6000) (ht : t = acc ++ Lib.repeatL [10] (ls[k].1 - last - 1).toNat ++ Lib.join ls[k].2 [32] ++ [10]) (hb : t.length ≤ 6000) : joinA last acc (ls.drop k) = joinA ls[k].1 t (ls.drop (k + 1)) := by
  subst ht
  rw [List.drop_eq_getElem_cons h, joinA, if_neg (by omega), if_neg (by omega)]
/-- Joined fields: at most thirteen bytes each. -/
theorem join_length_le : ∀ (fs : List (List UInt8)), fs.all fieldOk = true → (Lib.join fs [32]).length ≤ 13 * fs.length
  | [], _ => by simp [Lib.join_nil]
  | x :: r, h => by
    simp only [List.all_cons, Bool.and_eq_true] at h
    have hx := fieldOk_len h.1
    rw [Lib.join_cons, List.length_append]
    have ht : ∀ (r : List (List UInt8)), r.all fieldOk = true → (Lib.joinTail [32] r).length ≤ 13 * r.length := by
      intro r
      induction r with
      | nil => intro _; simp [Lib.joinTail]
      | cons y r ih =>
        intro h
        simp only [List.all_cons, Bool.and_eq_true] at h
        have hy := fieldOk_len h.1
        have := ih h.2
        simp [Lib.joinTail] at this ⊢
        omega
    have := ht r h.2
    simp; omega
end Go.Proofs.YtgjnhefmheefbaaDoor.Fl
namespace Go.Proofs.YtgjnhefmheefbaaDoor.Fl
open Go

/-- A declaration: its word, its line, its names and its numbers. -/
structure DeclD where
  word : Int
  line : Int
  names : List (List UInt8)
  nums : List Int
deriving DecidableEq
abbrev wBlock : List UInt8 := [98, 108, 111, 99, 107]
abbrev wLane : List UInt8 := [108, 97, 110, 101]
abbrev wStation : List UInt8 := [115, 116, 97, 116, 105, 111, 110]
abbrev wDepot : List UInt8 := [100, 101, 112, 111, 116]
abbrev wRobot : List UInt8 := [114, 111, 98, 111, 116]
abbrev wConfig : List UInt8 := [99, 111, 110, 102, 105, 103]
/-- The number of a word, or 0. -/
def wordOf (s : List UInt8) : Nat :=
  if s = wBlock then 1 else if s = wLane then 2 else if s = wStation then 3 else if s = wDepot then 4 else if s = wRobot then 5 else if s = wConfig then 6 else 0
/-- The word of a number. -/
def wordText (w : Int) : List UInt8 :=
  if w = 1 then wBlock else if w = 2 then wLane else if w = 3 then wStation else if w = 4 then wDepot else if w = 5 then wRobot else wConfig
/-- How many names and how many numbers follow a word. -/
def shapeN (w : Int) : Nat := if w = 1 then 1 else if w = 2 then 2 else if w = 3 then 3 else if w = 4 then 3 else if w = 5 then 1 else 0
def shapeX (w : Int) : Nat := if w = 1 then 2 else if w = 2 then 0 else if w = 3 then 1 else if w = 4 then 1 else if w = 5 then 1 else 4
theorem wordOf_le (s : List UInt8) : wordOf s ≤ 6 := by unfold wordOf; repeat' split
                                                        all_goals omega
theorem shapeN_le (w : Int) : shapeN w ≤ 3 := by unfold shapeN; repeat' split
                                                 all_goals omega
theorem shapeX_le (w : Int) : shapeX w ≤ 4 := by unfold shapeX; repeat' split
                                                 all_goals omega
/-- k names, then numbers; 6: a field is not a name; 7: it is not a number. -/
def readA : Nat → List (List UInt8) → List Int → List (List UInt8) → Except Nat (List (List UInt8) × List Int)
  | _, ns, xs, [] => .ok (ns, xs)
  | k + 1, ns, xs, s :: r => if name s then readA k (ns ++ [s]) xs r else .error 6
  | 0, ns, xs, s :: r => match num s with
    | some z => readA 0 ns (xs ++ [z]) r
    | none => .error 7
theorem readA_end {k : Nat} {ns : List (List UInt8)} {xs : List Int} {r : List (List UInt8)} {i : Nat} (h : r.length ≤ i) : readA k ns xs (r.drop i) = .ok (ns, xs) := by
  rw [List.drop_of_length_le h]; cases k <;> rfl
theorem readA_name {k : Nat} {ns : List (List UInt8)} {xs : List Int} {r : List (List UInt8)} {i : Nat} (h : i < r.length) (hn : name r[i] = true) : readA (k + 1) ns xs (r.drop i) = readA k (ns ++ [r[i]]) xs (r.drop (i + 1)) := by
  rw [List.drop_eq_getElem_cons h, readA, if_pos hn]
theorem readA_noname {k : Nat} {ns : List (List UInt8)} {xs : List Int} {r : List (List UInt8)} {i : Nat} (h : i < r.length) (hn : name r[i] = false) : readA (k + 1) ns xs (r.drop i) = .error 6 := by
  rw [List.drop_eq_getElem_cons h, readA, if_neg (by simp [hn])]
theorem readA_num {ns : List (List UInt8)} {xs : List Int} {r : List (List UInt8)} {i : Nat} {z : Int} (h : i < r.length) (hn : num r[i] = some z) : readA 0 ns xs (r.drop i) = readA 0 ns (xs ++ [z]) (r.drop (i + 1)) := by
  rw [List.drop_eq_getElem_cons h, readA, hn]
theorem readA_nonum {ns : List (List UInt8)} {xs : List Int} {r : List (List UInt8)} {i : Nat} (h : i < r.length) (hn : num r[i] = none) : readA 0 ns xs (r.drop i) = .error 7 := by
  rw [List.drop_eq_getElem_cons h, readA, hn]
/-- The number of fields behind a word is wrong. -/
def wrongCount (w : Int) (n : Nat) : Bool := decide (n ≠ shapeN w + shapeX w ∧ (w ≠ 2 ∨ n < shapeN w))
/-- A line as a declaration, or its first error. -/
def parse1 (x : LineI) : Except Nat DeclD := match x.2 with
  | [] => .error 20
  | s :: r => if wordOf s = 0 then .error 4 else if wrongCount (wordOf s) r.length = true then .error 5 else
    match readA (r.length - shapeX (wordOf s)) [] [] r with
    | .ok (ns, xs) => .ok ⟨wordOf s, x.1, ns, xs⟩
    | .error e => .error e
theorem count_ge {w : Int} {n : Nat} (h : wrongCount w n = false) : shapeX w ≤ n := by
  unfold wrongCount at h
  simp only [decide_eq_false_iff_not, not_and, not_or, Decidable.not_not] at h
  by_cases e : n = shapeN w + shapeX w
  · omega
  · have := h e
    have h2 := this.1
    subst h2
    simp [shapeX]
/-- All lines; with the first line's number that has an error. -/
def parseA (acc : List DeclD) : List LineI → Except (Int × Nat) (List DeclD)
  | [] => .ok acc
  | x :: r => match parse1 x with
    | .ok d => parseA (acc ++ [d]) r
    | .error e => .error (x.1, e)
def parseT (ls : List LineI) : Except (Int × Nat) (List DeclD) := parseA [] ls
theorem parseA_end {acc : List DeclD} {ls : List LineI} {k : Nat} (h : ls.length ≤ k) : parseA acc (ls.drop k) = .ok acc := by
  rw [List.drop_of_length_le h]; rfl
theorem parseA_ok {acc : List DeclD} {ls : List LineI} {k : Nat} {d : DeclD} (h : k < ls.length) (hd : parse1 ls[k] = .ok d) : parseA acc (ls.drop k) = parseA (acc ++ [d]) (ls.drop (k + 1)) := by
  rw [List.drop_eq_getElem_cons h, parseA, hd]
theorem parseA_err {acc : List DeclD} {ls : List LineI} {k e : Nat} (h : k < ls.length) (hd : parse1 ls[k] = .error e) : parseA acc (ls.drop k) = .error (ls[k].1, e) := by
  rw [List.drop_eq_getElem_cons h, parseA, hd]
theorem readA_errs : ∀ (r : List (List UInt8)) (k : Nat) (ns : List (List UInt8)) (xs : List Int) (e : Nat), readA k ns xs r = .error e → e = 6 ∨ e = 7
  | [], k, _, _, _, h => by cases k <;> cases h
  | s :: r, k + 1, ns, xs, e, h => by
    rw [readA] at h; split at h
    · exact readA_errs r k _ _ e h
    · injection h with h; omega
  | s :: r, 0, ns, xs, e, h => by
    rw [readA] at h; split at h
    · exact readA_errs r 0 _ _ e h
    · injection h with h; omega
theorem parse1_errs {x : LineI} {e : Nat} (h : parse1 x = .error e) : 4 ≤ e ∧ e ≤ 20 := by
  unfold parse1 at h
  split at h
  · injection h with h; omega
  · split at h
    · injection h with h; omega
    · split at h
      · injection h with h; omega
      · split at h
        · cases h
        · rename_i he
          have := readA_errs _ _ _ _ _ he
          injection h with h; omega
/-- Whether Parse can return it. -/
def validD (d : DeclD) : Bool := decide (1 ≤ d.word ∧ d.word ≤ 6) && decide (d.nums.length = shapeX d.word ∧ shapeN d.word ≤ d.names.length ∧ (shapeN d.word < d.names.length → d.word = 2)) && d.names.all name && d.nums.all fun z => decide (-9999 ≤ z ∧ z ≤ 9999)
/-- The line of a declaration. -/
def formatD (d : DeclD) : LineI := (d.line, wordText d.word :: d.names ++ d.nums.map dec)
/-- What Format returns; 20: a declaration is not valid. -/
def formatT (ds : List DeclD) : Except Nat (List LineI) := if ds.all validD then .ok (ds.map formatD) else .error 20
end Go.Proofs.YtgjnhefmheefbaaDoor.Fl
namespace Go.Proofs.YtgjnhefmheefbaaDoor
open Go.RowKit Fl
attribute [local go_sem] bget

theorem beq_no {a b : List UInt8} (h : a ≠ b) : (a == b) = false := by simpa using h
theorem refText_c (n : Int) (w : World) : Calls Tryd.prog 21 #[.int .i64 n] w fun e w' => e = .returned (S (wordText n)) ∧ w = w' := by
  by_cases h1 : n = 1
  · subst h1
    go_enter Tryd.func21, Tryd.ntmps21
    go_wp2
    go_ret
    exact ⟨rfl, rfl⟩
  by_cases h2 : n = 2
  · subst h2
    go_enter Tryd.func21, Tryd.ntmps21
    go_wp2
    go_ret
    exact ⟨rfl, rfl⟩
  by_cases h3 : n = 3
  · subst h3
    go_enter Tryd.func21, Tryd.ntmps21
    go_wp2
    go_ret
    exact ⟨rfl, rfl⟩
  by_cases h4 : n = 4
  · subst h4
    go_enter Tryd.func21, Tryd.ntmps21
    go_wp2
    go_ret
    exact ⟨rfl, rfl⟩
  by_cases h5 : n = 5
  · subst h5
    go_enter Tryd.func21, Tryd.ntmps21
    go_wp2
    go_ret
    exact ⟨rfl, rfl⟩
  have HW : Hid (wordText n = wConfig) := Lib.hid (by unfold wordText; simp [h1, h2, h3, h4, h5])
  have e1 : (n == 1) = false := by simpa using h1
  have e2 : (n == 2) = false := by simpa using h2
  have e3 : (n == 3) = false := by simpa using h3
  have e4 : (n == 4) = false := by simpa using h4
  have e5 : (n == 5) = false := by simpa using h5
  clear h1 h2 h3 h4 h5
  go_enter Tryd.func21, Tryd.ntmps21
  go_wp2
  go_ret
  exact ⟨by rw [HW.out]; rfl, rfl⟩
theorem refShape_c (n : Int) (w : World) : Calls Tryd.prog 26 #[.int .i64 n] w fun e w' => e = .returned (.tuple #[.int .i64 (shapeN n : Int), .int .i64 (shapeX n : Int)]) ∧ w = w' := by
  by_cases h1 : n = 1
  · subst h1
    go_enter Tryd.func26, Tryd.ntmps26
    go_wp2
    go_ret2
    exact ⟨rfl, rfl⟩
  by_cases h2 : n = 2
  · subst h2
    go_enter Tryd.func26, Tryd.ntmps26
    go_wp2
    go_ret2
    exact ⟨rfl, rfl⟩
  by_cases h3 : n = 3
  · subst h3
    go_enter Tryd.func26, Tryd.ntmps26
    go_wp2
    go_ret2
    exact ⟨rfl, rfl⟩
  by_cases h4 : n = 4
  · subst h4
    go_enter Tryd.func26, Tryd.ntmps26
    go_wp2
    go_ret2
    exact ⟨rfl, rfl⟩
  by_cases h5 : n = 5
  · subst h5
    go_enter Tryd.func26, Tryd.ntmps26
    go_wp2
    go_ret2
    exact ⟨rfl, rfl⟩
  have HW : Hid (shapeN n = 0 ∧ shapeX n = 4) := Lib.hid (by unfold shapeN shapeX; simp [h1, h2, h3, h4, h5])
  have e1 : (n == 1) = false := by simpa using h1
  have e2 : (n == 2) = false := by simpa using h2
  have e3 : (n == 3) = false := by simpa using h3
  have e4 : (n == 4) = false := by simpa using h4
  have e5 : (n == 5) = false := by simpa using h5
  clear h1 h2 h3 h4 h5
  go_enter Tryd.func26, Tryd.ntmps26
  go_wp2
  go_ret2
  exact ⟨by rw [HW.out.1, HW.out.2]; rfl, rfl⟩
end Go.Proofs.YtgjnhefmheefbaaDoor
