/- The declarations of a made network, as a text and back. -/
import Derived.Test.YtgjnhefmheefbaaDoorMjF
import Derived.Test.YtgjnhefmheefbaaDoorMjC
import Derived.Test.YtgjnhefmheefbaaDoorNmAt
namespace Go.Proofs.YtgjnhefmheefbaaDoor
open Go Go.RowKit Fl

theorem digit_field {c : UInt8} (h : digitB c = true) : fieldByte c = true := by
  simp only [digitB, fieldByte, decide_eq_true_eq] at *; omega
theorem digs_field : ∀ (f n : Nat) (acc : List UInt8), acc.all fieldByte = true → (digs f n acc).all fieldByte = true
  | 0, _, acc, h => h
  | f + 1, n, acc, h => by
    have hc : (digC n :: acc).all fieldByte = true := by rw [List.all_cons, digit_field (digC_digit n), h]; rfl
    unfold digs
    split
    · exact hc
    · exact digs_field f (n / 10) _ hc
theorem digs_few : ∀ (f n k : Nat) (acc : List UInt8), n < 10 ^ k → 1 ≤ k → (digs f n acc).length ≤ acc.length + k
  | 0, _, k, acc, _, _ => by simp [digs]
  | f + 1, n, k, acc, h, hk => by
    unfold digs
    split
    · simp; omega
    · rename_i h0
      obtain ⟨j, rfl⟩ : ∃ j, k = j + 1 := ⟨k - 1, by omega⟩
      have hj : n / 10 < 10 ^ j := by rw [Nat.pow_succ] at h; omega
      have hj1 : 1 ≤ j := by
        rcases Nat.eq_zero_or_pos j with h2 | h2
        · subst h2; simp at hj; omega
        · exact h2
      have := digs_few f (n / 10) j (digC n :: acc) hj hj1
      rw [List.length_cons] at this
      omega
theorem dec_field {z : Int} (h : -9999 ≤ z ∧ z ≤ 9999) : fieldOk (dec z) = true := by
  have h1 : 1 ≤ (dec z).length := List.length_pos_iff.2 (dec_ne z)
  refine fieldOk_good ⟨h1, ?_⟩ ?_
  · unfold dec
    split
    · have := digs_few 20 (-z).toNat 4 [] (by omega) (by omega)
      simp at this ⊢; omega
    · have := digs_few 20 z.toNat 4 [] (by omega) (by omega)
      simp at this ⊢; omega
  · unfold dec
    split
    · rw [List.all_cons, digs_field 20 _ [] rfl]; rfl
    · exact digs_field 20 _ [] rfl
theorem name_field {l : List UInt8} (h : name l = true) : fieldOk l = true := by
  unfold name at h
  simp only [Bool.and_eq_true, decide_eq_true_eq] at h
  refine fieldOk_good h.1.1 (List.all_eq_true.2 fun c hc => ?_)
  have := List.all_eq_true.1 h.2 c hc
  simp only [nameByte, letterB, fieldByte, Bool.or_eq_true, decide_eq_true_eq] at *
  omega
theorem word_field (z : Int) : fieldOk (wordText z) = true := by
  unfold wordText
  repeat' split
  all_goals decide
theorem line_fields {N : NetD} (hN : NetOk N) {d : DeclD} (h : NetDc N d) : (lineOf d).2.all fieldOk = true ∧ (lineOf d).2.length ≤ 5 ∧ (lineOf d).2 ≠ [] := by
  have hs := h.small
  refine ⟨List.all_eq_true.2 fun f hf => ?_, ?_, by simp [lineOf]⟩
  · unfold lineOf at hf
    simp only [List.cons_append, List.mem_cons, List.mem_append, List.mem_map] at hf
    rcases hf with rfl | hf | ⟨z, hz, rfl⟩
    · exact word_field _
    · exact name_field (hN.named f (h.names f hf))
    · exact dec_field (h.nums z hz)
  · simp only [lineOf, List.cons_append, List.length_cons, List.length_append, List.length_map]; omega
theorem formed_from {N : NetD} (hN : NetOk N) : ∀ (l : List DeclD) (n : Nat), (∀ d ∈ l, NetDc N d) → formed (n : Int) ((lineFrom n l).map lineOf) = true
  | [], _, _ => rfl
  | d :: r, n, h => by
    obtain ⟨h1, _, h3⟩ := line_fields hN (h d (by simp))
    have ih := formed_from hN r (n + 1) (fun e he => h e (by simp [he]))
    rw [lineFrom, List.map_cons, formed]
    rw [show (lineOf { d with line := (n : Int) + 1 }).2 = (lineOf d).2 from rfl, show (lineOf { d with line := (n : Int) + 1 }).1 = ((n + 1 : Nat) : Int) by simp [lineOf], ih, h1]
    simp [h3]; omega
theorem joinA_from {N : NetD} (hN : NetOk N) : ∀ (l : List DeclD) (n : Nat) (acc : List UInt8), (∀ d ∈ l, NetDc N d) → n + l.length ≤ 6000 → acc.length + 66 * l.length ≤ 6000 → ∃ t, joinA (n : Int) acc ((lineFrom n l).map lineOf) = .ok t ∧ t.length ≤ 6000
  | [], _, acc, _, _, hl => ⟨acc, rfl, by simpa using hl⟩
  | d :: r, n, acc, h, hn, hl => by
    obtain ⟨h1, h2, _⟩ := line_fields hN (h d (by simp))
    have hj := join_length_le _ h1
    rw [List.length_cons] at hn hl
    have e0 : ((((n + 1 : Nat) : Int)) - (n : Int) - 1).toNat = 0 := by omega
    have e1 : Lib.repeatL ([10] : List UInt8) 0 = [] := rfl
    have hlen : (acc ++ Lib.join (lineOf d).2 [32] ++ [10]).length ≤ acc.length + 66 := by
      simp only [List.length_append, List.length_cons, List.length_nil]; omega
    obtain ⟨t, ht, ht2⟩ := joinA_from hN r (n + 1) (acc ++ Lib.join (lineOf d).2 [32] ++ [10]) (fun e he => h e (by simp [he])) (by omega) (by omega)
    refine ⟨t, ?_, ht2⟩
    rw [lineFrom, List.map_cons, joinA]
    rw [show (lineOf { d with line := (n : Int) + 1 }).2 = (lineOf d).2 from rfl, show (lineOf { d with line := (n : Int) + 1 }).1 = ((n + 1 : Nat) : Int) by simp [lineOf], e0, e1, List.append_nil, if_neg (by omega), if_neg (by omega), ht]
def lineD (d : DeclD) : LineD := (d.line.toNat, (lineOf d).2)
theorem lineD_toI : ∀ (l : List DeclD) (n : Nat), ((lineFrom n l).map lineD).map toI = (lineFrom n l).map lineOf
  | [], _ => rfl
  | d :: r, n => by
    have e : (((n : Int) + 1).toNat : Int) = (n : Int) + 1 := by omega
    rw [lineFrom, List.map_cons, List.map_cons, List.map_cons, lineD_toI r (n + 1)]
    simp only [toI, lineD, lineOf, e]
theorem raw_few {N : NetD} (h : NetMade 6 N) : (rawDecls N).length ≤ 51 := by
  have h1 := h.most_
  have hln := h.ok.lanes
  have h2 : (lanesTo N N.blocks.length).length ≤ 4 * N.blocks.length := by
    have : ∀ k, k ≤ N.next.length → (lanesTo N k).length ≤ 4 * k := by
      intro k
      induction k with
      | zero => intro _; simp [lanesTo]
      | succ k ih =>
        intro hk
        rw [lanesTo_succ, List.length_append, List.length_map, List.getD_eq_getElem?_getD, List.getElem?_eq_getElem (show k < N.next.length by omega)]
        have := ih (by omega)
        have := h.ok.outs _ (List.getElem_mem (show k < N.next.length by omega))
        simp only [Option.getD_some]
        omega
    exact this _ (by omega)
  have h3 := h.spurs5
  have h4 := h.robots3
  have h5 : (N.robots.flatMap (robotL N)).length ≤ N.robots.length * N.spurs.length := by
    have : ∀ l : List Int, (l.flatMap (robotL N)).length ≤ l.length * N.spurs.length := by
      intro l
      induction l with
      | nil => simp
      | cons x r ih =>
        have h2 := List.length_filter_le (inS x) N.spurs
        rw [List.flatMap_cons, List.length_append, List.length_cons, Nat.succ_mul]
        have : (robotL N x).length ≤ N.spurs.length := by unfold robotL; rw [List.length_map]; exact h2
        omega
    exact this _
  have h6 : N.robots.length * N.spurs.length ≤ 3 * 5 := Nat.mul_le_mul h4 h3
  unfold rawDecls
  simp only [List.length_append, List.length_map, List.length_cons, List.length_nil]
  omega
theorem desc_text {N : NetD} (h : NetMade 6 N) : ∃ t : List UInt8, joinT ((descD N).map lineOf) = .ok t ∧ t.length ≤ 6000 ∧ linesT t = .ok ((descD N).map lineD) ∧ ((descD N).map lineD).map toI = (descD N).map lineOf := by
  have hl := raw_few h
  have hf := formed_from h.ok (rawDecls N) 0 (fun d hd => rawDecls_ok h.ok d hd)
  obtain ⟨t, ht, ht2⟩ := joinA_from h.ok (rawDecls N) 0 [] (fun d hd => rawDecls_ok h.ok d hd) (by omega) (by simp; omega)
  have hI := lineD_toI (rawDecls N) 0
  have hj : joinT ((descD N).map lineOf) = .ok t := by
    unfold joinT descD
    rw [if_pos (show formed 0 _ = true from hf)]
    exact ht
  refine ⟨t, hj, ht2, ?_, hI⟩
  rw [← show ((descD N).map lineD).map toI = (descD N).map lineOf from hI] at hj
  exact (linesT_joinT hj ht2).2.2
end Go.Proofs.YtgjnhefmheefbaaDoor
