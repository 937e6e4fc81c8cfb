/- Plain definitions of what layer 1's functions return, over lists of bytes, and plain laws about them. No program is named here. -/
import Derived.PlainAid
import Derived.Below
namespace Go.Proofs.Ytjbhmeeebacnpaa.Fl

/-- A byte that may stand in a field. -/
def fieldByte (c : UInt8) : Bool := decide (33 ≤ c.toNat ∧ c.toNat ≤ 126 ∧ c.toNat ≠ 35)
def digitB (c : UInt8) : Bool := decide (48 ≤ c.toNat ∧ c.toNat ≤ 57)
def letterB (c : UInt8) : Bool := decide (97 ≤ c.toNat ∧ c.toNat ≤ 122 ∨ 65 ≤ c.toNat ∧ c.toNat ≤ 90)

/-- The digits' value, as long as it is at most 9999. -/
def digitsVal : Nat → List UInt8 → Option Nat
  | n, [] => some n
  | n, c :: r => if digitB c then (if 9999 < 10 * n + (c.toNat - 48) then none else digitsVal (10 * n + (c.toNat - 48)) r) else none
theorem digitsVal_bad {n : Nat} {l : List UInt8} {k : Nat} (h : k < l.length) (hb : digitB l[k] = false) : digitsVal n (l.drop k) = none := by
  rw [List.drop_eq_getElem_cons h, digitsVal, hb]; rfl
theorem digitsVal_big {n : Nat} {l : List UInt8} {k : Nat} (h : k < l.length) (hg : 9999 < 10 * n + (l[k].toNat - 48)) : digitsVal n (l.drop k) = none := by
  rw [List.drop_eq_getElem_cons h, digitsVal, if_pos hg]; split <;> rfl
theorem digitsVal_step {n : Nat} {l : List UInt8} {k : Nat} (h : k < l.length) (hb : digitB l[k] = true) (hg : 10 * n + (l[k].toNat - 48) ≤ 9999) : digitsVal n (l.drop k) = digitsVal (10 * n + (l[k].toNat - 48)) (l.drop (k + 1)) := by
  rw [List.drop_eq_getElem_cons h, digitsVal, hb, if_pos rfl, if_neg (by omega)]

theorem digitsVal_ge {m : Nat} : ∀ (l : List UInt8) (n : Nat), digitsVal n l = some m → n ≤ 9999 → n * 10 ^ l.length ≤ m ∧ m ≤ 9999
  | [], n, h, hn => by
    injection h with h
    subst h
    exact ⟨by simp, hn⟩
  | c :: r, n, h, hn => by
    unfold digitsVal at h
    split at h
    · split at h
      · cases h
      · rename_i hb hg
        have ih := digitsVal_ge r _ h (by omega)
        refine ⟨?_, ih.2⟩
        have e : n * 10 ^ (c :: r).length = (10 * n) * 10 ^ r.length := by
          rw [List.length_cons, Nat.pow_succ, Nat.mul_comm 10 n, Nat.mul_assoc, Nat.mul_comm 10]
        have : (10 * n) * 10 ^ r.length ≤ (10 * n + (c.toNat - 48)) * 10 ^ r.length := Nat.mul_le_mul_right _ (by omega)
        omega
    · cases h
/-- More than four digits without a leading zero are too many. -/
theorem digitsVal_many {d : List UInt8} (h4 : 4 < d.length) (h0 : d.head? ≠ some 48) : digitsVal 0 d = none := by
  cases d with
  | nil => simp at h4
  | cons c r =>
    rcases hd : digitsVal 0 (c :: r) with _ | m
    · rfl
    · exfalso
      unfold digitsVal at hd
      split at hd
      · rename_i hb
        have hb' : 48 ≤ c.toNat ∧ c.toNat ≤ 57 := by simpa [digitB] using hb
        have hc : c.toNat ≠ 48 := fun e => h0 (by simp; exact UInt8.toNat_inj.1 (by simpa using e))
        split at hd
        · cases hd
        · have ih := digitsVal_ge r _ hd (by omega)
          have h4' : 4 ≤ r.length := by simp at h4; omega
          have hp : 10 ^ 4 ≤ 10 ^ r.length := Nat.pow_le_pow_right (by omega) h4'
          have : 1 * 10 ^ r.length ≤ (10 * 0 + (c.toNat - 48)) * 10 ^ r.length := Nat.mul_le_mul_right _ (by omega)
          omega
      · cases hd

/-- The value behind a sign, or none. -/
def numOf (neg : Bool) (l d : List UInt8) : Option Int :=
  if d = [] then none
  else if d.head? = some 48 ∧ l ≠ [48] then none
  else match digitsVal 0 d with
    | none => none
    | some n => some (if neg then -(n : Int) else n)
/-- What Number returns: the value, or none. -/
def num : List UInt8 → Option Int
  | 45 :: d => numOf true (45 :: d) d
  | l => numOf false l l
theorem num_pos {l : List UInt8} (h : l.head? ≠ some 45) : num l = numOf false l l := by
  unfold num; split
  · simp at h
  · rfl
theorem num_neg (d : List UInt8) : num (45 :: d) = numOf true (45 :: d) d := rfl
def ret2 (o : Option Int) : Value := match o with
  | none => .tuple #[.int .i64 0, .bool false]
  | some n => .tuple #[.int .i64 n, .bool true]
theorem numOf_nil (neg : Bool) (l : List UInt8) : numOf neg l [] = none := rfl
theorem numOf_zero {neg : Bool} {l d : List UInt8} (h : d.head? = some 48) (h2 : l ≠ [48]) : numOf neg l d = none := by
  unfold numOf; split
  · rfl
  · rw [if_pos ⟨h, h2⟩]
theorem numOf_none {neg : Bool} {l d : List UInt8} (h : digitsVal 0 d = none) : numOf neg l d = none := by
  unfold numOf; split
  · rfl
  · split
    · rfl
    · rw [h]
theorem numOf_some {neg : Bool} {l d : List UInt8} {n : Nat} (h0 : d ≠ []) (h1 : ¬ (d.head? = some 48 ∧ l ≠ [48])) (h : digitsVal 0 d = some n) : numOf neg l d = some (if neg then -(n : Int) else n) := by
  unfold numOf; rw [if_neg h0, if_neg h1, h]

theorem numOf_many {neg : Bool} {l d : List UInt8} (h : 4 < d.length) (hl : d.length ≤ l.length) : numOf neg l d = none := by
  by_cases h0 : d.head? = some 48
  · refine numOf_zero h0 ?_
    rintro rfl
    simp at hl; omega
  · exact numOf_none (digitsVal_many h h0)

def nameByte (c : UInt8) : Bool := letterB c || decide (48 ≤ c.toNat ∧ c.toNat ≤ 57 ∨ c.toNat = 45 ∨ c.toNat = 95)
theorem nameByte_letter {c : UInt8} (h : letterB c = true) : nameByte c = true := by simp [nameByte, h]
theorem nameByte_other {c : UInt8} (h : 48 ≤ (c.toNat : Int) ∧ (c.toNat : Int) ≤ 57 ∨ (c.toNat : Int) = 45 ∨ (c.toNat : Int) = 95) : nameByte c = true := by
  simp only [nameByte, Bool.or_eq_true, decide_eq_true_eq]; omega
theorem nameByte_none {c : UInt8} (h : letterB c = false) (h2 : ¬ (48 ≤ (c.toNat : Int) ∧ (c.toNat : Int) ≤ 57 ∨ (c.toNat : Int) = 45 ∨ (c.toNat : Int) = 95)) : nameByte c = false := by
  simp only [nameByte, h, Bool.false_or, decide_eq_false_iff_not]; omega
def name (l : List UInt8) : Bool := decide (1 ≤ l.length ∧ l.length ≤ 12) && letterB (l.headD 0) && l.all nameByte

theorem name_bad {l : List UInt8} {k : Nat} (h : k < l.length) (hb : nameByte l[k] = false) : name l = false := by
  have : l.all nameByte = false := by
    rw [List.all_eq_false]
    exact ⟨l[k], List.getElem_mem h, by simp [hb]⟩
  simp [name, this]
theorem name_short {l : List UInt8} (h : ¬ 1 ≤ l.length) : name l = false := by simp [name, h]
theorem name_long {l : List UInt8} (h : ¬ l.length ≤ 12) : name l = false := by simp [name, h]
theorem name_first {l : List UInt8} (h : 0 < l.length) (hb : letterB l[0] = false) : name l = false := by
  cases l with
  | nil => simp at h
  | cons c r => simp only [List.getElem_cons_zero] at hb; simp [name, hb]
theorem head_of {l : List UInt8} (h : 0 < l.length) : l.headD 0 = l[0] := by
  cases l with
  | nil => simp at h
  | cons c r => rfl
theorem name_good {l : List UInt8} (h1 : 1 ≤ l.length) (h2 : l.length ≤ 12) (h3 : letterB (l.headD 0) = true) (h4 : l.all nameByte = true) : name l = true := by
  simp only [name, h3, h4, Bool.and_true, decide_eq_true_eq]
  exact ⟨h1, h2⟩
/-- The last decimal digit, as a byte. -/
def digC (k : Nat) : UInt8 := UInt8.ofNat (48 + k % 10)
theorem digC_nat (k : Nat) : (digC k).toNat = 48 + k % 10 := by
  unfold digC; rw [UInt8.toNat_ofNat']; exact Nat.mod_eq_of_lt (by omega)
theorem digC_digit (k : Nat) : digitB (digC k) = true := by
  simp only [digitB, digC_nat, decide_eq_true_eq]; omega
/-- The decimal digits of a natural number, ahead of acc. -/
def digs : Nat → Nat → List UInt8 → List UInt8
  | 0, _, acc => acc
  | f + 1, n, acc => if n / 10 = 0 then digC n :: acc else digs f (n / 10) (digC n :: acc)
/-- A number in decimal. -/
def dec (n : Int) : List UInt8 := if n < 0 then 45 :: digs 20 (-n).toNat [] else digs 20 n.toNat []
theorem digitsVal_digs : ∀ (f n : Nat) (acc : List UInt8), n < 10 ^ f → n ≤ 9999 → 1 ≤ f → digitsVal 0 (digs f n acc) = digitsVal n acc
  | 0, _, _, _, _, h1 => by omega
  | f + 1, n, acc, hf, hn, _ => by
    unfold digs
    have hstep : ∀ v, v = n / 10 → digitsVal v (digC n :: acc) = digitsVal n acc := by
      rintro v rfl
      rw [digitsVal, digC_digit, if_pos rfl, digC_nat, if_neg (by omega)]
      congr 1; omega
    split
    · rename_i h; exact hstep 0 h.symm
    · rename_i h
      rcases f with _ | f
      · simp at hf; omega
      · rw [digitsVal_digs (f + 1) (n / 10) _ (by rw [Nat.pow_succ] at hf; omega) (by omega) (by omega)]
        exact hstep _ rfl
theorem digs_head : ∀ (f n : Nat) (acc : List UInt8), n < 10 ^ f → 1 ≤ n → (digs f n acc).head? ≠ some 48
  | 0, n, _, hf, h1 => by simp at hf; omega
  | f + 1, n, acc, hf, h1 => by
    unfold digs
    split
    · intro h
      have h' : digC n = 48 := by simpa using h
      have h2 : (digC n).toNat = 48 := by rw [h']; rfl
      rw [digC_nat] at h2; omega
    · exact digs_head f (n / 10) _ (by rw [Nat.pow_succ] at hf; omega) (by omega)
theorem digs_ne : ∀ (f n : Nat) (acc : List UInt8), 1 ≤ f → digs f n acc ≠ []
  | 0, _, _, h => by omega
  | f + 1, n, acc, _ => by
    unfold digs
    split
    · simp
    · rcases f with _ | f
      · simp [digs]
      · exact digs_ne (f + 1) (n / 10) _ (by omega)
theorem digs_minus : ∀ (f n : Nat) (acc : List UInt8), acc.head? ≠ some 45 → (digs f n acc).head? ≠ some 45
  | 0, _, _, h => h
  | f + 1, n, acc, _ => by
    have h : (digC n :: acc).head? ≠ some 45 := by
      intro h
      have h' : digC n = 45 := by simpa using h
      have h2 : (digC n).toNat = 45 := by rw [h']; rfl
      rw [digC_nat] at h2; omega
    unfold digs
    split
    · exact h
    · exact digs_minus f (n / 10) _ h
theorem digs_zero : digs 20 0 [] = [48] := by decide
/-- A natural number in range is read back, and no other one is. -/
theorem digitsVal_dec (n : Nat) (h : n ≤ 90000) : digitsVal 0 (digs 20 n []) = if n ≤ 9999 then some n else none := by
  split
  · rename_i h1
    rw [digitsVal_digs 20 n [] (by omega) h1 (by omega)]; rfl
  · rename_i h1
    rw [digs, if_neg (by omega), digitsVal_digs 19 (n / 10) _ (by omega) (by omega) (by omega), digitsVal, digC_digit, if_pos rfl, digC_nat, if_pos (by omega)]
/-- Every number in range is read back from its decimal form, and no other is. -/
theorem num_dec (n : Int) (h0 : -90000 ≤ n) (h1 : n ≤ 90000) : num (dec n) = if -9999 ≤ n ∧ n ≤ 9999 then some n else none := by
  unfold dec
  by_cases hn : n < 0
  · rw [if_pos hn, num_neg]
    obtain ⟨m, hm⟩ := Int.eq_ofNat_of_zero_le (show 0 ≤ -n by omega)
    have hmn : (-n).toNat = m := by omega
    rw [hmn]
    have hv := digitsVal_dec m (by omega)
    have hh := digs_head 20 m [] (by omega) (by omega)
    split
    · rename_i hr
      rw [if_pos (by omega)] at hv
      rw [numOf_some (digs_ne 20 m [] (by omega)) (fun h => hh h.1) hv, if_pos rfl]
      congr 1; omega
    · rename_i hr
      rw [if_neg (by omega)] at hv
      exact numOf_none hv
  · rw [if_neg hn]
    obtain ⟨m, rfl⟩ := Int.eq_ofNat_of_zero_le (show 0 ≤ n by omega)
    rw [Int.toNat_natCast, num_pos (digs_minus 20 m [] (by simp))]
    have hv := digitsVal_dec m (by omega)
    split
    · rename_i hr
      rw [if_pos (by omega)] at hv
      rw [numOf_some (digs_ne 20 m [] (by omega)) ?_ hv]
      · rfl
      · rintro ⟨ha, hb⟩
        rcases Nat.eq_zero_or_pos m with h | h
        · subst h; exact hb digs_zero
        · exact digs_head 20 m [] (by omega) h ha
    · rename_i hr
      rw [if_neg (by omega)] at hv
      exact numOf_none hv
theorem dec_ne (n : Int) : dec n ≠ [] := by
  unfold dec; split
  · simp
  · exact digs_ne 20 _ _ (by omega)
theorem num_plus (l : List UInt8) : num (43 :: l) = none := by
  rw [num_pos (by simp)]
  exact numOf_none rfl
theorem num_zero {l : List UInt8} (h : l ≠ []) : num (48 :: l) = none := by
  rw [num_pos (by simp)]
  exact numOf_zero rfl (by simpa using h)
theorem digs_length : ∀ (f n : Nat) (acc : List UInt8), (digs f n acc).length ≤ acc.length + f
  | 0, _, acc => by simp [digs]
  | f + 1, n, acc => by
    unfold digs
    split
    · simp
    · have := digs_length f (n / 10) (digC n :: acc)
      simp at this; omega
theorem dec_length (n : Int) : (dec n).length ≤ 21 := by
  unfold dec; split
  · have := digs_length 20 (-n).toNat []; simp at this ⊢; omega
  · have := digs_length 20 n.toNat []; simp at this ⊢; omega

/-- The fields so far, and the one that ends here. -/
def flush (cur : List UInt8) (acc : List (List UInt8)) : List (List UInt8) := if cur = [] then acc else acc ++ [cur]
/-- The fields of the rest of a line, or its first error (2: the byte is not allowed; 3: the field is too long). -/
def scanA (cur : List UInt8) (acc : List (List UInt8)) : List UInt8 → Except Nat (List (List UInt8))
  | [] => .ok (flush cur acc)
  | c :: r =>
    if c.toNat = 35 then .ok (flush cur acc)
    else if c.toNat = 32 ∨ c.toNat = 9 then scanA [] (flush cur acc) r
    else if fieldByte c then (if 12 ≤ cur.length then .error 3 else scanA (cur ++ [c]) acc r)
    else .error 2
theorem scanA_end {cur : List UInt8} {acc : List (List UInt8)} {l : List UInt8} {k : Nat} (h : l.length ≤ k) : scanA cur acc (l.drop k) = .ok (flush cur acc) := by
  rw [List.drop_of_length_le h]; rfl
theorem scanA_hash {cur : List UInt8} {acc : List (List UInt8)} {l : List UInt8} {k : Nat} (h : k < l.length) (hc : l[k].toNat = 35) : scanA cur acc (l.drop k) = .ok (flush cur acc) := by
  rw [List.drop_eq_getElem_cons h, scanA, if_pos hc]
theorem scanA_blank {cur : List UInt8} {acc : List (List UInt8)} {l : List UInt8} {k : Nat} (h : k < l.length) (hc : l[k].toNat = 32 ∨ l[k].toNat = 9) : scanA cur acc (l.drop k) = scanA [] (flush cur acc) (l.drop (k + 1)) := by
  rw [List.drop_eq_getElem_cons h, scanA, if_neg (by omega), if_pos hc]
theorem fieldByte_bounds {c : UInt8} (h : fieldByte c = true) : 33 ≤ c.toNat ∧ c.toNat ≤ 126 ∧ c.toNat ≠ 35 := by simpa [fieldByte] using h
theorem scanA_long {cur : List UInt8} {acc : List (List UInt8)} {l : List UInt8} {k : Nat} (h : k < l.length) (hc : fieldByte l[k] = true) (hl : 12 ≤ cur.length) : scanA cur acc (l.drop k) = .error 3 := by
  have := fieldByte_bounds hc
  rw [List.drop_eq_getElem_cons h, scanA, if_neg (by omega), if_neg (by omega), if_pos hc, if_pos hl]
theorem scanA_step {cur : List UInt8} {acc : List (List UInt8)} {l : List UInt8} {k : Nat} (h : k < l.length) (hc : fieldByte l[k] = true) (hl : cur.length < 12) : scanA cur acc (l.drop k) = scanA (cur ++ [l[k]]) acc (l.drop (k + 1)) := by
  have := fieldByte_bounds hc
  rw [List.drop_eq_getElem_cons h, scanA, if_neg (by omega), if_neg (by omega), if_pos hc, if_neg (by omega)]
theorem scanA_byte {cur : List UInt8} {acc : List (List UInt8)} {l : List UInt8} {k : Nat} (h : k < l.length) (hc : fieldByte l[k] = false) (h1 : l[k].toNat ≠ 35) (h2 : l[k].toNat ≠ 32) (h3 : l[k].toNat ≠ 9) : scanA cur acc (l.drop k) = .error 2 := by
  rw [List.drop_eq_getElem_cons h, scanA, if_neg h1, if_neg (by omega), hc]; rfl
/-- A part of a list. -/
def seg (l : List UInt8) (a b : Nat) : List UInt8 := (l.take b).drop a
theorem seg_nil (l : List UInt8) (a : Nat) : seg l a a = [] := by unfold seg; rw [List.drop_eq_nil_iff]; simp; omega
theorem seg_length {l : List UInt8} {a b : Nat} (h : b ≤ l.length) : (seg l a b).length = b - a := by unfold seg; simp; omega
theorem seg_snoc {l : List UInt8} {a b : Nat} (h : b < l.length) (hab : a ≤ b) : seg l a (b + 1) = seg l a b ++ [l[b]] := by
  unfold seg
  rw [List.take_succ_eq_append_getElem h, List.drop_append_of_le_length (by simp; omega)]
theorem seg_ne {l : List UInt8} {a b : Nat} (h : b ≤ l.length) (hab : a < b) : seg l a b ≠ [] := by
  intro e
  have := seg_length (a := a) h
  rw [e] at this; simp at this; omega
theorem flush_nil (acc : List (List UInt8)) : flush [] acc = acc := rfl
theorem flush_seg {l : List UInt8} {a b : Nat} (h : b ≤ l.length) (hab : a < b) (acc : List (List UInt8)) : flush (seg l a b) acc = acc ++ [seg l a b] := by
  unfold flush; rw [if_neg (seg_ne h hab)]
end Go.Proofs.Ytjbhmeeebacnpaa.Fl
