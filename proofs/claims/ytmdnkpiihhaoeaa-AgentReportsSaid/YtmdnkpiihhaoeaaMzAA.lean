/- Joined texts. -/
import Derived.PlainAid
import Derived.Below
namespace Go.Proofs.Ytmdnkpiihhaoeaa.Fl

/-- A byte that may stand in a field. -/
def fieldByte (c : UInt8) : Bool := decide (33 ≤ c.toNat ∧ c.toNat ≤ 126 ∧ c.toNat ≠ 35)
def digitB (c : UInt8) : Bool := decide (48 ≤ c.toNat ∧ c.toNat ≤ 57)
def letterB (c : UInt8) : Bool := decide (97 ≤ c.toNat ∧ c.toNat ≤ 122 ∨ 65 ≤ c.toNat ∧ c.toNat ≤ 90)

/-- The digits' value, as long as it is at most 9999. -/
def digitsVal : Nat → List UInt8 → Option Nat
  | n, [] => some n
  | n, c :: r => if digitB c then (if 9999 < 10 * n + (c.toNat - 48) then none else digitsVal (10 * n + (c.toNat - 48)) r) else none
theorem digitsVal_bad {n : Nat} {l : List UInt8} {k : Nat} (h : k < l.length) (hb : digitB l[k] = false) : digitsVal n (l.drop k) = none := by
  rw [List.drop_eq_getElem_cons h, digitsVal, hb]; rfl
theorem digitsVal_big {n : Nat} {l : List UInt8} {k : Nat} (h : k < l.length) (hg : 9999 < 10 * n + (l[k].toNat - 48)) : digitsVal n (l.drop k) = none := by
  rw [List.drop_eq_getElem_cons h, digitsVal, if_pos hg]; split <;> rfl
theorem digitsVal_step {n : Nat} {l : List UInt8} {k : Nat} (h : k < l.length) (hb : digitB l[k] = true) (hg : 10 * n + (l[k].toNat - 48) ≤ 9999) : digitsVal n (l.drop k) = digitsVal (10 * n + (l[k].toNat - 48)) (l.drop (k + 1)) := by
  rw [List.drop_eq_getElem_cons h, digitsVal, hb, if_pos rfl, if_neg (by omega)]

theorem digitsVal_ge {m : Nat} : ∀ (l : List UInt8) (n : Nat), digitsVal n l = some m → n ≤ 9999 → n * 10 ^ l.length ≤ m ∧ m ≤ 9999
  | [], n, h, hn => by
    injection h with h
    subst h
    exact ⟨by simp, hn⟩
  | c :: r, n, h, hn => by
    unfold digitsVal at h
    split at h
    · split at h
      · cases h
      · rename_i hb hg
        have ih := digitsVal_ge r _ h (by omega)
        refine ⟨?_, ih.2⟩
        have e : n * 10 ^ (c :: r).length = (10 * n) * 10 ^ r.length := by
          rw [List.length_cons, Nat.pow_succ, Nat.mul_comm 10 n, Nat.mul_assoc, Nat.mul_comm 10]
        have : (10 * n) * 10 ^ r.length ≤ (10 * n + (c.toNat - 48)) * 10 ^ r.length := Nat.mul_le_mul_right _ (by omega)
        omega
    · cases h
/-- More than four digits without a leading zero are too many. -/
theorem digitsVal_many {d : List UInt8} (h4 : 4 < d.length) (h0 : d.head? ≠ some 48) : digitsVal 0 d = none := by
  cases d with
  | nil => simp at h4
  | cons c r =>
    rcases hd : digitsVal 0 (c :: r) with _ | m
    · rfl
    · exfalso
      unfold digitsVal at hd
      split at hd
      · rename_i hb
        have hb' : 48 ≤ c.toNat ∧ c.toNat ≤ 57 := by simpa [digitB] using hb
        have hc : c.toNat ≠ 48 := fun e => h0 (by simp; exact UInt8.toNat_inj.1 (by simpa using e))
        split at hd
        · cases hd
        · have ih := digitsVal_ge r _ hd (by omega)
          have h4' : 4 ≤ r.length := by simp at h4; omega
          have hp : 10 ^ 4 ≤ 10 ^ r.length := Nat.pow_le_pow_right (by omega) h4'
          have : 1 * 10 ^ r.length ≤ (10 * 0 + (c.toNat - 48)) * 10 ^ r.length := Nat.mul_le_mul_right _ (by omega)
          omega
      · cases hd

/-- The value behind a sign, or none. -/
def numOf (neg : Bool) (l d : List UInt8) : Option Int :=
  if d = [] then none
  else if d.head? = some 48 ∧ l ≠ [48] then none
  else match digitsVal 0 d with
    | none => none
    | some n => some (if neg then -(n : Int) else n)
/-- What Number returns: the value, or none. -/
def num : List UInt8 → Option Int
  | 45 :: d => numOf true (45 :: d) d
  | l => numOf false l l
theorem num_pos {l : List UInt8} (h : l.head? ≠ some 45) : num l = numOf false l l := by
  unfold num; split
  · simp at h
  · rfl
theorem num_neg (d : List UInt8) : num (45 :: d) = numOf true (45 :: d) d := rfl
def ret2 (o : Option Int) : Value := match o with
  | none => .tuple #[.int .i64 0, .bool false]
  | some n => .tuple #[.int .i64 n, .bool true]
theorem numOf_nil (neg : Bool) (l : List UInt8) : numOf neg l [] = none := rfl
theorem numOf_zero {neg : Bool} {l d : List UInt8} (h : d.head? = some 48) (h2 : l ≠ [48]) : numOf neg l d = none := by
  unfold numOf; split
  · rfl
  · rw [if_pos ⟨h, h2⟩]
theorem numOf_none {neg : Bool} {l d : List UInt8} (h : digitsVal 0 d = none) : numOf neg l d = none := by
  unfold numOf; split
  · rfl
  · split
    · rfl
    · rw [h]
theorem numOf_some {neg : Bool} {l d : List UInt8} {n : Nat} (h0 : d ≠ []) (h1 : ¬ (d.head? = some 48 ∧ l ≠ [48])) (h : digitsVal 0 d = some n) : numOf neg l d = some (if neg then -(n : Int) else n) := by
  unfold numOf; rw [if_neg h0, if_neg h1, h]

theorem numOf_many {neg : Bool} {l d : List UInt8} (h : 4 < d.length) (hl : d.length ≤ l.length) : numOf neg l d = none := by
  by_cases h0 : d.head? = some 48
  · refine numOf_zero h0 ?_
    rintro rfl
    simp at hl; omega
  · exact numOf_none (digitsVal_many h h0)

def nameByte (c : UInt8) : Bool := letterB c || decide (48 ≤ c.toNat ∧ c.toNat ≤ 57 ∨ c.toNat = 45 ∨ c.toNat = 95)
theorem nameByte_letter {c : UInt8} (h : letterB c = true) : nameByte c = true := by simp [nameByte, h]
theorem nameByte_other {c : UInt8} (h : 48 ≤ (c.toNat : Int) ∧ (c.toNat : Int) ≤ 57 ∨ (c.toNat : Int) = 45 ∨ (c.toNat : Int) = 95) : nameByte c = true := by
  simp only [nameByte, Bool.or_eq_true, decide_eq_true_eq]; omega
theorem nameByte_none {c : UInt8} (h : letterB c = false) (h2 : ¬ (48 ≤ (c.toNat : Int) ∧ (c.toNat : Int) ≤ 57 ∨ (c.toNat : Int) = 45 ∨ (c.toNat : Int) = 95)) : nameByte c = false := by
  simp only [nameByte, h, Bool.false_or, decide_eq_false_iff_not]; omega
def name (l : List UInt8) : Bool := decide (1 ≤ l.length ∧ l.length ≤ 12) && letterB (l.headD 0) && l.all nameByte

theorem name_bad {l : List UInt8} {k : Nat} (h : k < l.length) (hb : nameByte l[k] = false) : name l = false := by
  have : l.all nameByte = false := by
    rw [List.all_eq_false]
    exact ⟨l[k], List.getElem_mem h, by simp [hb]⟩
  simp [name, this]
theorem name_short {l : List UInt8} (h : ¬ 1 ≤ l.length) : name l = false := by simp [name, h]
theorem name_long {l : List UInt8} (h : ¬ l.length ≤ 12) : name l = false := by simp [name, h]
theorem name_first {l : List UInt8} (h : 0 < l.length) (hb : letterB l[0] = false) : name l = false := by
  cases l with
  | nil => simp at h
  | cons c r => simp only [List.getElem_cons_zero] at hb; simp [name, hb]
theorem head_of {l : List UInt8} (h : 0 < l.length) : l.headD 0 = l[0] := by
  cases l with
  | nil => simp at h
  | cons c r => rfl
theorem name_good {l : List UInt8} (h1 : 1 ≤ l.length) (h2 : l.length ≤ 12) (h3 : letterB (l.headD 0) = true) (h4 : l.all nameByte = true) : name l = true := by
  simp only [name, h3, h4, Bool.and_true, decide_eq_true_eq]
  exact ⟨h1, h2⟩
/-- The last decimal digit, as a byte. -/
def digC (k : Nat) : UInt8 := UInt8.ofNat (48 + k % 10)
theorem digC_nat (k : Nat) : (digC k).toNat = 48 + k % 10 := by
  unfold digC; rw [UInt8.toNat_ofNat']; exact Nat.mod_eq_of_lt (by omega)
theorem digC_digit (k : Nat) : digitB (digC k) = true := by
  simp only [digitB, digC_nat, decide_eq_true_eq]; omega
/-- The decimal digits of a natural number, ahead of acc. -/
def digs : Nat → Nat → List UInt8 → List UInt8
  | 0, _, acc => acc
  | f + 1, n, acc => if n / 10 = 0 then digC n :: acc else digs f (n / 10) (digC n :: acc)
/-- A number in decimal. -/
def dec (n : Int) : List UInt8 := if n < 0 then 45 :: digs 20 (-n).toNat [] else digs 20 n.toNat []
theorem digitsVal_digs : ∀ (f n : Nat) (acc : List UInt8), n < 10 ^ f → n ≤ 9999 → 1 ≤ f → digitsVal 0 (digs f n acc) = digitsVal n acc
  | 0, _, _, _, _, h1 => by omega
  | f + 1, n, acc, hf, hn, _ => by
    unfold digs
    have hstep : ∀ v, v = n / 10 → digitsVal v (digC n :: acc) = digitsVal n acc := by
      rintro v rfl
      rw [digitsVal, digC_digit, if_pos rfl, digC_nat, if_neg (by omega)]
      congr 1; omega
    split
    · rename_i h; exact hstep 0 h.symm
    · rename_i h
      rcases f with _ | f
      · simp at hf; omega
      · rw [digitsVal_digs (f + 1) (n / 10) _ (by rw [Nat.pow_succ] at hf; omega) (by omega) (by omega)]
        exact hstep _ rfl
theorem digs_head : ∀ (f n : Nat) (acc : List UInt8), n < 10 ^ f → 1 ≤ n → (digs f n acc).head? ≠ some 48
  | 0, n, _, hf, h1 => by simp at hf; omega
  | f + 1, n, acc, hf, h1 => by
    unfold digs
    split
    · intro h
      have h' : digC n = 48 := by simpa using h
      have h2 : (digC n).toNat = 48 := by rw [h']; rfl
      rw [digC_nat] at h2; omega
    · exact digs_head f (n / 10) _ (by rw [Nat.pow_succ] at hf; omega) (by omega)
theorem digs_ne : ∀ (f n : Nat) (acc : List UInt8), 1 ≤ f → digs f n acc ≠ []
  | 0, _, _, h => by omega
  | f + 1, n, acc, _ => by
    unfold digs
    split
    · simp
    · rcases f with _ | f
      · simp [digs]
      · exact digs_ne (f + 1) (n / 10) _ (by omega)
theorem digs_minus : ∀ (f n : Nat) (acc : List UInt8), acc.head? ≠ some 45 → (digs f n acc).head? ≠ some 45
  | 0, _, _, h => h
  | f + 1, n, acc, _ => by
    have h : (digC n :: acc).head? ≠ some 45 := by
      intro h
      have h' : digC n = 45 := by simpa using h
      have h2 : (digC n).toNat = 45 := by rw [h']; rfl
      rw [digC_nat] at h2; omega
    unfold digs
    split
    · exact h
    · exact digs_minus f (n / 10) _ h
theorem digs_zero : digs 20 0 [] = [48] := by decide
/-- A natural number in range is read back, and no other one is. -/
theorem digitsVal_dec (n : Nat) (h : n ≤ 90000) : digitsVal 0 (digs 20 n []) = if n ≤ 9999 then some n else none := by
  split
  · rename_i h1
    rw [digitsVal_digs 20 n [] (by omega) h1 (by omega)]; rfl
  · rename_i h1
    rw [digs, if_neg (by omega), digitsVal_digs 19 (n / 10) _ (by omega) (by omega) (by omega), digitsVal, digC_digit, if_pos rfl, digC_nat, if_pos (by omega)]
/-- Every number in range is read back from its decimal form, and no other is. -/
theorem num_dec (n : Int) (h0 : -90000 ≤ n) (h1 : n ≤ 90000) : num (dec n) = if -9999 ≤ n ∧ n ≤ 9999 then some n else none := by
  unfold dec
  by_cases hn : n < 0
  · rw [if_pos hn, num_neg]
    obtain ⟨m, hm⟩ := Int.eq_ofNat_of_zero_le (show 0 ≤ -n by omega)
    have hmn : (-n).toNat = m := by omega
    rw [hmn]
    have hv := digitsVal_dec m (by omega)
    have hh := digs_head 20 m [] (by omega) (by omega)
    split
    · rename_i hr
      rw [if_pos (by omega)] at hv
      rw [numOf_some (digs_ne 20 m [] (by omega)) (fun h => hh h.1) hv, if_pos rfl]
      congr 1; omega
    · rename_i hr
      rw [if_neg (by omega)] at hv
      exact numOf_none hv
  · rw [if_neg hn]
    obtain ⟨m, rfl⟩ := Int.eq_ofNat_of_zero_le (show 0 ≤ n by omega)
    rw [Int.toNat_natCast, num_pos (digs_minus 20 m [] (by simp))]
    have hv := digitsVal_dec m (by omega)
    split
    · rename_i hr
      rw [if_pos (by omega)] at hv
      rw [numOf_some (digs_ne 20 m [] (by omega)) ?_ hv]
      · rfl
      · rintro ⟨ha, hb⟩
        rcases Nat.eq_zero_or_pos m with h | h
        · subst h; exact hb digs_zero
        · exact digs_head 20 m [] (by omega) h ha
    · rename_i hr
      rw [if_neg (by omega)] at hv
      exact numOf_none hv
theorem dec_ne (n : Int) : dec n ≠ [] := by
  unfold dec; split
  · simp
  · exact digs_ne 20 _ _ (by omega)
theorem num_plus (l : List UInt8) : num (43 :: l) = none := by
  rw [num_pos (by simp)]
  exact numOf_none rfl
theorem num_zero {l : List UInt8} (h : l ≠ []) : num (48 :: l) = none := by
  rw [num_pos (by simp)]
  exact numOf_zero rfl (by simpa using h)
theorem digs_length : ∀ (f n : Nat) (acc : List UInt8), (digs f n acc).length ≤ acc.length + f
  | 0, _, acc => by simp [digs]
  | f + 1, n, acc => by
    unfold digs
    split
    · simp
    · have := digs_length f (n / 10) (digC n :: acc)
      simp at this; omega
theorem dec_length (n : Int) : (dec n).length ≤ 21 := by
  unfold dec; split
  · have := digs_length 20 (-n).toNat []; simp at this ⊢; omega
  · have := digs_length 20 n.toNat []; simp at this ⊢; omega

/-- The fields so far, and the one that ends here. -/
def flush (cur : List UInt8) (acc : List (List UInt8)) : List (List UInt8) := if cur = [] then acc else acc ++ [cur]
/-- The fields of the rest of a line, or its first error (2: the byte is not allowed; 3: the field is too long). -/
def scanA (cur : List UInt8) (acc : List (List UInt8)) : List UInt8 → Except Nat (List (List UInt8))
  | [] => .ok (flush cur acc)
  | c :: r =>
    if c.toNat = 35 then .ok (flush cur acc)
    else if c.toNat = 32 ∨ c.toNat = 9 then scanA [] (flush cur acc) r
    else if fieldByte c then (if 12 ≤ cur.length then .error 3 else scanA (cur ++ [c]) acc r)
    else .error 2
theorem scanA_end {cur : List UInt8} {acc : List (List UInt8)} {l : List UInt8} {k : Nat} (h : l.length ≤ k) : scanA cur acc (l.drop k) = .ok (flush cur acc) := by
  rw [List.drop_of_length_le h]; rfl
theorem scanA_hash {cur : List UInt8} {acc : List (List UInt8)} {l : List UInt8} {k : Nat} (h : k < l.length) (hc : l[k].toNat = 35) : scanA cur acc (l.drop k) = .ok (flush cur acc) := by
  rw [List.drop_eq_getElem_cons h, scanA, if_pos hc]
theorem scanA_blank {cur : List UInt8} {acc : List (List UInt8)} {l : List UInt8} {k : Nat} (h : k < l.length) (hc : l[k].toNat = 32 ∨ l[k].toNat = 9) : scanA cur acc (l.drop k) = scanA [] (flush cur acc) (l.drop (k + 1)) := by
  rw [List.drop_eq_getElem_cons h, scanA, if_neg (by omega), if_pos hc]
theorem fieldByte_bounds {c : UInt8} (h : fieldByte c = true) : 33 ≤ c.toNat ∧ c.toNat ≤ 126 ∧ c.toNat ≠ 35 := by simpa [fieldByte] using h
theorem scanA_long {cur : List UInt8} {acc : List (List UInt8)} {l : List UInt8} {k : Nat} (h : k < l.length) (hc : fieldByte l[k] = true) (hl : 12 ≤ cur.length) : scanA cur acc (l.drop k) = .error 3 := by
  have := fieldByte_bounds hc
  rw [List.drop_eq_getElem_cons h, scanA, if_neg (by omega), if_neg (by omega), if_pos hc, if_pos hl]
theorem scanA_step {cur : List UInt8} {acc : List (List UInt8)} {l : List UInt8} {k : Nat} (h : k < l.length) (hc : fieldByte l[k] = true) (hl : cur.length < 12) : scanA cur acc (l.drop k) = scanA (cur ++ [l[k]]) acc (l.drop (k + 1)) := by
  have := fieldByte_bounds hc
  rw [List.drop_eq_getElem_cons h, scanA, if_neg (by omega), if_neg (by omega), if_pos hc, if_neg (by omega)]
theorem scanA_byte {cur : List UInt8} {acc : List (List UInt8)} {l : List UInt8} {k : Nat} (h : k < l.length) (hc : fieldByte l[k] = false) (h1 : l[k].toNat ≠ 35) (h2 : l[k].toNat ≠ 32) (h3 : l[k].toNat ≠ 9) : scanA cur acc (l.drop k) = .error 2 := by
  rw [List.drop_eq_getElem_cons h, scanA, if_neg h1, if_neg (by omega), hc]; rfl
/-- A part of a list. -/
def seg (l : List UInt8) (a b : Nat) : List UInt8 := (l.take b).drop a
theorem seg_nil (l : List UInt8) (a : Nat) : seg l a a = [] := by unfold seg; rw [List.drop_eq_nil_iff]; simp; omega
theorem seg_length {l : List UInt8} {a b : Nat} (h : b ≤ l.length) : (seg l a b).length = b - a := by unfold seg; simp; omega
theorem seg_snoc {l : List UInt8} {a b : Nat} (h : b < l.length) (hab : a ≤ b) : seg l a (b + 1) = seg l a b ++ [l[b]] := by
  unfold seg
  rw [List.take_succ_eq_append_getElem h, List.drop_append_of_le_length (by simp; omega)]
theorem seg_ne {l : List UInt8} {a b : Nat} (h : b ≤ l.length) (hab : a < b) : seg l a b ≠ [] := by
  intro e
  have := seg_length (a := a) h
  rw [e] at this; simp at this; omega
theorem flush_nil (acc : List (List UInt8)) : flush [] acc = acc := rfl
theorem flush_seg {l : List UInt8} {a b : Nat} (h : b ≤ l.length) (hab : a < b) (acc : List (List UInt8)) : flush (seg l a b) acc = acc ++ [seg l a b] := by
  unfold flush; rw [if_neg (seg_ne h hab)]
end Go.Proofs.Ytmdnkpiihhaoeaa.Fl
namespace Go.Proofs.Ytmdnkpiihhaoeaa.Fl

abbrev GraphD := List (List Int)
/-- Put into an ascending list. -/
def insL : List Int → Int → List Int
  | [], x => [x]
  | y :: l, x => if x < y then x :: y :: l else y :: insL l x
theorem insL_length : ∀ (l : List Int) (x : Int), (insL l x).length = l.length + 1
  | [], _ => rfl
  | y :: l, x => by
    unfold insL
    split
    · rfl
    · simp [insL_length l x]
theorem insL_mem : ∀ (l : List Int) (x z : Int), z ∈ insL l x ↔ z = x ∨ z ∈ l
  | [], x, z => by simp [insL]
  | y :: l, x, z => by
    unfold insL
    split
    · simp
    · rw [List.mem_cons, insL_mem l x z, List.mem_cons]
      constructor
      · rintro (h | h | h)
        · exact .inr (.inl h)
        · exact .inl h
        · exact .inr (.inr h)
      · rintro (h | h | h)
        · exact .inr (.inl h)
        · exact .inl h
        · exact .inr (.inr h)
/-- What stands before place k. -/
def prevOf (l : List Int) : Nat → Option Int
  | 0 => none
  | k + 1 => l[k]?
def overP : Option Int → Int → Bool
  | none, _ => true
  | some y, x => decide (y < x)
/-- A row of a valid graph of n vertices, at vertex v, behind p. -/
def rowOk (n v : Int) : Option Int → List Int → Bool
  | _, [] => true
  | p, x :: l => (decide (0 ≤ x ∧ x < n ∧ x ≠ v) && overP p x) && rowOk n v (some x) l
def rowsOk (n : Int) : Int → GraphD → Bool
  | _, [] => true
  | v, l :: g => rowOk n v none l && rowsOk n (v + 1) g
def validG (g : GraphD) : Bool := decide (g.length ≤ 24) && rowsOk g.length 0 g
theorem rowOk_step {n v : Int} {l : List Int} {k : Nat} (h : k < l.length) : rowOk n v (prevOf l k) (l.drop k) = ((decide (0 ≤ l[k] ∧ l[k] < n ∧ l[k] ≠ v) && overP (prevOf l k) l[k]) && rowOk n v (prevOf l (k + 1)) (l.drop (k + 1))) := by
  rw [List.drop_eq_getElem_cons h, rowOk]
  congr 2
  simp [prevOf, h]
theorem rowOk_end {n v : Int} {l : List Int} {k : Nat} {p : Option Int} (h : l.length ≤ k) : rowOk n v p (l.drop k) = true := by
  rw [List.drop_of_length_le h]; cases p <;> rfl
theorem rowsOk_step {n : Int} {g : GraphD} {k : Nat} {v : Int} (h : k < g.length) : rowsOk n v (g.drop k) = (rowOk n v none g[k] && rowsOk n (v + 1) (g.drop (k + 1))) := by
  rw [List.drop_eq_getElem_cons h, rowsOk]
theorem rowsOk_end {n v : Int} {g : GraphD} {k : Nat} (h : g.length ≤ k) : rowsOk n v (g.drop k) = true := by
  rw [List.drop_of_length_le h]; rfl
theorem rowOk_all {n v : Int} : ∀ {p : Option Int} {l : List Int}, rowOk n v p l = true → ∀ x ∈ l, 0 ≤ x ∧ x < n ∧ x ≠ v
  | _, [], _, x, hx => by simp at hx
  | p, y :: l, h, x, hx => by
    simp only [rowOk, Bool.and_eq_true, decide_eq_true_eq] at h
    rcases List.mem_cons.1 hx with rfl | hx
    · exact h.1.1
    · exact rowOk_all h.2 x hx
theorem rowsOk_at {n : Int} : ∀ {v : Int} {g : GraphD}, rowsOk n v g = true → ∀ (k : Nat) (hk : k < g.length), rowOk n (v + k) none g[k] = true
  | _, [], _, k, hk => by simp at hk
  | v, r :: g, h, 0, _ => by
    simp only [rowsOk, Bool.and_eq_true] at h
    simpa using h.1
  | v, r :: g, h, k + 1, hk => by
    simp only [rowsOk, Bool.and_eq_true] at h
    have := rowsOk_at h.2 k (by simpa using hk)
    rw [show v + ((k + 1 : Nat) : Int) = v + 1 + k by omega]
    simpa using this
/-- Rows of a valid graph lead to vertices, other than their own. -/
theorem validG_row {g : GraphD} (h : validG g = true) {k : Nat} (hk : k < g.length) : ∀ x ∈ g[k], 0 ≤ x ∧ x < g.length ∧ x ≠ k := by
  unfold validG at h
  simp only [Bool.and_eq_true] at h
  have := rowOk_all (rowsOk_at h.2 k hk)
  simpa using this
theorem validG_len {g : GraphD} (h : validG g = true) : g.length ≤ 24 := by
  unfold validG at h
  simp only [Bool.and_eq_true, decide_eq_true_eq] at h
  exact h.1
theorem rowOk_sorted {n v : Int} : ∀ {p : Option Int} {l : List Int}, rowOk n v p l = true → l.Pairwise (· < ·) ∧ ∀ y, p = some y → ∀ x ∈ l, y < x
  | _, [], _ => ⟨.nil, by simp⟩
  | p, z :: l, h => by
    simp only [rowOk, Bool.and_eq_true, decide_eq_true_eq] at h
    obtain ⟨i1, i2⟩ := rowOk_sorted h.2
    refine ⟨.cons (fun x hx => i2 z rfl x hx) i1, fun y hy x hx => ?_⟩
    subst hy
    have hz : y < z := by simpa [overP] using h.1.2
    rcases List.mem_cons.1 hx with rfl | hx
    · exact hz
    · exact Int.lt_trans hz (i2 z rfl x hx)
theorem validG_sorted' {g : GraphD} (h : validG g = true) {k : Nat} (hk : k < g.length) : g[k].Pairwise (· < ·) := by
  unfold validG at h
  simp only [Bool.and_eq_true] at h
  exact (rowOk_sorted (rowsOk_at h.2 k hk)).1
/-- A row of a valid graph is short. -/
theorem sorted_short {n : Nat} : ∀ (l : List Int), l.Pairwise (· < ·) → (∀ x ∈ l, 0 ≤ x ∧ x < n) → l.length ≤ n := by
  have key : ∀ (l : List Int) (a : Int), l.Pairwise (· < ·) → (∀ x ∈ l, a ≤ x ∧ x < n) → a ≤ n → (l.length : Int) ≤ n - a := by
    intro l
    induction l with
    | nil => intro a _ _ ha; simp; omega
    | cons y l ih =>
      intro a hp hb _
      have hy := hb y (by simp)
      have := ih (y + 1) (List.Pairwise.of_cons hp) (fun x hx => ⟨by have := (List.pairwise_cons.1 hp).1 x hx; omega, (hb x (by simp [hx])).2⟩) (by omega)
      simp only [List.length_cons]
      omega
  intro l hp hb
  have := key l 0 hp hb (by omega)
  omega
theorem validG_short {g : GraphD} (h : validG g = true) : ∀ r ∈ g, r.length ≤ 24 := fun r hr => by
  obtain ⟨k, hk, rfl⟩ := List.mem_iff_getElem.1 hr
  have h2 := h
  unfold validG at h2
  simp only [Bool.and_eq_true] at h2
  have h3 := rowOk_sorted (rowsOk_at h2.2 k hk)
  have := sorted_short (n := g.length) g[k] h3.1 (fun x hx => by have := validG_row h hk x hx; omega)
  have := validG_len h
  omega

theorem rowG_at' {g : GraphD} {v : Nat} (hv : v < g.length) : g.getD v [] = g[v] := by rw [List.getD_eq_getElem?_getD, List.getElem?_eq_getElem hv]; rfl
/-- The element at place x. -/
def atI (l : List Int) (x : Int) : Int := l.getD x.toNat (-1)
def atB (s : List Bool) (v : Nat) : Bool := s.getD v false
def rowG (g : GraphD) (v : Nat) : List Int := g.getD v []
theorem rowG_at {g : GraphD} {v : Nat} (hv : v < g.length) : rowG g v = g[v] := rowG_at' hv
theorem rowOk_row {g : GraphD} (h : validG g = true) {v : Nat} (hv : v < g.length) : ∀ x ∈ rowG g v, 0 ≤ x ∧ x < g.length ∧ x ≠ v := by rw [rowG_at hv]; exact validG_row h hv
/-- One vertex in round d. -/
def distV (g : GraphD) (s : List Bool) (d : Int) (out : List Int) (v : Nat) : List Int :=
  if atB s v || decide (0 ≤ out.getD v (-1)) then out else if (rowG g v).any (fun x => decide (atI out x = d - 1)) then out.set v d else out
/-- Round d, up to vertex k. -/
def distR (g : GraphD) (s : List Bool) (d : Int) (out : List Int) (k : Nat) : List Int := (List.range k).foldl (distV g s d) out
/-- The first k rounds. -/
def distK (g : GraphD) (s : List Bool) (out : List Int) (k : Nat) : List Int := (List.range k).foldl (fun o (i : Nat) => distR g s ((i : Int) + 1) o g.length) out
/-- The distances from a goal. -/
def distF (g : GraphD) (s : List Bool) (goal : Nat) : List Int :=
  if atB s goal then List.replicate g.length (-1) else distK g s ((List.replicate g.length (-1)).set goal 0) (g.length - 1)
theorem distR_zero (g : GraphD) (s : List Bool) (d : Int) (out : List Int) : distR g s d out 0 = out := rfl
theorem distR_succ (g : GraphD) (s : List Bool) (d : Int) (out : List Int) (k : Nat) : distR g s d out (k + 1) = distV g s d (distR g s d out k) k := by
  unfold distR; rw [List.range_succ, List.foldl_append]; rfl
theorem distK_zero (g : GraphD) (s : List Bool) (out : List Int) : distK g s out 0 = out := rfl
theorem distK_succ (g : GraphD) (s : List Bool) (out : List Int) (k : Nat) : distK g s out (k + 1) = distR g s ((k : Int) + 1) (distK g s out k) g.length := by
  unfold distK; rw [List.range_succ, List.foldl_append]; rfl
theorem distV_length (g : GraphD) (s : List Bool) (d : Int) (out : List Int) (v : Nat) : (distV g s d out v).length = out.length := by
  unfold distV
  split
  · rfl
  · split
    · simp
    · rfl
theorem distR_length (g : GraphD) (s : List Bool) (d : Int) (out : List Int) : ∀ k, (distR g s d out k).length = out.length
  | 0 => rfl
  | k + 1 => by rw [distR_succ, distV_length, distR_length g s d out k]
theorem distK_length (g : GraphD) (s : List Bool) (out : List Int) : ∀ k, (distK g s out k).length = out.length
  | 0 => rfl
  | k + 1 => by rw [distK_succ, distR_length, distK_length g s out k]
theorem distF_length (g : GraphD) (s : List Bool) (goal : Nat) : (distF g s goal).length = g.length := by
  unfold distF
  split
  · simp
  · rw [distK_length]; simp
/-- What holds of distances all the time: d is the greatest so far. -/
structure DistInv (g : GraphD) (goal : Nat) (d : Int) (out : List Int) : Prop where
  len : out.length = g.length
  goal : ∀ v, v < g.length → (out.getD v (-1) = 0 ↔ v = goal)
  low : ∀ v, -1 ≤ out.getD v (-1) ∧ out.getD v (-1) ≤ d
  step : ∀ v, v < g.length → 0 < out.getD v (-1) → ∃ x ∈ rowG g v, 0 ≤ x ∧ x < g.length ∧ atI out x = out.getD v (-1) - 1
theorem distV_inv {g : GraphD} {s : List Bool} {goal : Nat} {d : Int} {out : List Int} {v : Nat} (hg : validG g = true) (hv : v < g.length) (hd : 1 ≤ d) (h : DistInv g goal d out) : DistInv g goal d (distV g s d out v) := by
  unfold distV
  split
  · exact h
  · rename_i h1
    split
    · rename_i h2
      have hneg : out.getD v (-1) < 0 := by
        simp only [Bool.or_eq_true, decide_eq_true_eq, not_or] at h1
        omega
      obtain ⟨x, hx, hx2⟩ := List.any_eq_true.1 h2
      have hx2 : atI out x = d - 1 := by simpa using hx2
      have key : ∀ u, (out.set v d).getD u (-1) = if u = v then d else out.getD u (-1) := fun u => by
        rw [List.getD_eq_getElem?_getD, List.getElem?_set, List.getD_eq_getElem?_getD]
        by_cases e : u = v
        · subst e; simp [h.len, hv]
        · rw [if_neg (fun h => e h.symm), if_neg e]
      have hrow : rowG g v = g[v] := by unfold rowG; rw [List.getD_eq_getElem?_getD, List.getElem?_eq_getElem hv]; rfl
      have hxr := validG_row hg hv x (by rw [← hrow]; exact hx)
      refine ⟨by simpa using h.len, fun u hu => ?_, fun u => ?_, fun u hu hp => ?_⟩
      · rw [key]
        split
        · rename_i e
          subst e
          constructor
          · intro h0; omega
          · intro e
            have := (h.goal u hu).2 e
            omega
        · exact h.goal u hu
      · rw [key]
        split
        · omega
        · exact h.low u
      · rw [key] at hp ⊢
        split at hp
        · rename_i e
          subst e
          rw [if_pos rfl]
          refine ⟨x, hx, hxr.1, hxr.2.1, ?_⟩
          unfold atI at hx2 ⊢
          rw [key, if_neg (by omega), hx2]
        · rename_i e
          rw [if_neg e]
          obtain ⟨y, hy, y0, y1, y2⟩ := h.step u hu hp
          refine ⟨y, hy, y0, y1, ?_⟩
          unfold atI at y2 ⊢
          rw [key, if_neg (fun e2 => by rw [e2] at y2; omega), y2]
    · exact h
theorem distR_inv {g : GraphD} {s : List Bool} {goal : Nat} {d : Int} {out : List Int} (hg : validG g = true) (hd : 1 ≤ d) (h : DistInv g goal d out) : ∀ k, k ≤ g.length → DistInv g goal d (distR g s d out k)
  | 0, _ => h
  | k + 1, hk => by rw [distR_succ]; exact distV_inv hg (by omega) hd (distR_inv hg hd h k (by omega))
theorem DistInv.more {g : GraphD} {goal : Nat} {d d' : Int} {out : List Int} (h : DistInv g goal d out) (hd : d ≤ d') : DistInv g goal d' out :=
  ⟨h.len, h.goal, fun v => ⟨(h.low v).1, Int.le_trans (h.low v).2 hd⟩, h.step⟩
theorem distK_inv {g : GraphD} {s : List Bool} {goal : Nat} {out : List Int} (hg : validG g = true) (h : DistInv g goal 0 out) : ∀ k : Nat, DistInv g goal k (distK g s out k)
  | 0 => h
  | k + 1 => by
    rw [distK_succ]
    have := distR_inv (s := s) hg (d := (k : Int) + 1) (by omega) ((distK_inv (s := s) hg h k).more (by omega)) g.length (Nat.le_refl _)
    exact this
theorem dist_start {g : GraphD} {goal : Nat} (hv : goal < g.length) : DistInv g goal 0 ((List.replicate g.length (-1)).set goal 0) := by
  have key : ∀ u, ((List.replicate g.length (-1 : Int)).set goal 0).getD u (-1) = if u = goal then 0 else -1 := fun u => by
    rw [List.getD_eq_getElem?_getD, List.getElem?_set]
    by_cases e : u = goal
    · subst e; simp [hv]
    · rw [if_neg (fun h => e h.symm), if_neg e]
      by_cases hu : u < g.length
      · simp [hu]
      · simp [hu]
  refine ⟨by simp, fun v _ => ?_, fun v => ?_, fun v _ hp => ?_⟩
  · rw [key]; split <;> simp_all
  · rw [key]; split <;> omega
  · rw [key] at hp; split at hp <;> omega
theorem distF_inv {g : GraphD} {s : List Bool} {goal : Nat} (hg : validG g = true) (hv : goal < g.length) (hs : atB s goal = false) : DistInv g goal 24 (distF g s goal) := by
  unfold distF
  rw [hs]
  have := validG_len hg
  exact (distK_inv hg (dist_start hv) _).more (by omega)
theorem distF_shut {g : GraphD} {s : List Bool} {goal : Nat} (hs : atB s goal = true) : distF g s goal = List.replicate g.length (-1) := by
  unfold distF; rw [hs]; rfl

/-- The first vertex of a row one step nearer. -/
def hopOf (row dist : List Int) (d : Int) : Int := (row.find? (fun x => decide (atI dist x = d - 1))).getD (-1)
def hopV (g : GraphD) (dist : List Int) (v : Nat) : Int := if 0 < dist.getD v (-1) then hopOf (rowG g v) dist (dist.getD v (-1)) else -1
def hopsL (g : GraphD) (dist : List Int) : List Int := (List.range g.length).map (hopV g dist)
theorem hopsL_at {g : GraphD} {dist : List Int} {v : Nat} (hv : v < g.length) : (hopsL g dist)[v]? = some (hopV g dist v) := by simp [hopsL, hv]
theorem hopOf_step {row dist : List Int} {d : Int} {k : Nat} (hk : k < row.length) : hopOf (row.drop k) dist d = if atI dist row[k] = d - 1 then row[k] else hopOf (row.drop (k + 1)) dist d := by
  unfold hopOf
  rw [List.drop_eq_getElem_cons hk, List.find?_cons]
  by_cases h : atI dist row[k] = d - 1
  · simp [h]
  · simp [h]
theorem hopOf_end {row dist : List Int} {d : Int} {k : Nat} (hk : row.length ≤ k) : hopOf (row.drop k) dist d = -1 := by
  unfold hopOf; rw [List.drop_of_length_le hk]; rfl
/-- A hop leads one step nearer. -/
theorem hop_near {g : GraphD} {goal v : Nat} {d : Int} {dist : List Int} (h : DistInv g goal d dist) (hg : validG g = true) (hv : v < g.length) (hp : 0 < dist.getD v (-1)) : ∃ y : Nat, hopV g dist v = y ∧ y < g.length ∧ dist.getD y (-1) = dist.getD v (-1) - 1 := by
  obtain ⟨x, hx, x0, x1, x2⟩ := h.step v hv hp
  unfold hopV hopOf
  rw [if_pos hp]
  have hrow : rowG g v = g[v] := by unfold rowG; rw [List.getD_eq_getElem?_getD, List.getElem?_eq_getElem hv]; rfl
  rcases hf : (rowG g v).find? (fun x => decide (atI dist x = dist.getD v (-1) - 1)) with _ | y
  · have := List.find?_eq_none.1 hf x hx
    simp [x2] at this
  · have h1 := List.find?_some hf
    have h2 := List.mem_of_find?_eq_some hf
    have h3 := validG_row hg hv y (by rw [← hrow]; exact h2)
    refine ⟨y.toNat, by show y = _; omega, by omega, ?_⟩
    simpa [atI] using h1
/-- The path of f hops. -/
def pathF (h : List Int) : Nat → Int → List Int
  | 0, v => [v]
  | f + 1, v => v :: pathF h f (atI h v)
theorem pathF_length (h : List Int) : ∀ (f : Nat) (v : Int), (pathF h f v).length = f + 1
  | 0, _ => rfl
  | f + 1, v => by simp [pathF, pathF_length h f]
def firstF (g : GraphD) (s : List Bool) (a goal : Nat) : List Int :=
  if (distF g s goal).getD a (-1) < 0 then [] else pathF (hopsL g (distF g s goal)) ((distF g s goal).getD a (-1)).toNat a
/-- The nearest of a row, of those before k: the first one, or -1. -/
def bestK (row dist : List Int) : Nat → Int
  | 0 => -1
  | k + 1 => let b := bestK row dist k
             let x := row.getD k 0
             if 0 ≤ atI dist x ∧ (b < 0 ∨ atI dist x < atI dist b) then x else b
def thrF (g : GraphD) (s : List Bool) (v : Nat) : List Int :=
  if atB s v then [] else
    let b := bestK (rowG g v) (distF g s v) (rowG g v).length
    if b < 0 then [] else (v : Int) :: (firstF g s b.toNat v).dropLast
theorem bestK_ok {g : GraphD} {v : Nat} {dist : List Int} (hg : validG g = true) (hv : v < g.length) : ∀ k, k ≤ (rowG g v).length → bestK (rowG g v) dist k = -1 ∨ 0 ≤ bestK (rowG g v) dist k ∧ bestK (rowG g v) dist k < g.length ∧ 0 ≤ atI dist (bestK (rowG g v) dist k)
  | 0, _ => .inl rfl
  | k + 1, hk => by
    have ih := bestK_ok (dist := dist) hg hv k (by omega)
    have hrow : rowG g v = g[v] := by unfold rowG; rw [List.getD_eq_getElem?_getD, List.getElem?_eq_getElem hv]; rfl
    unfold bestK
    simp only
    split
    · rename_i h
      have hx : (rowG g v).getD k 0 ∈ g[v] := by
        rw [List.getD_eq_getElem?_getD, List.getElem?_eq_getElem (by omega)]
        simp only [Option.getD_some]
        rw [← hrow]
        exact List.getElem_mem _
      have := validG_row hg hv _ hx
      exact .inr ⟨this.1, this.2.1, h.1⟩
    · exact ih
def girK (g : GraphD) (s : List Bool) : Nat → List Int
  | 0 => []
  | k + 1 => let b := girK g s k
             let t := thrF g s k
             if 0 < t.length ∧ (b.length = 0 ∨ t.length < b.length) then t else b
def girF (g : GraphD) (s : List Bool) : List Int := girK g s g.length
theorem firstF_short {g : GraphD} {s : List Bool} {a goal : Nat} (hg : validG g = true) (hv : goal < g.length) : (firstF g s a goal).length ≤ 25 := by
  unfold firstF
  split
  · simp
  · rename_i h
    rw [pathF_length]
    rcases hs : atB s goal with _ | _
    · have := ((distF_inv hg hv hs).low a).2
      omega
    · exfalso
      apply h
      rw [distF_shut hs, List.getD_eq_getElem?_getD, List.getElem?_replicate]
      split <;> simp
theorem thrF_short {g : GraphD} {s : List Bool} {v : Nat} (hg : validG g = true) (hv : v < g.length) : (thrF g s v).length ≤ 25 := by
  unfold thrF
  split
  · simp
  · simp only
    split
    · simp
    · rename_i h
      have := firstF_short (s := s) (a := (bestK (rowG g v) (distF g s v) (rowG g v).length).toNat) hg hv
      simp only [List.length_cons, List.length_dropLast]
      omega
theorem girK_short {g : GraphD} {s : List Bool} (hg : validG g = true) : ∀ k, k ≤ g.length → (girK g s k).length ≤ 25
  | 0, _ => by simp [girK]
  | k + 1, hk => by
    have ih := girK_short (s := s) hg k (by omega)
    have ht := thrF_short (s := s) hg (show k < g.length by omega)
    unfold girK
    simp only
    split
    · exact ht
    · exact ih
end Go.Proofs.Ytmdnkpiihhaoeaa.Fl
