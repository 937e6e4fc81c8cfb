/- Joined texts. -/
import Derived.Test.YtfgpenekmokdiaaMzAA
import Derived.Test.YtfgpenekmokdiaaMzAC
import Derived.Test.YtfgpenekmokdiaaChecked
import Derived.WalkKit
import Derived.ProofKit
import Derived.BigQuiet
import Derived.OwnWalk
import Derived.Lib.Hide
import Derived.Deep.QuietTactic
import Derived.Deep.DeepCutAuto
import Derived.Deep.RegionHeld3
import Derived.Deep.RegionWith
import Derived.Deep.DrawnRows
namespace Go.Proofs.Ytfgpenekmokdiaa
open Go Go.RowKit Fl

abbrev Iv (z : Int) : Value := .int .i64 z
abbrev Bo (b : Bool) : Value := .bool b
theorem gr_bool {a b : Bool} (h : a = b) : Ending.returned (.bool a) = .returned (.bool b) := by rw [h]
theorem gr_int {a b : Int} (h : a = b) : Ending.returned (.int .i64 a) = .returned (.int .i64 b) := by rw [h]
theorem Holds.iv {w : World} {A : Option Addr} {zs : List Int} (h : Holds w A (zs.map Iv)) {k : Nat} (hk : k < zs.length) : ∃ b o, A = some ⟨b, o, none⟩ ∧ w.cell? ⟨b, o + k, none⟩ = some (.int .i64 zs[k]) := by
  obtain ⟨b, o, hA, _, hc⟩ := h.at_ (by simp; omega)
  exact ⟨b, o, hA, by rw [hc k (by simpa using hk)]; simp⟩
theorem Holds.bo {w : World} {A : Option Addr} {zs : List Bool} (h : Holds w A (zs.map Bo)) {k : Nat} (hk : k < zs.length) : ∃ b o, A = some ⟨b, o, none⟩ ∧ w.cell? ⟨b, o + k, none⟩ = some (.bool zs[k]) := by
  obtain ⟨b, o, hA, _, hc⟩ := h.at_ (by simp; omega)
  exact ⟨b, o, hA, by rw [hc k (by simpa using hk)]; simp⟩
/-- From address A on, the cells hold slices that hold the rows of g. -/
def RowsAt (w : World) (A : Option Addr) (g : GraphD) : Prop := g = [] ∨ ∃ b o, A = some ⟨b, o, none⟩ ∧ b < w.heap.size ∧
  ∀ k (h : k < g.length), ∃ A1 c1, w.cell? ⟨b, o + k, none⟩ = some (.slice A1 g[k].length c1) ∧ Holds w A1 (g[k].map Iv)
theorem RowsAt.keep {w w' : World} {A : Option Addr} {g : GraphD} (h : RowsAt w A g) (hb : Below w.heap.size w w') : RowsAt w' A g := by
  rcases h with h | ⟨b, o, hA, hlt, hc⟩
  · exact .inl h
  · refine .inr ⟨b, o, hA, Nat.lt_of_lt_of_le hlt hb.size, fun k hk => ?_⟩
    obtain ⟨A1, c1, h1, h2⟩ := hc k hk
    exact ⟨A1, c1, (hb.cell (p := ⟨b, _, none⟩) hlt).trans h1, h2.keep hb⟩
theorem RowsAt.one {w : World} {A : Option Addr} {g : GraphD} (h : RowsAt w A g) {k : Nat} (hk : k < g.length) : ∃ b o A1 c1, A = some ⟨b, o, none⟩ ∧ w.cell? ⟨b, o + k, none⟩ = some (.slice A1 g[k].length c1) ∧ Holds w A1 (g[k].map Iv) := by
  rcases h with rfl | ⟨b, o, hA, _, hc⟩
  · simp at hk
  · obtain ⟨A1, c1, h⟩ := hc k hk
    exact ⟨b, o, A1, c1, hA, h⟩
theorem Try.infoIntG : (Try.prog.info? 3).map (fun i => (i.zero, i.size, i.bytes)) = some (some (.int .i64 0), 1, 8) := by kernel_rfl
/-- A row of the call's own: its slice. -/
theorem own_at {w : World} {base n : Nat} {e : TypeId} {v : Value} {xs : List Value} (h : w.ownsRow base e 1 v n xs) (hn : 0 < n) : ∃ g cap, v = .slice (some ⟨g, 0, none⟩) n cap ∧ base ≤ g ∧ n ≤ cap := by
  obtain ⟨h1, h2⟩ := h
  rcases h2 with ⟨_, h0⟩ | ⟨g, cap, cur, hv, hg, hh, hnc, _⟩
  · omega
  · exact ⟨g, cap, hv, hg, hnc⟩
theorem own_put {w : World} {base g n cap i : Nat} {e : TypeId} {xs : List Value} {v : Value} (h : w.ownsRow base e 1 (.slice (some ⟨g, 0, none⟩) n cap) n xs) : (w.setCell ⟨g, i, none⟩ v).ownsRow base e 1 (.slice (some ⟨g, 0, none⟩) n cap) n (xs.set i v) := by
  obtain ⟨h1, h2⟩ := h
  rcases h2 with ⟨hv, _⟩ | ⟨g', cap', cur, hv, hg, hh, hnc, hcm, hcs, hx⟩
  · cases hv
  · injection hv with hA _ hc
    injection hA with hA
    injection hA with hA
    subst hA hc
    refine ⟨by simpa using h1, .inr ⟨g, cap, cur.setIfInBounds i v, rfl, hg, ?_, hnc, hcm, by simpa using hcs, ?_⟩⟩
    · simp [World.setCell, Array.getElem?_modify]
      exact ⟨_, hh, by simp⟩
    · rw [← hx]; simp [List.take_set]
theorem own_get {w : World} {base n g cap i : Nat} {e : TypeId} {xs : List Value} (h : w.ownsRow base e 1 (.slice (some ⟨g, 0, none⟩) n cap) n xs) {u : Value} (hu : xs[i]? = some u) : w.cell? ⟨g, i, none⟩ = some u ∧ w.frozen? ⟨g, i, none⟩ = false := by
  obtain ⟨h1, h2⟩ := h
  rcases h2 with ⟨hv, _⟩ | ⟨g', cap', cur, hv, hg, hh, hnc, hcm, hcs, hx⟩
  · cases hv
  · injection hv with hA _ hc
    injection hA with hA
    injection hA with hA
    subst hA hc
    refine ⟨?_, by simp [World.frozen?, hh]⟩
    rw [cell_of_row w g i cur e (0, 0) hh]
    subst hx
    rw [List.getElem?_take] at hu
    split at hu
    · simpa using hu
    · cases hu
theorem own_blk {w : World} {base n g cap : Nat} {e : TypeId} {xs : List Value} (h : w.ownsRow base e 1 (.slice (some ⟨g, 0, none⟩) n cap) n xs) : g < w.heap.size := by
  obtain ⟨h1, h2⟩ := h
  rcases h2 with ⟨hv, _⟩ | ⟨g', cap', cur, hv, hg, hh, hnc, hcm, hcs, hx⟩
  · cases hv
  · injection hv with hA _ hc
    injection hA with hA
    injection hA with hA
    subst hA
    exact block_lt hh
theorem below_put {B : Nat} {w w' : World} {g i : Nat} {v : Value} (h : Below B w w') (hg : B ≤ g) : Below B w (w'.setCell ⟨g, i, none⟩ v) :=
  h.setCell (by simpa using hg) _
theorem own_is {w : World} {base n : Nat} {e : TypeId} {v : Value} {xs : List Value} (h : w.ownsRow base e 1 v n xs) : ∃ A c, v = .slice A n c ∧ Holds w A xs := by
  have h0 := h
  obtain ⟨h1, h2⟩ := h
  rcases h2 with ⟨rfl, rfl⟩ | ⟨g, cap, cur, rfl, _⟩
  · exact ⟨none, 0, rfl, ownsRow_holds h0⟩
  · exact ⟨_, cap, rfl, ownsRow_holds h0⟩
end Go.Proofs.Ytfgpenekmokdiaa
namespace Go.Proofs.Ytfgpenekmokdiaa
open Go Go.RowKit Fl

section
variable {ops : Array Oper} {rest : List Oper} {o : Oper} {a : Act} {Q : Exit → Act → World → Prop}
theorem app_any (w : World) (hgd : o.guard = none) (s x : Operand) (t e : TypeId) (z : Value) (bytes : Nat) (ht : Try.prog.underlying t = some (.slice e)) (hi : (Try.prog.info? e).map (fun i => (i.zero, i.size, i.bytes)) = some (some z, 1, bytes)) (hz : z.cells.size = 1) (hby : bytes ≤ 64)
    (ho : o.op = .call { callee := .builtin .append, args := #[s, x], argTypes := #[t, t] }) (base : Nat) (v : Value) (n : Nat) (xs : List Value) (hs : a.eval s = v) (hown : w.ownsRow base e 1 v n xs)
    (B : Nat) (u : Value) (hx : a.eval x = .slice (some ⟨B, 0, none⟩) 1 1) (hc : w.cell? ⟨B, 0, none⟩ = some u) (hu : u.oneCell' = true) (hn : n ≤ 1000000000) (hbase : base ≤ w.heap.size)
    (h : ∀ v' w', w'.ownsRow base e 1 v' (n + 1) (xs ++ [u]) → w.grownBy w' v.ownBlock → wpList Try.prog ops Q rest (a.put o.dst v') w') : wpList Try.prog ops Q (o :: rest) a w := by
  obtain ⟨i, h1, h2, h3, h4⟩ := info_parts hi
  refine wpList_append_own w hgd s x t ho base e i z 1 bytes ht h1 h2 h3 h4 hz (by decide) v n xs hs hown ⟨B, 0, none⟩ 1 1 [u] hx rfl ?_ ?_ ?_ ?_ hbase (fun v' w' g1 g2 _ => h v' w' g1 g2)
  · intro j y hy
    rcases j with _ | j
    · simp at hy; subst hy; simpa [Addr.add] using hc
    · simp at hy
  · intro y hy; simp at hy; subst hy; exact hu
  · unfold maxLen; omega
  · have : (n + 1) * bytes ≤ (n + 1) * 64 := Nat.mul_le_mul_left _ hby
    omega
theorem app_int (w : World) (hgd : o.guard = none) (s x : Operand) (ho : o.op = .call { callee := .builtin .append, args := #[s, x], argTypes := #[23, 23] }) (base : Nat) (v : Value) (n : Nat) (xs : List Value) (hs : a.eval s = v) (hown : w.ownsRow base 3 1 v n xs)
    (B : Nat) (z : Int) (hx : a.eval x = .slice (some ⟨B, 0, none⟩) 1 1) (hc : w.cell? ⟨B, 0, none⟩ = some (Iv z)) (hn : n ≤ 1000000000) (hbase : base ≤ w.heap.size)
    (h : ∀ v' w', w'.ownsRow base 3 1 v' (n + 1) (xs ++ [Iv z]) → w.grownBy w' v.ownBlock → wpList Try.prog ops Q rest (a.put o.dst v') w') : wpList Try.prog ops Q (o :: rest) a w :=
  app_any w hgd s x 23 3 (.int .i64 0) 8 Try.underlying23 Try.infoIntG rfl (by decide) ho base v n xs hs hown B (Iv z) hx hc rfl hn hbase h
theorem make_any (w : World) (hgd : o.guard = none) (l c : Operand) (t e : TypeId) (z : Value) (bytes : Nat) (ht : Try.prog.underlying t = some (.slice e)) (hi : (Try.prog.info? e).map (fun i => (i.zero, i.size, i.bytes)) = some (some z, 1, bytes)) (hzc : z.cells = #[z]) (hby : bytes ≤ 64)
    (hop : o.op = Op.makeSlice t l c) (kl kc : IntKind) (L C : Int) (n : Nat) (hl : a.eval l = .int kl L) (hc : a.eval c = .int kc C) (hL : L = (n : Int)) (hC : C = (n : Int)) (hn : n ≤ 1000000000)
    (h : ∀ w', w'.ownsRow w.heap.size e 1 (.slice (some ⟨w.heap.size, 0, none⟩) n n) n (List.replicate n z) → Below w.heap.size w w' → wpList Try.prog ops Q rest (a.put o.dst (.slice (some ⟨w.heap.size, 0, none⟩) n n)) w') : wpList Try.prog ops Q (o :: rest) a w := by
  obtain ⟨i, h1, h2, h3, h4⟩ := info_parts hi
  refine wpList_make_full w hgd l c t hop w.heap.size e i z 1 ht h1 h2 h3 kl kc L C n hl hc hL hC ?_ ?_ (Nat.le_refl _) (fun w' g1 g2 => h w' ?_ ((Below.refl _ _).grown g2 (Nat.le_refl _) (fun k hk => by cases hk)))
  · rw [h4]
    have : bytes * n ≤ 64 * n := Nat.mul_le_mul_right _ hby
    omega
  · unfold maxLen; omega
  · have e1 : (madeCells z.cells (n * 1)).toList = List.replicate n z := by
      rw [hzc, Nat.mul_one]
      simp [madeCells, Nat.mod_one, List.map_const']
    rwa [e1] at g1
end
end Go.Proofs.Ytfgpenekmokdiaa
namespace Go.Proofs.Ytfgpenekmokdiaa
open Go Go.RowKit Fl

set_option maxRecDepth 100000 in
set_option maxHeartbeats 1000000 in
theorem has_c (A : Option Addr) (c : Nat) (l : List Int) (x : Int) (w : World) (hh : Holds w A (l.map Iv)) (hl : l.length ≤ 1000000000000000000) :
    Calls Try.prog 32 #[.slice A l.length c, .int .i64 x] w fun e w' => e = .returned (.bool (decide (x ∈ l))) ∧ w = w' := by
  have HH := Lib.hid hh
  clear hh
  go_enter Try.func32, Try.ntmps32
  go_wp2
  go_loop [5] (fun i => ∃ k : Nat, k ≤ l.length ∧ i = .int .i64 k ∧ Hid (x ∉ l.take k)) (fun i => l.length - (intOf i).toNat)
  case atStart => exact ⟨0, Nat.zero_le _, rfl, Lib.hid (by simp)⟩
  case round =>
    obtain ⟨k, hk, rfl, HA⟩ := hrel
    by_cases hlt : k < l.length
    · obtain ⟨b, o, rfl, hc⟩ := HH.out.iv hlt
      by_cases he : l[k] = x
      · have HD : Hid (decide (x ∈ l) = true) := Lib.hid (by rw [decide_eq_true_eq, ← he]; exact List.getElem_mem hlt)
        have hb : (l[k] == x) = true := by rw [he]; simp
        clear HA he
        generalize l[k] = z at *
        go_wp2
        go_ret
        exact ⟨gr_bool HD.out.symm, rfl⟩
      · have hb : (l[k] == x) = false := by simpa using he
        have HA2 : Hid (x ∉ l.take (k + 1)) := Lib.hid (by
          rw [List.take_succ_eq_append_getElem hlt, List.mem_append, List.mem_singleton]
          rintro (h | h)
          · exact HA.out h
          · exact he h.symm)
        clear HA he
        generalize l[k] = z at *
        go_wp2
        go_round
        case rel => exact ⟨k + 1, by omega, by go_num, HA2⟩
        case measure => simp [intOf]; omega
    · have HD : Hid (decide (x ∈ l) = false) := Lib.hid (by
        have := HA.out
        rw [List.take_of_length_le (by omega)] at this
        rwa [decide_eq_false_iff_not])
      go_wp2
      go_ret
      exact ⟨gr_bool HD.out.symm, rfl⟩
/-- A list with x put before its k-th element on. -/
theorem insL_before {l : List Int} {x : Int} {k : Nat} (h : k < l.length) (hb : ∀ y ∈ l.take k, y ≤ x) (hx : x < l[k]) : insL l x = l.take k ++ x :: l.drop k := by
  induction l generalizing k with
  | nil => simp at h
  | cons y l ih =>
    cases k with
    | zero =>
      have hx' : x < y := by simpa using hx
      rw [insL, if_pos hx']; rfl
    | succ k =>
      have hy : y ≤ x := hb y (by simp)
      rw [insL, if_neg (by omega), ih (by simpa using h) (fun z hz => hb z (by simp [hz])) (by simpa using hx)]
      rfl
theorem insL_end {l : List Int} {x : Int} (hb : ∀ y ∈ l, y ≤ x) : insL l x = l ++ [x] := by
  induction l with
  | nil => rfl
  | cons y l ih =>
    have hy : y ≤ x := hb y (by simp)
    rw [insL, if_neg (by omega), ih (fun z hz => hb z (by simp [hz]))]
    rfl
/-- What Insert has made of the first k elements. -/
def InsRel (l : List Int) (x : Int) (k : Nat) (done : Bool) (out : List Int) : Prop :=
  (done = false ∧ out = l.take k ∧ ∀ y ∈ l.take k, y ≤ x) ∨ (done = true ∧ ∃ j, j < k ∧ ∃ h : j < l.length, x < l[j] ∧ (∀ y ∈ l.take j, y ≤ x) ∧ out = l.take j ++ x :: (l.take k).drop j)
theorem InsRel.length {l : List Int} {x : Int} {k : Nat} {d : Bool} {out : List Int} (h : InsRel l x k d out) : out.length ≤ k + 1 := by
  rcases h with ⟨_, rfl, _⟩ | ⟨_, j, hj, h1, _, _, rfl⟩
  · rw [List.length_take]; omega
  · simp; omega
theorem InsRel.put {l : List Int} {x : Int} {k : Nat} {out : List Int} (h : InsRel l x k false out) (hk : k < l.length) (hx : x < l[k]) : InsRel l x (k + 1) true ((out ++ [x]) ++ [l[k]]) := by
  rcases h with ⟨_, rfl, hb⟩ | ⟨h, _⟩
  · refine .inr ⟨rfl, k, by omega, hk, hx, hb, ?_⟩
    rw [List.take_succ_eq_append_getElem hk, List.drop_append, List.drop_of_length_le (by rw [List.length_take]; omega)]
    have : k - (l.take k).length = 0 := by rw [List.length_take]; omega
    rw [this]; simp
  · cases h
theorem InsRel.go {l : List Int} {x : Int} {k : Nat} {d : Bool} {out : List Int} (h : InsRel l x k d out) (hk : k < l.length) (hx : d = false → ¬ x < l[k]) : InsRel l x (k + 1) d (out ++ [l[k]]) := by
  rcases h with ⟨rfl, rfl, hb⟩ | ⟨rfl, j, hj, h1, h2, h3, rfl⟩
  · refine .inl ⟨rfl, (List.take_succ_eq_append_getElem hk).symm, fun y hy => ?_⟩
    rw [List.take_succ_eq_append_getElem hk, List.mem_append, List.mem_singleton] at hy
    have := hx rfl
    rcases hy with hy | rfl
    · exact hb y hy
    · omega
  · refine .inr ⟨rfl, j, by omega, h1, h2, h3, ?_⟩
    rw [List.take_succ_eq_append_getElem hk, List.drop_append_of_le_length (by rw [List.length_take]; omega)]
    simp
theorem InsRel.last {l : List Int} {x : Int} {k : Nat} {d : Bool} {out : List Int} (h : InsRel l x k d out) (hk : l.length ≤ k) : (if d then out else out ++ [x]) = insL l x := by
  rcases h with ⟨rfl, rfl, hb⟩ | ⟨rfl, j, hj, h1, h2, h3, rfl⟩
  · rw [List.take_of_length_le hk] at hb ⊢
    rw [insL_end hb]; rfl
  · rw [List.take_of_length_le hk, insL_before h1 h3 h2]; rfl
set_option maxRecDepth 100000 in
set_option maxHeartbeats 2000000 in
theorem insert_c (A : Option Addr) (c : Nat) (l : List Int) (x : Int) (w : World) (hh : Holds w A (l.map Iv)) (hl : l.length ≤ 1000000) :
    Calls Try.prog 34 #[.slice A l.length c, .int .i64 x] w fun e w' => ∃ v, e = .returned v ∧ w'.ownsRow w.heap.size 3 1 v (insL l x).length ((insL l x).map Iv) ∧ Below w.heap.size w w' := by
  have HH := Lib.hid hh
  clear hh
  go_enter Try.func34, Try.ntmps34
  go_wp2
  go_loopw [5, 6, 7] (fun v d i wr => ∃ (k : Nat) (db : Bool) (out : List Int), i = .int .i64 k ∧ k ≤ l.length ∧ d = .bool db ∧ Hid (InsRel l x k db out) ∧ Hid (wr.ownsRow w.heap.size 3 1 v out.length (out.map Iv)) ∧ Below w.heap.size w wr) (fun _ _ i _ => l.length - (intOf i).toNat)
  case atStart => exact ⟨0, false, [], rfl, Nat.zero_le _, rfl, Lib.hid (.inl ⟨rfl, rfl, by simp⟩), Lib.hid (World.ownsRow_nil _ _ _ _), Below.refl _ _⟩
  case round =>
    obtain ⟨k, db, out, rfl, hk, rfl, HI, HO, hb⟩ := hrel
    have hol := HI.out.length
    have hsz := hb.size
    by_cases hlt : k < l.length
    · obtain ⟨b, o, rfl, hc0⟩ := HH.out.iv hlt
      have hbw : b < w.heap.size := World.block_lt_of_cell? _ _ hc0
      have hc := (hb.cell (p := ⟨b, o + k, none⟩) hbw).trans hc0
      have HC0 := Lib.hid hc0
      have HG : Hid (db = true ∨ ¬ x < l[k] → InsRel l x (k + 1) db (out ++ [l[k]])) := Lib.hid (fun h => HI.out.go hlt (fun e => by rcases h with h | h; (rw [h] at e; cases e); exact h))
      have HP : Hid (db = false → x < l[k] → InsRel l x (k + 1) true ((out ++ [x]) ++ [l[k]])) := Lib.hid (fun e h => by subst e; exact HI.out.put hlt h)
      have base := own_base HO.out
      clear HI hc0
      generalize l[k] = z at *
      by_cases hp : db = false ∧ x < z
      · obtain ⟨rfl, hx⟩ := hp
        have HP2 := Lib.hid (HP.out rfl hx)
        clear HG HP
        go_wp2_with (at_builtin; refine app_int _ rfl _ _ rfl w.heap.size _ _ _ rfl (HO.out.alloc _) wr.heap.size x rfl (by simp [go_sem]) (by omega) (by simp; omega) ?_)
        intro v' w7 own7 hg7
        have hb7 : Below w.heap.size w w7 := (hb.alloc hb.size _).grown hg7 (by simp; omega) (fun k hk => base k hk)
        have HO7 : Hid (w7.ownsRow w.heap.size 3 1 v' (out ++ [x]).length ((out ++ [x]).map Iv)) := Lib.hid (by simpa using own7)
        have hc7 : w7.cell? ⟨b, o + k, none⟩ = some (.int .i64 z) := (hb7.cell (p := ⟨b, o + k, none⟩) hbw).trans HC0.out
        clear own7 hg7 base HO hc
        have base := own_base HO7.out
        have hl7 : (out ++ [x]).length ≤ 1000002 := by simp; omega
        have hsz := hb7.size
        generalize out ++ [x] = out' at *
        go_wp2_with (at_builtin; refine app_int _ rfl _ _ rfl w.heap.size _ _ _ rfl (HO7.out.alloc _) w7.heap.size z rfl (by simp [go_sem]) (by omega) (by simp; omega) ?_)
        intro v8 w8 own8 hg8
        have hb8 : Below w.heap.size w w8 := (hb7.alloc hb7.size _).grown hg8 (by simp; omega) (fun k hk => base k hk)
        have HO8 : Hid (w8.ownsRow w.heap.size 3 1 v8 (out' ++ [z]).length ((out' ++ [z]).map Iv)) := Lib.hid (by simpa using own8)
        clear own8 hg8 base HO7 hc7
        go_wp2
        go_roundw
        case rel => exact ⟨k + 1, true, _, by go_num, by omega, rfl, HP2, HO8, hb8⟩
        case measure => simp [intOf]; omega
      · have HG2 := Lib.hid (HG.out (by rcases db with _ | _; (right; exact fun h => hp ⟨rfl, h⟩); left; rfl))
        have hdd : db = true ∨ db = false ∧ decide (x < z) = false := by rcases db with _ | _; (right; refine ⟨rfl, ?_⟩; simp at hp; simpa using hp); left; rfl
        clear HG HP hp
        rcases hdd with rfl | ⟨rfl, hdx⟩
        all_goals
          go_wp2_with (at_builtin; refine app_int _ rfl _ _ rfl w.heap.size _ _ _ rfl (HO.out.alloc _) wr.heap.size z rfl (by simp [go_sem]) (by omega) (by simp; omega) ?_)
          intro v8 w8 own8 hg8
          have hb8 : Below w.heap.size w w8 := (hb.alloc hb.size _).grown hg8 (by simp; omega) (fun k hk => base k hk)
          have HO8 : Hid (w8.ownsRow w.heap.size 3 1 v8 (out ++ [z]).length ((out ++ [z]).map Iv)) := Lib.hid (by simpa using own8)
          clear own8 hg8 base HO hc
          go_wp2
          go_roundw
          case rel => exact ⟨k + 1, _, _, by go_num, by omega, rfl, HG2, HO8, hb8⟩
          case measure => simp [intOf]; omega
    · have HL := Lib.hid (HI.out.last (by omega))
      have base := own_base HO.out
      clear HI
      rcases db with _ | _
      · go_wp2_with (at_builtin; refine app_int _ rfl _ _ rfl w.heap.size _ _ _ rfl (HO.out.alloc _) wr.heap.size x rfl (by simp [go_sem]) (by omega) (by simp; omega) ?_)
        intro v8 w8 own8 hg8
        have hb8 : Below w.heap.size w w8 := (hb.alloc hb.size _).grown hg8 (by simp; omega) (fun k hk => base k hk)
        have HO8 : Hid (w8.ownsRow w.heap.size 3 1 v8 (out ++ [x]).length ((out ++ [x]).map Iv)) := Lib.hid (by simpa using own8)
        clear own8 hg8 base HO
        go_wp2
        go_ret
        exact ⟨_, rfl, by rw [← HL.out]; exact HO8.out, hb8⟩
      · go_wp2
        go_ret
        exact ⟨_, rfl, by rw [← HL.out]; exact HO.out, hb⟩
end Go.Proofs.Ytfgpenekmokdiaa
namespace Go.Proofs.Ytfgpenekmokdiaa
open Go.RowKit

def CutPost (n : Int) (e : Ending) (w w' : World) : Prop := ∃ r : Nat, (r : Int) < n ∧ e = .returned (.int .i64 r) ∧ w = w'
theorem cut_c (v n : Int) (w : World) (h1 : 1 ≤ n) (hn : n ≤ 1000000) (hv1 : -9223372036854775808 ≤ v) (hv2 : v ≤ 9223372036854775807) : Calls Try.prog 33 #[.int .i64 v, .int .i64 n] w fun e w' => CutPost n e w w' := by
  by_cases h : n ≤ 1
  · go_enter Try.func33, Try.ntmps33
    go_wp2
    go_ret
    exact ⟨0, by omega, rfl, rfl⟩
  · have hlo : -n < v.tmod n := by have := Int.lt_tmod_of_pos v (show (0 : Int) < n by omega); omega
    have hhi : v.tmod n < n := Int.tmod_lt_of_pos v (by omega)
    by_cases h0 : 0 ≤ v
    · have e0 : v.tmod n = v % n := Int.tmod_eq_emod_of_nonneg h0
      rw [e0] at hlo hhi
      have hnn : 0 ≤ v % n := Int.emod_nonneg v (by omega)
      clear e0
      go_enter Try.func33, Try.ntmps33
      go_wp2
      go_ret
      exact ⟨(v % n).toNat, by omega, by rw [Int.toNat_of_nonneg hnn]; rfl, rfl⟩
    · have h0' : v < 0 := by omega
      clear h0
      by_cases hm : v.tmod n < 0
      · have hs1 : 0 ≤ v.tmod n + n := by omega
        go_enter Try.func33, Try.ntmps33
        go_wp2
        go_ret
        exact ⟨(v.tmod n + n).toNat, by omega, by rw [Int.toNat_of_nonneg hs1]; rfl, rfl⟩
      · have hs1 : 0 ≤ v.tmod n := by omega
        go_enter Try.func33, Try.ntmps33
        go_wp2
        go_ret
        exact ⟨(v.tmod n).toNat, by omega, by rw [Int.toNat_of_nonneg hs1]; rfl, rfl⟩

/-- Block g is a tape whose list lies below block B, and whose place is at most T. -/
def TapeOk (w : World) (B g T : Nat) : Prop := ∃ (A : Option Addr) (n c at_ : Nat) (zs : List Int),
  w.heap[g]? = some (.cells #[.slice A n c, .int .i64 at_] 27 (0, 0)) ∧ zs.length = n ∧ at_ ≤ T ∧ B ≤ g ∧ n ≤ maxLen ∧
  (0 < n → ∃ b o, A = some ⟨b, o, none⟩ ∧ b < B ∧ ∀ j (h : j < zs.length), w.cell? ⟨b, o + j, none⟩ = some (.int .i64 zs[j]) ∧ -9223372036854775808 ≤ zs[j] ∧ zs[j] ≤ 9223372036854775807)
theorem TapeOk.more {w : World} {B g T T' : Nat} (h : TapeOk w B g T) (hT : T ≤ T') : TapeOk w B g T' := by
  obtain ⟨A, n, c, at_, zs, h1, h2, h3, h4⟩ := h
  exact ⟨A, n, c, at_, zs, h1, h2, Nat.le_trans h3 hT, h4⟩
/-- A tape stays where nothing below the heap's end is written. -/
theorem TapeOk.keep {w w' : World} {B g T : Nat} (h : TapeOk w B g T) (hb : Below w.heap.size w w') : TapeOk w' B g T := by
  obtain ⟨A, n, c, at_, zs, h1, h2, h3, h4, h5, h6⟩ := h
  refine ⟨A, n, c, at_, zs, (hb.block g (block_lt h1)).trans h1, h2, h3, h4, h5, fun hn => ?_⟩
  obtain ⟨b, o, hA, hlt, hc⟩ := h6 hn
  exact ⟨b, o, hA, hlt, fun j hj => ⟨(hb.cell (p := ⟨b, o + j, none⟩) (by have := block_lt h1; show b < _; omega)).trans (hc j hj).1, (hc j hj).2⟩⟩
/-- .. and where a row of the call's own, of another type, may be written. -/
theorem TapeOk.grown {w w' : World} {B g T : Nat} {row : Option Nat} (h : TapeOk w B g T) (hg : w.grownBy w' row) (hr : row ≠ some g) (hB : ∀ k, row = some k → B ≤ k) : TapeOk w' B g T := by
  obtain ⟨A, n, c, at_, zs, h1, h2, h3, h4, h5, h6⟩ := h
  refine ⟨A, n, c, at_, zs, (hg.block g (block_lt h1) (fun e => hr e.symm)).trans h1, h2, h3, h4, h5, fun hn => ?_⟩
  obtain ⟨b, o, hA, hlt, hc⟩ := h6 hn
  refine ⟨b, o, hA, hlt, fun j hj => ⟨?_, (hc j hj).2⟩⟩
  have := World.cell?_of_block (w := w) (a := ⟨b, o + j, none⟩) (hg.block b (by have := block_lt h1; omega) (fun e => by have := hB b e.symm; omega))
  rw [this]; exact (hc j hj).1
def NextPost (B g T : Nat) (n : Int) (w : World) (e : Ending) (w' : World) : Prop := ∃ r : Nat, (r : Int) < n ∧ e = .returned (.int .i64 r) ∧ TapeOk w' B g (T + 1) ∧ w.grownBy w' (some g)
theorem tape_step {w : World} {B g T len c at_ nq : Nat} {A : Option Addr} {zs : List Int} (hh : w.heap[g]? = some (.cells #[.slice A len c, .int .i64 at_] 27 (0, 0))) (hlen : zs.length = len) (hat : at_ ≤ T) (hBg : B ≤ g) (hmax : len ≤ maxLen)
    (hcells : 0 < len → ∃ b o, A = some ⟨b, o, none⟩ ∧ b < B ∧ ∀ j (h : j < zs.length), w.cell? ⟨b, o + j, none⟩ = some (.int .i64 zs[j]) ∧ -9223372036854775808 ≤ zs[j] ∧ zs[j] ≤ 9223372036854775807) :
    TapeOk ((w.drewN nq).setCell ⟨g, 1, none⟩ (.int .i64 ((at_ : Int) + 1))) B g (T + 1) ∧ w.grownBy ((w.drewN nq).setCell ⟨g, 1, none⟩ (.int .i64 ((at_ : Int) + 1))) (some g) := by
  have hg : w.grownBy ((w.drewN nq).setCell ⟨g, 1, none⟩ (.int .i64 ((at_ : Int) + 1))) (some g) := by
    refine ⟨rfl, rfl, rfl, by simp [World.setCell, World.drewN], fun i hi hne => ?_⟩
    exact Below.heap_setCell (w.drewN nq) ⟨g, 1, none⟩ _ i (fun e => hne (by rw [e]))
  refine ⟨⟨A, len, c, at_ + 1, zs, ?_, hlen, by omega, hBg, hmax, fun hn => ?_⟩, hg⟩
  · simp [World.setCell, Array.getElem?_modify]
    exact ⟨_, hh, by simp⟩
  · obtain ⟨b, o, hA, hlt, hc⟩ := hcells hn
    refine ⟨b, o, hA, hlt, fun j hj => ⟨?_, (hc j hj).2⟩⟩
    have := World.cell?_of_block (w := w) (a := ⟨b, o + j, none⟩) (hg.block b (by have := block_lt hh; omega) (fun e => by injection e with e; omega))
    rw [this]; exact (hc j hj).1
set_option maxHeartbeats 1000000 in
theorem next_c (B g T : Nat) (n : Int) (w : World) (ht : TapeOk w B g T) (hT : T ≤ 1000000000) (h1 : 1 ≤ n) (hn : n ≤ 1000000) : Calls Try.prog 22 #[.pointer (some ⟨g, 0, none⟩), .int .i64 n] w (NextPost B g T n w) := by
  obtain ⟨A, len, c, at_, zs, hh, hlen, hat, hBg, hmax, hcells⟩ := ht
  unfold maxLen at hmax
  have hHH := Lib.hid hh
  have hlt := block_lt hh
  have c0 : w.cell? ⟨g, 0, none⟩ = some (.slice A len c) := by rw [cell_of_row w g 0 _ _ (0, 0) hh]; rfl
  have c1 : w.cell? ⟨g, 1, none⟩ = some (.int .i64 at_) := by rw [cell_of_row w g 1 _ _ (0, 0) hh]; rfl
  have hfz : w.frozen? ⟨g, 1, none⟩ = false := by simp [World.frozen?, hh]
  clear hh
  have HC := Lib.hid hcells
  by_cases hin : at_ < len
  · obtain ⟨b, o, rfl, _, hc⟩ := hcells (by omega)
    obtain ⟨e1, e2, e3⟩ := hc at_ (by omega)
    have HL := Lib.hid hlen
    clear hc hcells
    generalize zs[at_] = z at *
    clear hlen
    go_enter Try.func22, Try.ntmps22
    go_wp2
    go_quiet (fail)
    go_wp2
    go_quiet (fail)
    go_wp2_with fail
    refine (cut_c _ _ _ h1 hn e2 e3).mono ?_
    rintro e w1 ⟨r, hr, rfl, rfl⟩
    go_wp2_with fail
    go_ret
    have hts := fun q => tape_step (nq := q) hHH.out HL.out hat hBg hmax HC.out
    exact ⟨r, hr, rfl, (hts _).1, (hts _).2⟩
  · clear hcells
    go_enter Try.func22, Try.ntmps22
    go_wp2
    go_quiet (fail)
    go_wp2_with fail
    refine (cut_c _ _ _ h1 hn (by omega) (by omega)).mono ?_
    rintro e w1 ⟨r, hr, rfl, rfl⟩
    go_wp2_with fail
    go_ret
    obtain ⟨h2, h3⟩ := tape_step (nq := nq) hHH.out hlen hat hBg hmax HC.out
    exact ⟨r, hr, rfl, h2, h3⟩
end Go.Proofs.Ytfgpenekmokdiaa
namespace Go.Proofs.Ytfgpenekmokdiaa
open Go Go.RowKit Fl

theorem insL_sorted : ∀ {l : List Int} {x : Int}, l.Pairwise (· < ·) → x ∉ l → (insL l x).Pairwise (· < ·)
  | [], x, _, _ => by simp [insL]
  | y :: l, x, h, hx => by
    have h1 := List.pairwise_cons.1 h
    have hxy : x ≠ y := fun e => hx (by simp [e])
    have hxl : x ∉ l := fun e => hx (by simp [e])
    unfold insL
    split
    · refine .cons (fun z hz => ?_) h
      rcases List.mem_cons.1 hz with rfl | hz
      · assumption
      · have := h1.1 z hz; omega
    · refine .cons (fun z hz => ?_) (insL_sorted h1.2 hxl)
      rcases (insL_mem l x z).1 hz with rfl | hz
      · omega
      · exact h1.1 z hz
/-- Graphs as they are made: n vertices, rows ascending, to other vertices. -/
structure GrOk (n : Nat) (g : GraphD) : Prop where
  len : g.length = n
  sorted : ∀ r ∈ g, r.Pairwise (· < ·)
  range : ∀ (k : Nat) (hk : k < g.length), ∀ x ∈ g[k], 0 ≤ x ∧ x < n ∧ x ≠ k
theorem GrOk.valid {n : Nat} {g : GraphD} (h : GrOk n g) (hn : n ≤ 24) : validG g = true :=
  validG_mk (by rw [h.len]; exact hn) (fun k hk => h.sorted _ (List.getElem_mem hk)) (fun k hk x hx => by have := h.range k hk x hx; rw [h.len]; exact this)
theorem grOk_empty (n : Nat) : GrOk n (List.replicate n []) :=
  ⟨by simp, fun r hr => by rw [List.eq_of_mem_replicate hr]; exact .nil, fun k hk x hx => by simp at hx⟩
theorem GrOk.put {n : Nat} {g : GraphD} (h : GrOk n g) {v : Nat} {x : Int} (hv : v < g.length) (hx : 0 ≤ x ∧ x < n ∧ x ≠ v) (hn : x ∉ g[v]) : GrOk n (g.set v (insL g[v] x)) := by
  refine ⟨by simpa using h.len, fun r hr => ?_, fun k hk y hy => ?_⟩
  · rcases List.mem_or_eq_of_mem_set hr with hr | rfl
    · exact h.sorted r hr
    · exact insL_sorted (h.sorted _ (List.getElem_mem hv)) hn
  · rw [List.getElem_set] at hy
    split at hy
    · rename_i e
      subst e
      rcases (insL_mem _ _ _).1 hy with rfl | hy
      · exact hx
      · exact h.range v hv y hy
    · exact h.range k (by simpa using hk) y hy
/-- Rows of the call's own: the slice v holds slices that hold the rows of g, all of them in memory from block base on. -/
def RowsOwn (w : World) (base : Nat) (v : Value) (g : GraphD) : Prop :=
  ∃ vs : List Value, vs.length = g.length ∧ w.ownsRow base 23 1 v g.length vs ∧ ∀ (k : Nat) (u : Value) (r : List Int), vs[k]? = some u → g[k]? = some r → w.ownsRow base 3 1 u r.length (r.map Iv)
theorem RowsOwn.keep {w w' : World} {base : Nat} {v : Value} {g : GraphD} (h : RowsOwn w base v g) (hb : Below w.heap.size w w') : RowsOwn w' base v g := by
  obtain ⟨vs, h1, h2, h3⟩ := h
  exact ⟨vs, h1, ownsRow_below h2 hb, fun k u r hk hr => ownsRow_below (h3 k u r hk hr) hb⟩
theorem RowsOwn.but {w w' : World} {base q : Nat} {v : Value} {g : GraphD} (h : RowsOwn w base v g) (hw : w.grownBy w' (some q)) (hq : q < base) : RowsOwn w' base v g := by
  have key : ∀ {e : TypeId} {n : Nat} {u : Value} {xs : List Value}, w.ownsRow base e 1 u n xs → w'.ownsRow base e 1 u n xs := fun h => by
    obtain ⟨h1, hr⟩ := h
    refine ⟨h1, ?_⟩
    rcases hr with hr | ⟨b, cap, cur, hv, hgb, hh, hrest⟩
    · exact .inl hr
    · exact .inr ⟨b, cap, cur, hv, hgb, (hw.block b (block_lt hh) (fun e => by injection e with e; omega)).trans hh, hrest⟩
  obtain ⟨vs, h1, h2, h3⟩ := h
  exact ⟨vs, h1, key h2, fun k u r hk hr => key (h3 k u r hk hr)⟩
theorem RowsOwn.at_ {w : World} {base : Nat} {v : Value} {g : GraphD} (h : RowsOwn w base v g) : ∃ A c, v = .slice A g.length c ∧ RowsAt w A g := by
  obtain ⟨vs, h1, h2, h3⟩ := h
  obtain ⟨A, c, rfl, hh⟩ := own_is h2
  refine ⟨A, c, rfl, ?_⟩
  rcases Nat.eq_zero_or_pos g.length with h0 | h0
  · exact .inl (List.eq_nil_of_length_eq_zero h0)
  · obtain ⟨b, o, rfl, hlt, hc⟩ := hh.at_ (by omega)
    refine .inr ⟨b, o, rfl, hlt, fun k hk => ?_⟩
    have e1 := List.getElem?_eq_getElem (l := vs) (i := k) (by omega)
    have e2 := List.getElem?_eq_getElem hk
    have h4 := h3 k _ _ e1 e2
    obtain ⟨A1, c1, hv, h5⟩ := own_is h4
    refine ⟨A1, c1, ?_, h5⟩
    rw [hc k (by omega), hv]
/-- A row is put into the place of another one. -/
theorem RowsOwn.put {w w' : World} {base q cap k : Nat} {g : GraphD} {u : Value} {r : List Int} (h : RowsOwn w base (.slice (some ⟨q, 0, none⟩) g.length cap) g) (hr : w.ownsRow base 3 1 u r.length (r.map Iv)) (hw : w' = w.setCell ⟨q, k, none⟩ u) : RowsOwn w' base (.slice (some ⟨q, 0, none⟩) g.length cap) (g.set k r) := by
  subst hw
  obtain ⟨vs, h1, h2, h3⟩ := h
  have hq : ∃ cs, w.heap[q]? = some (.cells cs 23 (0, 0)) := by
    obtain ⟨_, h⟩ := h2
    rcases h with ⟨hv, _⟩ | ⟨g', cap', cur, hv, _, hh, _⟩
    · cases hv
    · injection hv with hA _ _
      injection hA with hA
      injection hA with hA
      subst hA
      exact ⟨cur, hh⟩
  obtain ⟨cs, hq⟩ := hq
  have key : ∀ {n : Nat} {u' : Value} {xs : List Value}, w.ownsRow base 3 1 u' n xs → (w.setCell ⟨q, k, none⟩ u).ownsRow base 3 1 u' n xs := fun h => by
    obtain ⟨h1, hr⟩ := h
    refine ⟨h1, ?_⟩
    rcases hr with hr | ⟨b, cap, cur, hv, hgb, hh, hrest⟩
    · exact .inl hr
    · refine .inr ⟨b, cap, cur, hv, hgb, (Below.heap_setCell _ _ _ _ (fun e => ?_)).trans hh, hrest⟩
      simp only at e
      subst e
      rw [hh] at hq
      injection hq with hq
      injection hq with _ h2
      exact absurd h2 (by decide)
  refine ⟨vs.set k u, by simpa using h1, by rw [List.length_set]; exact own_put h2, fun i u' r' hi hr' => ?_⟩
  rw [List.getElem?_set] at hi hr'
  by_cases e : k = i
  · subst e
    rw [if_pos rfl] at hi hr'
    split at hi
    · split at hr'
      · injection hi with hi
        injection hr' with hr'
        subst hi hr'
        exact key hr
      · cases hr'
    · cases hi
  · rw [if_neg e] at hi hr'
    exact key (h3 i u' r' hi hr')
theorem RowsOwn.cell {w : World} {base q n cap k : Nat} {g : GraphD} (h : RowsOwn w base (.slice (some ⟨q, 0, none⟩) n cap) g) (hk : k < g.length) : ∃ A1 c1, w.cell? ⟨q, k, none⟩ = some (.slice A1 g[k].length c1) ∧ w.frozen? ⟨q, k, none⟩ = false ∧ Holds w A1 (g[k].map Iv) := by
  obtain ⟨vs, h1, h2, h3⟩ := h
  have e1 := List.getElem?_eq_getElem (l := vs) (i := k) (by omega)
  obtain ⟨A1, c1, hv, h5⟩ := own_is (h3 k _ _ e1 (List.getElem?_eq_getElem hk))
  have hn : n = g.length := by
    obtain ⟨A, c, hv2, _⟩ := own_is h2
    injection hv2 with _ hn _
  subst hn
  obtain ⟨c2, c3⟩ := own_get h2 e1
  exact ⟨A1, c1, by rw [c2, hv], c3, h5⟩
/-- Below block U, but for block g, the world is as it was. -/
structure Still (g U : Nat) (w w' : World) : Prop where
  os : w'.os = w.os
  tape : w'.tape = w.tape
  output : w'.output = w.output
  size : w.heap.size ≤ w'.heap.size
  block : ∀ k, k < U → k ≠ g → w'.heap[k]? = w.heap[k]?
theorem Still.refl (g U : Nat) (w : World) : Still g U w w := ⟨rfl, rfl, rfl, Nat.le_refl _, fun _ _ _ => rfl⟩
theorem Still.trans {g U : Nat} {a b c : World} (h : Still g U a b) (k : Still g U b c) : Still g U a c :=
  ⟨k.os.trans h.os, k.tape.trans h.tape, k.output.trans h.output, Nat.le_trans h.size k.size, fun i hi hg => (k.block i hi hg).trans (h.block i hi hg)⟩
theorem Still.of_below {g U : Nat} {a b : World} (h : Below U a b) : Still g U a b := ⟨h.os, h.tape, h.output, h.size, fun k hk _ => h.block k hk⟩
theorem Still.of_grown {g U : Nat} {a b : World} (hg : a.grownBy b (some g)) (hU : U ≤ a.heap.size) : Still g U a b :=
  ⟨hg.os, hg.tape, hg.output, hg.size, fun k hk hne => hg.block k (by omega) (fun e => by injection e with e; omega)⟩
theorem Still.below {g U B : Nat} {a b : World} (h : Still g U a b) (hB : B ≤ U) (hg : B ≤ g) : Below B a b := ⟨h.os, h.tape, h.output, h.size, fun k hk => h.block k (by omega) (by omega)⟩
theorem Try.infoRowG : (Try.prog.info? 23).map (fun i => (i.zero, i.size, i.bytes)) = some (some (.slice none 0 0), 1, 24) := by kernel_rfl
theorem rowsOwn_new {w : World} {base q n : Nat} (h : w.ownsRow base 23 1 (.slice (some ⟨q, 0, none⟩) n n) n (List.replicate n (.slice none 0 0))) : RowsOwn w base (.slice (some ⟨q, 0, none⟩) n n) (List.replicate n []) := by
  refine ⟨List.replicate n (.slice none 0 0), by simp, by simpa using h, fun k u r hk hr => ?_⟩
  rw [List.getElem?_replicate] at hk hr
  by_cases hkn : k < n
  · rw [if_pos hkn] at hk hr
    injection hk with hk
    injection hr with hr
    subst hk hr
    exact World.ownsRow_nil _ _ _ _
  · rw [if_neg hkn] at hk
    cases hk
/-- What Graph returns. -/
def GraphPost (w : World) (B gt T most : Nat) (e : Ending) (w' : World) : Prop := ∃ (v : Value) (g : GraphD), e = .returned v ∧ g.length ≤ most ∧ GrOk g.length g ∧ RowsOwn w' w.heap.size v g ∧ TapeOk w' B gt (T + 1000) ∧ Still gt w.heap.size w w'
set_option maxRecDepth 100000 in
set_option maxHeartbeats 4000000 in
theorem graph_c (B gt T most : Nat) (w : World) (ht : TapeOk w B gt T) (hT : T ≤ 1000000) (hm : most ≤ 20) (hgt : gt < w.heap.size) :
    Calls Try.prog 11 #[.pointer (some ⟨gt, 0, none⟩), .int .i64 most] w (GraphPost w B gt T most) := by
  have HT := Lib.hid ht
  clear ht
  go_enter Try.func11, Try.ntmps11
  go_wp2_with fail
  refine (next_c B gt T _ w HT.out (by omega) (by omega) (by omega)).mono ?_
  rintro e w1 ⟨n, hn, rfl, ht1, hg1⟩
  have HT1 := Lib.hid ht1
  have HS1 := Lib.hid (Still.of_grown hg1 (Nat.le_refl _))
  have hsz1 := hg1.size
  have hn20 : n ≤ 20 := by omega
  clear HT ht1 hg1
  go_wp2_with (refine make_any _ rfl _ _ 22 23 (.slice none 0 0) 24 Try.underlying22 Try.infoRowG rfl (by decide) rfl .i64 .i64 _ _ n rfl rfl rfl rfl (by omega) ?_)
  intro w2 own2 hb2
  have HO2 := Lib.hid (rowsOwn_new own2)
  have HT2 := Lib.hid (HT1.out.keep hb2)
  have HS2 : Hid (Still gt w.heap.size w w2) := Lib.hid (HS1.out.trans (Still.of_below (hb2.mono hsz1)))
  have hsz2 : w1.heap.size < w2.heap.size := own_blk own2
  obtain ⟨G, hG⟩ : ∃ G, G = w1.heap.size := ⟨_, rfl⟩
  rw [← hG] at HO2 hsz2 ⊢
  have hGw : w.heap.size ≤ G := by omega
  clear own2 hb2 HT1 HS1 hG hsz1
  go_wp2_with fail
  refine (next_c B gt (T + 1) _ w2 HT2.out (by omega) (by omega) (by omega)).mono ?_
  rintro e w3 ⟨k0, hk0, rfl, ht3, hg3⟩
  have HO3 := Lib.hid (HO2.out.but hg3 (by omega))
  have HT3 := Lib.hid (ht3.more (T' := T + 3) (by omega))
  have HS3 := Lib.hid (HS2.out.trans (Still.of_grown hg3 (by omega)))
  have hsz3 : G < w3.heap.size := Nat.lt_of_lt_of_le hsz2 hg3.size
  clear HT2 HS2 HO2 ht3 hg3 hsz2
  go_wp2
  go_loopw [7] (fun v wr => ∃ (k i : Nat) (g : GraphD), v = .int .i64 k ∧ k + i = k0 ∧ g.length = n ∧ Hid (GrOk n g) ∧ Hid (RowsOwn wr G (.slice (some ⟨G, 0, none⟩) n n) g) ∧ Hid (TapeOk wr B gt (T + 3 + 2 * i)) ∧ Hid (Still gt w.heap.size w wr) ∧ G < wr.heap.size) (fun v _ => (intOf v).toNat)
  case atStart => exact ⟨k0, 0, _, rfl, rfl, by simp, Lib.hid (grOk_empty n), HO3, HT3, HS3, hsz3⟩
  case round =>
    clear HO3 HT3 HS3 hsz3
    obtain ⟨k, i, g, rfl, hki, hgl, HGr, HO, HT, HS, hsz⟩ := hrel
    by_cases hk : 0 < k
    · have hn1 : 1 ≤ n := by omega
      go_wp2_with fail
      refine (next_c B gt _ n wr HT.out (by omega) (by omega) (by omega)).mono ?_
      rintro e w4 ⟨v, hv, rfl, ht4, hg4⟩
      have HO4 := Lib.hid (HO.out.but hg4 (by omega))
      have HS4 := Lib.hid (HS.out.trans (Still.of_grown hg4 (by omega)))
      have hsz4 : G < w4.heap.size := Nat.lt_of_lt_of_le hsz hg4.size
      have HT4 := Lib.hid ht4
      clear HT HS HO ht4 hg4 hsz
      go_wp2_with fail
      refine (next_c B gt _ n w4 HT4.out (by omega) (by omega) (by omega)).mono ?_
      rintro e w5 ⟨x, hx, rfl, ht5, hg5⟩
      have HO5 := Lib.hid (HO4.out.but hg5 (by omega))
      have HS5 := Lib.hid (HS4.out.trans (Still.of_grown hg5 (by omega)))
      have hsz5 : G < w5.heap.size := Nat.lt_of_lt_of_le hsz4 hg5.size
      have HT5 := Lib.hid (ht5.more (T' := T + 3 + 2 * (i + 1)) (by omega))
      clear HT4 HS4 HO4 ht5 hg5 hsz4
      have hvg : v < g.length := by omega
      by_cases hvx : v = x
      · have hne : ((v : Int) != (x : Int)) = false := by simp [hvx]
        go_wp2
        go_roundw
        case rel => exact ⟨k - 1, i + 1, g, by go_num, by omega, hgl, HGr, HO5, HT5, HS5, hsz5⟩
        case measure => simp [intOf]; omega
      · have hne : ((v : Int) != (x : Int)) = true := by rw [bne_iff_ne]; omega
        obtain ⟨A1, c1, e1, f1, h1⟩ := HO5.out.cell hvg
        have hr24 : g[v].length ≤ 24 := by have := validG_short (HGr.out.valid (by omega)) _ (List.getElem_mem hvg); exact this
        have CH := Lib.hid (has_c A1 c1 g[v] x w5 h1 (by omega))
        have CI := Lib.hid (insert_c A1 c1 g[v] x w5 h1 (by omega))
        have hvn : v < n := by omega
        have HPut := Lib.hid (fun hn => HGr.out.put (v := v) (x := (x : Int)) hvg (by omega) hn)
        by_cases hin : (x : Int) ∈ g[v]
        · rw [decide_eq_true hin] at CH
          clear h1 CI hin HPut
          generalize g[v] = r at *
          go_wp2_with fail
          refine CH.out.mono ?_
          rintro e w6 ⟨rfl, rfl⟩
          go_wp2
          go_roundw
          case rel => exact ⟨k - 1, i + 1, g, by go_num, by omega, hgl, HGr, HO5, HT5, HS5, hsz5⟩
          case measure => simp [intOf]; omega
        · rw [decide_eq_false hin] at CH
          have HP := Lib.hid (HPut.out hin)
          have HPutR : Hid (∀ (W : World) u, RowsOwn W G (.slice (some ⟨G, 0, none⟩) n n) g → W.ownsRow G 3 1 u (insL g[v] x).length ((insL g[v] x).map Iv) → RowsOwn (W.setCell ⟨G, v, none⟩ u) G (.slice (some ⟨G, 0, none⟩) n n) (g.set v (insL g[v] x))) := Lib.hid (fun W u h1 h2 => by
            subst hgl
            exact h1.put h2 rfl)
          have hgl2 : (g.set v (insL g[v] x)).length = n := by simpa using hgl
          clear h1 hin HPut
          generalize insL g[v] x = r2 at *
          generalize g[v] = r at *
          go_wp2_with fail
          refine CH.out.mono ?_
          rintro e w6 ⟨rfl, rfl⟩
          go_wp2_with fail
          refine CI.out.mono ?_
          rintro e w7 ⟨u, rfl, own7, hb7⟩
          obtain ⟨Au, cu, rfl, _⟩ := own_is own7
          have HO7 := Lib.hid (HO5.out.keep hb7)
          obtain ⟨A7, c7, e7, f7, _⟩ := HO7.out.cell hvg
          have hsz7 : G < w7.heap.size := Nat.lt_of_lt_of_le hsz5 hb7.size
          have HO8 := Lib.hid (HPutR.out w7 _ HO7.out (ownsRow_base own7 (by omega)))
          have hbs : Below w5.heap.size w5 w7 := hb7
          have HT8 : Hid (TapeOk (w7.setCell ⟨G, v, none⟩ (.slice Au r2.length cu)) B gt (T + 3 + 2 * (i + 1))) := Lib.hid ((HT5.out.keep hb7).grown (row := some G) ⟨rfl, rfl, rfl, by simp [World.setCell], fun k _ hne => Below.heap_setCell w7 ⟨G, v, none⟩ _ k (fun e => hne (by rw [e]))⟩ (fun e => by injection e with e; omega) (fun b hb => by injection hb with hb; have := HT5.out; obtain ⟨_, _, _, _, _, _, _, _, h, _⟩ := this; omega))
          have HS8 : Hid (Still gt w.heap.size w (w7.setCell ⟨G, v, none⟩ (.slice Au r2.length cu))) := Lib.hid ((HS5.out.trans (Still.of_below (hb7.mono (by omega)))).trans (Still.of_below (below_put (Below.refl _ _) hGw)))
          have hsz8 : G < (w7.setCell ⟨G, v, none⟩ (.slice Au r2.length cu)).heap.size := by simp [World.setCell]; exact hsz7
          clear own7 hb7 hbs HO5 HT5 HS5 HO7 e1 f1
          generalize hlen : (g[v]'hvg).length = lenr at *
          clear hlen
          go_wp2
          go_roundw
          case rel => exact ⟨k - 1, i + 1, _, by go_num, by omega, hgl2, HP, HO8, HT8, HS8, hsz8⟩
          case measure => simp [intOf]; omega
    · have hk0 : k = 0 := by omega
      subst hk0
      subst hgl
      go_wp2
      go_ret
      exact ⟨_, g, rfl, by omega, HGr.out, by obtain ⟨vs, a, b, c⟩ := HO.out; exact ⟨vs, a, ownsRow_base b hGw, fun k u r h1 h2 => ownsRow_base (c k u r h1 h2) hGw⟩, HT.out.more (by omega), HS.out⟩
end Go.Proofs.Ytfgpenekmokdiaa
