/- FrameShort returns true: bytes of another length than a frame's are refused. -/
import Derived.Test.YtehahlnpgkhamaaFrCmp
import Derived.Test.YtehahlnpgkhamaaTapeC
namespace Go.Proofs.Ytehahlnpgkhamaa
open Go Go.RowKit Fl

/-- append of a literal of one byte. -/
theorem app_one8 {ops : Array Oper} {rest : List Oper} {o : Oper} {a : Act} {Q : Exit → Act → World → Prop} (w : World) (hgd : o.guard = none) (s x : Operand) (ho : o.op = .call { callee := .builtin .append, args := #[s, x], argTypes := #[25, 25] }) (base : Nat) (v : Value) (n : Nat) (l : List Int) (hs : a.eval s = v) (hown : w.ownsRow base 5 1 v n (l.map Bv8))
    (z : Int) (hx : a.eval x = .slice (some ⟨w.heap.size, 0, none⟩) 1 1) (hn : n ≤ 1000000000) (hbase : base ≤ w.heap.size)
    (h : ∀ A c w', w'.ownsRow base 5 1 (.slice A (n + 1) c) (n + 1) ((l ++ [z]).map Bv8) → (w.alloc (.cells #[Bv8 z] 5)).grownBy w' v.ownBlock → wpList Try.prog ops Q rest (a.put o.dst (.slice A (n + 1) c)) w') : wpList Try.prog ops Q (o :: rest) a (w.alloc (.cells #[Bv8 z] 5)) := by
  refine app_any _ hgd s x 25 5 (.int .u8 0) 1 Try.underlying25 Try.infoByteF rfl (by decide) ho base v n _ hs (hown.alloc _) w.heap.size (Bv8 z) hx (by rw [cell_of_row _ _ 0 _ _ _ (heap_alloc_new w _)]; rfl) rfl hn (by simp; omega) (fun v' w' g1 g2 => ?_)
  obtain ⟨A, c, rfl, _⟩ := own_is g1
  exact h A c w' (by rw [List.map_append]; exact g1) g2
set_option maxRecDepth 100000 in
set_option maxHeartbeats 4000000 in
theorem frameShort_c (A : Option Addr) (c : Nat) (zs : List Int) (n : Int) (w : World) (hz : IntsAt w w.heap.size A zs) (hzl : zs.length ≤ maxLen) (hn1 : -9223372036854775808 ≤ n) (hn2 : n ≤ 9223372036854775807) :
    Calls Try.prog 6 #[.slice A zs.length c, .int .i64 n] w fun e w' => e = .returned (.bool true) ∧ Below w.heap.size w w' := by
  have CK := Lib.hid (known13_c w)
  have HZ := Lib.hid hz
  have HL := Lib.hid hzl
  have HC1 := Lib.hid (fun W => cutN_c n 12 W (by omega) (by omega) hn1 hn2)
  have HC2 := Lib.hid (fun W => cutN_c n 256 W (by omega) (by omega) hn1 hn2)
  have hl1 : cutN n 12 < 12 := cutN_lt (by omega)
  have hl2 : cutN n 256 < 256 := cutN_lt (by omega)
  generalize cutN n 12 = k1 at *
  generalize cutN n 256 = k2 at *
  clear hz hzl hn1 hn2
  go_enter Try.func6, Try.ntmps6
  go_wp2_with fail
  refine CK.out.mono ?_
  rintro e w1 ⟨rfl, hb1⟩
  have HT := Lib.hid (tape_new (c := c) HZ.out (Nat.le_refl _) hb1 HL.out)
  have HB1 : Hid (Below w.heap.size w (w1.alloc (.cells #[.slice A zs.length c, .int .i64 0] 32))) := Lib.hid (hb1.alloc hb1.size _)
  have hgB : w.heap.size ≤ w1.heap.size := hb1.size
  have hsz : w1.heap.size < (w1.alloc (.cells #[.slice A zs.length c, .int .i64 0] 32)).heap.size := by simp
  clear hb1 CK HZ HL
  go_wp2_with fail
  generalize w1.alloc (.cells #[.slice A zs.length c, .int .i64 0] 32) = w2 at *
  generalize w1.heap.size = g at *
  refine (frame_c w.heap.size g 0 w2 HT.out (by omega) hsz).mono ?_
  rintro e w3 ⟨f, rfl, hf, hu, ht3, hg3⟩
  have HB3 : Hid (Below w.heap.size w w3) := Lib.hid (HB1.out.grown hg3 (by omega) (fun k hk => by injection hk with hk; omega))
  have CE := Lib.hid (encode_ok f hf hu)
  have hw3 : w.heap.size ≤ w3.heap.size := HB3.out.size
  clear hf hu ht3 hg3 HT HB1
  go_wp2_with fail
  refine (CE.out _).mono ?_
  rintro e w4 ⟨q, cq, rfl, hown, hb4⟩
  have HO4 := Lib.hid hown
  have HB4 := Lib.hid (HB3.out.trans (hb4.mono HB3.out.size))
  have hcq : 12 ≤ cq := by obtain ⟨_, h2⟩ := hown; rcases h2 with ⟨h, _⟩ | ⟨_, cap, _, h, _, _, h3, _⟩ <;> injection h <;> omega
  clear hown hb4 HB3 CE
  go_wp2_with fail
  refine (HC1.out _).mono ?_
  rintro e w5 ⟨rfl, rfl⟩
  go_wp2_with fail
  refine (decode_n _ _ k1 (by omega) _).mono ?_
  rintro e w5 ⟨rfl, hb5⟩
  have HO5 := Lib.hid (ownsRow_below HO4.out hb5)
  have HB5 := Lib.hid (HB4.out.trans (hb5.mono HB4.out.size))
  have hbase : w3.heap.size ≤ w5.heap.size := by have := own_blk HO5.out; have := own_base HO5.out q rfl; omega
  clear hb5 HO4 HB4
  go_wp2_with fail
  have HO6 := Lib.hid (ownsRow_below HO5.out (below_newF w5 (.cells #[.int .i64 zeroF.kind, .int .i64 zeroF.robot, .int .u64 zeroF.seq, .int .i64 zeroF.cell, .int .i64 zeroF.flag] 24)))
  have HB6 := Lib.hid (HB5.out.alloc HB5.out.size (.cells #[.int .i64 zeroF.kind, .int .i64 zeroF.robot, .int .u64 zeroF.seq, .int .i64 zeroF.cell, .int .i64 zeroF.flag] 24))
  have hbase6 : w3.heap.size ≤ (w5.alloc (.cells #[.int .i64 zeroF.kind, .int .i64 zeroF.robot, .int .u64 zeroF.seq, .int .i64 zeroF.cell, .int .i64 zeroF.flag] 24)).heap.size := by simp; omega
  generalize w5.alloc (.cells #[.int .i64 zeroF.kind, .int .i64 zeroF.robot, .int .u64 zeroF.seq, .int .i64 zeroF.cell, .int .i64 zeroF.flag] 24) = w6 at *
  clear HO5 HB5 hbase
  refine (HC2.out _).mono ?_
  rintro e w7 ⟨rfl, rfl⟩
  have hw2 : IntKind.u8.wrap (k2 : Int) = (k2 : Int) := by rw [IntKind.wrap_u8]; omega
  go_wp2_with (at_builtin; refine app_one8 _ rfl _ _ rfl w3.heap.size _ 12 _ rfl HO6.out (k2 : Int) rfl (by omega) hbase6 ?_)
  intro A' c' w8 own8 hg8
  have hob := own_base HO6.out
  have HB8 := Lib.hid ((HB6.out.alloc HB6.out.size (.cells #[Bv8 (k2 : Int)] 5)).grown hg8 (by have := HB6.out.size; simp; omega) (fun k hk => by have := hob k hk; omega))
  clear own8 hg8 HO6 HB6 hob
  go_wp2_with fail
  refine (decode_n _ _ (12 + 1) (by omega) _).mono ?_
  rintro e w9 ⟨rfl, hb9⟩
  have HB9 := Lib.hid (HB8.out.trans (hb9.mono HB8.out.size))
  clear hb9 HB8
  go_wp2
  go_ret
  exact ⟨rfl, HB9.out.alloc HB9.out.size _⟩
end Go.Proofs.Ytehahlnpgkhamaa
