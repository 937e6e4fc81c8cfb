/- The statements' Net makes a spur (the second or third): a drawn region of 31 operations, in whatever order. -/
import Derived.Test.YtmdnkpiihhaoeaaMzAK
import Derived.Deep.DrawnRows
namespace Go.Proofs.Ytmdnkpiihhaoeaa
open Go Go.RowKit Fl
attribute [local go_sem ↓] Go.wp_at_zero Go.wp_at_succ

set_option maxRecDepth 100000 in
set_option maxHeartbeats 16000000 in
theorem netSpurB (w wr : World) (B gt T G0 b cb cn cs m : Nat) (z : Int) (Ab An As : Option Addr) (l : List BlockD) (g : GraphD) (ls : List SpurD) (u1 u2 u3 u4 u6 u7 u9 u11 u12 u13 u14 u15 u16 u17 u18 u19 u20 u21 u22 u23 u24 u25 u26 u27 u28 u29 u30 u31 u32 u33 u34 u35 u36 u37 u38 u39 u40 u41 u42 u43 u44 u45 u46 u47 u48 u49 u50 u51 u52 u53 u54 u55 u56 u57 u58 u59 u60 u61 u62 u63 u64 u65 u66 u67 u68 u69 u70 u71 u72 u73 u74 u75 u76 u77 u78 u79 u80 u81 u82 u83 u84 u85 u86 u87 u88 u89 u90 u91 u92 u93 u94 u95 u96 u97 u98 u99 u100 u101 u102 u103 u104 u105 u106 u107 u108 u109 u110 u111 u112 u113 u114 u115 u116 u117 u118 u119 u120 u121 u122 u123 u124 u125 u126 u127 u128 u129 u130 u131 u132 u133 u134 u135 u136 u137 u138 u139 u140 u141 u142 u143 u144 u145 u146 u147 u148 u149 u150 u151 u152 u153 u154 u155 u156 u157 u158 u159 u160 u161 u162 u163 u164 u165 u166 u167 u168 u169 u170 u171 u172 u173 u174 u175 u176 u177 u178 u179 u180 u181 u182 u183 u184 u185 u186 u187 u188 u189 u190 : Value) (Q : Exit → Act → World → Prop) (hT : T ≤ 900000) (hlb : l.length = b) (hb : 1 ≤ b ∧ b ≤ 8) (hm1 : 1 ≤ m) (hm2 : m ≤ 2) (hH : NS w B gt T G0 (G0 + 1) (G0 + 2) ⟨l, g, ls, [], 0, 0, 0, 0⟩ Ab An As none cb cn cs 0 wr)
    (hQ : ∀ (Y : Nat) (s : SpurD) (W : World) (v65 v66 v67 v68 v69 v70 v71 v72 v73 v74 v75 v76 v77 v78 v79 v80 v81 v82 v83 v84 v85 v86 v87 v88 v89 v90 v91 v92 v93 : Value), s.name = snm m → SpurOk b s → s.base = z → (m = 0 → s.depot = true) → Hid (W.heap[Y]? = some (.cells #[Sv s.name, Bo s.depot, Iv s.inn, Iv s.out, Iv s.slots, Iv s.base] 66 (0, 0))) → Hid (NS w B gt (T + 5) G0 (G0 + 1) (G0 + 2) ⟨l, g, ls, [], 0, 0, 0, 0⟩ Ab An As none cb cn cs 0 W) → Q .normal (⟨#[.pointer (some ⟨gt, 0, none⟩), u1, u2, u3, u4, .pointer (some ⟨G0 + 1, 0, none⟩), u6, u7, .int .i64 z, u9, .int .i64 (m : Int), .pointer (some ⟨Y, 0, none⟩), u12, u13, u14, u15, u16, u17, u18, u19, u20, u21, u22, u23, u24, u25, u26, u27, u28, u29, u30, u31, u32, u33, u34, u35, u36, u37, u38, u39, u40, u41, u42, u43, u44, u45, u46, u47, u48, u49, u50, u51, u52, u53, u54, u55, u56, u57, u58, u59, u60, u61, u62, u63, u64, v65, v66, v67, v68, v69, v70, v71, v72, v73, v74, v75, v76, v77, v78, v79, v80, v81, v82, v83, v84, v85, v86, v87, v88, v89, v90, v91, v92, v93, u94, u95, u96, u97, u98, u99, u100, u101, u102, u103, u104, u105, u106, u107, u108, u109, u110, u111, u112, u113, u114, u115, u116, u117, u118, u119, u120, u121, u122, u123, u124, u125, u126, u127, u128, u129, u130, u131, u132, u133, u134, u135, u136, u137, u138, u139, u140, u141, u142, u143, u144, u145, u146, u147, u148, u149, u150, u151, u152, u153, u154, u155, u156, u157, u158, u159, u160, u161, u162, u163, u164, u165, u166, u167, u168, u169, u170, u171, u172, u173, u174, u175, u176, u177, u178, u179, u180, u181, u182, u183, u184, u185, u186, u187, u188, u189, u190], []⟩ : Act) W) :
    (Code.region 14 #[{ dst := some 65, op := Op.move (Operand.tmp 10), type := 3, pos := "made.go:191", after := #[], guard := none }, { dst := some 66, op := Op.call { callee := Callee.value (Operand.func 43), args := #[Operand.tmp 65], argTypes := #[3] }, type := 9, pos := "made.go:191", after := #[{ on := 0, ground := Ground.data }], guard := none }, { dst := some 67, op := Op.binOp BinOp.add 9 (Operand.const (Value.string { data := #[115] })) (Operand.tmp 66) 9, type := 9, pos := "made.go:191", after := #[{ on := 1, ground := Ground.data }], guard := none }, { dst := some 68, op := Op.move (Operand.tmp 10), type := 3, pos := "made.go:191", after := #[], guard := none }, { dst := some 69, op := Op.binOp BinOp.eql 3 (Operand.tmp 68) (Operand.const (Value.int IntKind.i64 0)) 3, type := 4, pos := "made.go:191", after := #[{ on := 3, ground := Ground.data }], guard := none }, { dst := some 70, op := Op.move (Operand.tmp 69), type := 4, pos := "made.go:191", after := #[{ on := 4, ground := Ground.data }, { on := 1, ground := Ground.chain }], guard := none }, { dst := some 71, op := Op.move (Operand.tmp 10), type := 3, pos := "made.go:191", after := #[{ on := 5, ground := Ground.guard }], guard := some (5, false) }, { dst := some 72, op := Op.binOp BinOp.gtr 3 (Operand.tmp 71) (Operand.const (Value.int IntKind.i64 2)) 3, type := 4, pos := "made.go:191", after := #[{ on := 6, ground := Ground.data }, { on := 5, ground := Ground.guard }], guard := some (5, false) }, { dst := some 73, op := Op.move (Operand.tmp 72), type := 4, pos := "made.go:191", after := #[{ on := 7, ground := Ground.data }, { on := 5, ground := Ground.chain }, { on := 5, ground := Ground.guard }], guard := some (5, false) }, { dst := some 74, op := Op.move (Operand.tmp 0), type := 38, pos := "made.go:191", after := #[{ on := 8, ground := Ground.guard }], guard := some (8, true) }, { dst := some 75, op := Op.call { callee := Callee.value (Operand.func 11), args := #[Operand.tmp 74, Operand.const (Value.int IntKind.i64 2)], argTypes := #[38, 3] }, type := 3, pos := "made.go:191", after := #[{ on := 9, ground := Ground.data }, { on := 8, ground := Ground.chain }, { on := 8, ground := Ground.guard }], guard := some (8, true) }, { dst := some 76, op := Op.binOp BinOp.eql 3 (Operand.tmp 75) (Operand.const (Value.int IntKind.i64 0)) 3, type := 4, pos := "made.go:191", after := #[{ on := 10, ground := Ground.data }, { on := 8, ground := Ground.guard }], guard := some (8, true) }, { dst := some 77, op := Op.pick (Operand.tmp 73) (Operand.tmp 76) (Operand.const (Value.bool false)), type := 4, pos := "made.go:191", after := #[{ on := 8, ground := Ground.data }, { on := 11, ground := Ground.data }, { on := 5, ground := Ground.guard }], guard := some (5, false) }, { dst := some 78, op := Op.pick (Operand.tmp 70) (Operand.const (Value.bool true)) (Operand.tmp 77), type := 4, pos := "made.go:191", after := #[{ on := 5, ground := Ground.data }, { on := 12, ground := Ground.data }], guard := none }, { dst := some 79, op := Op.move (Operand.tmp 0), type := 38, pos := "made.go:191", after := #[], guard := none }, { dst := some 80, op := Op.fieldAddr 29 (Operand.tmp 5) 0, type := 0, pos := "made.go:191", after := #[], guard := none }, { dst := some 81, op := Op.load 22 (Operand.tmp 80), type := 22, pos := "made.go:191", after := #[{ on := 15, ground := Ground.data }], guard := none }, { dst := some 82, op := Op.call { callee := Callee.builtin Builtin.len, args := #[Operand.tmp 81], argTypes := #[22] }, type := 3, pos := "made.go:191", after := #[{ on := 16, ground := Ground.data }], guard := none }, { dst := some 83, op := Op.call { callee := Callee.value (Operand.func 11), args := #[Operand.tmp 79, Operand.tmp 82], argTypes := #[38, 3] }, type := 3, pos := "made.go:191", after := #[{ on := 14, ground := Ground.data }, { on := 17, ground := Ground.data }, { on := 10, ground := Ground.chain }], guard := none }, { dst := some 84, op := Op.move (Operand.tmp 0), type := 38, pos := "made.go:191", after := #[], guard := none }, { dst := some 85, op := Op.fieldAddr 29 (Operand.tmp 5) 0, type := 0, pos := "made.go:191", after := #[], guard := none }, { dst := some 86, op := Op.load 22 (Operand.tmp 85), type := 22, pos := "made.go:191", after := #[{ on := 20, ground := Ground.data }], guard := none }, { dst := some 87, op := Op.call { callee := Callee.builtin Builtin.len, args := #[Operand.tmp 86], argTypes := #[22] }, type := 3, pos := "made.go:191", after := #[{ on := 21, ground := Ground.data }], guard := none }, { dst := some 88, op := Op.call { callee := Callee.value (Operand.func 11), args := #[Operand.tmp 84, Operand.tmp 87], argTypes := #[38, 3] }, type := 3, pos := "made.go:191", after := #[{ on := 19, ground := Ground.data }, { on := 22, ground := Ground.data }, { on := 18, ground := Ground.chain }], guard := none }, { dst := some 89, op := Op.move (Operand.tmp 0), type := 38, pos := "made.go:191", after := #[], guard := none }, { dst := some 90, op := Op.call { callee := Callee.value (Operand.func 11), args := #[Operand.tmp 89, Operand.const (Value.int IntKind.i64 3)], argTypes := #[38, 3] }, type := 3, pos := "made.go:191", after := #[{ on := 24, ground := Ground.data }, { on := 23, ground := Ground.chain }], guard := none }, { dst := some 91, op := Op.binOp BinOp.add 3 (Operand.const (Value.int IntKind.i64 1)) (Operand.tmp 90) 3, type := 3, pos := "made.go:191", after := #[{ on := 25, ground := Ground.data }], guard := none }, { dst := some 92, op := Op.move (Operand.tmp 8), type := 3, pos := "made.go:191", after := #[], guard := none }, { dst := some 93, op := Op.build 66 #[(0, Operand.tmp 67), (1, Operand.tmp 78), (2, Operand.tmp 83), (3, Operand.tmp 88), (4, Operand.tmp 91), (5, Operand.tmp 92)], type := 66, pos := "made.go:191", after := #[{ on := 2, ground := Ground.data }, { on := 13, ground := Ground.data }, { on := 18, ground := Ground.data }, { on := 23, ground := Ground.data }, { on := 26, ground := Ground.data }, { on := 27, ground := Ground.data }], guard := none }, { dst := some 11, op := Op.alloc 66, type := 0, pos := "made.go:191", after := #[], guard := none }, { dst := none, op := Op.store 66 (Operand.tmp 11) (Operand.tmp 93), type := 0, pos := "made.go:191", after := #[{ on := 29, ground := Ground.data }, { on := 28, ground := Ground.data }, { on := 25, ground := Ground.chain }, { on := 0, ground := Ground.phase }, { on := 1, ground := Ground.phase }, { on := 2, ground := Ground.phase }, { on := 3, ground := Ground.phase }, { on := 4, ground := Ground.phase }, { on := 5, ground := Ground.phase }, { on := 6, ground := Ground.phase }, { on := 7, ground := Ground.phase }, { on := 8, ground := Ground.phase }, { on := 9, ground := Ground.phase }, { on := 10, ground := Ground.phase }, { on := 11, ground := Ground.phase }, { on := 12, ground := Ground.phase }, { on := 13, ground := Ground.phase }, { on := 14, ground := Ground.phase }, { on := 15, ground := Ground.phase }, { on := 16, ground := Ground.phase }, { on := 17, ground := Ground.phase }, { on := 18, ground := Ground.phase }, { on := 19, ground := Ground.phase }, { on := 20, ground := Ground.phase }, { on := 21, ground := Ground.phase }, { on := 22, ground := Ground.phase }, { on := 23, ground := Ground.phase }, { on := 24, ground := Ground.phase }, { on := 25, ground := Ground.phase }, { on := 26, ground := Ground.phase }, { on := 27, ground := Ground.phase }, { on := 28, ground := Ground.phase }, { on := 29, ground := Ground.phase }], guard := none }] true).wp Try.prog Q ⟨#[.pointer (some ⟨gt, 0, none⟩), u1, u2, u3, u4, .pointer (some ⟨G0 + 1, 0, none⟩), u6, u7, .int .i64 z, u9, .int .i64 (m : Int), u11, u12, u13, u14, u15, u16, u17, u18, u19, u20, u21, u22, u23, u24, u25, u26, u27, u28, u29, u30, u31, u32, u33, u34, u35, u36, u37, u38, u39, u40, u41, u42, u43, u44, u45, u46, u47, u48, u49, u50, u51, u52, u53, u54, u55, u56, u57, u58, u59, u60, u61, u62, u63, u64, u65, u66, u67, u68, u69, u70, u71, u72, u73, u74, u75, u76, u77, u78, u79, u80, u81, u82, u83, u84, u85, u86, u87, u88, u89, u90, u91, u92, u93, u94, u95, u96, u97, u98, u99, u100, u101, u102, u103, u104, u105, u106, u107, u108, u109, u110, u111, u112, u113, u114, u115, u116, u117, u118, u119, u120, u121, u122, u123, u124, u125, u126, u127, u128, u129, u130, u131, u132, u133, u134, u135, u136, u137, u138, u139, u140, u141, u142, u143, u144, u145, u146, u147, u148, u149, u150, u151, u152, u153, u154, u155, u156, u157, u158, u159, u160, u161, u162, u163, u164, u165, u166, u167, u168, u169, u170, u171, u172, u173, u174, u175, u176, u177, u178, u179, u180, u181, u182, u183, u184, u185, u186, u187, u188, u189, u190], []⟩ wr := by
  have hq0 : ((m : Int) == 0) = false := by rw [beq_eq_false_iff_ne]; omega
  have hq2 : decide ((2 : Int) < (m : Int)) = false := by simp; omega
  have f0 : wr.cell? ⟨G0 + 1, 0, none⟩ = some (.slice Ab b cb) := by have := hH.c.1; simp only [hlb] at this; exact this
  have f0d : wr.drew.cell? ⟨G0 + 1, 0, none⟩ = some (.slice Ab b cb) := f0
  have f0da : ∀ ob, (wr.alloc ob).drew.cell? ⟨G0 + 1, 0, none⟩ = some (.slice Ab b cb) := fun ob => alloc_cells f0 ob
  have hcat : ∀ x : Int, (ByteArray.mk #[115]) ++ (ByteArray.mk (dec x).toArray) = ByteArray.mk (115 :: dec x).toArray := fun x => by
    apply ByteArray.ext
    simp
  have hdl : ∀ x : Int, ¬ 9223372036854775807 < 1 + (dec x).length := fun x => by have := dec_length x; omega
  obtain ⟨s0, hs0⟩ : ∃ s0, s0 = wr.heap.size := ⟨_, rfl⟩
  have sz0 : s0 ≤ wr.heap.size := by omega
  have HSZ := Lib.hid sz0
  have hbs : G0 + 2 ≤ s0 := by have := hH.size; omega
  have hgs0 : gt < s0 := by have := hH.ord; omega
  have hLow : ∀ k, (Value.slice As ls.length cs).ownBlock = some k → k < s0 := by rw [hs0]; exact hH.spurLow
  clear hs0
  have HE : Hid (∀ (W : World) (Y r5 r6 r7 : Nat) (v65 v66 v67 v68 v69 v70 v71 v72 v73 v74 v75 v76 v77 v78 v79 v80 v81 v82 v83 v84 v85 v86 v87 v88 v89 v90 v91 v92 v93 : Value) (hr5 : r5 < b) (hr6 : r6 < b) (hr7 : r7 < 3), SpurBlk W s0 Y #[.string ByteArray.empty, .bool false, .int .i64 0, .int .i64 0, .int .i64 0, .int .i64 0] → NS w B gt (T + 1 + 1 + 1) G0 (G0 + 1) (G0 + 2) ⟨l, g, ls, [], 0, 0, 0, 0⟩ Ab An As none cb cn cs 0 W → Q .normal (⟨#[.pointer (some ⟨gt, 0, none⟩), u1, u2, u3, u4, .pointer (some ⟨G0 + 1, 0, none⟩), u6, u7, .int .i64 z, u9, .int .i64 (m : Int), .pointer (some ⟨Y, 0, none⟩), u12, u13, u14, u15, u16, u17, u18, u19, u20, u21, u22, u23, u24, u25, u26, u27, u28, u29, u30, u31, u32, u33, u34, u35, u36, u37, u38, u39, u40, u41, u42, u43, u44, u45, u46, u47, u48, u49, u50, u51, u52, u53, u54, u55, u56, u57, u58, u59, u60, u61, u62, u63, u64, v65, v66, v67, v68, v69, v70, v71, v72, v73, v74, v75, v76, v77, v78, v79, v80, v81, v82, v83, v84, v85, v86, v87, v88, v89, v90, v91, v92, v93, u94, u95, u96, u97, u98, u99, u100, u101, u102, u103, u104, u105, u106, u107, u108, u109, u110, u111, u112, u113, u114, u115, u116, u117, u118, u119, u120, u121, u122, u123, u124, u125, u126, u127, u128, u129, u130, u131, u132, u133, u134, u135, u136, u137, u138, u139, u140, u141, u142, u143, u144, u145, u146, u147, u148, u149, u150, u151, u152, u153, u154, u155, u156, u157, u158, u159, u160, u161, u162, u163, u164, u165, u166, u167, u168, u169, u170, u171, u172, u173, u174, u175, u176, u177, u178, u179, u180, u181, u182, u183, u184, u185, u186, u187, u188, u189, u190], []⟩ : Act) ((((((W.setCell ⟨Y, 0, none⟩ (.string ⟨(115 :: dec (m : Int)).toArray⟩)).setCell ⟨Y, 1, none⟩ (Bo false)).setCell ⟨Y, 2, none⟩ (Iv r5)).setCell ⟨Y, 3, none⟩ (Iv r6)).setCell ⟨Y, 4, none⟩ (Iv (1 + r7))).setCell ⟨Y, 5, none⟩ (Iv z))) := Lib.hid (fun W Y r5 r6 r7 v65 v66 v67 v68 v69 v70 v71 v72 v73 v74 v75 v76 v77 v78 v79 v80 v81 v82 v83 v84 v85 v86 v87 v88 v89 v90 v91 v92 v93 hr5 hr6 hr7 hY hW => hQ Y ⟨snm m, false, r5, r6, 1 + r7, z⟩ _ v65 v66 v67 v68 v69 v70 v71 v72 v73 v74 v75 v76 v77 v78 v79 v80 v81 v82 v83 v84 v85 v86 v87 v88 v89 v90 v91 v92 v93 rfl ⟨by simp only; omega, by simp only; omega, by simp only; omega⟩ rfl (by intro h; omega) (Lib.hid (set6_at hY.1)) (Lib.hid ((hW.spurPut hY hbs hLow (set6_grown _ _ _ _ _ _ _ _)).more (by omega))))
  have HA : Hid (∀ (W : World) (r5 r6 r7 : Nat) (v65 v66 v67 v68 v69 v70 v71 v72 v73 v74 v75 v76 v77 v78 v79 v80 v81 v82 v83 v84 v85 v86 v87 v88 v89 v90 v91 v92 v93 : Value) (hr5 : r5 < b) (hr6 : r6 < b) (hr7 : r7 < 3), NS w B gt (T + 1 + 1 + 1) G0 (G0 + 1) (G0 + 2) ⟨l, g, ls, [], 0, 0, 0, 0⟩ Ab An As none cb cn cs 0 W → Q .normal (⟨#[.pointer (some ⟨gt, 0, none⟩), u1, u2, u3, u4, .pointer (some ⟨G0 + 1, 0, none⟩), u6, u7, .int .i64 z, u9, .int .i64 (m : Int), .pointer (some ⟨W.heap.size, 0, none⟩), u12, u13, u14, u15, u16, u17, u18, u19, u20, u21, u22, u23, u24, u25, u26, u27, u28, u29, u30, u31, u32, u33, u34, u35, u36, u37, u38, u39, u40, u41, u42, u43, u44, u45, u46, u47, u48, u49, u50, u51, u52, u53, u54, u55, u56, u57, u58, u59, u60, u61, u62, u63, u64, v65, v66, v67, v68, v69, v70, v71, v72, v73, v74, v75, v76, v77, v78, v79, v80, v81, v82, v83, v84, v85, v86, v87, v88, v89, v90, v91, v92, v93, u94, u95, u96, u97, u98, u99, u100, u101, u102, u103, u104, u105, u106, u107, u108, u109, u110, u111, u112, u113, u114, u115, u116, u117, u118, u119, u120, u121, u122, u123, u124, u125, u126, u127, u128, u129, u130, u131, u132, u133, u134, u135, u136, u137, u138, u139, u140, u141, u142, u143, u144, u145, u146, u147, u148, u149, u150, u151, u152, u153, u154, u155, u156, u157, u158, u159, u160, u161, u162, u163, u164, u165, u166, u167, u168, u169, u170, u171, u172, u173, u174, u175, u176, u177, u178, u179, u180, u181, u182, u183, u184, u185, u186, u187, u188, u189, u190], []⟩ : Act) (W.alloc (Obj.cells #[(.string ⟨(115 :: dec (m : Int)).toArray⟩), Bo false, Iv r5, Iv r6, Iv (1 + r7), Iv z] 66))) := Lib.hid (fun W r5 r6 r7 v65 v66 v67 v68 v69 v70 v71 v72 v73 v74 v75 v76 v77 v78 v79 v80 v81 v82 v83 v84 v85 v86 v87 v88 v89 v90 v91 v92 v93 hr5 hr6 hr7 hW => hQ W.heap.size ⟨snm m, false, r5, r6, 1 + r7, z⟩ _ v65 v66 v67 v68 v69 v70 v71 v72 v73 v74 v75 v76 v77 v78 v79 v80 v81 v82 v83 v84 v85 v86 v87 v88 v89 v90 v91 v92 v93 rfl ⟨by simp only; omega, by simp only; omega, by simp only; omega⟩ rfl (by intro h; omega) (Lib.hid (heap_alloc_new W _)) (Lib.hid ((hW.alloc _).more (by omega))))
  have H := Lib.hid hH
  clear hH hQ hLow
  have HD := Lib.hid (fun W => digits_c (m : Int) W (by omega) (by omega))
  have hud : undef = Value.tuple #[] := rfl
  refine wp_region_noPanic ?_
  refine wp_region_held_drew (S := fun W => W.cell? ⟨G0 + 1, 0, none⟩ = some (.slice Ab b cb)) (by kernel_rfl) f0d (fun hHeld => ?_)
  refine wpAnyH_take (i := 0) (oi := { dst := some 65, op := Op.move (Operand.tmp 10), type := 3, pos := "made.go:191", after := #[], guard := none }) (v := ?v29) rfl (by kernel_rfl) (by kernel_rfl) (by kernel_rfl) (fun _ _ _ h => h) (Or.inl ⟨by rfl, ?hy29⟩) (by assumption) ?rest29
  case hy29 => ((intro w hSw; (try dsimp only at hSw); go_simp) <;> (with_reducible rfl))
  try simp only [Act.put, List.setIfInBounds_toArray, List.set_cons_zero, List.set_cons_succ]
  refine wpAnyH_take (i := 3) (oi := { dst := some 68, op := Op.move (Operand.tmp 10), type := 3, pos := "made.go:191", after := #[], guard := none }) (v := ?v30) rfl (by kernel_rfl) (by kernel_rfl) (by kernel_rfl) (fun _ _ _ h => h) (Or.inl ⟨by rfl, ?hy30⟩) (by assumption) ?rest30
  case hy30 => ((intro w hSw; (try dsimp only at hSw); go_simp) <;> (with_reducible rfl))
  try simp only [Act.put, List.setIfInBounds_toArray, List.set_cons_zero, List.set_cons_succ]
  refine wpAnyH_take (i := 4) (oi := { dst := some 69, op := Op.binOp BinOp.eql 3 (Operand.tmp 68) (Operand.const (Value.int IntKind.i64 0)) 3, type := 4, pos := "made.go:191", after := #[{ on := 3, ground := Ground.data }], guard := none }) (v := ?v31) rfl (by kernel_rfl) (by kernel_rfl) (by kernel_rfl) (fun _ _ _ h => h) (Or.inl ⟨by rfl, ?hy31⟩) (by assumption) ?rest31
  case hy31 => ((intro w hSw; (try dsimp only at hSw); go_simp) <;> (with_reducible rfl))
  try simp only [Act.put, List.setIfInBounds_toArray, List.set_cons_zero, List.set_cons_succ]
  refine wpAnyH_take (i := 14) (oi := { dst := some 79, op := Op.move (Operand.tmp 0), type := 38, pos := "made.go:191", after := #[], guard := none }) (v := ?v32) rfl (by kernel_rfl) (by kernel_rfl) (by kernel_rfl) (fun _ _ _ h => h) (Or.inl ⟨by rfl, ?hy32⟩) (by assumption) ?rest32
  case hy32 => ((intro w hSw; (try dsimp only at hSw); go_simp) <;> (with_reducible rfl))
  try simp only [Act.put, List.setIfInBounds_toArray, List.set_cons_zero, List.set_cons_succ]
  refine wpAnyH_take (i := 15) (oi := { dst := some 80, op := Op.fieldAddr 29 (Operand.tmp 5) 0, type := 0, pos := "made.go:191", after := #[], guard := none }) (v := ?v33) rfl (by kernel_rfl) (by kernel_rfl) (by kernel_rfl) (fun _ _ _ h => h) (Or.inl ⟨by rfl, ?hy33⟩) (by assumption) ?rest33
  case hy33 => ((intro w hSw; (try dsimp only at hSw); go_simp) <;> (with_reducible rfl))
  try simp only [Act.put, List.setIfInBounds_toArray, List.set_cons_zero, List.set_cons_succ]
  refine wpAnyH_take (i := 16) (oi := { dst := some 81, op := Op.load 22 (Operand.tmp 80), type := 22, pos := "made.go:191", after := #[{ on := 15, ground := Ground.data }], guard := none }) (v := ?v34) rfl (by kernel_rfl) (by kernel_rfl) (by kernel_rfl) (fun _ _ _ h => h) (Or.inl ⟨by rfl, ?hy34⟩) (by assumption) ?rest34
  case hy34 => ((intro w hSw; (try dsimp only at hSw); go_simp) <;> (with_reducible rfl))
  try simp only [Act.put, List.setIfInBounds_toArray, List.set_cons_zero, List.set_cons_succ]
  refine wpAnyH_take (i := 17) (oi := { dst := some 82, op := Op.call { callee := Callee.builtin Builtin.len, args := #[Operand.tmp 81], argTypes := #[22] }, type := 3, pos := "made.go:191", after := #[{ on := 16, ground := Ground.data }], guard := none }) (v := ?v35) rfl (by kernel_rfl) (by kernel_rfl) (by kernel_rfl) (fun _ _ _ h => h) (Or.inl ⟨by rfl, ?hy35⟩) (by assumption) ?rest35
  case hy35 => ((intro w hSw; (try dsimp only at hSw); go_simp) <;> (with_reducible rfl))
  try simp only [Act.put, List.setIfInBounds_toArray, List.set_cons_zero, List.set_cons_succ]
  refine wpAnyH_take (i := 19) (oi := { dst := some 84, op := Op.move (Operand.tmp 0), type := 38, pos := "made.go:191", after := #[], guard := none }) (v := ?v36) rfl (by kernel_rfl) (by kernel_rfl) (by kernel_rfl) (fun _ _ _ h => h) (Or.inl ⟨by rfl, ?hy36⟩) (by assumption) ?rest36
  case hy36 => ((intro w hSw; (try dsimp only at hSw); go_simp) <;> (with_reducible rfl))
  try simp only [Act.put, List.setIfInBounds_toArray, List.set_cons_zero, List.set_cons_succ]
  refine wpAnyH_take (i := 20) (oi := { dst := some 85, op := Op.fieldAddr 29 (Operand.tmp 5) 0, type := 0, pos := "made.go:191", after := #[], guard := none }) (v := ?v37) rfl (by kernel_rfl) (by kernel_rfl) (by kernel_rfl) (fun _ _ _ h => h) (Or.inl ⟨by rfl, ?hy37⟩) (by assumption) ?rest37
  case hy37 => ((intro w hSw; (try dsimp only at hSw); go_simp) <;> (with_reducible rfl))
  try simp only [Act.put, List.setIfInBounds_toArray, List.set_cons_zero, List.set_cons_succ]
  refine wpAnyH_take (i := 21) (oi := { dst := some 86, op := Op.load 22 (Operand.tmp 85), type := 22, pos := "made.go:191", after := #[{ on := 20, ground := Ground.data }], guard := none }) (v := ?v38) rfl (by kernel_rfl) (by kernel_rfl) (by kernel_rfl) (fun _ _ _ h => h) (Or.inl ⟨by rfl, ?hy38⟩) (by assumption) ?rest38
  case hy38 => ((intro w hSw; (try dsimp only at hSw); go_simp) <;> (with_reducible rfl))
  try simp only [Act.put, List.setIfInBounds_toArray, List.set_cons_zero, List.set_cons_succ]
  refine wpAnyH_take (i := 22) (oi := { dst := some 87, op := Op.call { callee := Callee.builtin Builtin.len, args := #[Operand.tmp 86], argTypes := #[22] }, type := 3, pos := "made.go:191", after := #[{ on := 21, ground := Ground.data }], guard := none }) (v := ?v39) rfl (by kernel_rfl) (by kernel_rfl) (by kernel_rfl) (fun _ _ _ h => h) (Or.inl ⟨by rfl, ?hy39⟩) (by assumption) ?rest39
  case hy39 => ((intro w hSw; (try dsimp only at hSw); go_simp) <;> (with_reducible rfl))
  try simp only [Act.put, List.setIfInBounds_toArray, List.set_cons_zero, List.set_cons_succ]
  refine wpAnyH_take (i := 24) (oi := { dst := some 89, op := Op.move (Operand.tmp 0), type := 38, pos := "made.go:191", after := #[], guard := none }) (v := ?v40) rfl (by kernel_rfl) (by kernel_rfl) (by kernel_rfl) (fun _ _ _ h => h) (Or.inl ⟨by rfl, ?hy40⟩) (by assumption) ?rest40
  case hy40 => ((intro w hSw; (try dsimp only at hSw); go_simp) <;> (with_reducible rfl))
  try simp only [Act.put, List.setIfInBounds_toArray, List.set_cons_zero, List.set_cons_succ]
  refine wpAnyH_take (i := 27) (oi := { dst := some 92, op := Op.move (Operand.tmp 8), type := 3, pos := "made.go:191", after := #[], guard := none }) (v := ?v41) rfl (by kernel_rfl) (by kernel_rfl) (by kernel_rfl) (fun _ _ _ h => h) (Or.inl ⟨by rfl, ?hy41⟩) (by assumption) ?rest41
  case hy41 => ((intro w hSw; (try dsimp only at hSw); go_simp) <;> (with_reducible rfl))
  try simp only [Act.put, List.setIfInBounds_toArray, List.set_cons_zero, List.set_cons_succ]
  refine wpAnyH_ready (rs := [1, 29]) (by kernel_rfl) (by simp) ?_
  refine (AllReadyH.cons (o := { dst := some 66, op := Op.call { callee := Callee.value (Operand.func 43), args := #[Operand.tmp 65], argTypes := #[3] }, type := 9, pos := "made.go:191", after := #[{ on := 0, ground := Ground.data }], guard := none }) rfl (fun K hK => ?_) (AllReadyH.cons (o := { dst := some 11, op := Op.alloc 66, type := 0, pos := "made.go:191", after := #[], guard := none }) rfl (fun K hK => ?_) AllReadyH.nil))
  · go_simp
    (go_at_call 43; refine (HD.out _).mono ?_; rintro e w4 ⟨rfl, hb4⟩; (first | (have hb5 : Below wr.drew.heap.size wr.drew w4 := (by with_reducible exact hb4); clear hb5; have HN4 := Lib.hid (H.out.drew.keep hb4); have sz4 : s0 ≤ w4.heap.size := Nat.le_trans HSZ.out hb4.size) | (have hyd : SpurBlk (wr.alloc zeroSpur).drew s0 wr.heap.size #[.string ByteArray.empty, .bool false, .int .i64 0, .int .i64 0, .int .i64 0, .int .i64 0] := SpurBlk.new HSZ.out; have HN4 := Lib.hid ((H.out.alloc zeroSpur).drew.keep hb4); have HY4 := Lib.hid (hyd.keep hb4); clear hyd; have sz4 : s0 ≤ w4.heap.size := Nat.le_trans HSZ.out (Nat.le_trans (by simp) hb4.size))); have e04 : w4.cell? ⟨G0 + 1, 0, none⟩ = some (.slice Ab b cb) := (by rw [← hlb]; exact HN4.out.c.1); clear hb4)
    go_wp2_with fail
    refine hK.out _ _ ?_ (fun hHeld => ?_)
    · (try dsimp only)
      (with_reducible exact e04)
    clear hK K
    try simp only [Act.put, List.setIfInBounds_toArray, List.set_cons_zero, List.set_cons_succ]
    refine wpAnyH_take (i := 2) (oi := { dst := some 67, op := Op.binOp BinOp.add 9 (Operand.const (Value.string { data := #[115] })) (Operand.tmp 66) 9, type := 9, pos := "made.go:191", after := #[{ on := 1, ground := Ground.data }], guard := none }) (v := ?v42) rfl (by kernel_rfl) (by kernel_rfl) (by kernel_rfl) (fun _ _ _ h => h) (Or.inl ⟨by rfl, ?hy42⟩) (by assumption) ?rest42
    case hy42 => ((intro w hSw; (try dsimp only at hSw); go_simp) <;> (with_reducible rfl))
    try simp only [Act.put, List.setIfInBounds_toArray, List.set_cons_zero, List.set_cons_succ]
    refine wpAnyH_take (i := 5) (oi := { dst := some 70, op := Op.move (Operand.tmp 69), type := 4, pos := "made.go:191", after := #[{ on := 4, ground := Ground.data }, { on := 1, ground := Ground.chain }], guard := none }) (v := ?v43) rfl (by kernel_rfl) (by kernel_rfl) (by kernel_rfl) (fun _ _ _ h => h) (Or.inl ⟨by rfl, ?hy43⟩) (by assumption) ?rest43
    case hy43 => ((intro w hSw; (try dsimp only at hSw); go_simp) <;> (with_reducible rfl))
    try simp only [Act.put, List.setIfInBounds_toArray, List.set_cons_zero, List.set_cons_succ]
    refine wpAnyH_take (i := 6) (oi := { dst := some 71, op := Op.move (Operand.tmp 10), type := 3, pos := "made.go:191", after := #[{ on := 5, ground := Ground.guard }], guard := some (5, false) }) (v := ?v44) rfl (by kernel_rfl) (by kernel_rfl) (by kernel_rfl) (fun _ _ _ h => h) (Or.inl ⟨by rfl, ?hy44⟩) (by assumption) ?rest44
    case hy44 => ((intro w hSw; (try dsimp only at hSw); go_simp) <;> (with_reducible rfl))
    try simp only [Act.put, List.setIfInBounds_toArray, List.set_cons_zero, List.set_cons_succ]
    refine wpAnyH_take (i := 7) (oi := { dst := some 72, op := Op.binOp BinOp.gtr 3 (Operand.tmp 71) (Operand.const (Value.int IntKind.i64 2)) 3, type := 4, pos := "made.go:191", after := #[{ on := 6, ground := Ground.data }, { on := 5, ground := Ground.guard }], guard := some (5, false) }) (v := ?v45) rfl (by kernel_rfl) (by kernel_rfl) (by kernel_rfl) (fun _ _ _ h => h) (Or.inl ⟨by rfl, ?hy45⟩) (by assumption) ?rest45
    case hy45 => ((intro w hSw; (try dsimp only at hSw); go_simp) <;> (with_reducible rfl))
    try simp only [Act.put, List.setIfInBounds_toArray, List.set_cons_zero, List.set_cons_succ]
    refine wpAnyH_take (i := 8) (oi := { dst := some 73, op := Op.move (Operand.tmp 72), type := 4, pos := "made.go:191", after := #[{ on := 7, ground := Ground.data }, { on := 5, ground := Ground.chain }, { on := 5, ground := Ground.guard }], guard := some (5, false) }) (v := ?v46) rfl (by kernel_rfl) (by kernel_rfl) (by kernel_rfl) (fun _ _ _ h => h) (Or.inl ⟨by rfl, ?hy46⟩) (by assumption) ?rest46
    case hy46 => ((intro w hSw; (try dsimp only at hSw); go_simp) <;> (with_reducible rfl))
    try simp only [Act.put, List.setIfInBounds_toArray, List.set_cons_zero, List.set_cons_succ]
    refine wpAnyH_take (i := 9) (oi := { dst := some 74, op := Op.move (Operand.tmp 0), type := 38, pos := "made.go:191", after := #[{ on := 8, ground := Ground.guard }], guard := some (8, true) }) (v := undef) rfl (by kernel_rfl) (by kernel_rfl) (by kernel_rfl) (fun _ _ _ h => h) (Or.inr ⟨by rfl, rfl⟩) (by assumption) ?_
    try simp only [Act.put, List.setIfInBounds_toArray, List.set_cons_zero, List.set_cons_succ]
    refine wpAnyH_take (i := 10) (oi := { dst := some 75, op := Op.call { callee := Callee.value (Operand.func 11), args := #[Operand.tmp 74, Operand.const (Value.int IntKind.i64 2)], argTypes := #[38, 3] }, type := 3, pos := "made.go:191", after := #[{ on := 9, ground := Ground.data }, { on := 8, ground := Ground.chain }, { on := 8, ground := Ground.guard }], guard := some (8, true) }) (v := undef) rfl (by kernel_rfl) (by kernel_rfl) (by kernel_rfl) (fun _ _ _ h => h) (Or.inr ⟨by rfl, rfl⟩) (by assumption) ?_
    try simp only [Act.put, List.setIfInBounds_toArray, List.set_cons_zero, List.set_cons_succ]
    refine wpAnyH_take (i := 11) (oi := { dst := some 76, op := Op.binOp BinOp.eql 3 (Operand.tmp 75) (Operand.const (Value.int IntKind.i64 0)) 3, type := 4, pos := "made.go:191", after := #[{ on := 10, ground := Ground.data }, { on := 8, ground := Ground.guard }], guard := some (8, true) }) (v := undef) rfl (by kernel_rfl) (by kernel_rfl) (by kernel_rfl) (fun _ _ _ h => h) (Or.inr ⟨by rfl, rfl⟩) (by assumption) ?_
    try simp only [Act.put, List.setIfInBounds_toArray, List.set_cons_zero, List.set_cons_succ]
    refine wpAnyH_take (i := 12) (oi := { dst := some 77, op := Op.pick (Operand.tmp 73) (Operand.tmp 76) (Operand.const (Value.bool false)), type := 4, pos := "made.go:191", after := #[{ on := 8, ground := Ground.data }, { on := 11, ground := Ground.data }, { on := 5, ground := Ground.guard }], guard := some (5, false) }) (v := ?v47) rfl (by kernel_rfl) (by kernel_rfl) (by kernel_rfl) (fun _ _ _ h => h) (Or.inl ⟨by rfl, ?hy47⟩) (by assumption) ?rest47
    case hy47 => ((intro w hSw; (try dsimp only at hSw); go_simp) <;> (with_reducible rfl))
    try simp only [Act.put, List.setIfInBounds_toArray, List.set_cons_zero, List.set_cons_succ]
    refine wpAnyH_take (i := 13) (oi := { dst := some 78, op := Op.pick (Operand.tmp 70) (Operand.const (Value.bool true)) (Operand.tmp 77), type := 4, pos := "made.go:191", after := #[{ on := 5, ground := Ground.data }, { on := 12, ground := Ground.data }], guard := none }) (v := ?v48) rfl (by kernel_rfl) (by kernel_rfl) (by kernel_rfl) (fun _ _ _ h => h) (Or.inl ⟨by rfl, ?hy48⟩) (by assumption) ?rest48
    case hy48 => ((intro w hSw; (try dsimp only at hSw); go_simp) <;> (with_reducible rfl))
    try simp only [Act.put, List.setIfInBounds_toArray, List.set_cons_zero, List.set_cons_succ]
    refine wpAnyH_ready (rs := [18, 29]) (by kernel_rfl) (by simp) ?_
    refine (AllReadyH.cons (o := { dst := some 83, op := Op.call { callee := Callee.value (Operand.func 11), args := #[Operand.tmp 79, Operand.tmp 82], argTypes := #[38, 3] }, type := 3, pos := "made.go:191", after := #[{ on := 14, ground := Ground.data }, { on := 17, ground := Ground.data }, { on := 10, ground := Ground.chain }], guard := none }) rfl (fun K hK => ?_) (AllReadyH.cons (o := { dst := some 11, op := Op.alloc 66, type := 0, pos := "made.go:191", after := #[], guard := none }) rfl (fun K hK => ?_) AllReadyH.nil))
    · go_simp
      (have h := HN4; clear h; go_at_call 11; (with_reducible change Calls _ _ _ w4 _); refine (next_c B gt _ b _ (HN4.out).tape (by omega) (by omega) (by omega)).mono ?_; rintro e w5 ⟨r5, hr5, rfl, ht5, hg5⟩; have HN5 := Lib.hid (HN4.out.next_ ht5 hg5); have sz5 : s0 ≤ w5.heap.size := Nat.le_trans sz4 hg5.size; have e05 : w5.cell? ⟨G0 + 1, 0, none⟩ = some (.slice Ab b cb) := (by rw [← hlb]; exact HN5.out.c.1); clear ht5 hg5 HN4)
      go_wp2_with fail
      refine hK.out _ _ ?_ (fun hHeld => ?_)
      · (try dsimp only)
        (with_reducible exact e05)
      clear hK K
      try simp only [Act.put, List.setIfInBounds_toArray, List.set_cons_zero, List.set_cons_succ]
      refine wpAnyH_ready (rs := [23, 29]) (by kernel_rfl) (by simp) ?_
      refine (AllReadyH.cons (o := { dst := some 88, op := Op.call { callee := Callee.value (Operand.func 11), args := #[Operand.tmp 84, Operand.tmp 87], argTypes := #[38, 3] }, type := 3, pos := "made.go:191", after := #[{ on := 19, ground := Ground.data }, { on := 22, ground := Ground.data }, { on := 18, ground := Ground.chain }], guard := none }) rfl (fun K hK => ?_) (AllReadyH.cons (o := { dst := some 11, op := Op.alloc 66, type := 0, pos := "made.go:191", after := #[], guard := none }) rfl (fun K hK => ?_) AllReadyH.nil))
      · go_simp
        (have h := HN5; clear h; go_at_call 11; (with_reducible change Calls _ _ _ w5 _); refine (next_c B gt _ b _ (HN5.out).tape (by omega) (by omega) (by omega)).mono ?_; rintro e w6 ⟨r6, hr6, rfl, ht6, hg6⟩; have HN6 := Lib.hid (HN5.out.next_ ht6 hg6); have sz6 : s0 ≤ w6.heap.size := Nat.le_trans sz5 hg6.size; have e06 : w6.cell? ⟨G0 + 1, 0, none⟩ = some (.slice Ab b cb) := (by rw [← hlb]; exact HN6.out.c.1); clear ht6 hg6 HN5)
        go_wp2_with fail
        refine hK.out _ _ ?_ (fun hHeld => ?_)
        · (try dsimp only)
          (with_reducible exact e06)
        clear hK K
        try simp only [Act.put, List.setIfInBounds_toArray, List.set_cons_zero, List.set_cons_succ]
        refine wpAnyH_ready (rs := [25, 29]) (by kernel_rfl) (by simp) ?_
        refine (AllReadyH.cons (o := { dst := some 90, op := Op.call { callee := Callee.value (Operand.func 11), args := #[Operand.tmp 89, Operand.const (Value.int IntKind.i64 3)], argTypes := #[38, 3] }, type := 3, pos := "made.go:191", after := #[{ on := 24, ground := Ground.data }, { on := 23, ground := Ground.chain }], guard := none }) rfl (fun K hK => ?_) (AllReadyH.cons (o := { dst := some 11, op := Op.alloc 66, type := 0, pos := "made.go:191", after := #[], guard := none }) rfl (fun K hK => ?_) AllReadyH.nil))
        · go_simp
          (have h := HN6; clear h; go_at_call 11; (with_reducible change Calls _ _ _ w6 _); refine (next_c B gt _ 3 _ (HN6.out).tape (by omega) (by omega) (by omega)).mono ?_; rintro e w7 ⟨r7, hr7, rfl, ht7, hg7⟩; have HN7 := Lib.hid (HN6.out.next_ ht7 hg7); have sz7 : s0 ≤ w7.heap.size := Nat.le_trans sz6 hg7.size; have e07 : w7.cell? ⟨G0 + 1, 0, none⟩ = some (.slice Ab b cb) := (by rw [← hlb]; exact HN7.out.c.1); have hw7 : IntKind.i64.wrap (1 + (r7 : Int)) = 1 + (r7 : Int) := IntWalk.i64_in _ (by omega); clear ht7 hg7 HN6)
          go_wp2_with fail
          refine hK.out _ _ ?_ (fun hHeld => ?_)
          · (try dsimp only)
            (with_reducible exact e07)
          clear hK K
          try simp only [Act.put, List.setIfInBounds_toArray, List.set_cons_zero, List.set_cons_succ]
          refine wpAnyH_take (i := 26) (oi := { dst := some 91, op := Op.binOp BinOp.add 3 (Operand.const (Value.int IntKind.i64 1)) (Operand.tmp 90) 3, type := 3, pos := "made.go:191", after := #[{ on := 25, ground := Ground.data }], guard := none }) (v := ?v49) rfl (by kernel_rfl) (by kernel_rfl) (by kernel_rfl) (fun _ _ _ h => h) (Or.inl ⟨by rfl, ?hy49⟩) (by assumption) ?rest49
          case hy49 => ((intro w hSw; (try dsimp only at hSw); go_simp) <;> (with_reducible rfl))
          try simp only [Act.put, List.setIfInBounds_toArray, List.set_cons_zero, List.set_cons_succ]
          refine wpAnyH_take (i := 28) (oi := { dst := some 93, op := Op.build 66 #[(0, Operand.tmp 67), (1, Operand.tmp 78), (2, Operand.tmp 83), (3, Operand.tmp 88), (4, Operand.tmp 91), (5, Operand.tmp 92)], type := 66, pos := "made.go:191", after := #[{ on := 2, ground := Ground.data }, { on := 13, ground := Ground.data }, { on := 18, ground := Ground.data }, { on := 23, ground := Ground.data }, { on := 26, ground := Ground.data }, { on := 27, ground := Ground.data }], guard := none }) (v := ?v50) rfl (by kernel_rfl) (by kernel_rfl) (by kernel_rfl) (fun _ _ _ h => h) (Or.inl ⟨by rfl, ?hy50⟩) (by assumption) ?rest50
          case hy50 => ((intro w hSw; (try dsimp only at hSw); go_simp) <;> (with_reducible rfl))
          try simp only [Act.put, List.setIfInBounds_toArray, List.set_cons_zero, List.set_cons_succ]
          refine wpAnyH_ready (rs := [29]) (by kernel_rfl) (by simp) ?_
          refine (AllReadyH.cons (o := { dst := some 11, op := Op.alloc 66, type := 0, pos := "made.go:191", after := #[], guard := none }) rfl (fun K hK => ?_) AllReadyH.nil)
          go_simp
          refine hK.out _ _ ?_ (fun hHeld => ?_)
          · (try dsimp only)
            (with_reducible exact alloc_cells e07 _)
          clear hK K
          try simp only [Act.put, List.setIfInBounds_toArray, List.set_cons_zero, List.set_cons_succ]
          refine wpAnyH_ready (rs := [30]) (by kernel_rfl) (by simp) ?_
          refine (AllReadyH.cons (o := { dst := none, op := Op.store 66 (Operand.tmp 11) (Operand.tmp 93), type := 0, pos := "made.go:191", after := #[{ on := 29, ground := Ground.data }, { on := 28, ground := Ground.data }, { on := 25, ground := Ground.chain }, { on := 0, ground := Ground.phase }, { on := 1, ground := Ground.phase }, { on := 2, ground := Ground.phase }, { on := 3, ground := Ground.phase }, { on := 4, ground := Ground.phase }, { on := 5, ground := Ground.phase }, { on := 6, ground := Ground.phase }, { on := 7, ground := Ground.phase }, { on := 8, ground := Ground.phase }, { on := 9, ground := Ground.phase }, { on := 10, ground := Ground.phase }, { on := 11, ground := Ground.phase }, { on := 12, ground := Ground.phase }, { on := 13, ground := Ground.phase }, { on := 14, ground := Ground.phase }, { on := 15, ground := Ground.phase }, { on := 16, ground := Ground.phase }, { on := 17, ground := Ground.phase }, { on := 18, ground := Ground.phase }, { on := 19, ground := Ground.phase }, { on := 20, ground := Ground.phase }, { on := 21, ground := Ground.phase }, { on := 22, ground := Ground.phase }, { on := 23, ground := Ground.phase }, { on := 24, ground := Ground.phase }, { on := 25, ground := Ground.phase }, { on := 26, ground := Ground.phase }, { on := 27, ground := Ground.phase }, { on := 28, ground := Ground.phase }, { on := 29, ground := Ground.phase }], guard := none }) rfl (fun K hK => ?_) AllReadyH.nil)
          go_simp
          refine hK.out _ _ ?_ (fun hHeld => ?_)
          · (try dsimp only)
            (with_reducible exact alloc_cells e07 _)
          clear hK K
          try simp only [Act.put, List.setIfInBounds_toArray, List.set_cons_zero, List.set_cons_succ]
          refine wpAnyH_done (by kernel_rfl) ?_ _
          refine NoPanic.normal ?_
          first | with_reducible exact HE.out _ _ r5 r6 r7 _ _ _ _ _ _ _ _ _ _ _ _ _ _ _ _ _ _ _ _ _ _ _ _ _ _ _ _ _ (by omega) (by omega) (by omega) HY7.out HN7.out | with_reducible exact HA.out _ r5 r6 r7 _ _ _ _ _ _ _ _ _ _ _ _ _ _ _ _ _ _ _ _ _ _ _ _ _ _ _ _ _ (by omega) (by omega) (by omega) HN7.out
        · go_simp
          refine hK.out _ _ ?_ (fun hHeld => ?_)
          · (try dsimp only)
            (with_reducible exact alloc_cells e06 _)
          clear hK K
          try simp only [Act.put, List.setIfInBounds_toArray, List.set_cons_zero, List.set_cons_succ]
          refine wpAnyH_ready (rs := [25]) (by kernel_rfl) (by simp) ?_
          refine (AllReadyH.cons (o := { dst := some 90, op := Op.call { callee := Callee.value (Operand.func 11), args := #[Operand.tmp 89, Operand.const (Value.int IntKind.i64 3)], argTypes := #[38, 3] }, type := 3, pos := "made.go:191", after := #[{ on := 24, ground := Ground.data }, { on := 23, ground := Ground.chain }], guard := none }) rfl (fun K hK => ?_) AllReadyH.nil)
          go_simp
          (have h := HN6; clear h; go_at_call 11; (with_reducible change Calls _ _ _ (World.alloc w6 _) _); refine (next_c B gt _ 3 _ (HN6.out.alloc zeroSpur).tape (by omega) (by omega) (by omega)).mono ?_; rintro e w7 ⟨r7, hr7, rfl, ht7, hg7⟩; have HN7 := Lib.hid ((HN6.out.alloc zeroSpur).next_ ht7 hg7); have HY7 := Lib.hid ((SpurBlk.new sz6).grown hg7 hgs0); have sz7 : s0 ≤ w7.heap.size := Nat.le_trans sz6 (Nat.le_trans (by simp) hg7.size); have e07 : w7.cell? ⟨G0 + 1, 0, none⟩ = some (.slice Ab b cb) := (by rw [← hlb]; exact HN7.out.c.1); have hw7 : IntKind.i64.wrap (1 + (r7 : Int)) = 1 + (r7 : Int) := IntWalk.i64_in _ (by omega); obtain ⟨q0, q1, q2, q3, q4, q5⟩ := HY7.out.cells; have z0 := HY7.out.froz 0; have z1 := HY7.out.froz 1; have z2 := HY7.out.froz 2; have z3 := HY7.out.froz 3; have z4 := HY7.out.froz 4; have z5 := HY7.out.froz 5; clear ht7 hg7 HN6)
          go_wp2_with fail
          refine hK.out _ _ ?_ (fun hHeld => ?_)
          · (try dsimp only)
            (with_reducible exact e07)
          clear hK K
          try simp only [Act.put, List.setIfInBounds_toArray, List.set_cons_zero, List.set_cons_succ]
          refine wpAnyH_take (i := 26) (oi := { dst := some 91, op := Op.binOp BinOp.add 3 (Operand.const (Value.int IntKind.i64 1)) (Operand.tmp 90) 3, type := 3, pos := "made.go:191", after := #[{ on := 25, ground := Ground.data }], guard := none }) (v := ?v51) rfl (by kernel_rfl) (by kernel_rfl) (by kernel_rfl) (fun _ _ _ h => h) (Or.inl ⟨by rfl, ?hy51⟩) (by assumption) ?rest51
          case hy51 => ((intro w hSw; (try dsimp only at hSw); go_simp) <;> (with_reducible rfl))
          try simp only [Act.put, List.setIfInBounds_toArray, List.set_cons_zero, List.set_cons_succ]
          refine wpAnyH_take (i := 28) (oi := { dst := some 93, op := Op.build 66 #[(0, Operand.tmp 67), (1, Operand.tmp 78), (2, Operand.tmp 83), (3, Operand.tmp 88), (4, Operand.tmp 91), (5, Operand.tmp 92)], type := 66, pos := "made.go:191", after := #[{ on := 2, ground := Ground.data }, { on := 13, ground := Ground.data }, { on := 18, ground := Ground.data }, { on := 23, ground := Ground.data }, { on := 26, ground := Ground.data }, { on := 27, ground := Ground.data }], guard := none }) (v := ?v52) rfl (by kernel_rfl) (by kernel_rfl) (by kernel_rfl) (fun _ _ _ h => h) (Or.inl ⟨by rfl, ?hy52⟩) (by assumption) ?rest52
          case hy52 => ((intro w hSw; (try dsimp only at hSw); go_simp) <;> (with_reducible rfl))
          try simp only [Act.put, List.setIfInBounds_toArray, List.set_cons_zero, List.set_cons_succ]
          refine wpAnyH_ready (rs := [30]) (by kernel_rfl) (by simp) ?_
          refine (AllReadyH.cons (o := { dst := none, op := Op.store 66 (Operand.tmp 11) (Operand.tmp 93), type := 0, pos := "made.go:191", after := #[{ on := 29, ground := Ground.data }, { on := 28, ground := Ground.data }, { on := 25, ground := Ground.chain }, { on := 0, ground := Ground.phase }, { on := 1, ground := Ground.phase }, { on := 2, ground := Ground.phase }, { on := 3, ground := Ground.phase }, { on := 4, ground := Ground.phase }, { on := 5, ground := Ground.phase }, { on := 6, ground := Ground.phase }, { on := 7, ground := Ground.phase }, { on := 8, ground := Ground.phase }, { on := 9, ground := Ground.phase }, { on := 10, ground := Ground.phase }, { on := 11, ground := Ground.phase }, { on := 12, ground := Ground.phase }, { on := 13, ground := Ground.phase }, { on := 14, ground := Ground.phase }, { on := 15, ground := Ground.phase }, { on := 16, ground := Ground.phase }, { on := 17, ground := Ground.phase }, { on := 18, ground := Ground.phase }, { on := 19, ground := Ground.phase }, { on := 20, ground := Ground.phase }, { on := 21, ground := Ground.phase }, { on := 22, ground := Ground.phase }, { on := 23, ground := Ground.phase }, { on := 24, ground := Ground.phase }, { on := 25, ground := Ground.phase }, { on := 26, ground := Ground.phase }, { on := 27, ground := Ground.phase }, { on := 28, ground := Ground.phase }, { on := 29, ground := Ground.phase }], guard := none }) rfl (fun K hK => ?_) AllReadyH.nil)
          go_simp
          refine hK.out _ _ ?_ (fun hHeld => ?_)
          · (try dsimp only)
            (exact set6_cell e07 (by omega))
          clear hK K
          try simp only [Act.put, List.setIfInBounds_toArray, List.set_cons_zero, List.set_cons_succ]
          refine wpAnyH_done (by kernel_rfl) ?_ _
          refine NoPanic.normal ?_
          first | with_reducible exact HE.out _ _ r5 r6 r7 _ _ _ _ _ _ _ _ _ _ _ _ _ _ _ _ _ _ _ _ _ _ _ _ _ _ _ _ _ (by omega) (by omega) (by omega) HY7.out HN7.out | with_reducible exact HA.out _ r5 r6 r7 _ _ _ _ _ _ _ _ _ _ _ _ _ _ _ _ _ _ _ _ _ _ _ _ _ _ _ _ _ (by omega) (by omega) (by omega) HN7.out
      · go_simp
        refine hK.out _ _ ?_ (fun hHeld => ?_)
        · (try dsimp only)
          (with_reducible exact alloc_cells e05 _)
        clear hK K
        try simp only [Act.put, List.setIfInBounds_toArray, List.set_cons_zero, List.set_cons_succ]
        refine wpAnyH_ready (rs := [23]) (by kernel_rfl) (by simp) ?_
        refine (AllReadyH.cons (o := { dst := some 88, op := Op.call { callee := Callee.value (Operand.func 11), args := #[Operand.tmp 84, Operand.tmp 87], argTypes := #[38, 3] }, type := 3, pos := "made.go:191", after := #[{ on := 19, ground := Ground.data }, { on := 22, ground := Ground.data }, { on := 18, ground := Ground.chain }], guard := none }) rfl (fun K hK => ?_) AllReadyH.nil)
        go_simp
        (have h := HN5; clear h; go_at_call 11; (with_reducible change Calls _ _ _ (World.alloc w5 _) _); refine (next_c B gt _ b _ (HN5.out.alloc zeroSpur).tape (by omega) (by omega) (by omega)).mono ?_; rintro e w6 ⟨r6, hr6, rfl, ht6, hg6⟩; have HN6 := Lib.hid ((HN5.out.alloc zeroSpur).next_ ht6 hg6); have HY6 := Lib.hid ((SpurBlk.new sz5).grown hg6 hgs0); have sz6 : s0 ≤ w6.heap.size := Nat.le_trans sz5 (Nat.le_trans (by simp) hg6.size); have e06 : w6.cell? ⟨G0 + 1, 0, none⟩ = some (.slice Ab b cb) := (by rw [← hlb]; exact HN6.out.c.1); clear ht6 hg6 HN5)
        go_wp2_with fail
        refine hK.out _ _ ?_ (fun hHeld => ?_)
        · (try dsimp only)
          (with_reducible exact e06)
        clear hK K
        try simp only [Act.put, List.setIfInBounds_toArray, List.set_cons_zero, List.set_cons_succ]
        refine wpAnyH_ready (rs := [25]) (by kernel_rfl) (by simp) ?_
        refine (AllReadyH.cons (o := { dst := some 90, op := Op.call { callee := Callee.value (Operand.func 11), args := #[Operand.tmp 89, Operand.const (Value.int IntKind.i64 3)], argTypes := #[38, 3] }, type := 3, pos := "made.go:191", after := #[{ on := 24, ground := Ground.data }, { on := 23, ground := Ground.chain }], guard := none }) rfl (fun K hK => ?_) AllReadyH.nil)
        go_simp
        (have h := HY6; clear h; go_at_call 11; (with_reducible change Calls _ _ _ w6 _); refine (next_c B gt _ 3 _ (HN6.out).tape (by omega) (by omega) (by omega)).mono ?_; rintro e w7 ⟨r7, hr7, rfl, ht7, hg7⟩; have HN7 := Lib.hid (HN6.out.next_ ht7 hg7); have HY7 := Lib.hid (HY6.out.grown hg7 hgs0); have sz7 : s0 ≤ w7.heap.size := Nat.le_trans sz6 hg7.size; have e07 : w7.cell? ⟨G0 + 1, 0, none⟩ = some (.slice Ab b cb) := (by rw [← hlb]; exact HN7.out.c.1); have hw7 : IntKind.i64.wrap (1 + (r7 : Int)) = 1 + (r7 : Int) := IntWalk.i64_in _ (by omega); obtain ⟨q0, q1, q2, q3, q4, q5⟩ := HY7.out.cells; have z0 := HY7.out.froz 0; have z1 := HY7.out.froz 1; have z2 := HY7.out.froz 2; have z3 := HY7.out.froz 3; have z4 := HY7.out.froz 4; have z5 := HY7.out.froz 5; clear ht7 hg7 HN6 HY6)
        go_wp2_with fail
        refine hK.out _ _ ?_ (fun hHeld => ?_)
        · (try dsimp only)
          (with_reducible exact e07)
        clear hK K
        try simp only [Act.put, List.setIfInBounds_toArray, List.set_cons_zero, List.set_cons_succ]
        refine wpAnyH_take (i := 26) (oi := { dst := some 91, op := Op.binOp BinOp.add 3 (Operand.const (Value.int IntKind.i64 1)) (Operand.tmp 90) 3, type := 3, pos := "made.go:191", after := #[{ on := 25, ground := Ground.data }], guard := none }) (v := ?v53) rfl (by kernel_rfl) (by kernel_rfl) (by kernel_rfl) (fun _ _ _ h => h) (Or.inl ⟨by rfl, ?hy53⟩) (by assumption) ?rest53
        case hy53 => ((intro w hSw; (try dsimp only at hSw); go_simp) <;> (with_reducible rfl))
        try simp only [Act.put, List.setIfInBounds_toArray, List.set_cons_zero, List.set_cons_succ]
        refine wpAnyH_take (i := 28) (oi := { dst := some 93, op := Op.build 66 #[(0, Operand.tmp 67), (1, Operand.tmp 78), (2, Operand.tmp 83), (3, Operand.tmp 88), (4, Operand.tmp 91), (5, Operand.tmp 92)], type := 66, pos := "made.go:191", after := #[{ on := 2, ground := Ground.data }, { on := 13, ground := Ground.data }, { on := 18, ground := Ground.data }, { on := 23, ground := Ground.data }, { on := 26, ground := Ground.data }, { on := 27, ground := Ground.data }], guard := none }) (v := ?v54) rfl (by kernel_rfl) (by kernel_rfl) (by kernel_rfl) (fun _ _ _ h => h) (Or.inl ⟨by rfl, ?hy54⟩) (by assumption) ?rest54
        case hy54 => ((intro w hSw; (try dsimp only at hSw); go_simp) <;> (with_reducible rfl))
        try simp only [Act.put, List.setIfInBounds_toArray, List.set_cons_zero, List.set_cons_succ]
        refine wpAnyH_ready (rs := [30]) (by kernel_rfl) (by simp) ?_
        refine (AllReadyH.cons (o := { dst := none, op := Op.store 66 (Operand.tmp 11) (Operand.tmp 93), type := 0, pos := "made.go:191", after := #[{ on := 29, ground := Ground.data }, { on := 28, ground := Ground.data }, { on := 25, ground := Ground.chain }, { on := 0, ground := Ground.phase }, { on := 1, ground := Ground.phase }, { on := 2, ground := Ground.phase }, { on := 3, ground := Ground.phase }, { on := 4, ground := Ground.phase }, { on := 5, ground := Ground.phase }, { on := 6, ground := Ground.phase }, { on := 7, ground := Ground.phase }, { on := 8, ground := Ground.phase }, { on := 9, ground := Ground.phase }, { on := 10, ground := Ground.phase }, { on := 11, ground := Ground.phase }, { on := 12, ground := Ground.phase }, { on := 13, ground := Ground.phase }, { on := 14, ground := Ground.phase }, { on := 15, ground := Ground.phase }, { on := 16, ground := Ground.phase }, { on := 17, ground := Ground.phase }, { on := 18, ground := Ground.phase }, { on := 19, ground := Ground.phase }, { on := 20, ground := Ground.phase }, { on := 21, ground := Ground.phase }, { on := 22, ground := Ground.phase }, { on := 23, ground := Ground.phase }, { on := 24, ground := Ground.phase }, { on := 25, ground := Ground.phase }, { on := 26, ground := Ground.phase }, { on := 27, ground := Ground.phase }, { on := 28, ground := Ground.phase }, { on := 29, ground := Ground.phase }], guard := none }) rfl (fun K hK => ?_) AllReadyH.nil)
        go_simp
        refine hK.out _ _ ?_ (fun hHeld => ?_)
        · (try dsimp only)
          (exact set6_cell e07 (by omega))
        clear hK K
        try simp only [Act.put, List.setIfInBounds_toArray, List.set_cons_zero, List.set_cons_succ]
        refine wpAnyH_done (by kernel_rfl) ?_ _
        refine NoPanic.normal ?_
        first | with_reducible exact HE.out _ _ r5 r6 r7 _ _ _ _ _ _ _ _ _ _ _ _ _ _ _ _ _ _ _ _ _ _ _ _ _ _ _ _ _ (by omega) (by omega) (by omega) HY7.out HN7.out | with_reducible exact HA.out _ r5 r6 r7 _ _ _ _ _ _ _ _ _ _ _ _ _ _ _ _ _ _ _ _ _ _ _ _ _ _ _ _ _ (by omega) (by omega) (by omega) HN7.out
    · go_simp
      refine hK.out _ _ ?_ (fun hHeld => ?_)
      · (try dsimp only)
        (with_reducible exact alloc_cells e04 _)
      clear hK K
      try simp only [Act.put, List.setIfInBounds_toArray, List.set_cons_zero, List.set_cons_succ]
      refine wpAnyH_ready (rs := [18]) (by kernel_rfl) (by simp) ?_
      refine (AllReadyH.cons (o := { dst := some 83, op := Op.call { callee := Callee.value (Operand.func 11), args := #[Operand.tmp 79, Operand.tmp 82], argTypes := #[38, 3] }, type := 3, pos := "made.go:191", after := #[{ on := 14, ground := Ground.data }, { on := 17, ground := Ground.data }, { on := 10, ground := Ground.chain }], guard := none }) rfl (fun K hK => ?_) AllReadyH.nil)
      go_simp
      (have h := HN4; clear h; go_at_call 11; (with_reducible change Calls _ _ _ (World.alloc w4 _) _); refine (next_c B gt _ b _ (HN4.out.alloc zeroSpur).tape (by omega) (by omega) (by omega)).mono ?_; rintro e w5 ⟨r5, hr5, rfl, ht5, hg5⟩; have HN5 := Lib.hid ((HN4.out.alloc zeroSpur).next_ ht5 hg5); have HY5 := Lib.hid ((SpurBlk.new sz4).grown hg5 hgs0); have sz5 : s0 ≤ w5.heap.size := Nat.le_trans sz4 (Nat.le_trans (by simp) hg5.size); have e05 : w5.cell? ⟨G0 + 1, 0, none⟩ = some (.slice Ab b cb) := (by rw [← hlb]; exact HN5.out.c.1); clear ht5 hg5 HN4)
      go_wp2_with fail
      refine hK.out _ _ ?_ (fun hHeld => ?_)
      · (try dsimp only)
        (with_reducible exact e05)
      clear hK K
      try simp only [Act.put, List.setIfInBounds_toArray, List.set_cons_zero, List.set_cons_succ]
      refine wpAnyH_ready (rs := [23]) (by kernel_rfl) (by simp) ?_
      refine (AllReadyH.cons (o := { dst := some 88, op := Op.call { callee := Callee.value (Operand.func 11), args := #[Operand.tmp 84, Operand.tmp 87], argTypes := #[38, 3] }, type := 3, pos := "made.go:191", after := #[{ on := 19, ground := Ground.data }, { on := 22, ground := Ground.data }, { on := 18, ground := Ground.chain }], guard := none }) rfl (fun K hK => ?_) AllReadyH.nil)
      go_simp
      (have h := HY5; clear h; go_at_call 11; (with_reducible change Calls _ _ _ w5 _); refine (next_c B gt _ b _ (HN5.out).tape (by omega) (by omega) (by omega)).mono ?_; rintro e w6 ⟨r6, hr6, rfl, ht6, hg6⟩; have HN6 := Lib.hid (HN5.out.next_ ht6 hg6); have HY6 := Lib.hid (HY5.out.grown hg6 hgs0); have sz6 : s0 ≤ w6.heap.size := Nat.le_trans sz5 hg6.size; have e06 : w6.cell? ⟨G0 + 1, 0, none⟩ = some (.slice Ab b cb) := (by rw [← hlb]; exact HN6.out.c.1); clear ht6 hg6 HN5 HY5)
      go_wp2_with fail
      refine hK.out _ _ ?_ (fun hHeld => ?_)
      · (try dsimp only)
        (with_reducible exact e06)
      clear hK K
      try simp only [Act.put, List.setIfInBounds_toArray, List.set_cons_zero, List.set_cons_succ]
      refine wpAnyH_ready (rs := [25]) (by kernel_rfl) (by simp) ?_
      refine (AllReadyH.cons (o := { dst := some 90, op := Op.call { callee := Callee.value (Operand.func 11), args := #[Operand.tmp 89, Operand.const (Value.int IntKind.i64 3)], argTypes := #[38, 3] }, type := 3, pos := "made.go:191", after := #[{ on := 24, ground := Ground.data }, { on := 23, ground := Ground.chain }], guard := none }) rfl (fun K hK => ?_) AllReadyH.nil)
      go_simp
      (have h := HY6; clear h; go_at_call 11; (with_reducible change Calls _ _ _ w6 _); refine (next_c B gt _ 3 _ (HN6.out).tape (by omega) (by omega) (by omega)).mono ?_; rintro e w7 ⟨r7, hr7, rfl, ht7, hg7⟩; have HN7 := Lib.hid (HN6.out.next_ ht7 hg7); have HY7 := Lib.hid (HY6.out.grown hg7 hgs0); have sz7 : s0 ≤ w7.heap.size := Nat.le_trans sz6 hg7.size; have e07 : w7.cell? ⟨G0 + 1, 0, none⟩ = some (.slice Ab b cb) := (by rw [← hlb]; exact HN7.out.c.1); have hw7 : IntKind.i64.wrap (1 + (r7 : Int)) = 1 + (r7 : Int) := IntWalk.i64_in _ (by omega); obtain ⟨q0, q1, q2, q3, q4, q5⟩ := HY7.out.cells; have z0 := HY7.out.froz 0; have z1 := HY7.out.froz 1; have z2 := HY7.out.froz 2; have z3 := HY7.out.froz 3; have z4 := HY7.out.froz 4; have z5 := HY7.out.froz 5; clear ht7 hg7 HN6 HY6)
      go_wp2_with fail
      refine hK.out _ _ ?_ (fun hHeld => ?_)
      · (try dsimp only)
        (with_reducible exact e07)
      clear hK K
      try simp only [Act.put, List.setIfInBounds_toArray, List.set_cons_zero, List.set_cons_succ]
      refine wpAnyH_take (i := 26) (oi := { dst := some 91, op := Op.binOp BinOp.add 3 (Operand.const (Value.int IntKind.i64 1)) (Operand.tmp 90) 3, type := 3, pos := "made.go:191", after := #[{ on := 25, ground := Ground.data }], guard := none }) (v := ?v55) rfl (by kernel_rfl) (by kernel_rfl) (by kernel_rfl) (fun _ _ _ h => h) (Or.inl ⟨by rfl, ?hy55⟩) (by assumption) ?rest55
      case hy55 => ((intro w hSw; (try dsimp only at hSw); go_simp) <;> (with_reducible rfl))
      try simp only [Act.put, List.setIfInBounds_toArray, List.set_cons_zero, List.set_cons_succ]
      refine wpAnyH_take (i := 28) (oi := { dst := some 93, op := Op.build 66 #[(0, Operand.tmp 67), (1, Operand.tmp 78), (2, Operand.tmp 83), (3, Operand.tmp 88), (4, Operand.tmp 91), (5, Operand.tmp 92)], type := 66, pos := "made.go:191", after := #[{ on := 2, ground := Ground.data }, { on := 13, ground := Ground.data }, { on := 18, ground := Ground.data }, { on := 23, ground := Ground.data }, { on := 26, ground := Ground.data }, { on := 27, ground := Ground.data }], guard := none }) (v := ?v56) rfl (by kernel_rfl) (by kernel_rfl) (by kernel_rfl) (fun _ _ _ h => h) (Or.inl ⟨by rfl, ?hy56⟩) (by assumption) ?rest56
      case hy56 => ((intro w hSw; (try dsimp only at hSw); go_simp) <;> (with_reducible rfl))
      try simp only [Act.put, List.setIfInBounds_toArray, List.set_cons_zero, List.set_cons_succ]
      refine wpAnyH_ready (rs := [30]) (by kernel_rfl) (by simp) ?_
      refine (AllReadyH.cons (o := { dst := none, op := Op.store 66 (Operand.tmp 11) (Operand.tmp 93), type := 0, pos := "made.go:191", after := #[{ on := 29, ground := Ground.data }, { on := 28, ground := Ground.data }, { on := 25, ground := Ground.chain }, { on := 0, ground := Ground.phase }, { on := 1, ground := Ground.phase }, { on := 2, ground := Ground.phase }, { on := 3, ground := Ground.phase }, { on := 4, ground := Ground.phase }, { on := 5, ground := Ground.phase }, { on := 6, ground := Ground.phase }, { on := 7, ground := Ground.phase }, { on := 8, ground := Ground.phase }, { on := 9, ground := Ground.phase }, { on := 10, ground := Ground.phase }, { on := 11, ground := Ground.phase }, { on := 12, ground := Ground.phase }, { on := 13, ground := Ground.phase }, { on := 14, ground := Ground.phase }, { on := 15, ground := Ground.phase }, { on := 16, ground := Ground.phase }, { on := 17, ground := Ground.phase }, { on := 18, ground := Ground.phase }, { on := 19, ground := Ground.phase }, { on := 20, ground := Ground.phase }, { on := 21, ground := Ground.phase }, { on := 22, ground := Ground.phase }, { on := 23, ground := Ground.phase }, { on := 24, ground := Ground.phase }, { on := 25, ground := Ground.phase }, { on := 26, ground := Ground.phase }, { on := 27, ground := Ground.phase }, { on := 28, ground := Ground.phase }, { on := 29, ground := Ground.phase }], guard := none }) rfl (fun K hK => ?_) AllReadyH.nil)
      go_simp
      refine hK.out _ _ ?_ (fun hHeld => ?_)
      · (try dsimp only)
        (exact set6_cell e07 (by omega))
      clear hK K
      try simp only [Act.put, List.setIfInBounds_toArray, List.set_cons_zero, List.set_cons_succ]
      refine wpAnyH_done (by kernel_rfl) ?_ _
      refine NoPanic.normal ?_
      first | with_reducible exact HE.out _ _ r5 r6 r7 _ _ _ _ _ _ _ _ _ _ _ _ _ _ _ _ _ _ _ _ _ _ _ _ _ _ _ _ _ (by omega) (by omega) (by omega) HY7.out HN7.out | with_reducible exact HA.out _ r5 r6 r7 _ _ _ _ _ _ _ _ _ _ _ _ _ _ _ _ _ _ _ _ _ _ _ _ _ _ _ _ _ (by omega) (by omega) (by omega) HN7.out
  · go_simp
    refine hK.out _ _ ?_ (fun hHeld => ?_)
    · (try dsimp only)
      (with_reducible exact f0da _)
    clear hK K
    try simp only [Act.put, List.setIfInBounds_toArray, List.set_cons_zero, List.set_cons_succ]
    refine wpAnyH_ready (rs := [1]) (by kernel_rfl) (by simp) ?_
    refine (AllReadyH.cons (o := { dst := some 66, op := Op.call { callee := Callee.value (Operand.func 43), args := #[Operand.tmp 65], argTypes := #[3] }, type := 9, pos := "made.go:191", after := #[{ on := 0, ground := Ground.data }], guard := none }) rfl (fun K hK => ?_) AllReadyH.nil)
    go_simp
    (go_at_call 43; refine (HD.out _).mono ?_; rintro e w4 ⟨rfl, hb4⟩; (first | (have hb5 : Below wr.drew.heap.size wr.drew w4 := (by with_reducible exact hb4); clear hb5; have HN4 := Lib.hid (H.out.drew.keep hb4); have sz4 : s0 ≤ w4.heap.size := Nat.le_trans HSZ.out hb4.size) | (have hyd : SpurBlk (wr.alloc zeroSpur).drew s0 wr.heap.size #[.string ByteArray.empty, .bool false, .int .i64 0, .int .i64 0, .int .i64 0, .int .i64 0] := SpurBlk.new HSZ.out; have HN4 := Lib.hid ((H.out.alloc zeroSpur).drew.keep hb4); have HY4 := Lib.hid (hyd.keep hb4); clear hyd; have sz4 : s0 ≤ w4.heap.size := Nat.le_trans HSZ.out (Nat.le_trans (by simp) hb4.size))); have e04 : w4.cell? ⟨G0 + 1, 0, none⟩ = some (.slice Ab b cb) := (by rw [← hlb]; exact HN4.out.c.1); clear hb4)
    go_wp2_with fail
    refine hK.out _ _ ?_ (fun hHeld => ?_)
    · (try dsimp only)
      (with_reducible exact e04)
    clear hK K
    try simp only [Act.put, List.setIfInBounds_toArray, List.set_cons_zero, List.set_cons_succ]
    refine wpAnyH_take (i := 2) (oi := { dst := some 67, op := Op.binOp BinOp.add 9 (Operand.const (Value.string { data := #[115] })) (Operand.tmp 66) 9, type := 9, pos := "made.go:191", after := #[{ on := 1, ground := Ground.data }], guard := none }) (v := ?v57) rfl (by kernel_rfl) (by kernel_rfl) (by kernel_rfl) (fun _ _ _ h => h) (Or.inl ⟨by rfl, ?hy57⟩) (by assumption) ?rest57
    case hy57 => ((intro w hSw; (try dsimp only at hSw); go_simp) <;> (with_reducible rfl))
    try simp only [Act.put, List.setIfInBounds_toArray, List.set_cons_zero, List.set_cons_succ]
    refine wpAnyH_take (i := 5) (oi := { dst := some 70, op := Op.move (Operand.tmp 69), type := 4, pos := "made.go:191", after := #[{ on := 4, ground := Ground.data }, { on := 1, ground := Ground.chain }], guard := none }) (v := ?v58) rfl (by kernel_rfl) (by kernel_rfl) (by kernel_rfl) (fun _ _ _ h => h) (Or.inl ⟨by rfl, ?hy58⟩) (by assumption) ?rest58
    case hy58 => ((intro w hSw; (try dsimp only at hSw); go_simp) <;> (with_reducible rfl))
    try simp only [Act.put, List.setIfInBounds_toArray, List.set_cons_zero, List.set_cons_succ]
    refine wpAnyH_take (i := 6) (oi := { dst := some 71, op := Op.move (Operand.tmp 10), type := 3, pos := "made.go:191", after := #[{ on := 5, ground := Ground.guard }], guard := some (5, false) }) (v := ?v59) rfl (by kernel_rfl) (by kernel_rfl) (by kernel_rfl) (fun _ _ _ h => h) (Or.inl ⟨by rfl, ?hy59⟩) (by assumption) ?rest59
    case hy59 => ((intro w hSw; (try dsimp only at hSw); go_simp) <;> (with_reducible rfl))
    try simp only [Act.put, List.setIfInBounds_toArray, List.set_cons_zero, List.set_cons_succ]
    refine wpAnyH_take (i := 7) (oi := { dst := some 72, op := Op.binOp BinOp.gtr 3 (Operand.tmp 71) (Operand.const (Value.int IntKind.i64 2)) 3, type := 4, pos := "made.go:191", after := #[{ on := 6, ground := Ground.data }, { on := 5, ground := Ground.guard }], guard := some (5, false) }) (v := ?v60) rfl (by kernel_rfl) (by kernel_rfl) (by kernel_rfl) (fun _ _ _ h => h) (Or.inl ⟨by rfl, ?hy60⟩) (by assumption) ?rest60
    case hy60 => ((intro w hSw; (try dsimp only at hSw); go_simp) <;> (with_reducible rfl))
    try simp only [Act.put, List.setIfInBounds_toArray, List.set_cons_zero, List.set_cons_succ]
    refine wpAnyH_take (i := 8) (oi := { dst := some 73, op := Op.move (Operand.tmp 72), type := 4, pos := "made.go:191", after := #[{ on := 7, ground := Ground.data }, { on := 5, ground := Ground.chain }, { on := 5, ground := Ground.guard }], guard := some (5, false) }) (v := ?v61) rfl (by kernel_rfl) (by kernel_rfl) (by kernel_rfl) (fun _ _ _ h => h) (Or.inl ⟨by rfl, ?hy61⟩) (by assumption) ?rest61
    case hy61 => ((intro w hSw; (try dsimp only at hSw); go_simp) <;> (with_reducible rfl))
    try simp only [Act.put, List.setIfInBounds_toArray, List.set_cons_zero, List.set_cons_succ]
    refine wpAnyH_take (i := 9) (oi := { dst := some 74, op := Op.move (Operand.tmp 0), type := 38, pos := "made.go:191", after := #[{ on := 8, ground := Ground.guard }], guard := some (8, true) }) (v := undef) rfl (by kernel_rfl) (by kernel_rfl) (by kernel_rfl) (fun _ _ _ h => h) (Or.inr ⟨by rfl, rfl⟩) (by assumption) ?_
    try simp only [Act.put, List.setIfInBounds_toArray, List.set_cons_zero, List.set_cons_succ]
    refine wpAnyH_take (i := 10) (oi := { dst := some 75, op := Op.call { callee := Callee.value (Operand.func 11), args := #[Operand.tmp 74, Operand.const (Value.int IntKind.i64 2)], argTypes := #[38, 3] }, type := 3, pos := "made.go:191", after := #[{ on := 9, ground := Ground.data }, { on := 8, ground := Ground.chain }, { on := 8, ground := Ground.guard }], guard := some (8, true) }) (v := undef) rfl (by kernel_rfl) (by kernel_rfl) (by kernel_rfl) (fun _ _ _ h => h) (Or.inr ⟨by rfl, rfl⟩) (by assumption) ?_
    try simp only [Act.put, List.setIfInBounds_toArray, List.set_cons_zero, List.set_cons_succ]
    refine wpAnyH_take (i := 11) (oi := { dst := some 76, op := Op.binOp BinOp.eql 3 (Operand.tmp 75) (Operand.const (Value.int IntKind.i64 0)) 3, type := 4, pos := "made.go:191", after := #[{ on := 10, ground := Ground.data }, { on := 8, ground := Ground.guard }], guard := some (8, true) }) (v := undef) rfl (by kernel_rfl) (by kernel_rfl) (by kernel_rfl) (fun _ _ _ h => h) (Or.inr ⟨by rfl, rfl⟩) (by assumption) ?_
    try simp only [Act.put, List.setIfInBounds_toArray, List.set_cons_zero, List.set_cons_succ]
    refine wpAnyH_take (i := 12) (oi := { dst := some 77, op := Op.pick (Operand.tmp 73) (Operand.tmp 76) (Operand.const (Value.bool false)), type := 4, pos := "made.go:191", after := #[{ on := 8, ground := Ground.data }, { on := 11, ground := Ground.data }, { on := 5, ground := Ground.guard }], guard := some (5, false) }) (v := ?v62) rfl (by kernel_rfl) (by kernel_rfl) (by kernel_rfl) (fun _ _ _ h => h) (Or.inl ⟨by rfl, ?hy62⟩) (by assumption) ?rest62
    case hy62 => ((intro w hSw; (try dsimp only at hSw); go_simp) <;> (with_reducible rfl))
    try simp only [Act.put, List.setIfInBounds_toArray, List.set_cons_zero, List.set_cons_succ]
    refine wpAnyH_take (i := 13) (oi := { dst := some 78, op := Op.pick (Operand.tmp 70) (Operand.const (Value.bool true)) (Operand.tmp 77), type := 4, pos := "made.go:191", after := #[{ on := 5, ground := Ground.data }, { on := 12, ground := Ground.data }], guard := none }) (v := ?v63) rfl (by kernel_rfl) (by kernel_rfl) (by kernel_rfl) (fun _ _ _ h => h) (Or.inl ⟨by rfl, ?hy63⟩) (by assumption) ?rest63
    case hy63 => ((intro w hSw; (try dsimp only at hSw); go_simp) <;> (with_reducible rfl))
    try simp only [Act.put, List.setIfInBounds_toArray, List.set_cons_zero, List.set_cons_succ]
    refine wpAnyH_ready (rs := [18]) (by kernel_rfl) (by simp) ?_
    refine (AllReadyH.cons (o := { dst := some 83, op := Op.call { callee := Callee.value (Operand.func 11), args := #[Operand.tmp 79, Operand.tmp 82], argTypes := #[38, 3] }, type := 3, pos := "made.go:191", after := #[{ on := 14, ground := Ground.data }, { on := 17, ground := Ground.data }, { on := 10, ground := Ground.chain }], guard := none }) rfl (fun K hK => ?_) AllReadyH.nil)
    go_simp
    (have h := HY4; clear h; go_at_call 11; (with_reducible change Calls _ _ _ w4 _); refine (next_c B gt _ b _ (HN4.out).tape (by omega) (by omega) (by omega)).mono ?_; rintro e w5 ⟨r5, hr5, rfl, ht5, hg5⟩; have HN5 := Lib.hid (HN4.out.next_ ht5 hg5); have HY5 := Lib.hid (HY4.out.grown hg5 hgs0); have sz5 : s0 ≤ w5.heap.size := Nat.le_trans sz4 hg5.size; have e05 : w5.cell? ⟨G0 + 1, 0, none⟩ = some (.slice Ab b cb) := (by rw [← hlb]; exact HN5.out.c.1); clear ht5 hg5 HN4 HY4)
    go_wp2_with fail
    refine hK.out _ _ ?_ (fun hHeld => ?_)
    · (try dsimp only)
      (with_reducible exact e05)
    clear hK K
    try simp only [Act.put, List.setIfInBounds_toArray, List.set_cons_zero, List.set_cons_succ]
    refine wpAnyH_ready (rs := [23]) (by kernel_rfl) (by simp) ?_
    refine (AllReadyH.cons (o := { dst := some 88, op := Op.call { callee := Callee.value (Operand.func 11), args := #[Operand.tmp 84, Operand.tmp 87], argTypes := #[38, 3] }, type := 3, pos := "made.go:191", after := #[{ on := 19, ground := Ground.data }, { on := 22, ground := Ground.data }, { on := 18, ground := Ground.chain }], guard := none }) rfl (fun K hK => ?_) AllReadyH.nil)
    go_simp
    (have h := HY5; clear h; go_at_call 11; (with_reducible change Calls _ _ _ w5 _); refine (next_c B gt _ b _ (HN5.out).tape (by omega) (by omega) (by omega)).mono ?_; rintro e w6 ⟨r6, hr6, rfl, ht6, hg6⟩; have HN6 := Lib.hid (HN5.out.next_ ht6 hg6); have HY6 := Lib.hid (HY5.out.grown hg6 hgs0); have sz6 : s0 ≤ w6.heap.size := Nat.le_trans sz5 hg6.size; have e06 : w6.cell? ⟨G0 + 1, 0, none⟩ = some (.slice Ab b cb) := (by rw [← hlb]; exact HN6.out.c.1); clear ht6 hg6 HN5 HY5)
    go_wp2_with fail
    refine hK.out _ _ ?_ (fun hHeld => ?_)
    · (try dsimp only)
      (with_reducible exact e06)
    clear hK K
    try simp only [Act.put, List.setIfInBounds_toArray, List.set_cons_zero, List.set_cons_succ]
    refine wpAnyH_ready (rs := [25]) (by kernel_rfl) (by simp) ?_
    refine (AllReadyH.cons (o := { dst := some 90, op := Op.call { callee := Callee.value (Operand.func 11), args := #[Operand.tmp 89, Operand.const (Value.int IntKind.i64 3)], argTypes := #[38, 3] }, type := 3, pos := "made.go:191", after := #[{ on := 24, ground := Ground.data }, { on := 23, ground := Ground.chain }], guard := none }) rfl (fun K hK => ?_) AllReadyH.nil)
    go_simp
    (have h := HY6; clear h; go_at_call 11; (with_reducible change Calls _ _ _ w6 _); refine (next_c B gt _ 3 _ (HN6.out).tape (by omega) (by omega) (by omega)).mono ?_; rintro e w7 ⟨r7, hr7, rfl, ht7, hg7⟩; have HN7 := Lib.hid (HN6.out.next_ ht7 hg7); have HY7 := Lib.hid (HY6.out.grown hg7 hgs0); have sz7 : s0 ≤ w7.heap.size := Nat.le_trans sz6 hg7.size; have e07 : w7.cell? ⟨G0 + 1, 0, none⟩ = some (.slice Ab b cb) := (by rw [← hlb]; exact HN7.out.c.1); have hw7 : IntKind.i64.wrap (1 + (r7 : Int)) = 1 + (r7 : Int) := IntWalk.i64_in _ (by omega); obtain ⟨q0, q1, q2, q3, q4, q5⟩ := HY7.out.cells; have z0 := HY7.out.froz 0; have z1 := HY7.out.froz 1; have z2 := HY7.out.froz 2; have z3 := HY7.out.froz 3; have z4 := HY7.out.froz 4; have z5 := HY7.out.froz 5; clear ht7 hg7 HN6 HY6)
    go_wp2_with fail
    refine hK.out _ _ ?_ (fun hHeld => ?_)
    · (try dsimp only)
      (with_reducible exact e07)
    clear hK K
    try simp only [Act.put, List.setIfInBounds_toArray, List.set_cons_zero, List.set_cons_succ]
    refine wpAnyH_take (i := 26) (oi := { dst := some 91, op := Op.binOp BinOp.add 3 (Operand.const (Value.int IntKind.i64 1)) (Operand.tmp 90) 3, type := 3, pos := "made.go:191", after := #[{ on := 25, ground := Ground.data }], guard := none }) (v := ?v64) rfl (by kernel_rfl) (by kernel_rfl) (by kernel_rfl) (fun _ _ _ h => h) (Or.inl ⟨by rfl, ?hy64⟩) (by assumption) ?rest64
    case hy64 => ((intro w hSw; (try dsimp only at hSw); go_simp) <;> (with_reducible rfl))
    try simp only [Act.put, List.setIfInBounds_toArray, List.set_cons_zero, List.set_cons_succ]
    refine wpAnyH_take (i := 28) (oi := { dst := some 93, op := Op.build 66 #[(0, Operand.tmp 67), (1, Operand.tmp 78), (2, Operand.tmp 83), (3, Operand.tmp 88), (4, Operand.tmp 91), (5, Operand.tmp 92)], type := 66, pos := "made.go:191", after := #[{ on := 2, ground := Ground.data }, { on := 13, ground := Ground.data }, { on := 18, ground := Ground.data }, { on := 23, ground := Ground.data }, { on := 26, ground := Ground.data }, { on := 27, ground := Ground.data }], guard := none }) (v := ?v65) rfl (by kernel_rfl) (by kernel_rfl) (by kernel_rfl) (fun _ _ _ h => h) (Or.inl ⟨by rfl, ?hy65⟩) (by assumption) ?rest65
    case hy65 => ((intro w hSw; (try dsimp only at hSw); go_simp) <;> (with_reducible rfl))
    try simp only [Act.put, List.setIfInBounds_toArray, List.set_cons_zero, List.set_cons_succ]
    refine wpAnyH_ready (rs := [30]) (by kernel_rfl) (by simp) ?_
    refine (AllReadyH.cons (o := { dst := none, op := Op.store 66 (Operand.tmp 11) (Operand.tmp 93), type := 0, pos := "made.go:191", after := #[{ on := 29, ground := Ground.data }, { on := 28, ground := Ground.data }, { on := 25, ground := Ground.chain }, { on := 0, ground := Ground.phase }, { on := 1, ground := Ground.phase }, { on := 2, ground := Ground.phase }, { on := 3, ground := Ground.phase }, { on := 4, ground := Ground.phase }, { on := 5, ground := Ground.phase }, { on := 6, ground := Ground.phase }, { on := 7, ground := Ground.phase }, { on := 8, ground := Ground.phase }, { on := 9, ground := Ground.phase }, { on := 10, ground := Ground.phase }, { on := 11, ground := Ground.phase }, { on := 12, ground := Ground.phase }, { on := 13, ground := Ground.phase }, { on := 14, ground := Ground.phase }, { on := 15, ground := Ground.phase }, { on := 16, ground := Ground.phase }, { on := 17, ground := Ground.phase }, { on := 18, ground := Ground.phase }, { on := 19, ground := Ground.phase }, { on := 20, ground := Ground.phase }, { on := 21, ground := Ground.phase }, { on := 22, ground := Ground.phase }, { on := 23, ground := Ground.phase }, { on := 24, ground := Ground.phase }, { on := 25, ground := Ground.phase }, { on := 26, ground := Ground.phase }, { on := 27, ground := Ground.phase }, { on := 28, ground := Ground.phase }, { on := 29, ground := Ground.phase }], guard := none }) rfl (fun K hK => ?_) AllReadyH.nil)
    go_simp
    refine hK.out _ _ ?_ (fun hHeld => ?_)
    · (try dsimp only)
      (exact set6_cell e07 (by omega))
    clear hK K
    try simp only [Act.put, List.setIfInBounds_toArray, List.set_cons_zero, List.set_cons_succ]
    refine wpAnyH_done (by kernel_rfl) ?_ _
    refine NoPanic.normal ?_
    first | with_reducible exact HE.out _ _ r5 r6 r7 _ _ _ _ _ _ _ _ _ _ _ _ _ _ _ _ _ _ _ _ _ _ _ _ _ _ _ _ _ (by omega) (by omega) (by omega) HY7.out HN7.out | with_reducible exact HA.out _ r5 r6 r7 _ _ _ _ _ _ _ _ _ _ _ _ _ _ _ _ _ _ _ _ _ _ _ _ _ _ _ _ _ (by omega) (by omega) (by omega) HN7.out
end Go.Proofs.Ytmdnkpiihhaoeaa
