/- The statements' Net makes a spur (a later one): a drawn region of 31 operations, in whatever order. -/
import Derived.Test.YtmdnkpiihhaoeaaMzAK
import Derived.Deep.DrawnRows
namespace Go.Proofs.Ytmdnkpiihhaoeaa
open Go Go.RowKit Fl
attribute [local go_sem ↓] Go.wp_at_zero Go.wp_at_succ

set_option maxRecDepth 100000 in
set_option maxHeartbeats 16000000 in
theorem netSpurC (w wr : World) (B gt T G0 b cb cn cs m : Nat) (z : Int) (Ab An As : Option Addr) (l : List BlockD) (g : GraphD) (ls : List SpurD) (u1 u2 u3 u4 u6 u7 u9 u11 u12 u13 u14 u15 u16 u17 u18 u19 u20 u21 u22 u23 u24 u25 u26 u27 u28 u29 u30 u31 u32 u33 u34 u35 u36 u37 u38 u39 u40 u41 u42 u43 u44 u45 u46 u47 u48 u49 u50 u51 u52 u53 u54 u55 u56 u57 u58 u59 u60 u61 u62 u63 u64 u65 u66 u67 u68 u69 u70 u71 u72 u73 u74 u75 u76 u77 u78 u79 u80 u81 u82 u83 u84 u85 u86 u87 u88 u89 u90 u91 u92 u93 u94 u95 u96 u97 u98 u99 u100 u101 u102 u103 u104 u105 u106 u107 u108 u109 u110 u111 u112 u113 u114 u115 u116 u117 u118 u119 u120 u121 u122 u123 u124 u125 u126 u127 u128 u129 u130 u131 u132 u133 u134 u135 u136 u137 u138 u139 u140 u141 u142 u143 u144 u145 u146 u147 u148 u149 u150 u151 u152 u153 u154 u155 u156 u157 u158 u159 u160 u161 u162 u163 u164 u165 u166 u167 u168 u169 u170 u171 u172 u173 u174 u175 u176 u177 u178 u179 u180 u181 u182 u183 u184 u185 u186 u187 u188 u189 u190 : Value) (Q : Exit → Act → World → Prop) (hT : T ≤ 900000) (hlb : l.length = b) (hb : 1 ≤ b ∧ b ≤ 8) (hm3 : 3 ≤ m) (hm5 : m < 5) (hH : NS w B gt T G0 (G0 + 1) (G0 + 2) ⟨l, g, ls, [], 0, 0, 0, 0⟩ Ab An As none cb cn cs 0 wr)
    (hQ : ∀ (Y : Nat) (s : SpurD) (W : World) (v65 v66 v67 v68 v69 v70 v71 v72 v73 v74 v75 v76 v77 v78 v79 v80 v81 v82 v83 v84 v85 v86 v87 v88 v89 v90 v91 v92 v93 : Value), s.name = snm m → SpurOk b s → s.base = z → (m = 0 → s.depot = true) → Hid (W.heap[Y]? = some (.cells #[Sv s.name, Bo s.depot, Iv s.inn, Iv s.out, Iv s.slots, Iv s.base] 66 (0, 0))) → Hid (NS w B gt (T + 5) G0 (G0 + 1) (G0 + 2) ⟨l, g, ls, [], 0, 0, 0, 0⟩ Ab An As none cb cn cs 0 W) → Q .normal (⟨#[.pointer (some ⟨gt, 0, none⟩), u1, u2, u3, u4, .pointer (some ⟨G0 + 1, 0, none⟩), u6, u7, .int .i64 z, u9, .int .i64 (m : Int), .pointer (some ⟨Y, 0, none⟩), u12, u13, u14, u15, u16, u17, u18, u19, u20, u21, u22, u23, u24, u25, u26, u27, u28, u29, u30, u31, u32, u33, u34, u35, u36, u37, u38, u39, u40, u41, u42, u43, u44, u45, u46, u47, u48, u49, u50, u51, u52, u53, u54, u55, u56, u57, u58, u59, u60, u61, u62, u63, u64, v65, v66, v67, v68, v69, v70, v71, v72, v73, v74, v75, v76, v77, v78, v79, v80, v81, v82, v83, v84, v85, v86, v87, v88, v89, v90, v91, v92, v93, u94, u95, u96, u97, u98, u99, u100, u101, u102, u103, u104, u105, u106, u107, u108, u109, u110, u111, u112, u113, u114, u115, u116, u117, u118, u119, u120, u121, u122, u123, u124, u125, u126, u127, u128, u129, u130, u131, u132, u133, u134, u135, u136, u137, u138, u139, u140, u141, u142, u143, u144, u145, u146, u147, u148, u149, u150, u151, u152, u153, u154, u155, u156, u157, u158, u159, u160, u161, u162, u163, u164, u165, u166, u167, u168, u169, u170, u171, u172, u173, u174, u175, u176, u177, u178, u179, u180, u181, u182, u183, u184, u185, u186, u187, u188, u189, u190], []⟩ : Act) W) :
    (Code.region 14 #[{ dst := some 65, op := Op.move (Operand.tmp 10), type := 3, pos := "made.go:191", after := #[], guard := none }, { dst := some 66, op := Op.call { callee := Callee.value (Operand.func 43), args := #[Operand.tmp 65], argTypes := #[3] }, type := 9, pos := "made.go:191", after := #[{ on := 0, ground := Ground.data }], guard := none }, { dst := some 67, op := Op.binOp BinOp.add 9 (Operand.const (Value.string { data := #[115] })) (Operand.tmp 66) 9, type := 9, pos := "made.go:191", after := #[{ on := 1, ground := Ground.data }], guard := none }, { dst := some 68, op := Op.move (Operand.tmp 10), type := 3, pos := "made.go:191", after := #[], guard := none }, { dst := some 69, op := Op.binOp BinOp.eql 3 (Operand.tmp 68) (Operand.const (Value.int IntKind.i64 0)) 3, type := 4, pos := "made.go:191", after := #[{ on := 3, ground := Ground.data }], guard := none }, { dst := some 70, op := Op.move (Operand.tmp 69), type := 4, pos := "made.go:191", after := #[{ on := 4, ground := Ground.data }, { on := 1, ground := Ground.chain }], guard := none }, { dst := some 71, op := Op.move (Operand.tmp 10), type := 3, pos := "made.go:191", after := #[{ on := 5, ground := Ground.guard }], guard := some (5, false) }, { dst := some 72, op := Op.binOp BinOp.gtr 3 (Operand.tmp 71) (Operand.const (Value.int IntKind.i64 2)) 3, type := 4, pos := "made.go:191", after := #[{ on := 6, ground := Ground.data }, { on := 5, ground := Ground.guard }], guard := some (5, false) }, { dst := some 73, op := Op.move (Operand.tmp 72), type := 4, pos := "made.go:191", after := #[{ on := 7, ground := Ground.data }, { on := 5, ground := Ground.chain }, { on := 5, ground := Ground.guard }], guard := some (5, false) }, { dst := some 74, op := Op.move (Operand.tmp 0), type := 38, pos := "made.go:191", after := #[{ on := 8, ground := Ground.guard }], guard := some (8, true) }, { dst := some 75, op := Op.call { callee := Callee.value (Operand.func 11), args := #[Operand.tmp 74, Operand.const (Value.int IntKind.i64 2)], argTypes := #[38, 3] }, type := 3, pos := "made.go:191", after := #[{ on := 9, ground := Ground.data }, { on := 8, ground := Ground.chain }, { on := 8, ground := Ground.guard }], guard := some (8, true) }, { dst := some 76, op := Op.binOp BinOp.eql 3 (Operand.tmp 75) (Operand.const (Value.int IntKind.i64 0)) 3, type := 4, pos := "made.go:191", after := #[{ on := 10, ground := Ground.data }, { on := 8, ground := Ground.guard }], guard := some (8, true) }, { dst := some 77, op := Op.pick (Operand.tmp 73) (Operand.tmp 76) (Operand.const (Value.bool false)), type := 4, pos := "made.go:191", after := #[{ on := 8, ground := Ground.data }, { on := 11, ground := Ground.data }, { on := 5, ground := Ground.guard }], guard := some (5, false) }, { dst := some 78, op := Op.pick (Operand.tmp 70) (Operand.const (Value.bool true)) (Operand.tmp 77), type := 4, pos := "made.go:191", after := #[{ on := 5, ground := Ground.data }, { on := 12, ground := Ground.data }], guard := none }, { dst := some 79, op := Op.move (Operand.tmp 0), type := 38, pos := "made.go:191", after := #[], guard := none }, { dst := some 80, op := Op.fieldAddr 29 (Operand.tmp 5) 0, type := 0, pos := "made.go:191", after := #[], guard := none }, { dst := some 81, op := Op.load 22 (Operand.tmp 80), type := 22, pos := "made.go:191", after := #[{ on := 15, ground := Ground.data }], guard := none }, { dst := some 82, op := Op.call { callee := Callee.builtin Builtin.len, args := #[Operand.tmp 81], argTypes := #[22] }, type := 3, pos := "made.go:191", after := #[{ on := 16, ground := Ground.data }], guard := none }, { dst := some 83, op := Op.call { callee := Callee.value (Operand.func 11), args := #[Operand.tmp 79, Operand.tmp 82], argTypes := #[38, 3] }, type := 3, pos := "made.go:191", after := #[{ on := 14, ground := Ground.data }, { on := 17, ground := Ground.data }, { on := 10, ground := Ground.chain }], guard := none }, { dst := some 84, op := Op.move (Operand.tmp 0), type := 38, pos := "made.go:191", after := #[], guard := none }, { dst := some 85, op := Op.fieldAddr 29 (Operand.tmp 5) 0, type := 0, pos := "made.go:191", after := #[], guard := none }, { dst := some 86, op := Op.load 22 (Operand.tmp 85), type := 22, pos := "made.go:191", after := #[{ on := 20, ground := Ground.data }], guard := none }, { dst := some 87, op := Op.call { callee := Callee.builtin Builtin.len, args := #[Operand.tmp 86], argTypes := #[22] }, type := 3, pos := "made.go:191", after := #[{ on := 21, ground := Ground.data }], guard := none }, { dst := some 88, op := Op.call { callee := Callee.value (Operand.func 11), args := #[Operand.tmp 84, Operand.tmp 87], argTypes := #[38, 3] }, type := 3, pos := "made.go:191", after := #[{ on := 19, ground := Ground.data }, { on := 22, ground := Ground.data }, { on := 18, ground := Ground.chain }], guard := none }, { dst := some 89, op := Op.move (Operand.tmp 0), type := 38, pos := "made.go:191", after := #[], guard := none }, { dst := some 90, op := Op.call { callee := Callee.value (Operand.func 11), args := #[Operand.tmp 89, Operand.const (Value.int IntKind.i64 3)], argTypes := #[38, 3] }, type := 3, pos := "made.go:191", after := #[{ on := 24, ground := Ground.data }, { on := 23, ground := Ground.chain }], guard := none }, { dst := some 91, op := Op.binOp BinOp.add 3 (Operand.const (Value.int IntKind.i64 1)) (Operand.tmp 90) 3, type := 3, pos := "made.go:191", after := #[{ on := 25, ground := Ground.data }], guard := none }, { dst := some 92, op := Op.move (Operand.tmp 8), type := 3, pos := "made.go:191", after := #[], guard := none }, { dst := some 93, op := Op.build 66 #[(0, Operand.tmp 67), (1, Operand.tmp 78), (2, Operand.tmp 83), (3, Operand.tmp 88), (4, Operand.tmp 91), (5, Operand.tmp 92)], type := 66, pos := "made.go:191", after := #[{ on := 2, ground := Ground.data }, { on := 13, ground := Ground.data }, { on := 18, ground := Ground.data }, { on := 23, ground := Ground.data }, { on := 26, ground := Ground.data }, { on := 27, ground := Ground.data }], guard := none }, { dst := some 11, op := Op.alloc 66, type := 0, pos := "made.go:191", after := #[], guard := none }, { dst := none, op := Op.store 66 (Operand.tmp 11) (Operand.tmp 93), type := 0, pos := "made.go:191", after := #[{ on := 29, ground := Ground.data }, { on := 28, ground := Ground.data }, { on := 25, ground := Ground.chain }, { on := 0, ground := Ground.phase }, { on := 1, ground := Ground.phase }, { on := 2, ground := Ground.phase }, { on := 3, ground := Ground.phase }, { on := 4, ground := Ground.phase }, { on := 5, ground := Ground.phase }, { on := 6, ground := Ground.phase }, { on := 7, ground := Ground.phase }, { on := 8, ground := Ground.phase }, { on := 9, ground := Ground.phase }, { on := 10, ground := Ground.phase }, { on := 11, ground := Ground.phase }, { on := 12, ground := Ground.phase }, { on := 13, ground := Ground.phase }, { on := 14, ground := Ground.phase }, { on := 15, ground := Ground.phase }, { on := 16, ground := Ground.phase }, { on := 17, ground := Ground.phase }, { on := 18, ground := Ground.phase }, { on := 19, ground := Ground.phase }, { on := 20, ground := Ground.phase }, { on := 21, ground := Ground.phase }, { on := 22, ground := Ground.phase }, { on := 23, ground := Ground.phase }, { on := 24, ground := Ground.phase }, { on := 25, ground := Ground.phase }, { on := 26, ground := Ground.phase }, { on := 27, ground := Ground.phase }, { on := 28, ground := Ground.phase }, { on := 29, ground := Ground.phase }], guard := none }] true).wp Try.prog Q ⟨#[.pointer (some ⟨gt, 0, none⟩), u1, u2, u3, u4, .pointer (some ⟨G0 + 1, 0, none⟩), u6, u7, .int .i64 z, u9, .int .i64 (m : Int), u11, u12, u13, u14, u15, u16, u17, u18, u19, u20, u21, u22, u23, u24, u25, u26, u27, u28, u29, u30, u31, u32, u33, u34, u35, u36, u37, u38, u39, u40, u41, u42, u43, u44, u45, u46, u47, u48, u49, u50, u51, u52, u53, u54, u55, u56, u57, u58, u59, u60, u61, u62, u63, u64, u65, u66, u67, u68, u69, u70, u71, u72, u73, u74, u75, u76, u77, u78, u79, u80, u81, u82, u83, u84, u85, u86, u87, u88, u89, u90, u91, u92, u93, u94, u95, u96, u97, u98, u99, u100, u101, u102, u103, u104, u105, u106, u107, u108, u109, u110, u111, u112, u113, u114, u115, u116, u117, u118, u119, u120, u121, u122, u123, u124, u125, u126, u127, u128, u129, u130, u131, u132, u133, u134, u135, u136, u137, u138, u139, u140, u141, u142, u143, u144, u145, u146, u147, u148, u149, u150, u151, u152, u153, u154, u155, u156, u157, u158, u159, u160, u161, u162, u163, u164, u165, u166, u167, u168, u169, u170, u171, u172, u173, u174, u175, u176, u177, u178, u179, u180, u181, u182, u183, u184, u185, u186, u187, u188, u189, u190], []⟩ wr := by
  have hq0 : ((m : Int) == 0) = false := by rw [beq_eq_false_iff_ne]; omega
  have hq2 : decide ((2 : Int) < (m : Int)) = true := by simp; omega
  have f0 : wr.cell? ⟨G0 + 1, 0, none⟩ = some (.slice Ab b cb) := by have := hH.c.1; simp only [hlb] at this; exact this
  have f0d : wr.drew.cell? ⟨G0 + 1, 0, none⟩ = some (.slice Ab b cb) := f0
  have f0da : ∀ ob, (wr.alloc ob).drew.cell? ⟨G0 + 1, 0, none⟩ = some (.slice Ab b cb) := fun ob => alloc_cells f0 ob
  have hcat : ∀ x : Int, (ByteArray.mk #[115]) ++ (ByteArray.mk (dec x).toArray) = ByteArray.mk (115 :: dec x).toArray := fun x => by
    apply ByteArray.ext
    simp
  have hdl : ∀ x : Int, ¬ 9223372036854775807 < 1 + (dec x).length := fun x => by have := dec_length x; omega
  obtain ⟨s0, hs0⟩ : ∃ s0, s0 = wr.heap.size := ⟨_, rfl⟩
  have sz0 : s0 ≤ wr.heap.size := by omega
  have HSZ := Lib.hid sz0
  have hbs : G0 + 2 ≤ s0 := by have := hH.size; omega
  have hgs0 : gt < s0 := by have := hH.ord; omega
  have hLow : ∀ k, (Value.slice As ls.length cs).ownBlock = some k → k < s0 := by rw [hs0]; exact hH.spurLow
  clear hs0
  have HE : Hid (∀ (W : World) (Y r5 r6 r7 r8 : Nat) (v65 v66 v67 v68 v69 v70 v71 v72 v73 v74 v75 v76 v77 v78 v79 v80 v81 v82 v83 v84 v85 v86 v87 v88 v89 v90 v91 v92 v93 : Value) (hr5 : r5 < 2) (hr6 : r6 < b) (hr7 : r7 < b) (hr8 : r8 < 3), SpurBlk W s0 Y #[.string ByteArray.empty, .bool false, .int .i64 0, .int .i64 0, .int .i64 0, .int .i64 0] → NS w B gt (T + 1 + 1 + 1 + 1) G0 (G0 + 1) (G0 + 2) ⟨l, g, ls, [], 0, 0, 0, 0⟩ Ab An As none cb cn cs 0 W → Q .normal (⟨#[.pointer (some ⟨gt, 0, none⟩), u1, u2, u3, u4, .pointer (some ⟨G0 + 1, 0, none⟩), u6, u7, .int .i64 z, u9, .int .i64 (m : Int), .pointer (some ⟨Y, 0, none⟩), u12, u13, u14, u15, u16, u17, u18, u19, u20, u21, u22, u23, u24, u25, u26, u27, u28, u29, u30, u31, u32, u33, u34, u35, u36, u37, u38, u39, u40, u41, u42, u43, u44, u45, u46, u47, u48, u49, u50, u51, u52, u53, u54, u55, u56, u57, u58, u59, u60, u61, u62, u63, u64, v65, v66, v67, v68, v69, v70, v71, v72, v73, v74, v75, v76, v77, v78, v79, v80, v81, v82, v83, v84, v85, v86, v87, v88, v89, v90, v91, v92, v93, u94, u95, u96, u97, u98, u99, u100, u101, u102, u103, u104, u105, u106, u107, u108, u109, u110, u111, u112, u113, u114, u115, u116, u117, u118, u119, u120, u121, u122, u123, u124, u125, u126, u127, u128, u129, u130, u131, u132, u133, u134, u135, u136, u137, u138, u139, u140, u141, u142, u143, u144, u145, u146, u147, u148, u149, u150, u151, u152, u153, u154, u155, u156, u157, u158, u159, u160, u161, u162, u163, u164, u165, u166, u167, u168, u169, u170, u171, u172, u173, u174, u175, u176, u177, u178, u179, u180, u181, u182, u183, u184, u185, u186, u187, u188, u189, u190], []⟩ : Act) ((((((W.setCell ⟨Y, 0, none⟩ (.string ⟨(115 :: dec (m : Int)).toArray⟩)).setCell ⟨Y, 1, none⟩ (Bo ((r5 : Int) == 0))).setCell ⟨Y, 2, none⟩ (Iv r6)).setCell ⟨Y, 3, none⟩ (Iv r7)).setCell ⟨Y, 4, none⟩ (Iv (1 + r8))).setCell ⟨Y, 5, none⟩ (Iv z))) := Lib.hid (fun W Y r5 r6 r7 r8 v65 v66 v67 v68 v69 v70 v71 v72 v73 v74 v75 v76 v77 v78 v79 v80 v81 v82 v83 v84 v85 v86 v87 v88 v89 v90 v91 v92 v93 hr5 hr6 hr7 hr8 hY hW => hQ Y ⟨snm m, ((r5 : Int) == 0), r6, r7, 1 + r8, z⟩ _ v65 v66 v67 v68 v69 v70 v71 v72 v73 v74 v75 v76 v77 v78 v79 v80 v81 v82 v83 v84 v85 v86 v87 v88 v89 v90 v91 v92 v93 rfl ⟨by simp only; omega, by simp only; omega, by simp only; omega⟩ rfl (by intro h; omega) (Lib.hid (set6_at hY.1)) (Lib.hid ((hW.spurPut hY hbs hLow (set6_grown _ _ _ _ _ _ _ _)).more (by omega))))
  have HA : Hid (∀ (W : World) (r5 r6 r7 r8 : Nat) (v65 v66 v67 v68 v69 v70 v71 v72 v73 v74 v75 v76 v77 v78 v79 v80 v81 v82 v83 v84 v85 v86 v87 v88 v89 v90 v91 v92 v93 : Value) (hr5 : r5 < 2) (hr6 : r6 < b) (hr7 : r7 < b) (hr8 : r8 < 3), NS w B gt (T + 1 + 1 + 1 + 1) G0 (G0 + 1) (G0 + 2) ⟨l, g, ls, [], 0, 0, 0, 0⟩ Ab An As none cb cn cs 0 W → Q .normal (⟨#[.pointer (some ⟨gt, 0, none⟩), u1, u2, u3, u4, .pointer (some ⟨G0 + 1, 0, none⟩), u6, u7, .int .i64 z, u9, .int .i64 (m : Int), .pointer (some ⟨W.heap.size, 0, none⟩), u12, u13, u14, u15, u16, u17, u18, u19, u20, u21, u22, u23, u24, u25, u26, u27, u28, u29, u30, u31, u32, u33, u34, u35, u36, u37, u38, u39, u40, u41, u42, u43, u44, u45, u46, u47, u48, u49, u50, u51, u52, u53, u54, u55, u56, u57, u58, u59, u60, u61, u62, u63, u64, v65, v66, v67, v68, v69, v70, v71, v72, v73, v74, v75, v76, v77, v78, v79, v80, v81, v82, v83, v84, v85, v86, v87, v88, v89, v90, v91, v92, v93, u94, u95, u96, u97, u98, u99, u100, u101, u102, u103, u104, u105, u106, u107, u108, u109, u110, u111, u112, u113, u114, u115, u116, u117, u118, u119, u120, u121, u122, u123, u124, u125, u126, u127, u128, u129, u130, u131, u132, u133, u134, u135, u136, u137, u138, u139, u140, u141, u142, u143, u144, u145, u146, u147, u148, u149, u150, u151, u152, u153, u154, u155, u156, u157, u158, u159, u160, u161, u162, u163, u164, u165, u166, u167, u168, u169, u170, u171, u172, u173, u174, u175, u176, u177, u178, u179, u180, u181, u182, u183, u184, u185, u186, u187, u188, u189, u190], []⟩ : Act) (W.alloc (Obj.cells #[(.string ⟨(115 :: dec (m : Int)).toArray⟩), Bo ((r5 : Int) == 0), Iv r6, Iv r7, Iv (1 + r8), Iv z] 66))) := Lib.hid (fun W r5 r6 r7 r8 v65 v66 v67 v68 v69 v70 v71 v72 v73 v74 v75 v76 v77 v78 v79 v80 v81 v82 v83 v84 v85 v86 v87 v88 v89 v90 v91 v92 v93 hr5 hr6 hr7 hr8 hW => hQ W.heap.size ⟨snm m, ((r5 : Int) == 0), r6, r7, 1 + r8, z⟩ _ v65 v66 v67 v68 v69 v70 v71 v72 v73 v74 v75 v76 v77 v78 v79 v80 v81 v82 v83 v84 v85 v86 v87 v88 v89 v90 v91 v92 v93 rfl ⟨by simp only; omega, by simp only; omega, by simp only; omega⟩ rfl (by intro h; omega) (Lib.hid (heap_alloc_new W _)) (Lib.hid ((hW.alloc _).more (by omega))))
  have H := Lib.hid hH
  clear hH hQ hLow
  have HD := Lib.hid (fun W => digits_c (m : Int) W (by omega) (by omega))
  have hud : undef = Value.tuple #[] := rfl
  refine wp_region_noPanic ?_
  refine wp_region_held_drew (S := fun W => W.cell? ⟨G0 + 1, 0, none⟩ = some (.slice Ab b cb)) (by kernel_rfl) f0d (fun hHeld => ?_)
  refine wpAnyH_take (i := 0) (oi := { dst := some 65, op := Op.move (Operand.tmp 10), type := 3, pos := "made.go:191", after := #[], guard := none }) (v := ?v66) rfl (by kernel_rfl) (by kernel_rfl) (by kernel_rfl) (fun _ _ _ h => h) (Or.inl ⟨by rfl, ?hy66⟩) (by assumption) ?rest66
  case hy66 => ((intro w hSw; (try dsimp only at hSw); go_simp) <;> (with_reducible rfl))
  try simp only [Act.put, List.setIfInBounds_toArray, List.set_cons_zero, List.set_cons_succ]
  refine wpAnyH_take (i := 3) (oi := { dst := some 68, op := Op.move (Operand.tmp 10), type := 3, pos := "made.go:191", after := #[], guard := none }) (v := ?v67) rfl (by kernel_rfl) (by kernel_rfl) (by kernel_rfl) (fun _ _ _ h => h) (Or.inl ⟨by rfl, ?hy67⟩) (by assumption) ?rest67
  case hy67 => ((intro w hSw; (try dsimp only at hSw); go_simp) <;> (with_reducible rfl))
  try simp only [Act.put, List.setIfInBounds_toArray, List.set_cons_zero, List.set_cons_succ]
  refine wpAnyH_take (i := 4) (oi := { dst := some 69, op := Op.binOp BinOp.eql 3 (Operand.tmp 68) (Operand.const (Value.int IntKind.i64 0)) 3, type := 4, pos := "made.go:191", after := #[{ on := 3, ground := Ground.data }], guard := none }) (v := ?v68) rfl (by kernel_rfl) (by kernel_rfl) (by kernel_rfl) (fun _ _ _ h => h) (Or.inl ⟨by rfl, ?hy68⟩) (by assumption) ?rest68
  case hy68 => ((intro w hSw; (try dsimp only at hSw); go_simp) <;> (with_reducible rfl))
  try simp only [Act.put, List.setIfInBounds_toArray, List.set_cons_zero, List.set_cons_succ]
  refine wpAnyH_take (i := 14) (oi := { dst := some 79, op := Op.move (Operand.tmp 0), type := 38, pos := "made.go:191", after := #[], guard := none }) (v := ?v69) rfl (by kernel_rfl) (by kernel_rfl) (by kernel_rfl) (fun _ _ _ h => h) (Or.inl ⟨by rfl, ?hy69⟩) (by assumption) ?rest69
  case hy69 => ((intro w hSw; (try dsimp only at hSw); go_simp) <;> (with_reducible rfl))
  try simp only [Act.put, List.setIfInBounds_toArray, List.set_cons_zero, List.set_cons_succ]
  refine wpAnyH_take (i := 15) (oi := { dst := some 80, op := Op.fieldAddr 29 (Operand.tmp 5) 0, type := 0, pos := "made.go:191", after := #[], guard := none }) (v := ?v70) rfl (by kernel_rfl) (by kernel_rfl) (by kernel_rfl) (fun _ _ _ h => h) (Or.inl ⟨by rfl, ?hy70⟩) (by assumption) ?rest70
  case hy70 => ((intro w hSw; (try dsimp only at hSw); go_simp) <;> (with_reducible rfl))
  try simp only [Act.put, List.setIfInBounds_toArray, List.set_cons_zero, List.set_cons_succ]
  refine wpAnyH_take (i := 16) (oi := { dst := some 81, op := Op.load 22 (Operand.tmp 80), type := 22, pos := "made.go:191", after := #[{ on := 15, ground := Ground.data }], guard := none }) (v := ?v71) rfl (by kernel_rfl) (by kernel_rfl) (by kernel_rfl) (fun _ _ _ h => h) (Or.inl ⟨by rfl, ?hy71⟩) (by assumption) ?rest71
  case hy71 => ((intro w hSw; (try dsimp only at hSw); go_simp) <;> (with_reducible rfl))
  try simp only [Act.put, List.setIfInBounds_toArray, List.set_cons_zero, List.set_cons_succ]
  refine wpAnyH_take (i := 17) (oi := { dst := some 82, op := Op.call { callee := Callee.builtin Builtin.len, args := #[Operand.tmp 81], argTypes := #[22] }, type := 3, pos := "made.go:191", after := #[{ on := 16, ground := Ground.data }], guard := none }) (v := ?v72) rfl (by kernel_rfl) (by kernel_rfl) (by kernel_rfl) (fun _ _ _ h => h) (Or.inl ⟨by rfl, ?hy72⟩) (by assumption) ?rest72
  case hy72 => ((intro w hSw; (try dsimp only at hSw); go_simp) <;> (with_reducible rfl))
  try simp only [Act.put, List.setIfInBounds_toArray, List.set_cons_zero, List.set_cons_succ]
  refine wpAnyH_take (i := 19) (oi := { dst := some 84, op := Op.move (Operand.tmp 0), type := 38, pos := "made.go:191", after := #[], guard := none }) (v := ?v73) rfl (by kernel_rfl) (by kernel_rfl) (by kernel_rfl) (fun _ _ _ h => h) (Or.inl ⟨by rfl, ?hy73⟩) (by assumption) ?rest73
  case hy73 => ((intro w hSw; (try dsimp only at hSw); go_simp) <;> (with_reducible rfl))
  try simp only [Act.put, List.setIfInBounds_toArray, List.set_cons_zero, List.set_cons_succ]
  refine wpAnyH_take (i := 20) (oi := { dst := some 85, op := Op.fieldAddr 29 (Operand.tmp 5) 0, type := 0, pos := "made.go:191", after := #[], guard := none }) (v := ?v74) rfl (by kernel_rfl) (by kernel_rfl) (by kernel_rfl) (fun _ _ _ h => h) (Or.inl ⟨by rfl, ?hy74⟩) (by assumption) ?rest74
  case hy74 => ((intro w hSw; (try dsimp only at hSw); go_simp) <;> (with_reducible rfl))
  try simp only [Act.put, List.setIfInBounds_toArray, List.set_cons_zero, List.set_cons_succ]
  refine wpAnyH_take (i := 21) (oi := { dst := some 86, op := Op.load 22 (Operand.tmp 85), type := 22, pos := "made.go:191", after := #[{ on := 20, ground := Ground.data }], guard := none }) (v := ?v75) rfl (by kernel_rfl) (by kernel_rfl) (by kernel_rfl) (fun _ _ _ h => h) (Or.inl ⟨by rfl, ?hy75⟩) (by assumption) ?rest75
  case hy75 => ((intro w hSw; (try dsimp only at hSw); go_simp) <;> (with_reducible rfl))
  try simp only [Act.put, List.setIfInBounds_toArray, List.set_cons_zero, List.set_cons_succ]
  refine wpAnyH_take (i := 22) (oi := { dst := some 87, op := Op.call { callee := Callee.builtin Builtin.len, args := #[Operand.tmp 86], argTypes := #[22] }, type := 3, pos := "made.go:191", after := #[{ on := 21, ground := Ground.data }], guard := none }) (v := ?v76) rfl (by kernel_rfl) (by kernel_rfl) (by kernel_rfl) (fun _ _ _ h => h) (Or.inl ⟨by rfl, ?hy76⟩) (by assumption) ?rest76
  case hy76 => ((intro w hSw; (try dsimp only at hSw); go_simp) <;> (with_reducible rfl))
  try simp only [Act.put, List.setIfInBounds_toArray, List.set_cons_zero, List.set_cons_succ]
  refine wpAnyH_take (i := 24) (oi := { dst := some 89, op := Op.move (Operand.tmp 0), type := 38, pos := "made.go:191", after := #[], guard := none }) (v := ?v77) rfl (by kernel_rfl) (by kernel_rfl) (by kernel_rfl) (fun _ _ _ h => h) (Or.inl ⟨by rfl, ?hy77⟩) (by assumption) ?rest77
  case hy77 => ((intro w hSw; (try dsimp only at hSw); go_simp) <;> (with_reducible rfl))
  try simp only [Act.put, List.setIfInBounds_toArray, List.set_cons_zero, List.set_cons_succ]
  refine wpAnyH_take (i := 27) (oi := { dst := some 92, op := Op.move (Operand.tmp 8), type := 3, pos := "made.go:191", after := #[], guard := none }) (v := ?v78) rfl (by kernel_rfl) (by kernel_rfl) (by kernel_rfl) (fun _ _ _ h => h) (Or.inl ⟨by rfl, ?hy78⟩) (by assumption) ?rest78
  case hy78 => ((intro w hSw; (try dsimp only at hSw); go_simp) <;> (with_reducible rfl))
  try simp only [Act.put, List.setIfInBounds_toArray, List.set_cons_zero, List.set_cons_succ]
  refine wpAnyH_ready (rs := [1, 29]) (by kernel_rfl) (by simp) ?_
  refine (AllReadyH.cons (o := { dst := some 66, op := Op.call { callee := Callee.value (Operand.func 43), args := #[Operand.tmp 65], argTypes := #[3] }, type := 9, pos := "made.go:191", after := #[{ on := 0, ground := Ground.data }], guard := none }) rfl (fun K hK => ?_) (AllReadyH.cons (o := { dst := some 11, op := Op.alloc 66, type := 0, pos := "made.go:191", after := #[], guard := none }) rfl (fun K hK => ?_) AllReadyH.nil))
  · go_simp
    (go_at_call 43; refine (HD.out _).mono ?_; rintro e w4 ⟨rfl, hb4⟩; (first | (have hb5 : Below wr.drew.heap.size wr.drew w4 := (by with_reducible exact hb4); clear hb5; have HN4 := Lib.hid (H.out.drew.keep hb4); have sz4 : s0 ≤ w4.heap.size := Nat.le_trans HSZ.out hb4.size) | (have hyd : SpurBlk (wr.alloc zeroSpur).drew s0 wr.heap.size #[.string ByteArray.empty, .bool false, .int .i64 0, .int .i64 0, .int .i64 0, .int .i64 0] := SpurBlk.new HSZ.out; have HN4 := Lib.hid ((H.out.alloc zeroSpur).drew.keep hb4); have HY4 := Lib.hid (hyd.keep hb4); clear hyd; have sz4 : s0 ≤ w4.heap.size := Nat.le_trans HSZ.out (Nat.le_trans (by simp) hb4.size))); have e04 : w4.cell? ⟨G0 + 1, 0, none⟩ = some (.slice Ab b cb) := (by rw [← hlb]; exact HN4.out.c.1); clear hb4)
    go_wp2_with fail
    refine hK.out _ _ ?_ (fun hHeld => ?_)
    · (try dsimp only)
      (with_reducible exact e04)
    clear hK K
    try simp only [Act.put, List.setIfInBounds_toArray, List.set_cons_zero, List.set_cons_succ]
    refine wpAnyH_take (i := 2) (oi := { dst := some 67, op := Op.binOp BinOp.add 9 (Operand.const (Value.string { data := #[115] })) (Operand.tmp 66) 9, type := 9, pos := "made.go:191", after := #[{ on := 1, ground := Ground.data }], guard := none }) (v := ?v79) rfl (by kernel_rfl) (by kernel_rfl) (by kernel_rfl) (fun _ _ _ h => h) (Or.inl ⟨by rfl, ?hy79⟩) (by assumption) ?rest79
    case hy79 => ((intro w hSw; (try dsimp only at hSw); go_simp) <;> (with_reducible rfl))
    try simp only [Act.put, List.setIfInBounds_toArray, List.set_cons_zero, List.set_cons_succ]
    refine wpAnyH_take (i := 5) (oi := { dst := some 70, op := Op.move (Operand.tmp 69), type := 4, pos := "made.go:191", after := #[{ on := 4, ground := Ground.data }, { on := 1, ground := Ground.chain }], guard := none }) (v := ?v80) rfl (by kernel_rfl) (by kernel_rfl) (by kernel_rfl) (fun _ _ _ h => h) (Or.inl ⟨by rfl, ?hy80⟩) (by assumption) ?rest80
    case hy80 => ((intro w hSw; (try dsimp only at hSw); go_simp) <;> (with_reducible rfl))
    try simp only [Act.put, List.setIfInBounds_toArray, List.set_cons_zero, List.set_cons_succ]
    refine wpAnyH_take (i := 6) (oi := { dst := some 71, op := Op.move (Operand.tmp 10), type := 3, pos := "made.go:191", after := #[{ on := 5, ground := Ground.guard }], guard := some (5, false) }) (v := ?v81) rfl (by kernel_rfl) (by kernel_rfl) (by kernel_rfl) (fun _ _ _ h => h) (Or.inl ⟨by rfl, ?hy81⟩) (by assumption) ?rest81
    case hy81 => ((intro w hSw; (try dsimp only at hSw); go_simp) <;> (with_reducible rfl))
    try simp only [Act.put, List.setIfInBounds_toArray, List.set_cons_zero, List.set_cons_succ]
    refine wpAnyH_take (i := 7) (oi := { dst := some 72, op := Op.binOp BinOp.gtr 3 (Operand.tmp 71) (Operand.const (Value.int IntKind.i64 2)) 3, type := 4, pos := "made.go:191", after := #[{ on := 6, ground := Ground.data }, { on := 5, ground := Ground.guard }], guard := some (5, false) }) (v := ?v82) rfl (by kernel_rfl) (by kernel_rfl) (by kernel_rfl) (fun _ _ _ h => h) (Or.inl ⟨by rfl, ?hy82⟩) (by assumption) ?rest82
    case hy82 => ((intro w hSw; (try dsimp only at hSw); go_simp) <;> (with_reducible rfl))
    try simp only [Act.put, List.setIfInBounds_toArray, List.set_cons_zero, List.set_cons_succ]
    refine wpAnyH_take (i := 8) (oi := { dst := some 73, op := Op.move (Operand.tmp 72), type := 4, pos := "made.go:191", after := #[{ on := 7, ground := Ground.data }, { on := 5, ground := Ground.chain }, { on := 5, ground := Ground.guard }], guard := some (5, false) }) (v := ?v83) rfl (by kernel_rfl) (by kernel_rfl) (by kernel_rfl) (fun _ _ _ h => h) (Or.inl ⟨by rfl, ?hy83⟩) (by assumption) ?rest83
    case hy83 => ((intro w hSw; (try dsimp only at hSw); go_simp) <;> (with_reducible rfl))
    try simp only [Act.put, List.setIfInBounds_toArray, List.set_cons_zero, List.set_cons_succ]
    refine wpAnyH_take (i := 9) (oi := { dst := some 74, op := Op.move (Operand.tmp 0), type := 38, pos := "made.go:191", after := #[{ on := 8, ground := Ground.guard }], guard := some (8, true) }) (v := ?v84) rfl (by kernel_rfl) (by kernel_rfl) (by kernel_rfl) (fun _ _ _ h => h) (Or.inl ⟨by rfl, ?hy84⟩) (by assumption) ?rest84
    case hy84 => ((intro w hSw; (try dsimp only at hSw); go_simp) <;> (with_reducible rfl))
    try simp only [Act.put, List.setIfInBounds_toArray, List.set_cons_zero, List.set_cons_succ]
    refine wpAnyH_ready (rs := [10, 29]) (by kernel_rfl) (by simp) ?_
    refine (AllReadyH.cons (o := { dst := some 75, op := Op.call { callee := Callee.value (Operand.func 11), args := #[Operand.tmp 74, Operand.const (Value.int IntKind.i64 2)], argTypes := #[38, 3] }, type := 3, pos := "made.go:191", after := #[{ on := 9, ground := Ground.data }, { on := 8, ground := Ground.chain }, { on := 8, ground := Ground.guard }], guard := some (8, true) }) rfl (fun K hK => ?_) (AllReadyH.cons (o := { dst := some 11, op := Op.alloc 66, type := 0, pos := "made.go:191", after := #[], guard := none }) rfl (fun K hK => ?_) AllReadyH.nil))
    · go_simp
      (have h := HN4; clear h; go_at_call 11; (with_reducible change Calls _ _ _ w4 _); refine (next_c B gt _ 2 _ (HN4.out).tape (by omega) (by omega) (by omega)).mono ?_; rintro e w5 ⟨r5, hr5, rfl, ht5, hg5⟩; have HN5 := Lib.hid (HN4.out.next_ ht5 hg5); have sz5 : s0 ≤ w5.heap.size := Nat.le_trans sz4 hg5.size; have e05 : w5.cell? ⟨G0 + 1, 0, none⟩ = some (.slice Ab b cb) := (by rw [← hlb]; exact HN5.out.c.1); clear ht5 hg5 HN4)
      go_wp2_with fail
      refine hK.out _ _ ?_ (fun hHeld => ?_)
      · (try dsimp only)
        (with_reducible exact e05)
      clear hK K
      try simp only [Act.put, List.setIfInBounds_toArray, List.set_cons_zero, List.set_cons_succ]
      refine wpAnyH_take (i := 11) (oi := { dst := some 76, op := Op.binOp BinOp.eql 3 (Operand.tmp 75) (Operand.const (Value.int IntKind.i64 0)) 3, type := 4, pos := "made.go:191", after := #[{ on := 10, ground := Ground.data }, { on := 8, ground := Ground.guard }], guard := some (8, true) }) (v := ?v85) rfl (by kernel_rfl) (by kernel_rfl) (by kernel_rfl) (fun _ _ _ h => h) (Or.inl ⟨by rfl, ?hy85⟩) (by assumption) ?rest85
      case hy85 => ((intro w hSw; (try dsimp only at hSw); go_simp) <;> (with_reducible rfl))
      try simp only [Act.put, List.setIfInBounds_toArray, List.set_cons_zero, List.set_cons_succ]
      refine wpAnyH_take (i := 12) (oi := { dst := some 77, op := Op.pick (Operand.tmp 73) (Operand.tmp 76) (Operand.const (Value.bool false)), type := 4, pos := "made.go:191", after := #[{ on := 8, ground := Ground.data }, { on := 11, ground := Ground.data }, { on := 5, ground := Ground.guard }], guard := some (5, false) }) (v := ?v86) rfl (by kernel_rfl) (by kernel_rfl) (by kernel_rfl) (fun _ _ _ h => h) (Or.inl ⟨by rfl, ?hy86⟩) (by assumption) ?rest86
      case hy86 => ((intro w hSw; (try dsimp only at hSw); go_simp) <;> (with_reducible rfl))
      try simp only [Act.put, List.setIfInBounds_toArray, List.set_cons_zero, List.set_cons_succ]
      refine wpAnyH_take (i := 13) (oi := { dst := some 78, op := Op.pick (Operand.tmp 70) (Operand.const (Value.bool true)) (Operand.tmp 77), type := 4, pos := "made.go:191", after := #[{ on := 5, ground := Ground.data }, { on := 12, ground := Ground.data }], guard := none }) (v := ?v87) rfl (by kernel_rfl) (by kernel_rfl) (by kernel_rfl) (fun _ _ _ h => h) (Or.inl ⟨by rfl, ?hy87⟩) (by assumption) ?rest87
      case hy87 => ((intro w hSw; (try dsimp only at hSw); go_simp) <;> (with_reducible rfl))
      try simp only [Act.put, List.setIfInBounds_toArray, List.set_cons_zero, List.set_cons_succ]
      refine wpAnyH_ready (rs := [18, 29]) (by kernel_rfl) (by simp) ?_
      refine (AllReadyH.cons (o := { dst := some 83, op := Op.call { callee := Callee.value (Operand.func 11), args := #[Operand.tmp 79, Operand.tmp 82], argTypes := #[38, 3] }, type := 3, pos := "made.go:191", after := #[{ on := 14, ground := Ground.data }, { on := 17, ground := Ground.data }, { on := 10, ground := Ground.chain }], guard := none }) rfl (fun K hK => ?_) (AllReadyH.cons (o := { dst := some 11, op := Op.alloc 66, type := 0, pos := "made.go:191", after := #[], guard := none }) rfl (fun K hK => ?_) AllReadyH.nil))
      · go_simp
        (have h := HN5; clear h; go_at_call 11; (with_reducible change Calls _ _ _ w5 _); refine (next_c B gt _ b _ (HN5.out).tape (by omega) (by omega) (by omega)).mono ?_; rintro e w6 ⟨r6, hr6, rfl, ht6, hg6⟩; have HN6 := Lib.hid (HN5.out.next_ ht6 hg6); have sz6 : s0 ≤ w6.heap.size := Nat.le_trans sz5 hg6.size; have e06 : w6.cell? ⟨G0 + 1, 0, none⟩ = some (.slice Ab b cb) := (by rw [← hlb]; exact HN6.out.c.1); clear ht6 hg6 HN5)
        go_wp2_with fail
        refine hK.out _ _ ?_ (fun hHeld => ?_)
        · (try dsimp only)
          (with_reducible exact e06)
        clear hK K
        try simp only [Act.put, List.setIfInBounds_toArray, List.set_cons_zero, List.set_cons_succ]
        refine wpAnyH_ready (rs := [23, 29]) (by kernel_rfl) (by simp) ?_
        refine (AllReadyH.cons (o := { dst := some 88, op := Op.call { callee := Callee.value (Operand.func 11), args := #[Operand.tmp 84, Operand.tmp 87], argTypes := #[38, 3] }, type := 3, pos := "made.go:191", after := #[{ on := 19, ground := Ground.data }, { on := 22, ground := Ground.data }, { on := 18, ground := Ground.chain }], guard := none }) rfl (fun K hK => ?_) (AllReadyH.cons (o := { dst := some 11, op := Op.alloc 66, type := 0, pos := "made.go:191", after := #[], guard := none }) rfl (fun K hK => ?_) AllReadyH.nil))
        · go_simp
          (have h := HN6; clear h; go_at_call 11; (with_reducible change Calls _ _ _ w6 _); refine (next_c B gt _ b _ (HN6.out).tape (by omega) (by omega) (by omega)).mono ?_; rintro e w7 ⟨r7, hr7, rfl, ht7, hg7⟩; have HN7 := Lib.hid (HN6.out.next_ ht7 hg7); have sz7 : s0 ≤ w7.heap.size := Nat.le_trans sz6 hg7.size; have e07 : w7.cell? ⟨G0 + 1, 0, none⟩ = some (.slice Ab b cb) := (by rw [← hlb]; exact HN7.out.c.1); clear ht7 hg7 HN6)
          go_wp2_with fail
          refine hK.out _ _ ?_ (fun hHeld => ?_)
          · (try dsimp only)
            (with_reducible exact e07)
          clear hK K
          try simp only [Act.put, List.setIfInBounds_toArray, List.set_cons_zero, List.set_cons_succ]
          refine wpAnyH_ready (rs := [25, 29]) (by kernel_rfl) (by simp) ?_
          refine (AllReadyH.cons (o := { dst := some 90, op := Op.call { callee := Callee.value (Operand.func 11), args := #[Operand.tmp 89, Operand.const (Value.int IntKind.i64 3)], argTypes := #[38, 3] }, type := 3, pos := "made.go:191", after := #[{ on := 24, ground := Ground.data }, { on := 23, ground := Ground.chain }], guard := none }) rfl (fun K hK => ?_) (AllReadyH.cons (o := { dst := some 11, op := Op.alloc 66, type := 0, pos := "made.go:191", after := #[], guard := none }) rfl (fun K hK => ?_) AllReadyH.nil))
          · go_simp
            (have h := HN7; clear h; go_at_call 11; (with_reducible change Calls _ _ _ w7 _); refine (next_c B gt _ 3 _ (HN7.out).tape (by omega) (by omega) (by omega)).mono ?_; rintro e w8 ⟨r8, hr8, rfl, ht8, hg8⟩; have HN8 := Lib.hid (HN7.out.next_ ht8 hg8); have sz8 : s0 ≤ w8.heap.size := Nat.le_trans sz7 hg8.size; have e08 : w8.cell? ⟨G0 + 1, 0, none⟩ = some (.slice Ab b cb) := (by rw [← hlb]; exact HN8.out.c.1); have hw8 : IntKind.i64.wrap (1 + (r8 : Int)) = 1 + (r8 : Int) := IntWalk.i64_in _ (by omega); clear ht8 hg8 HN7)
            go_wp2_with fail
            refine hK.out _ _ ?_ (fun hHeld => ?_)
            · (try dsimp only)
              (with_reducible exact e08)
            clear hK K
            try simp only [Act.put, List.setIfInBounds_toArray, List.set_cons_zero, List.set_cons_succ]
            refine wpAnyH_take (i := 26) (oi := { dst := some 91, op := Op.binOp BinOp.add 3 (Operand.const (Value.int IntKind.i64 1)) (Operand.tmp 90) 3, type := 3, pos := "made.go:191", after := #[{ on := 25, ground := Ground.data }], guard := none }) (v := ?v88) rfl (by kernel_rfl) (by kernel_rfl) (by kernel_rfl) (fun _ _ _ h => h) (Or.inl ⟨by rfl, ?hy88⟩) (by assumption) ?rest88
            case hy88 => ((intro w hSw; (try dsimp only at hSw); go_simp) <;> (with_reducible rfl))
            try simp only [Act.put, List.setIfInBounds_toArray, List.set_cons_zero, List.set_cons_succ]
            refine wpAnyH_take (i := 28) (oi := { dst := some 93, op := Op.build 66 #[(0, Operand.tmp 67), (1, Operand.tmp 78), (2, Operand.tmp 83), (3, Operand.tmp 88), (4, Operand.tmp 91), (5, Operand.tmp 92)], type := 66, pos := "made.go:191", after := #[{ on := 2, ground := Ground.data }, { on := 13, ground := Ground.data }, { on := 18, ground := Ground.data }, { on := 23, ground := Ground.data }, { on := 26, ground := Ground.data }, { on := 27, ground := Ground.data }], guard := none }) (v := ?v89) rfl (by kernel_rfl) (by kernel_rfl) (by kernel_rfl) (fun _ _ _ h => h) (Or.inl ⟨by rfl, ?hy89⟩) (by assumption) ?rest89
            case hy89 => ((intro w hSw; (try dsimp only at hSw); go_simp) <;> (with_reducible rfl))
            try simp only [Act.put, List.setIfInBounds_toArray, List.set_cons_zero, List.set_cons_succ]
            refine wpAnyH_ready (rs := [29]) (by kernel_rfl) (by simp) ?_
            refine (AllReadyH.cons (o := { dst := some 11, op := Op.alloc 66, type := 0, pos := "made.go:191", after := #[], guard := none }) rfl (fun K hK => ?_) AllReadyH.nil)
            go_simp
            refine hK.out _ _ ?_ (fun hHeld => ?_)
            · (try dsimp only)
              (with_reducible exact alloc_cells e08 _)
            clear hK K
            try simp only [Act.put, List.setIfInBounds_toArray, List.set_cons_zero, List.set_cons_succ]
            refine wpAnyH_ready (rs := [30]) (by kernel_rfl) (by simp) ?_
            refine (AllReadyH.cons (o := { dst := none, op := Op.store 66 (Operand.tmp 11) (Operand.tmp 93), type := 0, pos := "made.go:191", after := #[{ on := 29, ground := Ground.data }, { on := 28, ground := Ground.data }, { on := 25, ground := Ground.chain }, { on := 0, ground := Ground.phase }, { on := 1, ground := Ground.phase }, { on := 2, ground := Ground.phase }, { on := 3, ground := Ground.phase }, { on := 4, ground := Ground.phase }, { on := 5, ground := Ground.phase }, { on := 6, ground := Ground.phase }, { on := 7, ground := Ground.phase }, { on := 8, ground := Ground.phase }, { on := 9, ground := Ground.phase }, { on := 10, ground := Ground.phase }, { on := 11, ground := Ground.phase }, { on := 12, ground := Ground.phase }, { on := 13, ground := Ground.phase }, { on := 14, ground := Ground.phase }, { on := 15, ground := Ground.phase }, { on := 16, ground := Ground.phase }, { on := 17, ground := Ground.phase }, { on := 18, ground := Ground.phase }, { on := 19, ground := Ground.phase }, { on := 20, ground := Ground.phase }, { on := 21, ground := Ground.phase }, { on := 22, ground := Ground.phase }, { on := 23, ground := Ground.phase }, { on := 24, ground := Ground.phase }, { on := 25, ground := Ground.phase }, { on := 26, ground := Ground.phase }, { on := 27, ground := Ground.phase }, { on := 28, ground := Ground.phase }, { on := 29, ground := Ground.phase }], guard := none }) rfl (fun K hK => ?_) AllReadyH.nil)
            go_simp
            refine hK.out _ _ ?_ (fun hHeld => ?_)
            · (try dsimp only)
              (with_reducible exact alloc_cells e08 _)
            clear hK K
            try simp only [Act.put, List.setIfInBounds_toArray, List.set_cons_zero, List.set_cons_succ]
            refine wpAnyH_done (by kernel_rfl) ?_ _
            refine NoPanic.normal ?_
            first | with_reducible exact HE.out _ _ r5 r6 r7 r8 _ _ _ _ _ _ _ _ _ _ _ _ _ _ _ _ _ _ _ _ _ _ _ _ _ _ _ _ _ (by omega) (by omega) (by omega) (by omega) HY8.out HN8.out | with_reducible exact HA.out _ r5 r6 r7 r8 _ _ _ _ _ _ _ _ _ _ _ _ _ _ _ _ _ _ _ _ _ _ _ _ _ _ _ _ _ (by omega) (by omega) (by omega) (by omega) HN8.out
          · go_simp
            refine hK.out _ _ ?_ (fun hHeld => ?_)
            · (try dsimp only)
              (with_reducible exact alloc_cells e07 _)
            clear hK K
            try simp only [Act.put, List.setIfInBounds_toArray, List.set_cons_zero, List.set_cons_succ]
            refine wpAnyH_ready (rs := [25]) (by kernel_rfl) (by simp) ?_
            refine (AllReadyH.cons (o := { dst := some 90, op := Op.call { callee := Callee.value (Operand.func 11), args := #[Operand.tmp 89, Operand.const (Value.int IntKind.i64 3)], argTypes := #[38, 3] }, type := 3, pos := "made.go:191", after := #[{ on := 24, ground := Ground.data }, { on := 23, ground := Ground.chain }], guard := none }) rfl (fun K hK => ?_) AllReadyH.nil)
            go_simp
            (have h := HN7; clear h; go_at_call 11; (with_reducible change Calls _ _ _ (World.alloc w7 _) _); refine (next_c B gt _ 3 _ (HN7.out.alloc zeroSpur).tape (by omega) (by omega) (by omega)).mono ?_; rintro e w8 ⟨r8, hr8, rfl, ht8, hg8⟩; have HN8 := Lib.hid ((HN7.out.alloc zeroSpur).next_ ht8 hg8); have HY8 := Lib.hid ((SpurBlk.new sz7).grown hg8 hgs0); have sz8 : s0 ≤ w8.heap.size := Nat.le_trans sz7 (Nat.le_trans (by simp) hg8.size); have e08 : w8.cell? ⟨G0 + 1, 0, none⟩ = some (.slice Ab b cb) := (by rw [← hlb]; exact HN8.out.c.1); have hw8 : IntKind.i64.wrap (1 + (r8 : Int)) = 1 + (r8 : Int) := IntWalk.i64_in _ (by omega); obtain ⟨q0, q1, q2, q3, q4, q5⟩ := HY8.out.cells; have z0 := HY8.out.froz 0; have z1 := HY8.out.froz 1; have z2 := HY8.out.froz 2; have z3 := HY8.out.froz 3; have z4 := HY8.out.froz 4; have z5 := HY8.out.froz 5; clear ht8 hg8 HN7)
            go_wp2_with fail
            refine hK.out _ _ ?_ (fun hHeld => ?_)
            · (try dsimp only)
              (with_reducible exact e08)
            clear hK K
            try simp only [Act.put, List.setIfInBounds_toArray, List.set_cons_zero, List.set_cons_succ]
            refine wpAnyH_take (i := 26) (oi := { dst := some 91, op := Op.binOp BinOp.add 3 (Operand.const (Value.int IntKind.i64 1)) (Operand.tmp 90) 3, type := 3, pos := "made.go:191", after := #[{ on := 25, ground := Ground.data }], guard := none }) (v := ?v90) rfl (by kernel_rfl) (by kernel_rfl) (by kernel_rfl) (fun _ _ _ h => h) (Or.inl ⟨by rfl, ?hy90⟩) (by assumption) ?rest90
            case hy90 => ((intro w hSw; (try dsimp only at hSw); go_simp) <;> (with_reducible rfl))
            try simp only [Act.put, List.setIfInBounds_toArray, List.set_cons_zero, List.set_cons_succ]
            refine wpAnyH_take (i := 28) (oi := { dst := some 93, op := Op.build 66 #[(0, Operand.tmp 67), (1, Operand.tmp 78), (2, Operand.tmp 83), (3, Operand.tmp 88), (4, Operand.tmp 91), (5, Operand.tmp 92)], type := 66, pos := "made.go:191", after := #[{ on := 2, ground := Ground.data }, { on := 13, ground := Ground.data }, { on := 18, ground := Ground.data }, { on := 23, ground := Ground.data }, { on := 26, ground := Ground.data }, { on := 27, ground := Ground.data }], guard := none }) (v := ?v91) rfl (by kernel_rfl) (by kernel_rfl) (by kernel_rfl) (fun _ _ _ h => h) (Or.inl ⟨by rfl, ?hy91⟩) (by assumption) ?rest91
            case hy91 => ((intro w hSw; (try dsimp only at hSw); go_simp) <;> (with_reducible rfl))
            try simp only [Act.put, List.setIfInBounds_toArray, List.set_cons_zero, List.set_cons_succ]
            refine wpAnyH_ready (rs := [30]) (by kernel_rfl) (by simp) ?_
            refine (AllReadyH.cons (o := { dst := none, op := Op.store 66 (Operand.tmp 11) (Operand.tmp 93), type := 0, pos := "made.go:191", after := #[{ on := 29, ground := Ground.data }, { on := 28, ground := Ground.data }, { on := 25, ground := Ground.chain }, { on := 0, ground := Ground.phase }, { on := 1, ground := Ground.phase }, { on := 2, ground := Ground.phase }, { on := 3, ground := Ground.phase }, { on := 4, ground := Ground.phase }, { on := 5, ground := Ground.phase }, { on := 6, ground := Ground.phase }, { on := 7, ground := Ground.phase }, { on := 8, ground := Ground.phase }, { on := 9, ground := Ground.phase }, { on := 10, ground := Ground.phase }, { on := 11, ground := Ground.phase }, { on := 12, ground := Ground.phase }, { on := 13, ground := Ground.phase }, { on := 14, ground := Ground.phase }, { on := 15, ground := Ground.phase }, { on := 16, ground := Ground.phase }, { on := 17, ground := Ground.phase }, { on := 18, ground := Ground.phase }, { on := 19, ground := Ground.phase }, { on := 20, ground := Ground.phase }, { on := 21, ground := Ground.phase }, { on := 22, ground := Ground.phase }, { on := 23, ground := Ground.phase }, { on := 24, ground := Ground.phase }, { on := 25, ground := Ground.phase }, { on := 26, ground := Ground.phase }, { on := 27, ground := Ground.phase }, { on := 28, ground := Ground.phase }, { on := 29, ground := Ground.phase }], guard := none }) rfl (fun K hK => ?_) AllReadyH.nil)
            go_simp
            refine hK.out _ _ ?_ (fun hHeld => ?_)
            · (try dsimp only)
              (exact set6_cell e08 (by omega))
            clear hK K
            try simp only [Act.put, List.setIfInBounds_toArray, List.set_cons_zero, List.set_cons_succ]
            refine wpAnyH_done (by kernel_rfl) ?_ _
            refine NoPanic.normal ?_
            first | with_reducible exact HE.out _ _ r5 r6 r7 r8 _ _ _ _ _ _ _ _ _ _ _ _ _ _ _ _ _ _ _ _ _ _ _ _ _ _ _ _ _ (by omega) (by omega) (by omega) (by omega) HY8.out HN8.out | with_reducible exact HA.out _ r5 r6 r7 r8 _ _ _ _ _ _ _ _ _ _ _ _ _ _ _ _ _ _ _ _ _ _ _ _ _ _ _ _ _ (by omega) (by omega) (by omega) (by omega) HN8.out
        · go_simp
          refine hK.out _ _ ?_ (fun hHeld => ?_)
          · (try dsimp only)
            (with_reducible exact alloc_cells e06 _)
          clear hK K
          try simp only [Act.put, List.setIfInBounds_toArray, List.set_cons_zero, List.set_cons_succ]
          refine wpAnyH_ready (rs := [23]) (by kernel_rfl) (by simp) ?_
          refine (AllReadyH.cons (o := { dst := some 88, op := Op.call { callee := Callee.value (Operand.func 11), args := #[Operand.tmp 84, Operand.tmp 87], argTypes := #[38, 3] }, type := 3, pos := "made.go:191", after := #[{ on := 19, ground := Ground.data }, { on := 22, ground := Ground.data }, { on := 18, ground := Ground.chain }], guard := none }) rfl (fun K hK => ?_) AllReadyH.nil)
          go_simp
          (have h := HN6; clear h; go_at_call 11; (with_reducible change Calls _ _ _ (World.alloc w6 _) _); refine (next_c B gt _ b _ (HN6.out.alloc zeroSpur).tape (by omega) (by omega) (by omega)).mono ?_; rintro e w7 ⟨r7, hr7, rfl, ht7, hg7⟩; have HN7 := Lib.hid ((HN6.out.alloc zeroSpur).next_ ht7 hg7); have HY7 := Lib.hid ((SpurBlk.new sz6).grown hg7 hgs0); have sz7 : s0 ≤ w7.heap.size := Nat.le_trans sz6 (Nat.le_trans (by simp) hg7.size); have e07 : w7.cell? ⟨G0 + 1, 0, none⟩ = some (.slice Ab b cb) := (by rw [← hlb]; exact HN7.out.c.1); clear ht7 hg7 HN6)
          go_wp2_with fail
          refine hK.out _ _ ?_ (fun hHeld => ?_)
          · (try dsimp only)
            (with_reducible exact e07)
          clear hK K
          try simp only [Act.put, List.setIfInBounds_toArray, List.set_cons_zero, List.set_cons_succ]
          refine wpAnyH_ready (rs := [25]) (by kernel_rfl) (by simp) ?_
          refine (AllReadyH.cons (o := { dst := some 90, op := Op.call { callee := Callee.value (Operand.func 11), args := #[Operand.tmp 89, Operand.const (Value.int IntKind.i64 3)], argTypes := #[38, 3] }, type := 3, pos := "made.go:191", after := #[{ on := 24, ground := Ground.data }, { on := 23, ground := Ground.chain }], guard := none }) rfl (fun K hK => ?_) AllReadyH.nil)
          go_simp
          (have h := HY7; clear h; go_at_call 11; (with_reducible change Calls _ _ _ w7 _); refine (next_c B gt _ 3 _ (HN7.out).tape (by omega) (by omega) (by omega)).mono ?_; rintro e w8 ⟨r8, hr8, rfl, ht8, hg8⟩; have HN8 := Lib.hid (HN7.out.next_ ht8 hg8); have HY8 := Lib.hid (HY7.out.grown hg8 hgs0); have sz8 : s0 ≤ w8.heap.size := Nat.le_trans sz7 hg8.size; have e08 : w8.cell? ⟨G0 + 1, 0, none⟩ = some (.slice Ab b cb) := (by rw [← hlb]; exact HN8.out.c.1); have hw8 : IntKind.i64.wrap (1 + (r8 : Int)) = 1 + (r8 : Int) := IntWalk.i64_in _ (by omega); obtain ⟨q0, q1, q2, q3, q4, q5⟩ := HY8.out.cells; have z0 := HY8.out.froz 0; have z1 := HY8.out.froz 1; have z2 := HY8.out.froz 2; have z3 := HY8.out.froz 3; have z4 := HY8.out.froz 4; have z5 := HY8.out.froz 5; clear ht8 hg8 HN7 HY7)
          go_wp2_with fail
          refine hK.out _ _ ?_ (fun hHeld => ?_)
          · (try dsimp only)
            (with_reducible exact e08)
          clear hK K
          try simp only [Act.put, List.setIfInBounds_toArray, List.set_cons_zero, List.set_cons_succ]
          refine wpAnyH_take (i := 26) (oi := { dst := some 91, op := Op.binOp BinOp.add 3 (Operand.const (Value.int IntKind.i64 1)) (Operand.tmp 90) 3, type := 3, pos := "made.go:191", after := #[{ on := 25, ground := Ground.data }], guard := none }) (v := ?v92) rfl (by kernel_rfl) (by kernel_rfl) (by kernel_rfl) (fun _ _ _ h => h) (Or.inl ⟨by rfl, ?hy92⟩) (by assumption) ?rest92
          case hy92 => ((intro w hSw; (try dsimp only at hSw); go_simp) <;> (with_reducible rfl))
          try simp only [Act.put, List.setIfInBounds_toArray, List.set_cons_zero, List.set_cons_succ]
          refine wpAnyH_take (i := 28) (oi := { dst := some 93, op := Op.build 66 #[(0, Operand.tmp 67), (1, Operand.tmp 78), (2, Operand.tmp 83), (3, Operand.tmp 88), (4, Operand.tmp 91), (5, Operand.tmp 92)], type := 66, pos := "made.go:191", after := #[{ on := 2, ground := Ground.data }, { on := 13, ground := Ground.data }, { on := 18, ground := Ground.data }, { on := 23, ground := Ground.data }, { on := 26, ground := Ground.data }, { on := 27, ground := Ground.data }], guard := none }) (v := ?v93) rfl (by kernel_rfl) (by kernel_rfl) (by kernel_rfl) (fun _ _ _ h => h) (Or.inl ⟨by rfl, ?hy93⟩) (by assumption) ?rest93
          case hy93 => ((intro w hSw; (try dsimp only at hSw); go_simp) <;> (with_reducible rfl))
          try simp only [Act.put, List.setIfInBounds_toArray, List.set_cons_zero, List.set_cons_succ]
          refine wpAnyH_ready (rs := [30]) (by kernel_rfl) (by simp) ?_
          refine (AllReadyH.cons (o := { dst := none, op := Op.store 66 (Operand.tmp 11) (Operand.tmp 93), type := 0, pos := "made.go:191", after := #[{ on := 29, ground := Ground.data }, { on := 28, ground := Ground.data }, { on := 25, ground := Ground.chain }, { on := 0, ground := Ground.phase }, { on := 1, ground := Ground.phase }, { on := 2, ground := Ground.phase }, { on := 3, ground := Ground.phase }, { on := 4, ground := Ground.phase }, { on := 5, ground := Ground.phase }, { on := 6, ground := Ground.phase }, { on := 7, ground := Ground.phase }, { on := 8, ground := Ground.phase }, { on := 9, ground := Ground.phase }, { on := 10, ground := Ground.phase }, { on := 11, ground := Ground.phase }, { on := 12, ground := Ground.phase }, { on := 13, ground := Ground.phase }, { on := 14, ground := Ground.phase }, { on := 15, ground := Ground.phase }, { on := 16, ground := Ground.phase }, { on := 17, ground := Ground.phase }, { on := 18, ground := Ground.phase }, { on := 19, ground := Ground.phase }, { on := 20, ground := Ground.phase }, { on := 21, ground := Ground.phase }, { on := 22, ground := Ground.phase }, { on := 23, ground := Ground.phase }, { on := 24, ground := Ground.phase }, { on := 25, ground := Ground.phase }, { on := 26, ground := Ground.phase }, { on := 27, ground := Ground.phase }, { on := 28, ground := Ground.phase }, { on := 29, ground := Ground.phase }], guard := none }) rfl (fun K hK => ?_) AllReadyH.nil)
          go_simp
          refine hK.out _ _ ?_ (fun hHeld => ?_)
          · (try dsimp only)
            (exact set6_cell e08 (by omega))
          clear hK K
          try simp only [Act.put, List.setIfInBounds_toArray, List.set_cons_zero, List.set_cons_succ]
          refine wpAnyH_done (by kernel_rfl) ?_ _
          refine NoPanic.normal ?_
          first | with_reducible exact HE.out _ _ r5 r6 r7 r8 _ _ _ _ _ _ _ _ _ _ _ _ _ _ _ _ _ _ _ _ _ _ _ _ _ _ _ _ _ (by omega) (by omega) (by omega) (by omega) HY8.out HN8.out | with_reducible exact HA.out _ r5 r6 r7 r8 _ _ _ _ _ _ _ _ _ _ _ _ _ _ _ _ _ _ _ _ _ _ _ _ _ _ _ _ _ (by omega) (by omega) (by omega) (by omega) HN8.out
      · go_simp
        refine hK.out _ _ ?_ (fun hHeld => ?_)
        · (try dsimp only)
          (with_reducible exact alloc_cells e05 _)
        clear hK K
        try simp only [Act.put, List.setIfInBounds_toArray, List.set_cons_zero, List.set_cons_succ]
        refine wpAnyH_ready (rs := [18]) (by kernel_rfl) (by simp) ?_
        refine (AllReadyH.cons (o := { dst := some 83, op := Op.call { callee := Callee.value (Operand.func 11), args := #[Operand.tmp 79, Operand.tmp 82], argTypes := #[38, 3] }, type := 3, pos := "made.go:191", after := #[{ on := 14, ground := Ground.data }, { on := 17, ground := Ground.data }, { on := 10, ground := Ground.chain }], guard := none }) rfl (fun K hK => ?_) AllReadyH.nil)
        go_simp
        (have h := HN5; clear h; go_at_call 11; (with_reducible change Calls _ _ _ (World.alloc w5 _) _); refine (next_c B gt _ b _ (HN5.out.alloc zeroSpur).tape (by omega) (by omega) (by omega)).mono ?_; rintro e w6 ⟨r6, hr6, rfl, ht6, hg6⟩; have HN6 := Lib.hid ((HN5.out.alloc zeroSpur).next_ ht6 hg6); have HY6 := Lib.hid ((SpurBlk.new sz5).grown hg6 hgs0); have sz6 : s0 ≤ w6.heap.size := Nat.le_trans sz5 (Nat.le_trans (by simp) hg6.size); have e06 : w6.cell? ⟨G0 + 1, 0, none⟩ = some (.slice Ab b cb) := (by rw [← hlb]; exact HN6.out.c.1); clear ht6 hg6 HN5)
        go_wp2_with fail
        refine hK.out _ _ ?_ (fun hHeld => ?_)
        · (try dsimp only)
          (with_reducible exact e06)
        clear hK K
        try simp only [Act.put, List.setIfInBounds_toArray, List.set_cons_zero, List.set_cons_succ]
        refine wpAnyH_ready (rs := [23]) (by kernel_rfl) (by simp) ?_
        refine (AllReadyH.cons (o := { dst := some 88, op := Op.call { callee := Callee.value (Operand.func 11), args := #[Operand.tmp 84, Operand.tmp 87], argTypes := #[38, 3] }, type := 3, pos := "made.go:191", after := #[{ on := 19, ground := Ground.data }, { on := 22, ground := Ground.data }, { on := 18, ground := Ground.chain }], guard := none }) rfl (fun K hK => ?_) AllReadyH.nil)
        go_simp
        (have h := HY6; clear h; go_at_call 11; (with_reducible change Calls _ _ _ w6 _); refine (next_c B gt _ b _ (HN6.out).tape (by omega) (by omega) (by omega)).mono ?_; rintro e w7 ⟨r7, hr7, rfl, ht7, hg7⟩; have HN7 := Lib.hid (HN6.out.next_ ht7 hg7); have HY7 := Lib.hid (HY6.out.grown hg7 hgs0); have sz7 : s0 ≤ w7.heap.size := Nat.le_trans sz6 hg7.size; have e07 : w7.cell? ⟨G0 + 1, 0, none⟩ = some (.slice Ab b cb) := (by rw [← hlb]; exact HN7.out.c.1); clear ht7 hg7 HN6 HY6)
        go_wp2_with fail
        refine hK.out _ _ ?_ (fun hHeld => ?_)
        · (try dsimp only)
          (with_reducible exact e07)
        clear hK K
        try simp only [Act.put, List.setIfInBounds_toArray, List.set_cons_zero, List.set_cons_succ]
        refine wpAnyH_ready (rs := [25]) (by kernel_rfl) (by simp) ?_
        refine (AllReadyH.cons (o := { dst := some 90, op := Op.call { callee := Callee.value (Operand.func 11), args := #[Operand.tmp 89, Operand.const (Value.int IntKind.i64 3)], argTypes := #[38, 3] }, type := 3, pos := "made.go:191", after := #[{ on := 24, ground := Ground.data }, { on := 23, ground := Ground.chain }], guard := none }) rfl (fun K hK => ?_) AllReadyH.nil)
        go_simp
        (have h := HY7; clear h; go_at_call 11; (with_reducible change Calls _ _ _ w7 _); refine (next_c B gt _ 3 _ (HN7.out).tape (by omega) (by omega) (by omega)).mono ?_; rintro e w8 ⟨r8, hr8, rfl, ht8, hg8⟩; have HN8 := Lib.hid (HN7.out.next_ ht8 hg8); have HY8 := Lib.hid (HY7.out.grown hg8 hgs0); have sz8 : s0 ≤ w8.heap.size := Nat.le_trans sz7 hg8.size; have e08 : w8.cell? ⟨G0 + 1, 0, none⟩ = some (.slice Ab b cb) := (by rw [← hlb]; exact HN8.out.c.1); have hw8 : IntKind.i64.wrap (1 + (r8 : Int)) = 1 + (r8 : Int) := IntWalk.i64_in _ (by omega); obtain ⟨q0, q1, q2, q3, q4, q5⟩ := HY8.out.cells; have z0 := HY8.out.froz 0; have z1 := HY8.out.froz 1; have z2 := HY8.out.froz 2; have z3 := HY8.out.froz 3; have z4 := HY8.out.froz 4; have z5 := HY8.out.froz 5; clear ht8 hg8 HN7 HY7)
        go_wp2_with fail
        refine hK.out _ _ ?_ (fun hHeld => ?_)
        · (try dsimp only)
          (with_reducible exact e08)
        clear hK K
        try simp only [Act.put, List.setIfInBounds_toArray, List.set_cons_zero, List.set_cons_succ]
        refine wpAnyH_take (i := 26) (oi := { dst := some 91, op := Op.binOp BinOp.add 3 (Operand.const (Value.int IntKind.i64 1)) (Operand.tmp 90) 3, type := 3, pos := "made.go:191", after := #[{ on := 25, ground := Ground.data }], guard := none }) (v := ?v94) rfl (by kernel_rfl) (by kernel_rfl) (by kernel_rfl) (fun _ _ _ h => h) (Or.inl ⟨by rfl, ?hy94⟩) (by assumption) ?rest94
        case hy94 => ((intro w hSw; (try dsimp only at hSw); go_simp) <;> (with_reducible rfl))
        try simp only [Act.put, List.setIfInBounds_toArray, List.set_cons_zero, List.set_cons_succ]
        refine wpAnyH_take (i := 28) (oi := { dst := some 93, op := Op.build 66 #[(0, Operand.tmp 67), (1, Operand.tmp 78), (2, Operand.tmp 83), (3, Operand.tmp 88), (4, Operand.tmp 91), (5, Operand.tmp 92)], type := 66, pos := "made.go:191", after := #[{ on := 2, ground := Ground.data }, { on := 13, ground := Ground.data }, { on := 18, ground := Ground.data }, { on := 23, ground := Ground.data }, { on := 26, ground := Ground.data }, { on := 27, ground := Ground.data }], guard := none }) (v := ?v95) rfl (by kernel_rfl) (by kernel_rfl) (by kernel_rfl) (fun _ _ _ h => h) (Or.inl ⟨by rfl, ?hy95⟩) (by assumption) ?rest95
        case hy95 => ((intro w hSw; (try dsimp only at hSw); go_simp) <;> (with_reducible rfl))
        try simp only [Act.put, List.setIfInBounds_toArray, List.set_cons_zero, List.set_cons_succ]
        refine wpAnyH_ready (rs := [30]) (by kernel_rfl) (by simp) ?_
        refine (AllReadyH.cons (o := { dst := none, op := Op.store 66 (Operand.tmp 11) (Operand.tmp 93), type := 0, pos := "made.go:191", after := #[{ on := 29, ground := Ground.data }, { on := 28, ground := Ground.data }, { on := 25, ground := Ground.chain }, { on := 0, ground := Ground.phase }, { on := 1, ground := Ground.phase }, { on := 2, ground := Ground.phase }, { on := 3, ground := Ground.phase }, { on := 4, ground := Ground.phase }, { on := 5, ground := Ground.phase }, { on := 6, ground := Ground.phase }, { on := 7, ground := Ground.phase }, { on := 8, ground := Ground.phase }, { on := 9, ground := Ground.phase }, { on := 10, ground := Ground.phase }, { on := 11, ground := Ground.phase }, { on := 12, ground := Ground.phase }, { on := 13, ground := Ground.phase }, { on := 14, ground := Ground.phase }, { on := 15, ground := Ground.phase }, { on := 16, ground := Ground.phase }, { on := 17, ground := Ground.phase }, { on := 18, ground := Ground.phase }, { on := 19, ground := Ground.phase }, { on := 20, ground := Ground.phase }, { on := 21, ground := Ground.phase }, { on := 22, ground := Ground.phase }, { on := 23, ground := Ground.phase }, { on := 24, ground := Ground.phase }, { on := 25, ground := Ground.phase }, { on := 26, ground := Ground.phase }, { on := 27, ground := Ground.phase }, { on := 28, ground := Ground.phase }, { on := 29, ground := Ground.phase }], guard := none }) rfl (fun K hK => ?_) AllReadyH.nil)
        go_simp
        refine hK.out _ _ ?_ (fun hHeld => ?_)
        · (try dsimp only)
          (exact set6_cell e08 (by omega))
        clear hK K
        try simp only [Act.put, List.setIfInBounds_toArray, List.set_cons_zero, List.set_cons_succ]
        refine wpAnyH_done (by kernel_rfl) ?_ _
        refine NoPanic.normal ?_
        first | with_reducible exact HE.out _ _ r5 r6 r7 r8 _ _ _ _ _ _ _ _ _ _ _ _ _ _ _ _ _ _ _ _ _ _ _ _ _ _ _ _ _ (by omega) (by omega) (by omega) (by omega) HY8.out HN8.out | with_reducible exact HA.out _ r5 r6 r7 r8 _ _ _ _ _ _ _ _ _ _ _ _ _ _ _ _ _ _ _ _ _ _ _ _ _ _ _ _ _ (by omega) (by omega) (by omega) (by omega) HN8.out
    · go_simp
      refine hK.out _ _ ?_ (fun hHeld => ?_)
      · (try dsimp only)
        (with_reducible exact alloc_cells e04 _)
      clear hK K
      try simp only [Act.put, List.setIfInBounds_toArray, List.set_cons_zero, List.set_cons_succ]
      refine wpAnyH_ready (rs := [10]) (by kernel_rfl) (by simp) ?_
      refine (AllReadyH.cons (o := { dst := some 75, op := Op.call { callee := Callee.value (Operand.func 11), args := #[Operand.tmp 74, Operand.const (Value.int IntKind.i64 2)], argTypes := #[38, 3] }, type := 3, pos := "made.go:191", after := #[{ on := 9, ground := Ground.data }, { on := 8, ground := Ground.chain }, { on := 8, ground := Ground.guard }], guard := some (8, true) }) rfl (fun K hK => ?_) AllReadyH.nil)
      go_simp
      (have h := HN4; clear h; go_at_call 11; (with_reducible change Calls _ _ _ (World.alloc w4 _) _); refine (next_c B gt _ 2 _ (HN4.out.alloc zeroSpur).tape (by omega) (by omega) (by omega)).mono ?_; rintro e w5 ⟨r5, hr5, rfl, ht5, hg5⟩; have HN5 := Lib.hid ((HN4.out.alloc zeroSpur).next_ ht5 hg5); have HY5 := Lib.hid ((SpurBlk.new sz4).grown hg5 hgs0); have sz5 : s0 ≤ w5.heap.size := Nat.le_trans sz4 (Nat.le_trans (by simp) hg5.size); have e05 : w5.cell? ⟨G0 + 1, 0, none⟩ = some (.slice Ab b cb) := (by rw [← hlb]; exact HN5.out.c.1); clear ht5 hg5 HN4)
      go_wp2_with fail
      refine hK.out _ _ ?_ (fun hHeld => ?_)
      · (try dsimp only)
        (with_reducible exact e05)
      clear hK K
      try simp only [Act.put, List.setIfInBounds_toArray, List.set_cons_zero, List.set_cons_succ]
      refine wpAnyH_take (i := 11) (oi := { dst := some 76, op := Op.binOp BinOp.eql 3 (Operand.tmp 75) (Operand.const (Value.int IntKind.i64 0)) 3, type := 4, pos := "made.go:191", after := #[{ on := 10, ground := Ground.data }, { on := 8, ground := Ground.guard }], guard := some (8, true) }) (v := ?v96) rfl (by kernel_rfl) (by kernel_rfl) (by kernel_rfl) (fun _ _ _ h => h) (Or.inl ⟨by rfl, ?hy96⟩) (by assumption) ?rest96
      case hy96 => ((intro w hSw; (try dsimp only at hSw); go_simp) <;> (with_reducible rfl))
      try simp only [Act.put, List.setIfInBounds_toArray, List.set_cons_zero, List.set_cons_succ]
      refine wpAnyH_take (i := 12) (oi := { dst := some 77, op := Op.pick (Operand.tmp 73) (Operand.tmp 76) (Operand.const (Value.bool false)), type := 4, pos := "made.go:191", after := #[{ on := 8, ground := Ground.data }, { on := 11, ground := Ground.data }, { on := 5, ground := Ground.guard }], guard := some (5, false) }) (v := ?v97) rfl (by kernel_rfl) (by kernel_rfl) (by kernel_rfl) (fun _ _ _ h => h) (Or.inl ⟨by rfl, ?hy97⟩) (by assumption) ?rest97
      case hy97 => ((intro w hSw; (try dsimp only at hSw); go_simp) <;> (with_reducible rfl))
      try simp only [Act.put, List.setIfInBounds_toArray, List.set_cons_zero, List.set_cons_succ]
      refine wpAnyH_take (i := 13) (oi := { dst := some 78, op := Op.pick (Operand.tmp 70) (Operand.const (Value.bool true)) (Operand.tmp 77), type := 4, pos := "made.go:191", after := #[{ on := 5, ground := Ground.data }, { on := 12, ground := Ground.data }], guard := none }) (v := ?v98) rfl (by kernel_rfl) (by kernel_rfl) (by kernel_rfl) (fun _ _ _ h => h) (Or.inl ⟨by rfl, ?hy98⟩) (by assumption) ?rest98
      case hy98 => ((intro w hSw; (try dsimp only at hSw); go_simp) <;> (with_reducible rfl))
      try simp only [Act.put, List.setIfInBounds_toArray, List.set_cons_zero, List.set_cons_succ]
      refine wpAnyH_ready (rs := [18]) (by kernel_rfl) (by simp) ?_
      refine (AllReadyH.cons (o := { dst := some 83, op := Op.call { callee := Callee.value (Operand.func 11), args := #[Operand.tmp 79, Operand.tmp 82], argTypes := #[38, 3] }, type := 3, pos := "made.go:191", after := #[{ on := 14, ground := Ground.data }, { on := 17, ground := Ground.data }, { on := 10, ground := Ground.chain }], guard := none }) rfl (fun K hK => ?_) AllReadyH.nil)
      go_simp
      (have h := HY5; clear h; go_at_call 11; (with_reducible change Calls _ _ _ w5 _); refine (next_c B gt _ b _ (HN5.out).tape (by omega) (by omega) (by omega)).mono ?_; rintro e w6 ⟨r6, hr6, rfl, ht6, hg6⟩; have HN6 := Lib.hid (HN5.out.next_ ht6 hg6); have HY6 := Lib.hid (HY5.out.grown hg6 hgs0); have sz6 : s0 ≤ w6.heap.size := Nat.le_trans sz5 hg6.size; have e06 : w6.cell? ⟨G0 + 1, 0, none⟩ = some (.slice Ab b cb) := (by rw [← hlb]; exact HN6.out.c.1); clear ht6 hg6 HN5 HY5)
      go_wp2_with fail
      refine hK.out _ _ ?_ (fun hHeld => ?_)
      · (try dsimp only)
        (with_reducible exact e06)
      clear hK K
      try simp only [Act.put, List.setIfInBounds_toArray, List.set_cons_zero, List.set_cons_succ]
      refine wpAnyH_ready (rs := [23]) (by kernel_rfl) (by simp) ?_
      refine (AllReadyH.cons (o := { dst := some 88, op := Op.call { callee := Callee.value (Operand.func 11), args := #[Operand.tmp 84, Operand.tmp 87], argTypes := #[38, 3] }, type := 3, pos := "made.go:191", after := #[{ on := 19, ground := Ground.data }, { on := 22, ground := Ground.data }, { on := 18, ground := Ground.chain }], guard := none }) rfl (fun K hK => ?_) AllReadyH.nil)
      go_simp
      (have h := HY6; clear h; go_at_call 11; (with_reducible change Calls _ _ _ w6 _); refine (next_c B gt _ b _ (HN6.out).tape (by omega) (by omega) (by omega)).mono ?_; rintro e w7 ⟨r7, hr7, rfl, ht7, hg7⟩; have HN7 := Lib.hid (HN6.out.next_ ht7 hg7); have HY7 := Lib.hid (HY6.out.grown hg7 hgs0); have sz7 : s0 ≤ w7.heap.size := Nat.le_trans sz6 hg7.size; have e07 : w7.cell? ⟨G0 + 1, 0, none⟩ = some (.slice Ab b cb) := (by rw [← hlb]; exact HN7.out.c.1); clear ht7 hg7 HN6 HY6)
      go_wp2_with fail
      refine hK.out _ _ ?_ (fun hHeld => ?_)
      · (try dsimp only)
        (with_reducible exact e07)
      clear hK K
      try simp only [Act.put, List.setIfInBounds_toArray, List.set_cons_zero, List.set_cons_succ]
      refine wpAnyH_ready (rs := [25]) (by kernel_rfl) (by simp) ?_
      refine (AllReadyH.cons (o := { dst := some 90, op := Op.call { callee := Callee.value (Operand.func 11), args := #[Operand.tmp 89, Operand.const (Value.int IntKind.i64 3)], argTypes := #[38, 3] }, type := 3, pos := "made.go:191", after := #[{ on := 24, ground := Ground.data }, { on := 23, ground := Ground.chain }], guard := none }) rfl (fun K hK => ?_) AllReadyH.nil)
      go_simp
      (have h := HY7; clear h; go_at_call 11; (with_reducible change Calls _ _ _ w7 _); refine (next_c B gt _ 3 _ (HN7.out).tape (by omega) (by omega) (by omega)).mono ?_; rintro e w8 ⟨r8, hr8, rfl, ht8, hg8⟩; have HN8 := Lib.hid (HN7.out.next_ ht8 hg8); have HY8 := Lib.hid (HY7.out.grown hg8 hgs0); have sz8 : s0 ≤ w8.heap.size := Nat.le_trans sz7 hg8.size; have e08 : w8.cell? ⟨G0 + 1, 0, none⟩ = some (.slice Ab b cb) := (by rw [← hlb]; exact HN8.out.c.1); have hw8 : IntKind.i64.wrap (1 + (r8 : Int)) = 1 + (r8 : Int) := IntWalk.i64_in _ (by omega); obtain ⟨q0, q1, q2, q3, q4, q5⟩ := HY8.out.cells; have z0 := HY8.out.froz 0; have z1 := HY8.out.froz 1; have z2 := HY8.out.froz 2; have z3 := HY8.out.froz 3; have z4 := HY8.out.froz 4; have z5 := HY8.out.froz 5; clear ht8 hg8 HN7 HY7)
      go_wp2_with fail
      refine hK.out _ _ ?_ (fun hHeld => ?_)
      · (try dsimp only)
        (with_reducible exact e08)
      clear hK K
      try simp only [Act.put, List.setIfInBounds_toArray, List.set_cons_zero, List.set_cons_succ]
      refine wpAnyH_take (i := 26) (oi := { dst := some 91, op := Op.binOp BinOp.add 3 (Operand.const (Value.int IntKind.i64 1)) (Operand.tmp 90) 3, type := 3, pos := "made.go:191", after := #[{ on := 25, ground := Ground.data }], guard := none }) (v := ?v99) rfl (by kernel_rfl) (by kernel_rfl) (by kernel_rfl) (fun _ _ _ h => h) (Or.inl ⟨by rfl, ?hy99⟩) (by assumption) ?rest99
      case hy99 => ((intro w hSw; (try dsimp only at hSw); go_simp) <;> (with_reducible rfl))
      try simp only [Act.put, List.setIfInBounds_toArray, List.set_cons_zero, List.set_cons_succ]
      refine wpAnyH_take (i := 28) (oi := { dst := some 93, op := Op.build 66 #[(0, Operand.tmp 67), (1, Operand.tmp 78), (2, Operand.tmp 83), (3, Operand.tmp 88), (4, Operand.tmp 91), (5, Operand.tmp 92)], type := 66, pos := "made.go:191", after := #[{ on := 2, ground := Ground.data }, { on := 13, ground := Ground.data }, { on := 18, ground := Ground.data }, { on := 23, ground := Ground.data }, { on := 26, ground := Ground.data }, { on := 27, ground := Ground.data }], guard := none }) (v := ?v100) rfl (by kernel_rfl) (by kernel_rfl) (by kernel_rfl) (fun _ _ _ h => h) (Or.inl ⟨by rfl, ?hy100⟩) (by assumption) ?rest100
      case hy100 => ((intro w hSw; (try dsimp only at hSw); go_simp) <;> (with_reducible rfl))
      try simp only [Act.put, List.setIfInBounds_toArray, List.set_cons_zero, List.set_cons_succ]
      refine wpAnyH_ready (rs := [30]) (by kernel_rfl) (by simp) ?_
      refine (AllReadyH.cons (o := { dst := none, op := Op.store 66 (Operand.tmp 11) (Operand.tmp 93), type := 0, pos := "made.go:191", after := #[{ on := 29, ground := Ground.data }, { on := 28, ground := Ground.data }, { on := 25, ground := Ground.chain }, { on := 0, ground := Ground.phase }, { on := 1, ground := Ground.phase }, { on := 2, ground := Ground.phase }, { on := 3, ground := Ground.phase }, { on := 4, ground := Ground.phase }, { on := 5, ground := Ground.phase }, { on := 6, ground := Ground.phase }, { on := 7, ground := Ground.phase }, { on := 8, ground := Ground.phase }, { on := 9, ground := Ground.phase }, { on := 10, ground := Ground.phase }, { on := 11, ground := Ground.phase }, { on := 12, ground := Ground.phase }, { on := 13, ground := Ground.phase }, { on := 14, ground := Ground.phase }, { on := 15, ground := Ground.phase }, { on := 16, ground := Ground.phase }, { on := 17, ground := Ground.phase }, { on := 18, ground := Ground.phase }, { on := 19, ground := Ground.phase }, { on := 20, ground := Ground.phase }, { on := 21, ground := Ground.phase }, { on := 22, ground := Ground.phase }, { on := 23, ground := Ground.phase }, { on := 24, ground := Ground.phase }, { on := 25, ground := Ground.phase }, { on := 26, ground := Ground.phase }, { on := 27, ground := Ground.phase }, { on := 28, ground := Ground.phase }, { on := 29, ground := Ground.phase }], guard := none }) rfl (fun K hK => ?_) AllReadyH.nil)
      go_simp
      refine hK.out _ _ ?_ (fun hHeld => ?_)
      · (try dsimp only)
        (exact set6_cell e08 (by omega))
      clear hK K
      try simp only [Act.put, List.setIfInBounds_toArray, List.set_cons_zero, List.set_cons_succ]
      refine wpAnyH_done (by kernel_rfl) ?_ _
      refine NoPanic.normal ?_
      first | with_reducible exact HE.out _ _ r5 r6 r7 r8 _ _ _ _ _ _ _ _ _ _ _ _ _ _ _ _ _ _ _ _ _ _ _ _ _ _ _ _ _ (by omega) (by omega) (by omega) (by omega) HY8.out HN8.out | with_reducible exact HA.out _ r5 r6 r7 r8 _ _ _ _ _ _ _ _ _ _ _ _ _ _ _ _ _ _ _ _ _ _ _ _ _ _ _ _ _ (by omega) (by omega) (by omega) (by omega) HN8.out
  · go_simp
    refine hK.out _ _ ?_ (fun hHeld => ?_)
    · (try dsimp only)
      (with_reducible exact f0da _)
    clear hK K
    try simp only [Act.put, List.setIfInBounds_toArray, List.set_cons_zero, List.set_cons_succ]
    refine wpAnyH_ready (rs := [1]) (by kernel_rfl) (by simp) ?_
    refine (AllReadyH.cons (o := { dst := some 66, op := Op.call { callee := Callee.value (Operand.func 43), args := #[Operand.tmp 65], argTypes := #[3] }, type := 9, pos := "made.go:191", after := #[{ on := 0, ground := Ground.data }], guard := none }) rfl (fun K hK => ?_) AllReadyH.nil)
    go_simp
    (go_at_call 43; refine (HD.out _).mono ?_; rintro e w4 ⟨rfl, hb4⟩; (first | (have hb5 : Below wr.drew.heap.size wr.drew w4 := (by with_reducible exact hb4); clear hb5; have HN4 := Lib.hid (H.out.drew.keep hb4); have sz4 : s0 ≤ w4.heap.size := Nat.le_trans HSZ.out hb4.size) | (have hyd : SpurBlk (wr.alloc zeroSpur).drew s0 wr.heap.size #[.string ByteArray.empty, .bool false, .int .i64 0, .int .i64 0, .int .i64 0, .int .i64 0] := SpurBlk.new HSZ.out; have HN4 := Lib.hid ((H.out.alloc zeroSpur).drew.keep hb4); have HY4 := Lib.hid (hyd.keep hb4); clear hyd; have sz4 : s0 ≤ w4.heap.size := Nat.le_trans HSZ.out (Nat.le_trans (by simp) hb4.size))); have e04 : w4.cell? ⟨G0 + 1, 0, none⟩ = some (.slice Ab b cb) := (by rw [← hlb]; exact HN4.out.c.1); clear hb4)
    go_wp2_with fail
    refine hK.out _ _ ?_ (fun hHeld => ?_)
    · (try dsimp only)
      (with_reducible exact e04)
    clear hK K
    try simp only [Act.put, List.setIfInBounds_toArray, List.set_cons_zero, List.set_cons_succ]
    refine wpAnyH_take (i := 2) (oi := { dst := some 67, op := Op.binOp BinOp.add 9 (Operand.const (Value.string { data := #[115] })) (Operand.tmp 66) 9, type := 9, pos := "made.go:191", after := #[{ on := 1, ground := Ground.data }], guard := none }) (v := ?v101) rfl (by kernel_rfl) (by kernel_rfl) (by kernel_rfl) (fun _ _ _ h => h) (Or.inl ⟨by rfl, ?hy101⟩) (by assumption) ?rest101
    case hy101 => ((intro w hSw; (try dsimp only at hSw); go_simp) <;> (with_reducible rfl))
    try simp only [Act.put, List.setIfInBounds_toArray, List.set_cons_zero, List.set_cons_succ]
    refine wpAnyH_take (i := 5) (oi := { dst := some 70, op := Op.move (Operand.tmp 69), type := 4, pos := "made.go:191", after := #[{ on := 4, ground := Ground.data }, { on := 1, ground := Ground.chain }], guard := none }) (v := ?v102) rfl (by kernel_rfl) (by kernel_rfl) (by kernel_rfl) (fun _ _ _ h => h) (Or.inl ⟨by rfl, ?hy102⟩) (by assumption) ?rest102
    case hy102 => ((intro w hSw; (try dsimp only at hSw); go_simp) <;> (with_reducible rfl))
    try simp only [Act.put, List.setIfInBounds_toArray, List.set_cons_zero, List.set_cons_succ]
    refine wpAnyH_take (i := 6) (oi := { dst := some 71, op := Op.move (Operand.tmp 10), type := 3, pos := "made.go:191", after := #[{ on := 5, ground := Ground.guard }], guard := some (5, false) }) (v := ?v103) rfl (by kernel_rfl) (by kernel_rfl) (by kernel_rfl) (fun _ _ _ h => h) (Or.inl ⟨by rfl, ?hy103⟩) (by assumption) ?rest103
    case hy103 => ((intro w hSw; (try dsimp only at hSw); go_simp) <;> (with_reducible rfl))
    try simp only [Act.put, List.setIfInBounds_toArray, List.set_cons_zero, List.set_cons_succ]
    refine wpAnyH_take (i := 7) (oi := { dst := some 72, op := Op.binOp BinOp.gtr 3 (Operand.tmp 71) (Operand.const (Value.int IntKind.i64 2)) 3, type := 4, pos := "made.go:191", after := #[{ on := 6, ground := Ground.data }, { on := 5, ground := Ground.guard }], guard := some (5, false) }) (v := ?v104) rfl (by kernel_rfl) (by kernel_rfl) (by kernel_rfl) (fun _ _ _ h => h) (Or.inl ⟨by rfl, ?hy104⟩) (by assumption) ?rest104
    case hy104 => ((intro w hSw; (try dsimp only at hSw); go_simp) <;> (with_reducible rfl))
    try simp only [Act.put, List.setIfInBounds_toArray, List.set_cons_zero, List.set_cons_succ]
    refine wpAnyH_take (i := 8) (oi := { dst := some 73, op := Op.move (Operand.tmp 72), type := 4, pos := "made.go:191", after := #[{ on := 7, ground := Ground.data }, { on := 5, ground := Ground.chain }, { on := 5, ground := Ground.guard }], guard := some (5, false) }) (v := ?v105) rfl (by kernel_rfl) (by kernel_rfl) (by kernel_rfl) (fun _ _ _ h => h) (Or.inl ⟨by rfl, ?hy105⟩) (by assumption) ?rest105
    case hy105 => ((intro w hSw; (try dsimp only at hSw); go_simp) <;> (with_reducible rfl))
    try simp only [Act.put, List.setIfInBounds_toArray, List.set_cons_zero, List.set_cons_succ]
    refine wpAnyH_take (i := 9) (oi := { dst := some 74, op := Op.move (Operand.tmp 0), type := 38, pos := "made.go:191", after := #[{ on := 8, ground := Ground.guard }], guard := some (8, true) }) (v := ?v106) rfl (by kernel_rfl) (by kernel_rfl) (by kernel_rfl) (fun _ _ _ h => h) (Or.inl ⟨by rfl, ?hy106⟩) (by assumption) ?rest106
    case hy106 => ((intro w hSw; (try dsimp only at hSw); go_simp) <;> (with_reducible rfl))
    try simp only [Act.put, List.setIfInBounds_toArray, List.set_cons_zero, List.set_cons_succ]
    refine wpAnyH_ready (rs := [10]) (by kernel_rfl) (by simp) ?_
    refine (AllReadyH.cons (o := { dst := some 75, op := Op.call { callee := Callee.value (Operand.func 11), args := #[Operand.tmp 74, Operand.const (Value.int IntKind.i64 2)], argTypes := #[38, 3] }, type := 3, pos := "made.go:191", after := #[{ on := 9, ground := Ground.data }, { on := 8, ground := Ground.chain }, { on := 8, ground := Ground.guard }], guard := some (8, true) }) rfl (fun K hK => ?_) AllReadyH.nil)
    go_simp
    (have h := HY4; clear h; go_at_call 11; (with_reducible change Calls _ _ _ w4 _); refine (next_c B gt _ 2 _ (HN4.out).tape (by omega) (by omega) (by omega)).mono ?_; rintro e w5 ⟨r5, hr5, rfl, ht5, hg5⟩; have HN5 := Lib.hid (HN4.out.next_ ht5 hg5); have HY5 := Lib.hid (HY4.out.grown hg5 hgs0); have sz5 : s0 ≤ w5.heap.size := Nat.le_trans sz4 hg5.size; have e05 : w5.cell? ⟨G0 + 1, 0, none⟩ = some (.slice Ab b cb) := (by rw [← hlb]; exact HN5.out.c.1); clear ht5 hg5 HN4 HY4)
    go_wp2_with fail
    refine hK.out _ _ ?_ (fun hHeld => ?_)
    · (try dsimp only)
      (with_reducible exact e05)
    clear hK K
    try simp only [Act.put, List.setIfInBounds_toArray, List.set_cons_zero, List.set_cons_succ]
    refine wpAnyH_take (i := 11) (oi := { dst := some 76, op := Op.binOp BinOp.eql 3 (Operand.tmp 75) (Operand.const (Value.int IntKind.i64 0)) 3, type := 4, pos := "made.go:191", after := #[{ on := 10, ground := Ground.data }, { on := 8, ground := Ground.guard }], guard := some (8, true) }) (v := ?v107) rfl (by kernel_rfl) (by kernel_rfl) (by kernel_rfl) (fun _ _ _ h => h) (Or.inl ⟨by rfl, ?hy107⟩) (by assumption) ?rest107
    case hy107 => ((intro w hSw; (try dsimp only at hSw); go_simp) <;> (with_reducible rfl))
    try simp only [Act.put, List.setIfInBounds_toArray, List.set_cons_zero, List.set_cons_succ]
    refine wpAnyH_take (i := 12) (oi := { dst := some 77, op := Op.pick (Operand.tmp 73) (Operand.tmp 76) (Operand.const (Value.bool false)), type := 4, pos := "made.go:191", after := #[{ on := 8, ground := Ground.data }, { on := 11, ground := Ground.data }, { on := 5, ground := Ground.guard }], guard := some (5, false) }) (v := ?v108) rfl (by kernel_rfl) (by kernel_rfl) (by kernel_rfl) (fun _ _ _ h => h) (Or.inl ⟨by rfl, ?hy108⟩) (by assumption) ?rest108
    case hy108 => ((intro w hSw; (try dsimp only at hSw); go_simp) <;> (with_reducible rfl))
    try simp only [Act.put, List.setIfInBounds_toArray, List.set_cons_zero, List.set_cons_succ]
    refine wpAnyH_take (i := 13) (oi := { dst := some 78, op := Op.pick (Operand.tmp 70) (Operand.const (Value.bool true)) (Operand.tmp 77), type := 4, pos := "made.go:191", after := #[{ on := 5, ground := Ground.data }, { on := 12, ground := Ground.data }], guard := none }) (v := ?v109) rfl (by kernel_rfl) (by kernel_rfl) (by kernel_rfl) (fun _ _ _ h => h) (Or.inl ⟨by rfl, ?hy109⟩) (by assumption) ?rest109
    case hy109 => ((intro w hSw; (try dsimp only at hSw); go_simp) <;> (with_reducible rfl))
    try simp only [Act.put, List.setIfInBounds_toArray, List.set_cons_zero, List.set_cons_succ]
    refine wpAnyH_ready (rs := [18]) (by kernel_rfl) (by simp) ?_
    refine (AllReadyH.cons (o := { dst := some 83, op := Op.call { callee := Callee.value (Operand.func 11), args := #[Operand.tmp 79, Operand.tmp 82], argTypes := #[38, 3] }, type := 3, pos := "made.go:191", after := #[{ on := 14, ground := Ground.data }, { on := 17, ground := Ground.data }, { on := 10, ground := Ground.chain }], guard := none }) rfl (fun K hK => ?_) AllReadyH.nil)
    go_simp
    (have h := HY5; clear h; go_at_call 11; (with_reducible change Calls _ _ _ w5 _); refine (next_c B gt _ b _ (HN5.out).tape (by omega) (by omega) (by omega)).mono ?_; rintro e w6 ⟨r6, hr6, rfl, ht6, hg6⟩; have HN6 := Lib.hid (HN5.out.next_ ht6 hg6); have HY6 := Lib.hid (HY5.out.grown hg6 hgs0); have sz6 : s0 ≤ w6.heap.size := Nat.le_trans sz5 hg6.size; have e06 : w6.cell? ⟨G0 + 1, 0, none⟩ = some (.slice Ab b cb) := (by rw [← hlb]; exact HN6.out.c.1); clear ht6 hg6 HN5 HY5)
    go_wp2_with fail
    refine hK.out _ _ ?_ (fun hHeld => ?_)
    · (try dsimp only)
      (with_reducible exact e06)
    clear hK K
    try simp only [Act.put, List.setIfInBounds_toArray, List.set_cons_zero, List.set_cons_succ]
    refine wpAnyH_ready (rs := [23]) (by kernel_rfl) (by simp) ?_
    refine (AllReadyH.cons (o := { dst := some 88, op := Op.call { callee := Callee.value (Operand.func 11), args := #[Operand.tmp 84, Operand.tmp 87], argTypes := #[38, 3] }, type := 3, pos := "made.go:191", after := #[{ on := 19, ground := Ground.data }, { on := 22, ground := Ground.data }, { on := 18, ground := Ground.chain }], guard := none }) rfl (fun K hK => ?_) AllReadyH.nil)
    go_simp
    (have h := HY6; clear h; go_at_call 11; (with_reducible change Calls _ _ _ w6 _); refine (next_c B gt _ b _ (HN6.out).tape (by omega) (by omega) (by omega)).mono ?_; rintro e w7 ⟨r7, hr7, rfl, ht7, hg7⟩; have HN7 := Lib.hid (HN6.out.next_ ht7 hg7); have HY7 := Lib.hid (HY6.out.grown hg7 hgs0); have sz7 : s0 ≤ w7.heap.size := Nat.le_trans sz6 hg7.size; have e07 : w7.cell? ⟨G0 + 1, 0, none⟩ = some (.slice Ab b cb) := (by rw [← hlb]; exact HN7.out.c.1); clear ht7 hg7 HN6 HY6)
    go_wp2_with fail
    refine hK.out _ _ ?_ (fun hHeld => ?_)
    · (try dsimp only)
      (with_reducible exact e07)
    clear hK K
    try simp only [Act.put, List.setIfInBounds_toArray, List.set_cons_zero, List.set_cons_succ]
    refine wpAnyH_ready (rs := [25]) (by kernel_rfl) (by simp) ?_
    refine (AllReadyH.cons (o := { dst := some 90, op := Op.call { callee := Callee.value (Operand.func 11), args := #[Operand.tmp 89, Operand.const (Value.int IntKind.i64 3)], argTypes := #[38, 3] }, type := 3, pos := "made.go:191", after := #[{ on := 24, ground := Ground.data }, { on := 23, ground := Ground.chain }], guard := none }) rfl (fun K hK => ?_) AllReadyH.nil)
    go_simp
    (have h := HY7; clear h; go_at_call 11; (with_reducible change Calls _ _ _ w7 _); refine (next_c B gt _ 3 _ (HN7.out).tape (by omega) (by omega) (by omega)).mono ?_; rintro e w8 ⟨r8, hr8, rfl, ht8, hg8⟩; have HN8 := Lib.hid (HN7.out.next_ ht8 hg8); have HY8 := Lib.hid (HY7.out.grown hg8 hgs0); have sz8 : s0 ≤ w8.heap.size := Nat.le_trans sz7 hg8.size; have e08 : w8.cell? ⟨G0 + 1, 0, none⟩ = some (.slice Ab b cb) := (by rw [← hlb]; exact HN8.out.c.1); have hw8 : IntKind.i64.wrap (1 + (r8 : Int)) = 1 + (r8 : Int) := IntWalk.i64_in _ (by omega); obtain ⟨q0, q1, q2, q3, q4, q5⟩ := HY8.out.cells; have z0 := HY8.out.froz 0; have z1 := HY8.out.froz 1; have z2 := HY8.out.froz 2; have z3 := HY8.out.froz 3; have z4 := HY8.out.froz 4; have z5 := HY8.out.froz 5; clear ht8 hg8 HN7 HY7)
    go_wp2_with fail
    refine hK.out _ _ ?_ (fun hHeld => ?_)
    · (try dsimp only)
      (with_reducible exact e08)
    clear hK K
    try simp only [Act.put, List.setIfInBounds_toArray, List.set_cons_zero, List.set_cons_succ]
    refine wpAnyH_take (i := 26) (oi := { dst := some 91, op := Op.binOp BinOp.add 3 (Operand.const (Value.int IntKind.i64 1)) (Operand.tmp 90) 3, type := 3, pos := "made.go:191", after := #[{ on := 25, ground := Ground.data }], guard := none }) (v := ?v110) rfl (by kernel_rfl) (by kernel_rfl) (by kernel_rfl) (fun _ _ _ h => h) (Or.inl ⟨by rfl, ?hy110⟩) (by assumption) ?rest110
    case hy110 => ((intro w hSw; (try dsimp only at hSw); go_simp) <;> (with_reducible rfl))
    try simp only [Act.put, List.setIfInBounds_toArray, List.set_cons_zero, List.set_cons_succ]
    refine wpAnyH_take (i := 28) (oi := { dst := some 93, op := Op.build 66 #[(0, Operand.tmp 67), (1, Operand.tmp 78), (2, Operand.tmp 83), (3, Operand.tmp 88), (4, Operand.tmp 91), (5, Operand.tmp 92)], type := 66, pos := "made.go:191", after := #[{ on := 2, ground := Ground.data }, { on := 13, ground := Ground.data }, { on := 18, ground := Ground.data }, { on := 23, ground := Ground.data }, { on := 26, ground := Ground.data }, { on := 27, ground := Ground.data }], guard := none }) (v := ?v111) rfl (by kernel_rfl) (by kernel_rfl) (by kernel_rfl) (fun _ _ _ h => h) (Or.inl ⟨by rfl, ?hy111⟩) (by assumption) ?rest111
    case hy111 => ((intro w hSw; (try dsimp only at hSw); go_simp) <;> (with_reducible rfl))
    try simp only [Act.put, List.setIfInBounds_toArray, List.set_cons_zero, List.set_cons_succ]
    refine wpAnyH_ready (rs := [30]) (by kernel_rfl) (by simp) ?_
    refine (AllReadyH.cons (o := { dst := none, op := Op.store 66 (Operand.tmp 11) (Operand.tmp 93), type := 0, pos := "made.go:191", after := #[{ on := 29, ground := Ground.data }, { on := 28, ground := Ground.data }, { on := 25, ground := Ground.chain }, { on := 0, ground := Ground.phase }, { on := 1, ground := Ground.phase }, { on := 2, ground := Ground.phase }, { on := 3, ground := Ground.phase }, { on := 4, ground := Ground.phase }, { on := 5, ground := Ground.phase }, { on := 6, ground := Ground.phase }, { on := 7, ground := Ground.phase }, { on := 8, ground := Ground.phase }, { on := 9, ground := Ground.phase }, { on := 10, ground := Ground.phase }, { on := 11, ground := Ground.phase }, { on := 12, ground := Ground.phase }, { on := 13, ground := Ground.phase }, { on := 14, ground := Ground.phase }, { on := 15, ground := Ground.phase }, { on := 16, ground := Ground.phase }, { on := 17, ground := Ground.phase }, { on := 18, ground := Ground.phase }, { on := 19, ground := Ground.phase }, { on := 20, ground := Ground.phase }, { on := 21, ground := Ground.phase }, { on := 22, ground := Ground.phase }, { on := 23, ground := Ground.phase }, { on := 24, ground := Ground.phase }, { on := 25, ground := Ground.phase }, { on := 26, ground := Ground.phase }, { on := 27, ground := Ground.phase }, { on := 28, ground := Ground.phase }, { on := 29, ground := Ground.phase }], guard := none }) rfl (fun K hK => ?_) AllReadyH.nil)
    go_simp
    refine hK.out _ _ ?_ (fun hHeld => ?_)
    · (try dsimp only)
      (exact set6_cell e08 (by omega))
    clear hK K
    try simp only [Act.put, List.setIfInBounds_toArray, List.set_cons_zero, List.set_cons_succ]
    refine wpAnyH_done (by kernel_rfl) ?_ _
    refine NoPanic.normal ?_
    first | with_reducible exact HE.out _ _ r5 r6 r7 r8 _ _ _ _ _ _ _ _ _ _ _ _ _ _ _ _ _ _ _ _ _ _ _ _ _ _ _ _ _ (by omega) (by omega) (by omega) (by omega) HY8.out HN8.out | with_reducible exact HA.out _ r5 r6 r7 r8 _ _ _ _ _ _ _ _ _ _ _ _ _ _ _ _ _ _ _ _ _ _ _ _ _ _ _ _ _ (by omega) (by omega) (by omega) (by omega) HN8.out
end Go.Proofs.Ytmdnkpiihhaoeaa
