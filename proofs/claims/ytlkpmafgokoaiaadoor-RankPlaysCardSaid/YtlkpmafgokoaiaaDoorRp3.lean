/-
  The walk of RankPlays' second loop's one great condition: for a tree of the row and the reference's of the same number each call answers as the document says, so the condition is false; nothing that was there has changed. Conditions: as the walk finds the world there.
-/
import Derived.Test.YtlkpmafgokoaiaaDoorRp1
namespace Go.Proofs.YtlkpmafgokoaiaaDoor
open Go.Sort Go.RowKit

set_option maxRecDepth 100000 in
set_option maxHeartbeats 64000000 in
theorem told_any (wl w4 : World) (mb gu cu gv cv L j b19 k1 k2 : Nat) (t : Option Tre) (p : Option Addr) (r x1 x2 : Int) (A1 A2' : Option Addr) (fl : Bool) (a0 a1 a2 a3 a4 a7 a8 a9 a10 a11 a12 a13 a14 a15 a16 a17 a21 a22 a23 a24 a25 a26 a27 a28 a29 a30 a31 a32 a33 a34 a35 a36 a37 a38 a39 a40 a41 a42 a43 a44 a45 a46 a47 a48 a49 a50 a51 a52 a53 a54 a55 a56 a57 a58 a59 a60 a61 a62 a63 a64 a65 a66 a67 a68 a69 a70 a71 a72 a73 a74 a75 a76 a77 a78 a79 a80 a81 a82 a83 a84 a85 a86 a87 a88 a89 a90 a91 a92 a93 a94 a95 a96 a97 a98 a99 a100 a101 a102 a103 a104 a105 a106 a107 a108 a109 a110 a111 a112 a113 a114 a115 a116 a117 a118 a119 a120 a121 a122 a123 a124 a125 a126 a127 a128 a129 a130 a131 a132 a133 a134 a135 a136 a137 a138 a139 a140 a141 a142 a143 a144 a145 a146 a147 a148 a149 a150 a151 a152 a153 a154 a155 a156 a157 a158 a159 a160 a161 a162 a163 a164 a165 a166 a167 a168 a169 a170 a171 a172 a173 a174 a175 a176 a177 a178 a179 a180 a181 a182 a183 a184 a185 a186 a187 a188 a189 a190 a191 a192 a193 a194 a195 a196 a197 a198 a199 a200 a201 a202 a203 a204 a205 a206 a207 a208 a209 a210 a211 a212 a213 a214 a215 a216 a217 a218 a219 a220 a221 a222 a223 a224 a225 a226 a227 a228 a229 a230 a231 a232 a233 a234 a235 a236 a237 a238 a239 a240 a241 a242 a243 a244 a245 a246 a247 a248 a249 a250 a251 a252 a253 a254 a255 a256 a257 a258 a259 a260 a261 a262 a263 a264 a265 a266 a267 a268 a269 a270 a271 a272 a273 a274 a275 a276 a277 a278 a279 a280 a281 a282 a283 a284 a285 a286 a287 a288 a289 a290 a291 : Value) (Q : Exit → Act → World → Prop)
    (HW : Hid (∀ W, Below wl.heap.size wl W → Env W ∧ TAt W p t ∧ RT (Fp (.slice (some ⟨gu, 0, none⟩) L cu) (.slice (some ⟨gv, 0, none⟩) L cv) mb) W (tV r (x1, x2) (.slice A1 (obeside t).length k1) (.slice A2' (okids t).len k2) (osize t : Nat)) t ∧ Row W A1 (obeside t)))
    (HC : Hid (∀ W, Below wl.heap.size wl W → W.cell? ⟨gu, j, none⟩ = some (.pointer p) ∧ W.cell? ⟨gv, j * 6, none⟩ = some (.int .i64 r) ∧ W.cell? ⟨gv, j * 6 + 1, none⟩ = some (.int .i64 x1) ∧ W.cell? ⟨gv, j * 6 + 2, none⟩ = some (.int .i64 x2) ∧ W.cell? ⟨gv, j * 6 + 3, none⟩ = some (.slice A1 (obeside t).length k1) ∧ W.cell? ⟨gv, j * 6 + 4, none⟩ = some (.slice A2' (okids t).len k2) ∧ W.cell? ⟨gv, j * 6 + 5, none⟩ = some (.int .i64 (osize t : Nat))))
    (HF : Hid (fits (oall t))) (HBD : Hid (osize t < 1073741824 ∧ osize t < 268435456)) (HLn : Hid ((oall t).length < 2147483648 ∧ (obeside t).length < 2147483648)) (B4 : Hid (Below wl.heap.size wl w4)) (P4 : Hid (PairAt w4 b19 x1 x2))
    (f2 : decide (0 < osize t) = fl) (g2 : (0 : Int) ≤ (j : Int)) (g3 : (j : Int) < (L : Int))
    (hQ : ∀ (x180 x181 x182 x183 x184 x185 x186 x187 x188 x189 x190 x191 x192 x193 x194 x195 x196 x197 x198 x199 x200 x201 x202 x203 x204 x205 x206 x207 x208 x209 x210 x211 x212 x213 x214 x215 x216 x217 x218 x219 x220 x221 x222 x223 x224 x225 x226 x227 x228 x229 x230 x231 x232 x233 x234 x235 x236 x237 x238 x239 x240 x241 x242 x243 x244 x245 x246 x247 x248 x249 x250 x251 x252 x253 x254 x255 x256 x257 x258 x259 x260 x261 x262 x263 x264 x265 x266 x267 x268 x269 x270 x271 x272 x273 x274 x275 x276 x277 x278 x279 x280 x281 x282 x283 x284 x285 x286 x287 x288 x289 x290 : Value) (w' : World), Below wl.heap.size wl w' → Q .normal { tmps := (a0 :: a1 :: a2 :: a3 :: a4 :: .slice (some ⟨gu, 0, none⟩) L cu :: .slice (some ⟨gv, 0, none⟩) L cv :: a7 :: a8 :: a9 :: a10 :: a11 :: a12 :: a13 :: a14 :: a15 :: a16 :: a17 :: .int .i64 (j : Int) :: .pointer (some ⟨b19, 0, none⟩) :: .bool fl :: a21 :: a22 :: a23 :: a24 :: a25 :: a26 :: a27 :: a28 :: a29 :: a30 :: a31 :: a32 :: a33 :: a34 :: a35 :: a36 :: a37 :: a38 :: a39 :: a40 :: a41 :: a42 :: a43 :: a44 :: a45 :: a46 :: a47 :: a48 :: a49 :: a50 :: a51 :: a52 :: a53 :: a54 :: a55 :: a56 :: a57 :: a58 :: a59 :: a60 :: a61 :: a62 :: a63 :: a64 :: a65 :: a66 :: a67 :: a68 :: a69 :: a70 :: a71 :: a72 :: a73 :: a74 :: a75 :: a76 :: a77 :: a78 :: a79 :: a80 :: a81 :: a82 :: a83 :: a84 :: a85 :: a86 :: a87 :: a88 :: a89 :: a90 :: a91 :: a92 :: a93 :: a94 :: a95 :: a96 :: a97 :: a98 :: a99 :: a100 :: a101 :: a102 :: a103 :: a104 :: a105 :: a106 :: a107 :: a108 :: a109 :: a110 :: a111 :: a112 :: a113 :: a114 :: a115 :: a116 :: a117 :: a118 :: a119 :: a120 :: a121 :: a122 :: a123 :: a124 :: a125 :: a126 :: a127 :: a128 :: a129 :: a130 :: a131 :: a132 :: a133 :: a134 :: a135 :: a136 :: a137 :: a138 :: a139 :: a140 :: a141 :: a142 :: a143 :: a144 :: a145 :: a146 :: a147 :: a148 :: a149 :: a150 :: a151 :: a152 :: a153 :: a154 :: a155 :: a156 :: a157 :: a158 :: a159 :: a160 :: a161 :: a162 :: a163 :: a164 :: a165 :: a166 :: a167 :: a168 :: a169 :: a170 :: a171 :: a172 :: a173 :: a174 :: a175 :: a176 :: a177 :: a178 :: a179 :: x180 :: x181 :: x182 :: x183 :: x184 :: x185 :: x186 :: x187 :: x188 :: x189 :: x190 :: x191 :: x192 :: x193 :: x194 :: x195 :: x196 :: x197 :: x198 :: x199 :: x200 :: x201 :: x202 :: x203 :: x204 :: x205 :: x206 :: x207 :: x208 :: x209 :: x210 :: x211 :: x212 :: x213 :: x214 :: x215 :: x216 :: x217 :: x218 :: x219 :: x220 :: x221 :: x222 :: x223 :: x224 :: x225 :: x226 :: x227 :: x228 :: x229 :: x230 :: x231 :: x232 :: x233 :: x234 :: x235 :: x236 :: x237 :: x238 :: x239 :: x240 :: x241 :: x242 :: x243 :: x244 :: x245 :: x246 :: x247 :: x248 :: x249 :: x250 :: x251 :: x252 :: x253 :: x254 :: x255 :: x256 :: x257 :: x258 :: x259 :: x260 :: x261 :: x262 :: x263 :: x264 :: x265 :: x266 :: x267 :: x268 :: x269 :: x270 :: x271 :: x272 :: x273 :: x274 :: x275 :: x276 :: x277 :: x278 :: x279 :: x280 :: x281 :: x282 :: x283 :: x284 :: x285 :: x286 :: x287 :: x288 :: x289 :: x290 :: .bool false :: []).toArray, defers := [] } w') :
    Code.wp Tryd.prog (Code.region 41 ({ dst := some 180, op := Op.move (Operand.tmp 5), type := 26, pos := "law.go:76", after := #[], guard := none } :: { dst := some 181, op := Op.move (Operand.tmp 18), type := 3, pos := "law.go:76", after := #[], guard := none } :: { dst := some 182, op := Op.indexAddr 26 (Operand.tmp 180) (Operand.tmp 181), type := 0, pos := "law.go:76", after := #[{ on := 0, ground := Ground.data }, { on := 1, ground := Ground.data }], guard := none } :: { dst := some 183, op := Op.load 36 (Operand.tmp 182), type := 36, pos := "law.go:76", after := #[{ on := 2, ground := Ground.data }], guard := none } :: { dst := some 184, op := Op.call { callee := Callee.value (Operand.func 18), args := #[Operand.tmp 183], argTypes := #[36] }, type := 9, pos := "law.go:76", after := #[{ on := 3, ground := Ground.data }], guard := none } :: { dst := some 185, op := Op.move (Operand.tmp 6), type := 30, pos := "law.go:76", after := #[], guard := none } :: { dst := some 186, op := Op.move (Operand.tmp 18), type := 3, pos := "law.go:76", after := #[], guard := none } :: { dst := some 187, op := Op.indexAddr 30 (Operand.tmp 185) (Operand.tmp 186), type := 0, pos := "law.go:76", after := #[{ on := 5, ground := Ground.data }, { on := 6, ground := Ground.data }], guard := none } :: { dst := some 188, op := Op.load 32 (Operand.tmp 187), type := 32, pos := "law.go:76", after := #[{ on := 7, ground := Ground.data }], guard := none } :: { dst := some 189, op := Op.call { callee := Callee.value (Operand.func 19), args := #[Operand.tmp 188], argTypes := #[32] }, type := 9, pos := "law.go:76", after := #[{ on := 8, ground := Ground.data }, { on := 4, ground := Ground.chain }], guard := none } :: { dst := some 190, op := Op.binOp BinOp.neq 9 (Operand.tmp 184) (Operand.tmp 189) 9, type := 4, pos := "law.go:76", after := #[{ on := 4, ground := Ground.data }, { on := 9, ground := Ground.data }], guard := none } :: { dst := some 191, op := Op.move (Operand.tmp 190), type := 4, pos := "law.go:76", after := #[{ on := 10, ground := Ground.data }, { on := 9, ground := Ground.chain }], guard := none } :: { dst := some 192, op := Op.move (Operand.tmp 5), type := 26, pos := "law.go:76", after := #[{ on := 11, ground := Ground.guard }], guard := some (11, false) } :: { dst := some 193, op := Op.move (Operand.tmp 18), type := 3, pos := "law.go:76", after := #[{ on := 11, ground := Ground.guard }], guard := some (11, false) } :: { dst := some 194, op := Op.indexAddr 26 (Operand.tmp 192) (Operand.tmp 193), type := 0, pos := "law.go:76", after := #[{ on := 12, ground := Ground.data }, { on := 13, ground := Ground.data }, { on := 11, ground := Ground.guard }], guard := some (11, false) } :: { dst := some 195, op := Op.load 36 (Operand.tmp 194), type := 36, pos := "law.go:76", after := #[{ on := 14, ground := Ground.data }, { on := 11, ground := Ground.guard }], guard := some (11, false) } :: { dst := some 196, op := Op.call { callee := Callee.value (Operand.func 20), args := #[Operand.tmp 195], argTypes := #[36] }, type := 3, pos := "law.go:76", after := #[{ on := 15, ground := Ground.data }, { on := 11, ground := Ground.chain }, { on := 11, ground := Ground.guard }], guard := some (11, false) } :: { dst := some 197, op := Op.move (Operand.tmp 6), type := 30, pos := "law.go:76", after := #[{ on := 11, ground := Ground.guard }], guard := some (11, false) } :: { dst := some 198, op := Op.move (Operand.tmp 18), type := 3, pos := "law.go:76", after := #[{ on := 11, ground := Ground.guard }], guard := some (11, false) } :: { dst := some 199, op := Op.indexAddr 30 (Operand.tmp 197) (Operand.tmp 198), type := 0, pos := "law.go:76", after := #[{ on := 17, ground := Ground.data }, { on := 18, ground := Ground.data }, { on := 11, ground := Ground.guard }], guard := some (11, false) } :: { dst := some 200, op := Op.load 32 (Operand.tmp 199), type := 32, pos := "law.go:76", after := #[{ on := 19, ground := Ground.data }, { on := 11, ground := Ground.guard }], guard := some (11, false) } :: { dst := some 201, op := Op.call { callee := Callee.value (Operand.func 21), args := #[Operand.tmp 200], argTypes := #[32] }, type := 3, pos := "law.go:76", after := #[{ on := 20, ground := Ground.data }, { on := 16, ground := Ground.chain }, { on := 11, ground := Ground.guard }], guard := some (11, false) } :: { dst := some 202, op := Op.binOp BinOp.neq 3 (Operand.tmp 196) (Operand.tmp 201) 3, type := 4, pos := "law.go:76", after := #[{ on := 16, ground := Ground.data }, { on := 21, ground := Ground.data }, { on := 11, ground := Ground.guard }], guard := some (11, false) } :: { dst := some 203, op := Op.pick (Operand.tmp 191) (Operand.const (Value.bool true)) (Operand.tmp 202), type := 4, pos := "law.go:76", after := #[{ on := 11, ground := Ground.data }, { on := 22, ground := Ground.data }], guard := none } :: { dst := some 204, op := Op.move (Operand.tmp 203), type := 4, pos := "law.go:76", after := #[{ on := 23, ground := Ground.data }, { on := 21, ground := Ground.chain }], guard := none } :: { dst := some 205, op := Op.move (Operand.tmp 5), type := 26, pos := "law.go:76", after := #[{ on := 24, ground := Ground.guard }], guard := some (24, false) } :: { dst := some 206, op := Op.move (Operand.tmp 18), type := 3, pos := "law.go:76", after := #[{ on := 24, ground := Ground.guard }], guard := some (24, false) } :: { dst := some 207, op := Op.indexAddr 26 (Operand.tmp 205) (Operand.tmp 206), type := 0, pos := "law.go:76", after := #[{ on := 25, ground := Ground.data }, { on := 26, ground := Ground.data }, { on := 24, ground := Ground.guard }], guard := some (24, false) } :: { dst := some 208, op := Op.load 36 (Operand.tmp 207), type := 36, pos := "law.go:76", after := #[{ on := 27, ground := Ground.data }, { on := 24, ground := Ground.guard }], guard := some (24, false) } :: { dst := some 209, op := Op.call { callee := Callee.value (Operand.func 22), args := #[Operand.tmp 208], argTypes := #[36] }, type := 3, pos := "law.go:76", after := #[{ on := 28, ground := Ground.data }, { on := 24, ground := Ground.chain }, { on := 24, ground := Ground.guard }], guard := some (24, false) } :: { dst := some 210, op := Op.move (Operand.tmp 6), type := 30, pos := "law.go:76", after := #[{ on := 24, ground := Ground.guard }], guard := some (24, false) } :: { dst := some 211, op := Op.move (Operand.tmp 18), type := 3, pos := "law.go:76", after := #[{ on := 24, ground := Ground.guard }], guard := some (24, false) } :: { dst := some 212, op := Op.indexAddr 30 (Operand.tmp 210) (Operand.tmp 211), type := 0, pos := "law.go:76", after := #[{ on := 30, ground := Ground.data }, { on := 31, ground := Ground.data }, { on := 24, ground := Ground.guard }], guard := some (24, false) } :: { dst := some 213, op := Op.fieldAddr 32 (Operand.tmp 212) 4, type := 0, pos := "law.go:76", after := #[{ on := 32, ground := Ground.data }, { on := 24, ground := Ground.guard }], guard := some (24, false) } :: { dst := some 214, op := Op.load 3 (Operand.tmp 213), type := 3, pos := "law.go:76", after := #[{ on := 33, ground := Ground.data }, { on := 24, ground := Ground.guard }], guard := some (24, false) } :: { dst := some 215, op := Op.binOp BinOp.neq 3 (Operand.tmp 209) (Operand.tmp 214) 3, type := 4, pos := "law.go:76", after := #[{ on := 29, ground := Ground.data }, { on := 34, ground := Ground.data }, { on := 24, ground := Ground.guard }], guard := some (24, false) } :: { dst := some 216, op := Op.pick (Operand.tmp 204) (Operand.const (Value.bool true)) (Operand.tmp 215), type := 4, pos := "law.go:76", after := #[{ on := 24, ground := Ground.data }, { on := 35, ground := Ground.data }], guard := none } :: { dst := some 217, op := Op.move (Operand.tmp 216), type := 4, pos := "law.go:76", after := #[{ on := 36, ground := Ground.data }, { on := 29, ground := Ground.chain }], guard := none } :: { dst := some 218, op := Op.move (Operand.tmp 20), type := 4, pos := "law.go:76", after := #[{ on := 37, ground := Ground.guard }], guard := some (37, false) } :: { dst := some 219, op := Op.move (Operand.tmp 6), type := 30, pos := "law.go:76", after := #[{ on := 37, ground := Ground.guard }], guard := some (37, false) } :: { dst := some 220, op := Op.move (Operand.tmp 18), type := 3, pos := "law.go:76", after := #[{ on := 37, ground := Ground.guard }], guard := some (37, false) } :: { dst := some 221, op := Op.indexAddr 30 (Operand.tmp 219) (Operand.tmp 220), type := 0, pos := "law.go:76", after := #[{ on := 39, ground := Ground.data }, { on := 40, ground := Ground.data }, { on := 37, ground := Ground.guard }], guard := some (37, false) } :: { dst := some 222, op := Op.fieldAddr 32 (Operand.tmp 221) 4, type := 0, pos := "law.go:76", after := #[{ on := 41, ground := Ground.data }, { on := 37, ground := Ground.guard }], guard := some (37, false) } :: { dst := some 223, op := Op.load 3 (Operand.tmp 222), type := 3, pos := "law.go:76", after := #[{ on := 42, ground := Ground.data }, { on := 37, ground := Ground.guard }], guard := some (37, false) } :: { dst := some 224, op := Op.binOp BinOp.gtr 3 (Operand.tmp 223) (Operand.const (Value.int IntKind.i64 0)) 3, type := 4, pos := "law.go:76", after := #[{ on := 43, ground := Ground.data }, { on := 37, ground := Ground.guard }], guard := some (37, false) } :: { dst := some 225, op := Op.binOp BinOp.neq 4 (Operand.tmp 218) (Operand.tmp 224) 4, type := 4, pos := "law.go:76", after := #[{ on := 38, ground := Ground.data }, { on := 44, ground := Ground.data }, { on := 37, ground := Ground.guard }], guard := some (37, false) } :: { dst := some 226, op := Op.pick (Operand.tmp 217) (Operand.const (Value.bool true)) (Operand.tmp 225), type := 4, pos := "law.go:76", after := #[{ on := 37, ground := Ground.data }, { on := 45, ground := Ground.data }], guard := none } :: { dst := some 227, op := Op.move (Operand.tmp 226), type := 4, pos := "law.go:76", after := #[{ on := 46, ground := Ground.data }, { on := 37, ground := Ground.chain }], guard := none } :: { dst := some 228, op := Op.load 28 (Operand.tmp 19), type := 28, pos := "law.go:76", after := #[{ on := 47, ground := Ground.guard }], guard := some (47, false) } :: { dst := some 229, op := Op.move (Operand.tmp 6), type := 30, pos := "law.go:76", after := #[{ on := 47, ground := Ground.guard }], guard := some (47, false) } :: { dst := some 230, op := Op.move (Operand.tmp 18), type := 3, pos := "law.go:76", after := #[{ on := 47, ground := Ground.guard }], guard := some (47, false) } :: { dst := some 231, op := Op.indexAddr 30 (Operand.tmp 229) (Operand.tmp 230), type := 0, pos := "law.go:76", after := #[{ on := 49, ground := Ground.data }, { on := 50, ground := Ground.data }, { on := 47, ground := Ground.guard }], guard := some (47, false) } :: { dst := some 232, op := Op.fieldAddr 32 (Operand.tmp 231) 1, type := 0, pos := "law.go:76", after := #[{ on := 51, ground := Ground.data }, { on := 47, ground := Ground.guard }], guard := some (47, false) } :: { dst := some 233, op := Op.load 28 (Operand.tmp 232), type := 28, pos := "law.go:76", after := #[{ on := 52, ground := Ground.data }, { on := 47, ground := Ground.guard }], guard := some (47, false) } :: { dst := some 234, op := Op.binOp BinOp.neq 28 (Operand.tmp 228) (Operand.tmp 233) 28, type := 4, pos := "law.go:76", after := #[{ on := 48, ground := Ground.data }, { on := 53, ground := Ground.data }, { on := 47, ground := Ground.guard }], guard := some (47, false) } :: { dst := some 235, op := Op.pick (Operand.tmp 227) (Operand.const (Value.bool true)) (Operand.tmp 234), type := 4, pos := "law.go:76", after := #[{ on := 47, ground := Ground.data }, { on := 54, ground := Ground.data }], guard := none } :: { dst := some 236, op := Op.move (Operand.tmp 235), type := 4, pos := "law.go:76", after := #[{ on := 55, ground := Ground.data }, { on := 47, ground := Ground.chain }], guard := none } :: { dst := some 237, op := Op.move (Operand.tmp 5), type := 26, pos := "law.go:76", after := #[{ on := 56, ground := Ground.guard }], guard := some (56, false) } :: { dst := some 238, op := Op.move (Operand.tmp 18), type := 3, pos := "law.go:76", after := #[{ on := 56, ground := Ground.guard }], guard := some (56, false) } :: { dst := some 239, op := Op.indexAddr 26 (Operand.tmp 237) (Operand.tmp 238), type := 0, pos := "law.go:76", after := #[{ on := 57, ground := Ground.data }, { on := 58, ground := Ground.data }, { on := 56, ground := Ground.guard }], guard := some (56, false) } :: { dst := some 240, op := Op.load 36 (Operand.tmp 239), type := 36, pos := "law.go:76", after := #[{ on := 59, ground := Ground.data }, { on := 56, ground := Ground.guard }], guard := some (56, false) } :: { dst := some 241, op := Op.call { callee := Callee.value (Operand.func 23), args := #[Operand.tmp 240], argTypes := #[36] }, type := 4, pos := "law.go:76", after := #[{ on := 60, ground := Ground.data }, { on := 56, ground := Ground.chain }, { on := 56, ground := Ground.guard }], guard := some (56, false) } :: { dst := some 242, op := Op.move (Operand.tmp 6), type := 30, pos := "law.go:76", after := #[{ on := 56, ground := Ground.guard }], guard := some (56, false) } :: { dst := some 243, op := Op.move (Operand.tmp 18), type := 3, pos := "law.go:76", after := #[{ on := 56, ground := Ground.guard }], guard := some (56, false) } :: { dst := some 244, op := Op.indexAddr 30 (Operand.tmp 242) (Operand.tmp 243), type := 0, pos := "law.go:76", after := #[{ on := 62, ground := Ground.data }, { on := 63, ground := Ground.data }, { on := 56, ground := Ground.guard }], guard := some (56, false) } :: { dst := some 245, op := Op.load 32 (Operand.tmp 244), type := 32, pos := "law.go:76", after := #[{ on := 64, ground := Ground.data }, { on := 56, ground := Ground.guard }], guard := some (56, false) } :: { dst := some 246, op := Op.call { callee := Callee.value (Operand.func 24), args := #[Operand.tmp 245], argTypes := #[32] }, type := 4, pos := "law.go:76", after := #[{ on := 65, ground := Ground.data }, { on := 61, ground := Ground.chain }, { on := 56, ground := Ground.guard }], guard := some (56, false) } :: { dst := some 247, op := Op.binOp BinOp.neq 4 (Operand.tmp 241) (Operand.tmp 246) 4, type := 4, pos := "law.go:76", after := #[{ on := 61, ground := Ground.data }, { on := 66, ground := Ground.data }, { on := 56, ground := Ground.guard }], guard := some (56, false) } :: { dst := some 248, op := Op.pick (Operand.tmp 236) (Operand.const (Value.bool true)) (Operand.tmp 247), type := 4, pos := "law.go:76", after := #[{ on := 56, ground := Ground.data }, { on := 67, ground := Ground.data }], guard := none } :: { dst := some 249, op := Op.move (Operand.tmp 248), type := 4, pos := "law.go:76", after := #[{ on := 68, ground := Ground.data }, { on := 66, ground := Ground.chain }], guard := none } :: { dst := some 250, op := Op.move (Operand.tmp 5), type := 26, pos := "law.go:76", after := #[{ on := 69, ground := Ground.guard }], guard := some (69, false) } :: { dst := some 251, op := Op.move (Operand.tmp 18), type := 3, pos := "law.go:76", after := #[{ on := 69, ground := Ground.guard }], guard := some (69, false) } :: { dst := some 252, op := Op.indexAddr 26 (Operand.tmp 250) (Operand.tmp 251), type := 0, pos := "law.go:76", after := #[{ on := 70, ground := Ground.data }, { on := 71, ground := Ground.data }, { on := 69, ground := Ground.guard }], guard := some (69, false) } :: { dst := some 253, op := Op.load 36 (Operand.tmp 252), type := 36, pos := "law.go:76", after := #[{ on := 72, ground := Ground.data }, { on := 69, ground := Ground.guard }], guard := some (69, false) } :: { dst := some 254, op := Op.call { callee := Callee.value (Operand.func 26), args := #[Operand.tmp 253], argTypes := #[36] }, type := 29, pos := "law.go:76", after := #[{ on := 73, ground := Ground.data }, { on := 69, ground := Ground.chain }, { on := 69, ground := Ground.guard }], guard := some (69, false) } :: { dst := some 255, op := Op.move (Operand.tmp 6), type := 30, pos := "law.go:76", after := #[{ on := 69, ground := Ground.guard }], guard := some (69, false) } :: { dst := some 256, op := Op.move (Operand.tmp 18), type := 3, pos := "law.go:76", after := #[{ on := 69, ground := Ground.guard }], guard := some (69, false) } :: { dst := some 257, op := Op.indexAddr 30 (Operand.tmp 255) (Operand.tmp 256), type := 0, pos := "law.go:76", after := #[{ on := 75, ground := Ground.data }, { on := 76, ground := Ground.data }, { on := 69, ground := Ground.guard }], guard := some (69, false) } :: { dst := some 258, op := Op.load 32 (Operand.tmp 257), type := 32, pos := "law.go:76", after := #[{ on := 77, ground := Ground.data }, { on := 69, ground := Ground.guard }], guard := some (69, false) } :: { dst := some 259, op := Op.call { callee := Callee.value (Operand.func 27), args := #[Operand.tmp 258], argTypes := #[32] }, type := 29, pos := "law.go:76", after := #[{ on := 78, ground := Ground.data }, { on := 74, ground := Ground.chain }, { on := 69, ground := Ground.guard }], guard := some (69, false) } :: { dst := some 260, op := Op.call { callee := Callee.value (Operand.func 25), args := #[Operand.tmp 254, Operand.tmp 259], argTypes := #[29, 29] }, type := 4, pos := "law.go:76", after := #[{ on := 74, ground := Ground.data }, { on := 79, ground := Ground.data }, { on := 79, ground := Ground.chain }, { on := 69, ground := Ground.guard }], guard := some (69, false) } :: { dst := some 261, op := Op.unOp UnOp.not 4 (Operand.tmp 260), type := 4, pos := "law.go:76", after := #[{ on := 80, ground := Ground.data }, { on := 69, ground := Ground.guard }], guard := some (69, false) } :: { dst := some 262, op := Op.pick (Operand.tmp 249) (Operand.const (Value.bool true)) (Operand.tmp 261), type := 4, pos := "law.go:76", after := #[{ on := 69, ground := Ground.data }, { on := 81, ground := Ground.data }], guard := none } :: { dst := some 263, op := Op.move (Operand.tmp 262), type := 4, pos := "law.go:76", after := #[{ on := 82, ground := Ground.data }, { on := 80, ground := Ground.chain }], guard := none } :: { dst := some 264, op := Op.move (Operand.tmp 5), type := 26, pos := "law.go:76", after := #[{ on := 83, ground := Ground.guard }], guard := some (83, false) } :: { dst := some 265, op := Op.move (Operand.tmp 18), type := 3, pos := "law.go:76", after := #[{ on := 83, ground := Ground.guard }], guard := some (83, false) } :: { dst := some 266, op := Op.indexAddr 26 (Operand.tmp 264) (Operand.tmp 265), type := 0, pos := "law.go:76", after := #[{ on := 84, ground := Ground.data }, { on := 85, ground := Ground.data }, { on := 83, ground := Ground.guard }], guard := some (83, false) } :: { dst := some 267, op := Op.load 36 (Operand.tmp 266), type := 36, pos := "law.go:76", after := #[{ on := 86, ground := Ground.data }, { on := 83, ground := Ground.guard }], guard := some (83, false) } :: { dst := some 268, op := Op.call { callee := Callee.value (Operand.func 28), args := #[Operand.tmp 267], argTypes := #[36] }, type := 29, pos := "law.go:76", after := #[{ on := 87, ground := Ground.data }, { on := 83, ground := Ground.chain }, { on := 83, ground := Ground.guard }], guard := some (83, false) } :: { dst := some 269, op := Op.move (Operand.tmp 6), type := 30, pos := "law.go:76", after := #[{ on := 83, ground := Ground.guard }], guard := some (83, false) } :: { dst := some 270, op := Op.move (Operand.tmp 18), type := 3, pos := "law.go:76", after := #[{ on := 83, ground := Ground.guard }], guard := some (83, false) } :: { dst := some 271, op := Op.indexAddr 30 (Operand.tmp 269) (Operand.tmp 270), type := 0, pos := "law.go:76", after := #[{ on := 89, ground := Ground.data }, { on := 90, ground := Ground.data }, { on := 83, ground := Ground.guard }], guard := some (83, false) } :: { dst := some 272, op := Op.fieldAddr 32 (Operand.tmp 271) 2, type := 0, pos := "law.go:76", after := #[{ on := 91, ground := Ground.data }, { on := 83, ground := Ground.guard }], guard := some (83, false) } :: { dst := some 273, op := Op.load 29 (Operand.tmp 272), type := 29, pos := "law.go:76", after := #[{ on := 92, ground := Ground.data }, { on := 83, ground := Ground.guard }], guard := some (83, false) } :: { dst := some 274, op := Op.call { callee := Callee.value (Operand.func 25), args := #[Operand.tmp 268, Operand.tmp 273], argTypes := #[29, 29] }, type := 4, pos := "law.go:76", after := #[{ on := 88, ground := Ground.data }, { on := 93, ground := Ground.data }, { on := 88, ground := Ground.chain }, { on := 83, ground := Ground.guard }], guard := some (83, false) } :: { dst := some 275, op := Op.unOp UnOp.not 4 (Operand.tmp 274), type := 4, pos := "law.go:76", after := #[{ on := 94, ground := Ground.data }, { on := 83, ground := Ground.guard }], guard := some (83, false) } :: { dst := some 276, op := Op.pick (Operand.tmp 263) (Operand.const (Value.bool true)) (Operand.tmp 275), type := 4, pos := "law.go:76", after := #[{ on := 83, ground := Ground.data }, { on := 95, ground := Ground.data }], guard := none } :: { dst := some 277, op := Op.move (Operand.tmp 276), type := 4, pos := "law.go:76", after := #[{ on := 96, ground := Ground.data }, { on := 94, ground := Ground.chain }], guard := none } :: { dst := some 278, op := Op.move (Operand.tmp 5), type := 26, pos := "law.go:76", after := #[{ on := 97, ground := Ground.guard }], guard := some (97, false) } :: { dst := some 279, op := Op.move (Operand.tmp 18), type := 3, pos := "law.go:76", after := #[{ on := 97, ground := Ground.guard }], guard := some (97, false) } :: { dst := some 280, op := Op.indexAddr 26 (Operand.tmp 278) (Operand.tmp 279), type := 0, pos := "law.go:76", after := #[{ on := 98, ground := Ground.data }, { on := 99, ground := Ground.data }, { on := 97, ground := Ground.guard }], guard := some (97, false) } :: { dst := some 281, op := Op.load 36 (Operand.tmp 280), type := 36, pos := "law.go:76", after := #[{ on := 100, ground := Ground.data }, { on := 97, ground := Ground.guard }], guard := some (97, false) } :: { dst := some 282, op := Op.call { callee := Callee.value (Operand.func 29), args := #[Operand.tmp 281], argTypes := #[36] }, type := 26, pos := "law.go:76", after := #[{ on := 101, ground := Ground.data }, { on := 97, ground := Ground.chain }, { on := 97, ground := Ground.guard }], guard := some (97, false) } :: { dst := some 283, op := Op.call { callee := Callee.builtin Builtin.len, args := #[Operand.tmp 282], argTypes := #[26] }, type := 3, pos := "law.go:76", after := #[{ on := 102, ground := Ground.data }, { on := 97, ground := Ground.guard }], guard := some (97, false) } :: { dst := some 284, op := Op.move (Operand.tmp 6), type := 30, pos := "law.go:76", after := #[{ on := 97, ground := Ground.guard }], guard := some (97, false) } :: { dst := some 285, op := Op.move (Operand.tmp 18), type := 3, pos := "law.go:76", after := #[{ on := 97, ground := Ground.guard }], guard := some (97, false) } :: { dst := some 286, op := Op.indexAddr 30 (Operand.tmp 284) (Operand.tmp 285), type := 0, pos := "law.go:76", after := #[{ on := 104, ground := Ground.data }, { on := 105, ground := Ground.data }, { on := 97, ground := Ground.guard }], guard := some (97, false) } :: { dst := some 287, op := Op.fieldAddr 32 (Operand.tmp 286) 3, type := 0, pos := "law.go:76", after := #[{ on := 106, ground := Ground.data }, { on := 97, ground := Ground.guard }], guard := some (97, false) } :: { dst := some 288, op := Op.load 30 (Operand.tmp 287), type := 30, pos := "law.go:76", after := #[{ on := 107, ground := Ground.data }, { on := 97, ground := Ground.guard }], guard := some (97, false) } :: { dst := some 289, op := Op.call { callee := Callee.builtin Builtin.len, args := #[Operand.tmp 288], argTypes := #[30] }, type := 3, pos := "law.go:76", after := #[{ on := 108, ground := Ground.data }, { on := 97, ground := Ground.guard }], guard := some (97, false) } :: { dst := some 290, op := Op.binOp BinOp.neq 3 (Operand.tmp 283) (Operand.tmp 289) 3, type := 4, pos := "law.go:76", after := #[{ on := 103, ground := Ground.data }, { on := 109, ground := Ground.data }, { on := 97, ground := Ground.guard }], guard := some (97, false) } :: { dst := some 291, op := Op.pick (Operand.tmp 277) (Operand.const (Value.bool true)) (Operand.tmp 290), type := 4, pos := "law.go:76", after := #[{ on := 97, ground := Ground.data }, { on := 110, ground := Ground.data }], guard := none } :: []).toArray true) Q { tmps := (a0 :: a1 :: a2 :: a3 :: a4 :: .slice (some ⟨gu, 0, none⟩) L cu :: .slice (some ⟨gv, 0, none⟩) L cv :: a7 :: a8 :: a9 :: a10 :: a11 :: a12 :: a13 :: a14 :: a15 :: a16 :: a17 :: .int .i64 (j : Int) :: .pointer (some ⟨b19, 0, none⟩) :: .bool fl :: a21 :: a22 :: a23 :: a24 :: a25 :: a26 :: a27 :: a28 :: a29 :: a30 :: a31 :: a32 :: a33 :: a34 :: a35 :: a36 :: a37 :: a38 :: a39 :: a40 :: a41 :: a42 :: a43 :: a44 :: a45 :: a46 :: a47 :: a48 :: a49 :: a50 :: a51 :: a52 :: a53 :: a54 :: a55 :: a56 :: a57 :: a58 :: a59 :: a60 :: a61 :: a62 :: a63 :: a64 :: a65 :: a66 :: a67 :: a68 :: a69 :: a70 :: a71 :: a72 :: a73 :: a74 :: a75 :: a76 :: a77 :: a78 :: a79 :: a80 :: a81 :: a82 :: a83 :: a84 :: a85 :: a86 :: a87 :: a88 :: a89 :: a90 :: a91 :: a92 :: a93 :: a94 :: a95 :: a96 :: a97 :: a98 :: a99 :: a100 :: a101 :: a102 :: a103 :: a104 :: a105 :: a106 :: a107 :: a108 :: a109 :: a110 :: a111 :: a112 :: a113 :: a114 :: a115 :: a116 :: a117 :: a118 :: a119 :: a120 :: a121 :: a122 :: a123 :: a124 :: a125 :: a126 :: a127 :: a128 :: a129 :: a130 :: a131 :: a132 :: a133 :: a134 :: a135 :: a136 :: a137 :: a138 :: a139 :: a140 :: a141 :: a142 :: a143 :: a144 :: a145 :: a146 :: a147 :: a148 :: a149 :: a150 :: a151 :: a152 :: a153 :: a154 :: a155 :: a156 :: a157 :: a158 :: a159 :: a160 :: a161 :: a162 :: a163 :: a164 :: a165 :: a166 :: a167 :: a168 :: a169 :: a170 :: a171 :: a172 :: a173 :: a174 :: a175 :: a176 :: a177 :: a178 :: a179 :: a180 :: a181 :: a182 :: a183 :: a184 :: a185 :: a186 :: a187 :: a188 :: a189 :: a190 :: a191 :: a192 :: a193 :: a194 :: a195 :: a196 :: a197 :: a198 :: a199 :: a200 :: a201 :: a202 :: a203 :: a204 :: a205 :: a206 :: a207 :: a208 :: a209 :: a210 :: a211 :: a212 :: a213 :: a214 :: a215 :: a216 :: a217 :: a218 :: a219 :: a220 :: a221 :: a222 :: a223 :: a224 :: a225 :: a226 :: a227 :: a228 :: a229 :: a230 :: a231 :: a232 :: a233 :: a234 :: a235 :: a236 :: a237 :: a238 :: a239 :: a240 :: a241 :: a242 :: a243 :: a244 :: a245 :: a246 :: a247 :: a248 :: a249 :: a250 :: a251 :: a252 :: a253 :: a254 :: a255 :: a256 :: a257 :: a258 :: a259 :: a260 :: a261 :: a262 :: a263 :: a264 :: a265 :: a266 :: a267 :: a268 :: a269 :: a270 :: a271 :: a272 :: a273 :: a274 :: a275 :: a276 :: a277 :: a278 :: a279 :: a280 :: a281 :: a282 :: a283 :: a284 :: a285 :: a286 :: a287 :: a288 :: a289 :: a290 :: a291 :: []).toArray, defers := [] } w4 := by
  have B4d := Lib.hid (B4.out.drew)
  have P4d := Lib.hid (show PairAt w4.drew b19 x1 x2 from P4.out)
  obtain ⟨c0, c1, c2, c3, c4, c5, c6⟩ := HC.out _ B4.out
  have c7 := P4.out.c0
  have c8 := P4.out.c1
  refine wp_region_noPanic ?_
  refine wp_region_held_drew (S := fun w' => w'.cell? ⟨gu, j, none⟩ = some (.pointer p) ∧ w'.cell? ⟨gv, j * 6, none⟩ = some (.int .i64 r) ∧ w'.cell? ⟨gv, j * 6 + 1, none⟩ = some (.int .i64 x1) ∧ w'.cell? ⟨gv, j * 6 + 2, none⟩ = some (.int .i64 x2) ∧ w'.cell? ⟨gv, j * 6 + 3, none⟩ = some (.slice A1 (obeside t).length k1) ∧ w'.cell? ⟨gv, j * 6 + 4, none⟩ = some (.slice A2' (okids t).len k2) ∧ w'.cell? ⟨gv, j * 6 + 5, none⟩ = some (.int .i64 (osize t : Nat)) ∧ w'.cell? ⟨b19, 0, none⟩ = some (.int .i64 x1) ∧ w'.cell? ⟨b19, 1, none⟩ = some (.int .i64 x2)) (by kernel_rfl) ⟨c0, c1, c2, c3, c4, c5, c6, c7, c8⟩ (fun hH => ?_)
  clear c0 c1 c2 c3 c4 c5 c6 c7 c8
  refine wpAnyH_take (i := 0) (oi := { dst := some 180, op := Op.move (Operand.tmp 5), type := 26, pos := "law.go:76", after := #[], guard := none }) (v := ?v0) rfl (by as_aux_lemma => kernel_rfl) (by as_aux_lemma => kernel_rfl) (by as_aux_lemma => kernel_rfl) (fun _ _ _ h => h) (Or.inl ⟨(by as_aux_lemma => kernel_rfl), ?hy0⟩) hH ?rest0
  case hy0 => (intro w hSw; (try dsimp only at hSw); go_simp; try with_reducible rfl)
  try simp only [Act.put, List.setIfInBounds_toArray, List.set_cons_zero, List.set_cons_succ]
  refine wpAnyH_take (i := 1) (oi := { dst := some 181, op := Op.move (Operand.tmp 18), type := 3, pos := "law.go:76", after := #[], guard := none }) (v := ?v1) rfl (by as_aux_lemma => kernel_rfl) (by as_aux_lemma => kernel_rfl) (by as_aux_lemma => kernel_rfl) (fun _ _ _ h => h) (Or.inl ⟨(by as_aux_lemma => kernel_rfl), ?hy1⟩) hH ?rest1
  case hy1 => (intro w hSw; (try dsimp only at hSw); go_simp; try with_reducible rfl)
  try simp only [Act.put, List.setIfInBounds_toArray, List.set_cons_zero, List.set_cons_succ]
  refine wpAnyH_take (i := 2) (oi := { dst := some 182, op := Op.indexAddr 26 (Operand.tmp 180) (Operand.tmp 181), type := 0, pos := "law.go:76", after := #[{ on := 0, ground := Ground.data }, { on := 1, ground := Ground.data }], guard := none }) (v := ?v2) rfl (by as_aux_lemma => kernel_rfl) (by as_aux_lemma => kernel_rfl) (by as_aux_lemma => kernel_rfl) (fun _ _ _ h => h) (Or.inl ⟨(by as_aux_lemma => kernel_rfl), ?hy2⟩) hH ?rest2
  case hy2 => (intro w hSw; (try dsimp only at hSw); go_simp; try with_reducible rfl)
  try simp only [Act.put, List.setIfInBounds_toArray, List.set_cons_zero, List.set_cons_succ]
  refine wpAnyH_take (i := 3) (oi := { dst := some 183, op := Op.load 36 (Operand.tmp 182), type := 36, pos := "law.go:76", after := #[{ on := 2, ground := Ground.data }], guard := none }) (v := ?v3) rfl (by as_aux_lemma => kernel_rfl) (by as_aux_lemma => kernel_rfl) (by as_aux_lemma => kernel_rfl) (fun _ _ _ h => h) (Or.inl ⟨(by as_aux_lemma => kernel_rfl), ?hy3⟩) hH ?rest3
  case hy3 => (intro w hSw; (try dsimp only at hSw); go_simp; try with_reducible rfl)
  try simp only [Act.put, List.setIfInBounds_toArray, List.set_cons_zero, List.set_cons_succ]
  refine wpAnyH_take (i := 5) (oi := { dst := some 185, op := Op.move (Operand.tmp 6), type := 30, pos := "law.go:76", after := #[], guard := none }) (v := ?v5) rfl (by as_aux_lemma => kernel_rfl) (by as_aux_lemma => kernel_rfl) (by as_aux_lemma => kernel_rfl) (fun _ _ _ h => h) (Or.inl ⟨(by as_aux_lemma => kernel_rfl), ?hy5⟩) hH ?rest5
  case hy5 => (intro w hSw; (try dsimp only at hSw); go_simp; try with_reducible rfl)
  try simp only [Act.put, List.setIfInBounds_toArray, List.set_cons_zero, List.set_cons_succ]
  refine wpAnyH_take (i := 6) (oi := { dst := some 186, op := Op.move (Operand.tmp 18), type := 3, pos := "law.go:76", after := #[], guard := none }) (v := ?v6) rfl (by as_aux_lemma => kernel_rfl) (by as_aux_lemma => kernel_rfl) (by as_aux_lemma => kernel_rfl) (fun _ _ _ h => h) (Or.inl ⟨(by as_aux_lemma => kernel_rfl), ?hy6⟩) hH ?rest6
  case hy6 => (intro w hSw; (try dsimp only at hSw); go_simp; try with_reducible rfl)
  try simp only [Act.put, List.setIfInBounds_toArray, List.set_cons_zero, List.set_cons_succ]
  refine wpAnyH_take (i := 7) (oi := { dst := some 187, op := Op.indexAddr 30 (Operand.tmp 185) (Operand.tmp 186), type := 0, pos := "law.go:76", after := #[{ on := 5, ground := Ground.data }, { on := 6, ground := Ground.data }], guard := none }) (v := ?v7) rfl (by as_aux_lemma => kernel_rfl) (by as_aux_lemma => kernel_rfl) (by as_aux_lemma => kernel_rfl) (fun _ _ _ h => h) (Or.inl ⟨(by as_aux_lemma => kernel_rfl), ?hy7⟩) hH ?rest7
  case hy7 => (intro w hSw; (try dsimp only at hSw); go_simp; try with_reducible rfl)
  try simp only [Act.put, List.setIfInBounds_toArray, List.set_cons_zero, List.set_cons_succ]
  refine wpAnyH_take (i := 8) (oi := { dst := some 188, op := Op.load 32 (Operand.tmp 187), type := 32, pos := "law.go:76", after := #[{ on := 7, ground := Ground.data }], guard := none }) (v := ?v8) rfl (by as_aux_lemma => kernel_rfl) (by as_aux_lemma => kernel_rfl) (by as_aux_lemma => kernel_rfl) (fun _ _ _ h => h) (Or.inl ⟨(by as_aux_lemma => kernel_rfl), ?hy8⟩) hH ?rest8
  case hy8 => (intro w hSw; (try dsimp only at hSw); go_simp; try with_reducible rfl)
  try simp only [Act.put, List.setIfInBounds_toArray, List.set_cons_zero, List.set_cons_succ]
  refine wpAnyH_ready (rs := [4]) (by as_aux_lemma => kernel_rfl) (by simp) ?_
  refine AllReadyH.cons (o := { dst := some 184, op := Op.call { callee := Callee.value (Operand.func 18), args := #[Operand.tmp 183], argTypes := #[36] }, type := 9, pos := "law.go:76", after := #[{ on := 3, ground := Ground.data }], guard := none }) rfl (fun K hK => ?_) AllReadyH.nil
  go_simp
  go_at_call 18
  (with_reducible refine (show_any p t _ (HW.out _ B4d.out).1 (HW.out _ B4d.out).2.1 HF.out HBD.out.1).mono ?_)
  rintro e w5 ⟨rfl, hb5⟩
  have B5 := Lib.hid (B4d.out.trans (hb5.mono B4d.out.size))
  have P5 := Lib.hid (P4d.out.below hb5 P4d.out.lt)
  obtain ⟨z5_0, z5_1, z5_2, z5_3, z5_4, z5_5, z5_6⟩ := HC.out _ B5.out
  have z5_7 := P5.out.c0
  have z5_8 := P5.out.c1
  clear hb5 
  go_wp2_with fail
  refine hK.out _ _ ?_ (fun hH2 => ?_)
  · exact ⟨z5_0, z5_1, z5_2, z5_3, z5_4, z5_5, z5_6, z5_7, z5_8⟩
  clear hK K hH
  have hH := hH2
  clear hH2
  try simp only [Act.put, List.setIfInBounds_toArray, List.set_cons_zero, List.set_cons_succ]
  refine wpAnyH_ready (rs := [9]) (by as_aux_lemma => kernel_rfl) (by simp) ?_
  refine AllReadyH.cons (o := { dst := some 189, op := Op.call { callee := Callee.value (Operand.func 19), args := #[Operand.tmp 188], argTypes := #[32] }, type := 9, pos := "law.go:76", after := #[{ on := 8, ground := Ground.data }, { on := 4, ground := Ground.chain }], guard := none }) rfl (fun K hK => ?_) AllReadyH.nil
  go_simp
  go_at_call 19
  have hc := refShow_any (Fp (.slice (some ⟨gu, 0, none⟩) L cu) (.slice (some ⟨gv, 0, none⟩) L cv) mb) t HBD.out.2 (tV r (x1, x2) (.slice A1 (obeside t).length k1) (.slice A2' (okids t).len k2) (osize t : Nat)) _ (HW.out _ B5.out).2.2.1 HF.out
  simp only [tV] at hc
  (with_reducible refine hc.mono ?_)
  rintro e w6 ⟨rfl, hb6⟩
  clear hc
  have B6 := Lib.hid (B5.out.trans (hb6.mono B5.out.size))
  have P6 := Lib.hid (P5.out.below hb6 P5.out.lt)
  obtain ⟨z6_0, z6_1, z6_2, z6_3, z6_4, z6_5, z6_6⟩ := HC.out _ B6.out
  have z6_7 := P6.out.c0
  have z6_8 := P6.out.c1
  clear hb6  z5_0 z5_1 z5_2 z5_3 z5_4 z5_5 z5_6 z5_7 z5_8 B5 P5
  go_wp2_with fail
  refine hK.out _ _ ?_ (fun hH2 => ?_)
  · exact ⟨z6_0, z6_1, z6_2, z6_3, z6_4, z6_5, z6_6, z6_7, z6_8⟩
  clear hK K hH
  have hH := hH2
  clear hH2
  try simp only [Act.put, List.setIfInBounds_toArray, List.set_cons_zero, List.set_cons_succ]
  refine wpAnyH_take (i := 10) (oi := { dst := some 190, op := Op.binOp BinOp.neq 9 (Operand.tmp 184) (Operand.tmp 189) 9, type := 4, pos := "law.go:76", after := #[{ on := 4, ground := Ground.data }, { on := 9, ground := Ground.data }], guard := none }) (v := ?v10) rfl (by as_aux_lemma => kernel_rfl) (by as_aux_lemma => kernel_rfl) (by as_aux_lemma => kernel_rfl) (fun _ _ _ h => h) (Or.inl ⟨(by as_aux_lemma => kernel_rfl), ?hy10⟩) hH ?rest10
  case hy10 => (intro w hSw; (try dsimp only at hSw); go_simp; try with_reducible rfl)
  try simp only [Act.put, List.setIfInBounds_toArray, List.set_cons_zero, List.set_cons_succ]
  refine wpAnyH_take (i := 11) (oi := { dst := some 191, op := Op.move (Operand.tmp 190), type := 4, pos := "law.go:76", after := #[{ on := 10, ground := Ground.data }, { on := 9, ground := Ground.chain }], guard := none }) (v := ?v11) rfl (by as_aux_lemma => kernel_rfl) (by as_aux_lemma => kernel_rfl) (by as_aux_lemma => kernel_rfl) (fun _ _ _ h => h) (Or.inl ⟨(by as_aux_lemma => kernel_rfl), ?hy11⟩) hH ?rest11
  case hy11 => (intro w hSw; (try dsimp only at hSw); go_simp; try with_reducible rfl)
  try simp only [Act.put, List.setIfInBounds_toArray, List.set_cons_zero, List.set_cons_succ]
  refine wpAnyH_take (i := 12) (oi := { dst := some 192, op := Op.move (Operand.tmp 5), type := 26, pos := "law.go:76", after := #[{ on := 11, ground := Ground.guard }], guard := some (11, false) }) (v := ?v12) rfl (by as_aux_lemma => kernel_rfl) (by as_aux_lemma => kernel_rfl) (by as_aux_lemma => kernel_rfl) (fun _ _ _ h => h) (Or.inl ⟨(by as_aux_lemma => kernel_rfl), ?hy12⟩) hH ?rest12
  case hy12 => (intro w hSw; (try dsimp only at hSw); go_simp; try with_reducible rfl)
  try simp only [Act.put, List.setIfInBounds_toArray, List.set_cons_zero, List.set_cons_succ]
  refine wpAnyH_take (i := 13) (oi := { dst := some 193, op := Op.move (Operand.tmp 18), type := 3, pos := "law.go:76", after := #[{ on := 11, ground := Ground.guard }], guard := some (11, false) }) (v := ?v13) rfl (by as_aux_lemma => kernel_rfl) (by as_aux_lemma => kernel_rfl) (by as_aux_lemma => kernel_rfl) (fun _ _ _ h => h) (Or.inl ⟨(by as_aux_lemma => kernel_rfl), ?hy13⟩) hH ?rest13
  case hy13 => (intro w hSw; (try dsimp only at hSw); go_simp; try with_reducible rfl)
  try simp only [Act.put, List.setIfInBounds_toArray, List.set_cons_zero, List.set_cons_succ]
  refine wpAnyH_take (i := 14) (oi := { dst := some 194, op := Op.indexAddr 26 (Operand.tmp 192) (Operand.tmp 193), type := 0, pos := "law.go:76", after := #[{ on := 12, ground := Ground.data }, { on := 13, ground := Ground.data }, { on := 11, ground := Ground.guard }], guard := some (11, false) }) (v := ?v14) rfl (by as_aux_lemma => kernel_rfl) (by as_aux_lemma => kernel_rfl) (by as_aux_lemma => kernel_rfl) (fun _ _ _ h => h) (Or.inl ⟨(by as_aux_lemma => kernel_rfl), ?hy14⟩) hH ?rest14
  case hy14 => (intro w hSw; (try dsimp only at hSw); go_simp; try with_reducible rfl)
  try simp only [Act.put, List.setIfInBounds_toArray, List.set_cons_zero, List.set_cons_succ]
  refine wpAnyH_take (i := 15) (oi := { dst := some 195, op := Op.load 36 (Operand.tmp 194), type := 36, pos := "law.go:76", after := #[{ on := 14, ground := Ground.data }, { on := 11, ground := Ground.guard }], guard := some (11, false) }) (v := ?v15) rfl (by as_aux_lemma => kernel_rfl) (by as_aux_lemma => kernel_rfl) (by as_aux_lemma => kernel_rfl) (fun _ _ _ h => h) (Or.inl ⟨(by as_aux_lemma => kernel_rfl), ?hy15⟩) hH ?rest15
  case hy15 => (intro w hSw; (try dsimp only at hSw); go_simp; try with_reducible rfl)
  try simp only [Act.put, List.setIfInBounds_toArray, List.set_cons_zero, List.set_cons_succ]
  refine wpAnyH_take (i := 17) (oi := { dst := some 197, op := Op.move (Operand.tmp 6), type := 30, pos := "law.go:76", after := #[{ on := 11, ground := Ground.guard }], guard := some (11, false) }) (v := ?v17) rfl (by as_aux_lemma => kernel_rfl) (by as_aux_lemma => kernel_rfl) (by as_aux_lemma => kernel_rfl) (fun _ _ _ h => h) (Or.inl ⟨(by as_aux_lemma => kernel_rfl), ?hy17⟩) hH ?rest17
  case hy17 => (intro w hSw; (try dsimp only at hSw); go_simp; try with_reducible rfl)
  try simp only [Act.put, List.setIfInBounds_toArray, List.set_cons_zero, List.set_cons_succ]
  refine wpAnyH_take (i := 18) (oi := { dst := some 198, op := Op.move (Operand.tmp 18), type := 3, pos := "law.go:76", after := #[{ on := 11, ground := Ground.guard }], guard := some (11, false) }) (v := ?v18) rfl (by as_aux_lemma => kernel_rfl) (by as_aux_lemma => kernel_rfl) (by as_aux_lemma => kernel_rfl) (fun _ _ _ h => h) (Or.inl ⟨(by as_aux_lemma => kernel_rfl), ?hy18⟩) hH ?rest18
  case hy18 => (intro w hSw; (try dsimp only at hSw); go_simp; try with_reducible rfl)
  try simp only [Act.put, List.setIfInBounds_toArray, List.set_cons_zero, List.set_cons_succ]
  refine wpAnyH_take (i := 19) (oi := { dst := some 199, op := Op.indexAddr 30 (Operand.tmp 197) (Operand.tmp 198), type := 0, pos := "law.go:76", after := #[{ on := 17, ground := Ground.data }, { on := 18, ground := Ground.data }, { on := 11, ground := Ground.guard }], guard := some (11, false) }) (v := ?v19) rfl (by as_aux_lemma => kernel_rfl) (by as_aux_lemma => kernel_rfl) (by as_aux_lemma => kernel_rfl) (fun _ _ _ h => h) (Or.inl ⟨(by as_aux_lemma => kernel_rfl), ?hy19⟩) hH ?rest19
  case hy19 => (intro w hSw; (try dsimp only at hSw); go_simp; try with_reducible rfl)
  try simp only [Act.put, List.setIfInBounds_toArray, List.set_cons_zero, List.set_cons_succ]
  refine wpAnyH_take (i := 20) (oi := { dst := some 200, op := Op.load 32 (Operand.tmp 199), type := 32, pos := "law.go:76", after := #[{ on := 19, ground := Ground.data }, { on := 11, ground := Ground.guard }], guard := some (11, false) }) (v := ?v20) rfl (by as_aux_lemma => kernel_rfl) (by as_aux_lemma => kernel_rfl) (by as_aux_lemma => kernel_rfl) (fun _ _ _ h => h) (Or.inl ⟨(by as_aux_lemma => kernel_rfl), ?hy20⟩) hH ?rest20
  case hy20 => (intro w hSw; (try dsimp only at hSw); go_simp; try with_reducible rfl)
  try simp only [Act.put, List.setIfInBounds_toArray, List.set_cons_zero, List.set_cons_succ]
  refine wpAnyH_ready (rs := [16]) (by as_aux_lemma => kernel_rfl) (by simp) ?_
  refine AllReadyH.cons (o := { dst := some 196, op := Op.call { callee := Callee.value (Operand.func 20), args := #[Operand.tmp 195], argTypes := #[36] }, type := 3, pos := "law.go:76", after := #[{ on := 15, ground := Ground.data }, { on := 11, ground := Ground.chain }, { on := 11, ground := Ground.guard }], guard := some (11, false) }) rfl (fun K hK => ?_) AllReadyH.nil
  go_simp
  go_at_call 20
  (with_reducible refine (rank_any p t _ (HW.out _ B6.out).2.1).mono ?_)
  rintro e w7 ⟨rfl, rfl⟩
  go_wp2_with fail
  refine hK.out _ _ ?_ (fun hH2 => ?_)
  · exact ⟨z6_0, z6_1, z6_2, z6_3, z6_4, z6_5, z6_6, z6_7, z6_8⟩
  clear hK K hH
  have hH := hH2
  clear hH2
  try simp only [Act.put, List.setIfInBounds_toArray, List.set_cons_zero, List.set_cons_succ]
  refine wpAnyH_ready (rs := [21]) (by as_aux_lemma => kernel_rfl) (by simp) ?_
  refine AllReadyH.cons (o := { dst := some 201, op := Op.call { callee := Callee.value (Operand.func 21), args := #[Operand.tmp 200], argTypes := #[32] }, type := 3, pos := "law.go:76", after := #[{ on := 20, ground := Ground.data }, { on := 16, ground := Ground.chain }, { on := 11, ground := Ground.guard }], guard := some (11, false) }) rfl (fun K hK => ?_) AllReadyH.nil
  go_simp
  go_at_call 21
  have hc := refRank_any (Fp (.slice (some ⟨gu, 0, none⟩) L cu) (.slice (some ⟨gv, 0, none⟩) L cv) mb) (tV r (x1, x2) (.slice A1 (obeside t).length k1) (.slice A2' (okids t).len k2) (osize t : Nat)) t _ (HW.out _ B6.out).2.2.1
  simp only [tV] at hc
  (with_reducible refine hc.mono ?_)
  rintro e w8 ⟨rfl, hb8⟩
  clear hc
  have B8 := Lib.hid (B6.out.trans (hb8.mono B6.out.size))
  have P8 := Lib.hid (P6.out.below hb8 P6.out.lt)
  obtain ⟨z8_0, z8_1, z8_2, z8_3, z8_4, z8_5, z8_6⟩ := HC.out _ B8.out
  have z8_7 := P8.out.c0
  have z8_8 := P8.out.c1
  clear hb8  z6_0 z6_1 z6_2 z6_3 z6_4 z6_5 z6_6 z6_7 z6_8 B6 P6
  go_wp2_with fail
  refine hK.out _ _ ?_ (fun hH2 => ?_)
  · exact ⟨z8_0, z8_1, z8_2, z8_3, z8_4, z8_5, z8_6, z8_7, z8_8⟩
  clear hK K hH
  have hH := hH2
  clear hH2
  try simp only [Act.put, List.setIfInBounds_toArray, List.set_cons_zero, List.set_cons_succ]
  refine wpAnyH_take (i := 22) (oi := { dst := some 202, op := Op.binOp BinOp.neq 3 (Operand.tmp 196) (Operand.tmp 201) 3, type := 4, pos := "law.go:76", after := #[{ on := 16, ground := Ground.data }, { on := 21, ground := Ground.data }, { on := 11, ground := Ground.guard }], guard := some (11, false) }) (v := ?v22) rfl (by as_aux_lemma => kernel_rfl) (by as_aux_lemma => kernel_rfl) (by as_aux_lemma => kernel_rfl) (fun _ _ _ h => h) (Or.inl ⟨(by as_aux_lemma => kernel_rfl), ?hy22⟩) hH ?rest22
  case hy22 => (intro w hSw; (try dsimp only at hSw); go_simp; try with_reducible rfl)
  try simp only [Act.put, List.setIfInBounds_toArray, List.set_cons_zero, List.set_cons_succ]
  refine wpAnyH_take (i := 23) (oi := { dst := some 203, op := Op.pick (Operand.tmp 191) (Operand.const (Value.bool true)) (Operand.tmp 202), type := 4, pos := "law.go:76", after := #[{ on := 11, ground := Ground.data }, { on := 22, ground := Ground.data }], guard := none }) (v := ?v23) rfl (by as_aux_lemma => kernel_rfl) (by as_aux_lemma => kernel_rfl) (by as_aux_lemma => kernel_rfl) (fun _ _ _ h => h) (Or.inl ⟨(by as_aux_lemma => kernel_rfl), ?hy23⟩) hH ?rest23
  case hy23 => (intro w hSw; (try dsimp only at hSw); go_simp; try with_reducible rfl)
  try simp only [Act.put, List.setIfInBounds_toArray, List.set_cons_zero, List.set_cons_succ]
  refine wpAnyH_take (i := 24) (oi := { dst := some 204, op := Op.move (Operand.tmp 203), type := 4, pos := "law.go:76", after := #[{ on := 23, ground := Ground.data }, { on := 21, ground := Ground.chain }], guard := none }) (v := ?v24) rfl (by as_aux_lemma => kernel_rfl) (by as_aux_lemma => kernel_rfl) (by as_aux_lemma => kernel_rfl) (fun _ _ _ h => h) (Or.inl ⟨(by as_aux_lemma => kernel_rfl), ?hy24⟩) hH ?rest24
  case hy24 => (intro w hSw; (try dsimp only at hSw); go_simp; try with_reducible rfl)
  try simp only [Act.put, List.setIfInBounds_toArray, List.set_cons_zero, List.set_cons_succ]
  refine wpAnyH_take (i := 25) (oi := { dst := some 205, op := Op.move (Operand.tmp 5), type := 26, pos := "law.go:76", after := #[{ on := 24, ground := Ground.guard }], guard := some (24, false) }) (v := ?v25) rfl (by as_aux_lemma => kernel_rfl) (by as_aux_lemma => kernel_rfl) (by as_aux_lemma => kernel_rfl) (fun _ _ _ h => h) (Or.inl ⟨(by as_aux_lemma => kernel_rfl), ?hy25⟩) hH ?rest25
  case hy25 => (intro w hSw; (try dsimp only at hSw); go_simp; try with_reducible rfl)
  try simp only [Act.put, List.setIfInBounds_toArray, List.set_cons_zero, List.set_cons_succ]
  refine wpAnyH_take (i := 26) (oi := { dst := some 206, op := Op.move (Operand.tmp 18), type := 3, pos := "law.go:76", after := #[{ on := 24, ground := Ground.guard }], guard := some (24, false) }) (v := ?v26) rfl (by as_aux_lemma => kernel_rfl) (by as_aux_lemma => kernel_rfl) (by as_aux_lemma => kernel_rfl) (fun _ _ _ h => h) (Or.inl ⟨(by as_aux_lemma => kernel_rfl), ?hy26⟩) hH ?rest26
  case hy26 => (intro w hSw; (try dsimp only at hSw); go_simp; try with_reducible rfl)
  try simp only [Act.put, List.setIfInBounds_toArray, List.set_cons_zero, List.set_cons_succ]
  refine wpAnyH_take (i := 27) (oi := { dst := some 207, op := Op.indexAddr 26 (Operand.tmp 205) (Operand.tmp 206), type := 0, pos := "law.go:76", after := #[{ on := 25, ground := Ground.data }, { on := 26, ground := Ground.data }, { on := 24, ground := Ground.guard }], guard := some (24, false) }) (v := ?v27) rfl (by as_aux_lemma => kernel_rfl) (by as_aux_lemma => kernel_rfl) (by as_aux_lemma => kernel_rfl) (fun _ _ _ h => h) (Or.inl ⟨(by as_aux_lemma => kernel_rfl), ?hy27⟩) hH ?rest27
  case hy27 => (intro w hSw; (try dsimp only at hSw); go_simp; try with_reducible rfl)
  try simp only [Act.put, List.setIfInBounds_toArray, List.set_cons_zero, List.set_cons_succ]
  refine wpAnyH_take (i := 28) (oi := { dst := some 208, op := Op.load 36 (Operand.tmp 207), type := 36, pos := "law.go:76", after := #[{ on := 27, ground := Ground.data }, { on := 24, ground := Ground.guard }], guard := some (24, false) }) (v := ?v28) rfl (by as_aux_lemma => kernel_rfl) (by as_aux_lemma => kernel_rfl) (by as_aux_lemma => kernel_rfl) (fun _ _ _ h => h) (Or.inl ⟨(by as_aux_lemma => kernel_rfl), ?hy28⟩) hH ?rest28
  case hy28 => (intro w hSw; (try dsimp only at hSw); go_simp; try with_reducible rfl)
  try simp only [Act.put, List.setIfInBounds_toArray, List.set_cons_zero, List.set_cons_succ]
  refine wpAnyH_take (i := 30) (oi := { dst := some 210, op := Op.move (Operand.tmp 6), type := 30, pos := "law.go:76", after := #[{ on := 24, ground := Ground.guard }], guard := some (24, false) }) (v := ?v30) rfl (by as_aux_lemma => kernel_rfl) (by as_aux_lemma => kernel_rfl) (by as_aux_lemma => kernel_rfl) (fun _ _ _ h => h) (Or.inl ⟨(by as_aux_lemma => kernel_rfl), ?hy30⟩) hH ?rest30
  case hy30 => (intro w hSw; (try dsimp only at hSw); go_simp; try with_reducible rfl)
  try simp only [Act.put, List.setIfInBounds_toArray, List.set_cons_zero, List.set_cons_succ]
  refine wpAnyH_take (i := 31) (oi := { dst := some 211, op := Op.move (Operand.tmp 18), type := 3, pos := "law.go:76", after := #[{ on := 24, ground := Ground.guard }], guard := some (24, false) }) (v := ?v31) rfl (by as_aux_lemma => kernel_rfl) (by as_aux_lemma => kernel_rfl) (by as_aux_lemma => kernel_rfl) (fun _ _ _ h => h) (Or.inl ⟨(by as_aux_lemma => kernel_rfl), ?hy31⟩) hH ?rest31
  case hy31 => (intro w hSw; (try dsimp only at hSw); go_simp; try with_reducible rfl)
  try simp only [Act.put, List.setIfInBounds_toArray, List.set_cons_zero, List.set_cons_succ]
  refine wpAnyH_take (i := 32) (oi := { dst := some 212, op := Op.indexAddr 30 (Operand.tmp 210) (Operand.tmp 211), type := 0, pos := "law.go:76", after := #[{ on := 30, ground := Ground.data }, { on := 31, ground := Ground.data }, { on := 24, ground := Ground.guard }], guard := some (24, false) }) (v := ?v32) rfl (by as_aux_lemma => kernel_rfl) (by as_aux_lemma => kernel_rfl) (by as_aux_lemma => kernel_rfl) (fun _ _ _ h => h) (Or.inl ⟨(by as_aux_lemma => kernel_rfl), ?hy32⟩) hH ?rest32
  case hy32 => (intro w hSw; (try dsimp only at hSw); go_simp; try with_reducible rfl)
  try simp only [Act.put, List.setIfInBounds_toArray, List.set_cons_zero, List.set_cons_succ]
  refine wpAnyH_take (i := 33) (oi := { dst := some 213, op := Op.fieldAddr 32 (Operand.tmp 212) 4, type := 0, pos := "law.go:76", after := #[{ on := 32, ground := Ground.data }, { on := 24, ground := Ground.guard }], guard := some (24, false) }) (v := ?v33) rfl (by as_aux_lemma => kernel_rfl) (by as_aux_lemma => kernel_rfl) (by as_aux_lemma => kernel_rfl) (fun _ _ _ h => h) (Or.inl ⟨(by as_aux_lemma => kernel_rfl), ?hy33⟩) hH ?rest33
  case hy33 => (intro w hSw; (try dsimp only at hSw); go_simp; try with_reducible rfl)
  try simp only [Act.put, List.setIfInBounds_toArray, List.set_cons_zero, List.set_cons_succ]
  refine wpAnyH_take (i := 34) (oi := { dst := some 214, op := Op.load 3 (Operand.tmp 213), type := 3, pos := "law.go:76", after := #[{ on := 33, ground := Ground.data }, { on := 24, ground := Ground.guard }], guard := some (24, false) }) (v := ?v34) rfl (by as_aux_lemma => kernel_rfl) (by as_aux_lemma => kernel_rfl) (by as_aux_lemma => kernel_rfl) (fun _ _ _ h => h) (Or.inl ⟨(by as_aux_lemma => kernel_rfl), ?hy34⟩) hH ?rest34
  case hy34 => (intro w hSw; (try dsimp only at hSw); go_simp; try with_reducible rfl)
  try simp only [Act.put, List.setIfInBounds_toArray, List.set_cons_zero, List.set_cons_succ]
  refine wpAnyH_ready (rs := [29]) (by as_aux_lemma => kernel_rfl) (by simp) ?_
  refine AllReadyH.cons (o := { dst := some 209, op := Op.call { callee := Callee.value (Operand.func 22), args := #[Operand.tmp 208], argTypes := #[36] }, type := 3, pos := "law.go:76", after := #[{ on := 28, ground := Ground.data }, { on := 24, ground := Ground.chain }, { on := 24, ground := Ground.guard }], guard := some (24, false) }) rfl (fun K hK => ?_) AllReadyH.nil
  go_simp
  go_at_call 22
  (with_reducible refine (size_any p t _ (HW.out _ B8.out).2.1 HBD.out.1).mono ?_)
  rintro e w9 ⟨rfl, rfl⟩
  go_wp2_with fail
  refine hK.out _ _ ?_ (fun hH2 => ?_)
  · exact ⟨z8_0, z8_1, z8_2, z8_3, z8_4, z8_5, z8_6, z8_7, z8_8⟩
  clear hK K hH
  have hH := hH2
  clear hH2
  try simp only [Act.put, List.setIfInBounds_toArray, List.set_cons_zero, List.set_cons_succ]
  refine wpAnyH_take (i := 35) (oi := { dst := some 215, op := Op.binOp BinOp.neq 3 (Operand.tmp 209) (Operand.tmp 214) 3, type := 4, pos := "law.go:76", after := #[{ on := 29, ground := Ground.data }, { on := 34, ground := Ground.data }, { on := 24, ground := Ground.guard }], guard := some (24, false) }) (v := ?v35) rfl (by as_aux_lemma => kernel_rfl) (by as_aux_lemma => kernel_rfl) (by as_aux_lemma => kernel_rfl) (fun _ _ _ h => h) (Or.inl ⟨(by as_aux_lemma => kernel_rfl), ?hy35⟩) hH ?rest35
  case hy35 => (intro w hSw; (try dsimp only at hSw); go_simp; try with_reducible rfl)
  try simp only [Act.put, List.setIfInBounds_toArray, List.set_cons_zero, List.set_cons_succ]
  refine wpAnyH_take (i := 36) (oi := { dst := some 216, op := Op.pick (Operand.tmp 204) (Operand.const (Value.bool true)) (Operand.tmp 215), type := 4, pos := "law.go:76", after := #[{ on := 24, ground := Ground.data }, { on := 35, ground := Ground.data }], guard := none }) (v := ?v36) rfl (by as_aux_lemma => kernel_rfl) (by as_aux_lemma => kernel_rfl) (by as_aux_lemma => kernel_rfl) (fun _ _ _ h => h) (Or.inl ⟨(by as_aux_lemma => kernel_rfl), ?hy36⟩) hH ?rest36
  case hy36 => (intro w hSw; (try dsimp only at hSw); go_simp; try with_reducible rfl)
  try simp only [Act.put, List.setIfInBounds_toArray, List.set_cons_zero, List.set_cons_succ]
  refine wpAnyH_take (i := 37) (oi := { dst := some 217, op := Op.move (Operand.tmp 216), type := 4, pos := "law.go:76", after := #[{ on := 36, ground := Ground.data }, { on := 29, ground := Ground.chain }], guard := none }) (v := ?v37) rfl (by as_aux_lemma => kernel_rfl) (by as_aux_lemma => kernel_rfl) (by as_aux_lemma => kernel_rfl) (fun _ _ _ h => h) (Or.inl ⟨(by as_aux_lemma => kernel_rfl), ?hy37⟩) hH ?rest37
  case hy37 => (intro w hSw; (try dsimp only at hSw); go_simp; try with_reducible rfl)
  try simp only [Act.put, List.setIfInBounds_toArray, List.set_cons_zero, List.set_cons_succ]
  refine wpAnyH_take (i := 38) (oi := { dst := some 218, op := Op.move (Operand.tmp 20), type := 4, pos := "law.go:76", after := #[{ on := 37, ground := Ground.guard }], guard := some (37, false) }) (v := ?v38) rfl (by as_aux_lemma => kernel_rfl) (by as_aux_lemma => kernel_rfl) (by as_aux_lemma => kernel_rfl) (fun _ _ _ h => h) (Or.inl ⟨(by as_aux_lemma => kernel_rfl), ?hy38⟩) hH ?rest38
  case hy38 => (intro w hSw; (try dsimp only at hSw); go_simp; try with_reducible rfl)
  try simp only [Act.put, List.setIfInBounds_toArray, List.set_cons_zero, List.set_cons_succ]
  refine wpAnyH_take (i := 39) (oi := { dst := some 219, op := Op.move (Operand.tmp 6), type := 30, pos := "law.go:76", after := #[{ on := 37, ground := Ground.guard }], guard := some (37, false) }) (v := ?v39) rfl (by as_aux_lemma => kernel_rfl) (by as_aux_lemma => kernel_rfl) (by as_aux_lemma => kernel_rfl) (fun _ _ _ h => h) (Or.inl ⟨(by as_aux_lemma => kernel_rfl), ?hy39⟩) hH ?rest39
  case hy39 => (intro w hSw; (try dsimp only at hSw); go_simp; try with_reducible rfl)
  try simp only [Act.put, List.setIfInBounds_toArray, List.set_cons_zero, List.set_cons_succ]
  refine wpAnyH_take (i := 40) (oi := { dst := some 220, op := Op.move (Operand.tmp 18), type := 3, pos := "law.go:76", after := #[{ on := 37, ground := Ground.guard }], guard := some (37, false) }) (v := ?v40) rfl (by as_aux_lemma => kernel_rfl) (by as_aux_lemma => kernel_rfl) (by as_aux_lemma => kernel_rfl) (fun _ _ _ h => h) (Or.inl ⟨(by as_aux_lemma => kernel_rfl), ?hy40⟩) hH ?rest40
  case hy40 => (intro w hSw; (try dsimp only at hSw); go_simp; try with_reducible rfl)
  try simp only [Act.put, List.setIfInBounds_toArray, List.set_cons_zero, List.set_cons_succ]
  refine wpAnyH_take (i := 41) (oi := { dst := some 221, op := Op.indexAddr 30 (Operand.tmp 219) (Operand.tmp 220), type := 0, pos := "law.go:76", after := #[{ on := 39, ground := Ground.data }, { on := 40, ground := Ground.data }, { on := 37, ground := Ground.guard }], guard := some (37, false) }) (v := ?v41) rfl (by as_aux_lemma => kernel_rfl) (by as_aux_lemma => kernel_rfl) (by as_aux_lemma => kernel_rfl) (fun _ _ _ h => h) (Or.inl ⟨(by as_aux_lemma => kernel_rfl), ?hy41⟩) hH ?rest41
  case hy41 => (intro w hSw; (try dsimp only at hSw); go_simp; try with_reducible rfl)
  try simp only [Act.put, List.setIfInBounds_toArray, List.set_cons_zero, List.set_cons_succ]
  refine wpAnyH_take (i := 42) (oi := { dst := some 222, op := Op.fieldAddr 32 (Operand.tmp 221) 4, type := 0, pos := "law.go:76", after := #[{ on := 41, ground := Ground.data }, { on := 37, ground := Ground.guard }], guard := some (37, false) }) (v := ?v42) rfl (by as_aux_lemma => kernel_rfl) (by as_aux_lemma => kernel_rfl) (by as_aux_lemma => kernel_rfl) (fun _ _ _ h => h) (Or.inl ⟨(by as_aux_lemma => kernel_rfl), ?hy42⟩) hH ?rest42
  case hy42 => (intro w hSw; (try dsimp only at hSw); go_simp; try with_reducible rfl)
  try simp only [Act.put, List.setIfInBounds_toArray, List.set_cons_zero, List.set_cons_succ]
  refine wpAnyH_take (i := 43) (oi := { dst := some 223, op := Op.load 3 (Operand.tmp 222), type := 3, pos := "law.go:76", after := #[{ on := 42, ground := Ground.data }, { on := 37, ground := Ground.guard }], guard := some (37, false) }) (v := ?v43) rfl (by as_aux_lemma => kernel_rfl) (by as_aux_lemma => kernel_rfl) (by as_aux_lemma => kernel_rfl) (fun _ _ _ h => h) (Or.inl ⟨(by as_aux_lemma => kernel_rfl), ?hy43⟩) hH ?rest43
  case hy43 => (intro w hSw; (try dsimp only at hSw); go_simp; try with_reducible rfl)
  try simp only [Act.put, List.setIfInBounds_toArray, List.set_cons_zero, List.set_cons_succ]
  refine wpAnyH_take (i := 44) (oi := { dst := some 224, op := Op.binOp BinOp.gtr 3 (Operand.tmp 223) (Operand.const (Value.int IntKind.i64 0)) 3, type := 4, pos := "law.go:76", after := #[{ on := 43, ground := Ground.data }, { on := 37, ground := Ground.guard }], guard := some (37, false) }) (v := ?v44) rfl (by as_aux_lemma => kernel_rfl) (by as_aux_lemma => kernel_rfl) (by as_aux_lemma => kernel_rfl) (fun _ _ _ h => h) (Or.inl ⟨(by as_aux_lemma => kernel_rfl), ?hy44⟩) hH ?rest44
  case hy44 => (intro w hSw; (try dsimp only at hSw); go_simp; try with_reducible rfl)
  try simp only [Act.put, List.setIfInBounds_toArray, List.set_cons_zero, List.set_cons_succ]
  refine wpAnyH_take (i := 45) (oi := { dst := some 225, op := Op.binOp BinOp.neq 4 (Operand.tmp 218) (Operand.tmp 224) 4, type := 4, pos := "law.go:76", after := #[{ on := 38, ground := Ground.data }, { on := 44, ground := Ground.data }, { on := 37, ground := Ground.guard }], guard := some (37, false) }) (v := ?v45) rfl (by as_aux_lemma => kernel_rfl) (by as_aux_lemma => kernel_rfl) (by as_aux_lemma => kernel_rfl) (fun _ _ _ h => h) (Or.inl ⟨(by as_aux_lemma => kernel_rfl), ?hy45⟩) hH ?rest45
  case hy45 => (intro w hSw; (try dsimp only at hSw); go_simp; try with_reducible rfl)
  try simp only [Act.put, List.setIfInBounds_toArray, List.set_cons_zero, List.set_cons_succ]
  refine wpAnyH_take (i := 46) (oi := { dst := some 226, op := Op.pick (Operand.tmp 217) (Operand.const (Value.bool true)) (Operand.tmp 225), type := 4, pos := "law.go:76", after := #[{ on := 37, ground := Ground.data }, { on := 45, ground := Ground.data }], guard := none }) (v := ?v46) rfl (by as_aux_lemma => kernel_rfl) (by as_aux_lemma => kernel_rfl) (by as_aux_lemma => kernel_rfl) (fun _ _ _ h => h) (Or.inl ⟨(by as_aux_lemma => kernel_rfl), ?hy46⟩) hH ?rest46
  case hy46 => (intro w hSw; (try dsimp only at hSw); go_simp; try with_reducible rfl)
  try simp only [Act.put, List.setIfInBounds_toArray, List.set_cons_zero, List.set_cons_succ]
  refine wpAnyH_take (i := 47) (oi := { dst := some 227, op := Op.move (Operand.tmp 226), type := 4, pos := "law.go:76", after := #[{ on := 46, ground := Ground.data }, { on := 37, ground := Ground.chain }], guard := none }) (v := ?v47) rfl (by as_aux_lemma => kernel_rfl) (by as_aux_lemma => kernel_rfl) (by as_aux_lemma => kernel_rfl) (fun _ _ _ h => h) (Or.inl ⟨(by as_aux_lemma => kernel_rfl), ?hy47⟩) hH ?rest47
  case hy47 => (intro w hSw; (try dsimp only at hSw); go_simp; try with_reducible rfl)
  try simp only [Act.put, List.setIfInBounds_toArray, List.set_cons_zero, List.set_cons_succ]
  refine wpAnyH_take (i := 48) (oi := { dst := some 228, op := Op.load 28 (Operand.tmp 19), type := 28, pos := "law.go:76", after := #[{ on := 47, ground := Ground.guard }], guard := some (47, false) }) (v := ?v48) rfl (by as_aux_lemma => kernel_rfl) (by as_aux_lemma => kernel_rfl) (by as_aux_lemma => kernel_rfl) (fun _ _ _ h => h) (Or.inl ⟨(by as_aux_lemma => kernel_rfl), ?hy48⟩) hH ?rest48
  case hy48 => (intro w hSw; (try dsimp only at hSw); go_simp; try with_reducible rfl)
  try simp only [Act.put, List.setIfInBounds_toArray, List.set_cons_zero, List.set_cons_succ]
  refine wpAnyH_take (i := 49) (oi := { dst := some 229, op := Op.move (Operand.tmp 6), type := 30, pos := "law.go:76", after := #[{ on := 47, ground := Ground.guard }], guard := some (47, false) }) (v := ?v49) rfl (by as_aux_lemma => kernel_rfl) (by as_aux_lemma => kernel_rfl) (by as_aux_lemma => kernel_rfl) (fun _ _ _ h => h) (Or.inl ⟨(by as_aux_lemma => kernel_rfl), ?hy49⟩) hH ?rest49
  case hy49 => (intro w hSw; (try dsimp only at hSw); go_simp; try with_reducible rfl)
  try simp only [Act.put, List.setIfInBounds_toArray, List.set_cons_zero, List.set_cons_succ]
  refine wpAnyH_take (i := 50) (oi := { dst := some 230, op := Op.move (Operand.tmp 18), type := 3, pos := "law.go:76", after := #[{ on := 47, ground := Ground.guard }], guard := some (47, false) }) (v := ?v50) rfl (by as_aux_lemma => kernel_rfl) (by as_aux_lemma => kernel_rfl) (by as_aux_lemma => kernel_rfl) (fun _ _ _ h => h) (Or.inl ⟨(by as_aux_lemma => kernel_rfl), ?hy50⟩) hH ?rest50
  case hy50 => (intro w hSw; (try dsimp only at hSw); go_simp; try with_reducible rfl)
  try simp only [Act.put, List.setIfInBounds_toArray, List.set_cons_zero, List.set_cons_succ]
  refine wpAnyH_take (i := 51) (oi := { dst := some 231, op := Op.indexAddr 30 (Operand.tmp 229) (Operand.tmp 230), type := 0, pos := "law.go:76", after := #[{ on := 49, ground := Ground.data }, { on := 50, ground := Ground.data }, { on := 47, ground := Ground.guard }], guard := some (47, false) }) (v := ?v51) rfl (by as_aux_lemma => kernel_rfl) (by as_aux_lemma => kernel_rfl) (by as_aux_lemma => kernel_rfl) (fun _ _ _ h => h) (Or.inl ⟨(by as_aux_lemma => kernel_rfl), ?hy51⟩) hH ?rest51
  case hy51 => (intro w hSw; (try dsimp only at hSw); go_simp; try with_reducible rfl)
  try simp only [Act.put, List.setIfInBounds_toArray, List.set_cons_zero, List.set_cons_succ]
  refine wpAnyH_take (i := 52) (oi := { dst := some 232, op := Op.fieldAddr 32 (Operand.tmp 231) 1, type := 0, pos := "law.go:76", after := #[{ on := 51, ground := Ground.data }, { on := 47, ground := Ground.guard }], guard := some (47, false) }) (v := ?v52) rfl (by as_aux_lemma => kernel_rfl) (by as_aux_lemma => kernel_rfl) (by as_aux_lemma => kernel_rfl) (fun _ _ _ h => h) (Or.inl ⟨(by as_aux_lemma => kernel_rfl), ?hy52⟩) hH ?rest52
  case hy52 => (intro w hSw; (try dsimp only at hSw); go_simp; try with_reducible rfl)
  try simp only [Act.put, List.setIfInBounds_toArray, List.set_cons_zero, List.set_cons_succ]
  refine wpAnyH_take (i := 53) (oi := { dst := some 233, op := Op.load 28 (Operand.tmp 232), type := 28, pos := "law.go:76", after := #[{ on := 52, ground := Ground.data }, { on := 47, ground := Ground.guard }], guard := some (47, false) }) (v := ?v53) rfl (by as_aux_lemma => kernel_rfl) (by as_aux_lemma => kernel_rfl) (by as_aux_lemma => kernel_rfl) (fun _ _ _ h => h) (Or.inl ⟨(by as_aux_lemma => kernel_rfl), ?hy53⟩) hH ?rest53
  case hy53 => (intro w hSw; (try dsimp only at hSw); go_simp; try with_reducible rfl)
  try simp only [Act.put, List.setIfInBounds_toArray, List.set_cons_zero, List.set_cons_succ]
  refine wpAnyH_take (i := 54) (oi := { dst := some 234, op := Op.binOp BinOp.neq 28 (Operand.tmp 228) (Operand.tmp 233) 28, type := 4, pos := "law.go:76", after := #[{ on := 48, ground := Ground.data }, { on := 53, ground := Ground.data }, { on := 47, ground := Ground.guard }], guard := some (47, false) }) (v := ?v54) rfl (by as_aux_lemma => kernel_rfl) (by as_aux_lemma => kernel_rfl) (by as_aux_lemma => kernel_rfl) (fun _ _ _ h => h) (Or.inl ⟨(by as_aux_lemma => kernel_rfl), ?hy54⟩) hH ?rest54
  case hy54 => (intro w hSw; (try dsimp only at hSw); go_simp; try with_reducible rfl)
  try simp only [Act.put, List.setIfInBounds_toArray, List.set_cons_zero, List.set_cons_succ]
  refine wpAnyH_take (i := 55) (oi := { dst := some 235, op := Op.pick (Operand.tmp 227) (Operand.const (Value.bool true)) (Operand.tmp 234), type := 4, pos := "law.go:76", after := #[{ on := 47, ground := Ground.data }, { on := 54, ground := Ground.data }], guard := none }) (v := ?v55) rfl (by as_aux_lemma => kernel_rfl) (by as_aux_lemma => kernel_rfl) (by as_aux_lemma => kernel_rfl) (fun _ _ _ h => h) (Or.inl ⟨(by as_aux_lemma => kernel_rfl), ?hy55⟩) hH ?rest55
  case hy55 => (intro w hSw; (try dsimp only at hSw); go_simp; try with_reducible rfl)
  try simp only [Act.put, List.setIfInBounds_toArray, List.set_cons_zero, List.set_cons_succ]
  refine wpAnyH_take (i := 56) (oi := { dst := some 236, op := Op.move (Operand.tmp 235), type := 4, pos := "law.go:76", after := #[{ on := 55, ground := Ground.data }, { on := 47, ground := Ground.chain }], guard := none }) (v := ?v56) rfl (by as_aux_lemma => kernel_rfl) (by as_aux_lemma => kernel_rfl) (by as_aux_lemma => kernel_rfl) (fun _ _ _ h => h) (Or.inl ⟨(by as_aux_lemma => kernel_rfl), ?hy56⟩) hH ?rest56
  case hy56 => (intro w hSw; (try dsimp only at hSw); go_simp; try with_reducible rfl)
  try simp only [Act.put, List.setIfInBounds_toArray, List.set_cons_zero, List.set_cons_succ]
  refine wpAnyH_take (i := 57) (oi := { dst := some 237, op := Op.move (Operand.tmp 5), type := 26, pos := "law.go:76", after := #[{ on := 56, ground := Ground.guard }], guard := some (56, false) }) (v := ?v57) rfl (by as_aux_lemma => kernel_rfl) (by as_aux_lemma => kernel_rfl) (by as_aux_lemma => kernel_rfl) (fun _ _ _ h => h) (Or.inl ⟨(by as_aux_lemma => kernel_rfl), ?hy57⟩) hH ?rest57
  case hy57 => (intro w hSw; (try dsimp only at hSw); go_simp; try with_reducible rfl)
  try simp only [Act.put, List.setIfInBounds_toArray, List.set_cons_zero, List.set_cons_succ]
  refine wpAnyH_take (i := 58) (oi := { dst := some 238, op := Op.move (Operand.tmp 18), type := 3, pos := "law.go:76", after := #[{ on := 56, ground := Ground.guard }], guard := some (56, false) }) (v := ?v58) rfl (by as_aux_lemma => kernel_rfl) (by as_aux_lemma => kernel_rfl) (by as_aux_lemma => kernel_rfl) (fun _ _ _ h => h) (Or.inl ⟨(by as_aux_lemma => kernel_rfl), ?hy58⟩) hH ?rest58
  case hy58 => (intro w hSw; (try dsimp only at hSw); go_simp; try with_reducible rfl)
  try simp only [Act.put, List.setIfInBounds_toArray, List.set_cons_zero, List.set_cons_succ]
  refine wpAnyH_take (i := 59) (oi := { dst := some 239, op := Op.indexAddr 26 (Operand.tmp 237) (Operand.tmp 238), type := 0, pos := "law.go:76", after := #[{ on := 57, ground := Ground.data }, { on := 58, ground := Ground.data }, { on := 56, ground := Ground.guard }], guard := some (56, false) }) (v := ?v59) rfl (by as_aux_lemma => kernel_rfl) (by as_aux_lemma => kernel_rfl) (by as_aux_lemma => kernel_rfl) (fun _ _ _ h => h) (Or.inl ⟨(by as_aux_lemma => kernel_rfl), ?hy59⟩) hH ?rest59
  case hy59 => (intro w hSw; (try dsimp only at hSw); go_simp; try with_reducible rfl)
  try simp only [Act.put, List.setIfInBounds_toArray, List.set_cons_zero, List.set_cons_succ]
  refine wpAnyH_take (i := 60) (oi := { dst := some 240, op := Op.load 36 (Operand.tmp 239), type := 36, pos := "law.go:76", after := #[{ on := 59, ground := Ground.data }, { on := 56, ground := Ground.guard }], guard := some (56, false) }) (v := ?v60) rfl (by as_aux_lemma => kernel_rfl) (by as_aux_lemma => kernel_rfl) (by as_aux_lemma => kernel_rfl) (fun _ _ _ h => h) (Or.inl ⟨(by as_aux_lemma => kernel_rfl), ?hy60⟩) hH ?rest60
  case hy60 => (intro w hSw; (try dsimp only at hSw); go_simp; try with_reducible rfl)
  try simp only [Act.put, List.setIfInBounds_toArray, List.set_cons_zero, List.set_cons_succ]
  refine wpAnyH_take (i := 62) (oi := { dst := some 242, op := Op.move (Operand.tmp 6), type := 30, pos := "law.go:76", after := #[{ on := 56, ground := Ground.guard }], guard := some (56, false) }) (v := ?v62) rfl (by as_aux_lemma => kernel_rfl) (by as_aux_lemma => kernel_rfl) (by as_aux_lemma => kernel_rfl) (fun _ _ _ h => h) (Or.inl ⟨(by as_aux_lemma => kernel_rfl), ?hy62⟩) hH ?rest62
  case hy62 => (intro w hSw; (try dsimp only at hSw); go_simp; try with_reducible rfl)
  try simp only [Act.put, List.setIfInBounds_toArray, List.set_cons_zero, List.set_cons_succ]
  refine wpAnyH_take (i := 63) (oi := { dst := some 243, op := Op.move (Operand.tmp 18), type := 3, pos := "law.go:76", after := #[{ on := 56, ground := Ground.guard }], guard := some (56, false) }) (v := ?v63) rfl (by as_aux_lemma => kernel_rfl) (by as_aux_lemma => kernel_rfl) (by as_aux_lemma => kernel_rfl) (fun _ _ _ h => h) (Or.inl ⟨(by as_aux_lemma => kernel_rfl), ?hy63⟩) hH ?rest63
  case hy63 => (intro w hSw; (try dsimp only at hSw); go_simp; try with_reducible rfl)
  try simp only [Act.put, List.setIfInBounds_toArray, List.set_cons_zero, List.set_cons_succ]
  refine wpAnyH_take (i := 64) (oi := { dst := some 244, op := Op.indexAddr 30 (Operand.tmp 242) (Operand.tmp 243), type := 0, pos := "law.go:76", after := #[{ on := 62, ground := Ground.data }, { on := 63, ground := Ground.data }, { on := 56, ground := Ground.guard }], guard := some (56, false) }) (v := ?v64) rfl (by as_aux_lemma => kernel_rfl) (by as_aux_lemma => kernel_rfl) (by as_aux_lemma => kernel_rfl) (fun _ _ _ h => h) (Or.inl ⟨(by as_aux_lemma => kernel_rfl), ?hy64⟩) hH ?rest64
  case hy64 => (intro w hSw; (try dsimp only at hSw); go_simp; try with_reducible rfl)
  try simp only [Act.put, List.setIfInBounds_toArray, List.set_cons_zero, List.set_cons_succ]
  refine wpAnyH_take (i := 65) (oi := { dst := some 245, op := Op.load 32 (Operand.tmp 244), type := 32, pos := "law.go:76", after := #[{ on := 64, ground := Ground.data }, { on := 56, ground := Ground.guard }], guard := some (56, false) }) (v := ?v65) rfl (by as_aux_lemma => kernel_rfl) (by as_aux_lemma => kernel_rfl) (by as_aux_lemma => kernel_rfl) (fun _ _ _ h => h) (Or.inl ⟨(by as_aux_lemma => kernel_rfl), ?hy65⟩) hH ?rest65
  case hy65 => (intro w hSw; (try dsimp only at hSw); go_simp; try with_reducible rfl)
  try simp only [Act.put, List.setIfInBounds_toArray, List.set_cons_zero, List.set_cons_succ]
  refine wpAnyH_ready (rs := [61]) (by as_aux_lemma => kernel_rfl) (by simp) ?_
  refine AllReadyH.cons (o := { dst := some 241, op := Op.call { callee := Callee.value (Operand.func 23), args := #[Operand.tmp 240], argTypes := #[36] }, type := 4, pos := "law.go:76", after := #[{ on := 60, ground := Ground.data }, { on := 56, ground := Ground.chain }, { on := 56, ground := Ground.guard }], guard := some (56, false) }) rfl (fun K hK => ?_) AllReadyH.nil
  go_simp
  go_at_call 23
  (with_reducible refine (right_any p t _ (HW.out _ B8.out).2.1 HBD.out.1).mono ?_)
  rintro e w9 ⟨rfl, hb9⟩
  have B9 := Lib.hid (B8.out.trans (hb9.mono B8.out.size))
  have P9 := Lib.hid (P8.out.below hb9 P8.out.lt)
  obtain ⟨z9_0, z9_1, z9_2, z9_3, z9_4, z9_5, z9_6⟩ := HC.out _ B9.out
  have z9_7 := P9.out.c0
  have z9_8 := P9.out.c1
  clear hb9  z8_0 z8_1 z8_2 z8_3 z8_4 z8_5 z8_6 z8_7 z8_8 B8 P8
  go_wp2_with fail
  refine hK.out _ _ ?_ (fun hH2 => ?_)
  · exact ⟨z9_0, z9_1, z9_2, z9_3, z9_4, z9_5, z9_6, z9_7, z9_8⟩
  clear hK K hH
  have hH := hH2
  clear hH2
  try simp only [Act.put, List.setIfInBounds_toArray, List.set_cons_zero, List.set_cons_succ]
  refine wpAnyH_ready (rs := [66]) (by as_aux_lemma => kernel_rfl) (by simp) ?_
  refine AllReadyH.cons (o := { dst := some 246, op := Op.call { callee := Callee.value (Operand.func 24), args := #[Operand.tmp 245], argTypes := #[32] }, type := 4, pos := "law.go:76", after := #[{ on := 65, ground := Ground.data }, { on := 61, ground := Ground.chain }, { on := 56, ground := Ground.guard }], guard := some (56, false) }) rfl (fun K hK => ?_) AllReadyH.nil
  go_simp
  go_at_call 24
  have hc := refRight_any (Fp (.slice (some ⟨gu, 0, none⟩) L cu) (.slice (some ⟨gv, 0, none⟩) L cv) mb) t HBD.out.2 (tV r (x1, x2) (.slice A1 (obeside t).length k1) (.slice A2' (okids t).len k2) (osize t : Nat)) _ (HW.out _ B9.out).2.2.1
  simp only [tV] at hc
  (with_reducible refine hc.mono ?_)
  rintro e w10 ⟨rfl, hb10⟩
  clear hc
  have B10 := Lib.hid (B9.out.trans (hb10.mono B9.out.size))
  have P10 := Lib.hid (P9.out.below hb10 P9.out.lt)
  obtain ⟨z10_0, z10_1, z10_2, z10_3, z10_4, z10_5, z10_6⟩ := HC.out _ B10.out
  have z10_7 := P10.out.c0
  have z10_8 := P10.out.c1
  clear hb10  z9_0 z9_1 z9_2 z9_3 z9_4 z9_5 z9_6 z9_7 z9_8 B9 P9
  go_wp2_with fail
  refine hK.out _ _ ?_ (fun hH2 => ?_)
  · exact ⟨z10_0, z10_1, z10_2, z10_3, z10_4, z10_5, z10_6, z10_7, z10_8⟩
  clear hK K hH
  have hH := hH2
  clear hH2
  try simp only [Act.put, List.setIfInBounds_toArray, List.set_cons_zero, List.set_cons_succ]
  refine wpAnyH_take (i := 67) (oi := { dst := some 247, op := Op.binOp BinOp.neq 4 (Operand.tmp 241) (Operand.tmp 246) 4, type := 4, pos := "law.go:76", after := #[{ on := 61, ground := Ground.data }, { on := 66, ground := Ground.data }, { on := 56, ground := Ground.guard }], guard := some (56, false) }) (v := ?v67) rfl (by as_aux_lemma => kernel_rfl) (by as_aux_lemma => kernel_rfl) (by as_aux_lemma => kernel_rfl) (fun _ _ _ h => h) (Or.inl ⟨(by as_aux_lemma => kernel_rfl), ?hy67⟩) hH ?rest67
  case hy67 => (intro w hSw; (try dsimp only at hSw); go_simp; try with_reducible rfl)
  try simp only [Act.put, List.setIfInBounds_toArray, List.set_cons_zero, List.set_cons_succ]
  refine wpAnyH_take (i := 68) (oi := { dst := some 248, op := Op.pick (Operand.tmp 236) (Operand.const (Value.bool true)) (Operand.tmp 247), type := 4, pos := "law.go:76", after := #[{ on := 56, ground := Ground.data }, { on := 67, ground := Ground.data }], guard := none }) (v := ?v68) rfl (by as_aux_lemma => kernel_rfl) (by as_aux_lemma => kernel_rfl) (by as_aux_lemma => kernel_rfl) (fun _ _ _ h => h) (Or.inl ⟨(by as_aux_lemma => kernel_rfl), ?hy68⟩) hH ?rest68
  case hy68 => (intro w hSw; (try dsimp only at hSw); go_simp; try with_reducible rfl)
  try simp only [Act.put, List.setIfInBounds_toArray, List.set_cons_zero, List.set_cons_succ]
  refine wpAnyH_take (i := 69) (oi := { dst := some 249, op := Op.move (Operand.tmp 248), type := 4, pos := "law.go:76", after := #[{ on := 68, ground := Ground.data }, { on := 66, ground := Ground.chain }], guard := none }) (v := ?v69) rfl (by as_aux_lemma => kernel_rfl) (by as_aux_lemma => kernel_rfl) (by as_aux_lemma => kernel_rfl) (fun _ _ _ h => h) (Or.inl ⟨(by as_aux_lemma => kernel_rfl), ?hy69⟩) hH ?rest69
  case hy69 => (intro w hSw; (try dsimp only at hSw); go_simp; try with_reducible rfl)
  try simp only [Act.put, List.setIfInBounds_toArray, List.set_cons_zero, List.set_cons_succ]
  refine wpAnyH_take (i := 70) (oi := { dst := some 250, op := Op.move (Operand.tmp 5), type := 26, pos := "law.go:76", after := #[{ on := 69, ground := Ground.guard }], guard := some (69, false) }) (v := ?v70) rfl (by as_aux_lemma => kernel_rfl) (by as_aux_lemma => kernel_rfl) (by as_aux_lemma => kernel_rfl) (fun _ _ _ h => h) (Or.inl ⟨(by as_aux_lemma => kernel_rfl), ?hy70⟩) hH ?rest70
  case hy70 => (intro w hSw; (try dsimp only at hSw); go_simp; try with_reducible rfl)
  try simp only [Act.put, List.setIfInBounds_toArray, List.set_cons_zero, List.set_cons_succ]
  refine wpAnyH_take (i := 71) (oi := { dst := some 251, op := Op.move (Operand.tmp 18), type := 3, pos := "law.go:76", after := #[{ on := 69, ground := Ground.guard }], guard := some (69, false) }) (v := ?v71) rfl (by as_aux_lemma => kernel_rfl) (by as_aux_lemma => kernel_rfl) (by as_aux_lemma => kernel_rfl) (fun _ _ _ h => h) (Or.inl ⟨(by as_aux_lemma => kernel_rfl), ?hy71⟩) hH ?rest71
  case hy71 => (intro w hSw; (try dsimp only at hSw); go_simp; try with_reducible rfl)
  try simp only [Act.put, List.setIfInBounds_toArray, List.set_cons_zero, List.set_cons_succ]
  refine wpAnyH_take (i := 72) (oi := { dst := some 252, op := Op.indexAddr 26 (Operand.tmp 250) (Operand.tmp 251), type := 0, pos := "law.go:76", after := #[{ on := 70, ground := Ground.data }, { on := 71, ground := Ground.data }, { on := 69, ground := Ground.guard }], guard := some (69, false) }) (v := ?v72) rfl (by as_aux_lemma => kernel_rfl) (by as_aux_lemma => kernel_rfl) (by as_aux_lemma => kernel_rfl) (fun _ _ _ h => h) (Or.inl ⟨(by as_aux_lemma => kernel_rfl), ?hy72⟩) hH ?rest72
  case hy72 => (intro w hSw; (try dsimp only at hSw); go_simp; try with_reducible rfl)
  try simp only [Act.put, List.setIfInBounds_toArray, List.set_cons_zero, List.set_cons_succ]
  refine wpAnyH_take (i := 73) (oi := { dst := some 253, op := Op.load 36 (Operand.tmp 252), type := 36, pos := "law.go:76", after := #[{ on := 72, ground := Ground.data }, { on := 69, ground := Ground.guard }], guard := some (69, false) }) (v := ?v73) rfl (by as_aux_lemma => kernel_rfl) (by as_aux_lemma => kernel_rfl) (by as_aux_lemma => kernel_rfl) (fun _ _ _ h => h) (Or.inl ⟨(by as_aux_lemma => kernel_rfl), ?hy73⟩) hH ?rest73
  case hy73 => (intro w hSw; (try dsimp only at hSw); go_simp; try with_reducible rfl)
  try simp only [Act.put, List.setIfInBounds_toArray, List.set_cons_zero, List.set_cons_succ]
  refine wpAnyH_take (i := 75) (oi := { dst := some 255, op := Op.move (Operand.tmp 6), type := 30, pos := "law.go:76", after := #[{ on := 69, ground := Ground.guard }], guard := some (69, false) }) (v := ?v75) rfl (by as_aux_lemma => kernel_rfl) (by as_aux_lemma => kernel_rfl) (by as_aux_lemma => kernel_rfl) (fun _ _ _ h => h) (Or.inl ⟨(by as_aux_lemma => kernel_rfl), ?hy75⟩) hH ?rest75
  case hy75 => (intro w hSw; (try dsimp only at hSw); go_simp; try with_reducible rfl)
  try simp only [Act.put, List.setIfInBounds_toArray, List.set_cons_zero, List.set_cons_succ]
  refine wpAnyH_take (i := 76) (oi := { dst := some 256, op := Op.move (Operand.tmp 18), type := 3, pos := "law.go:76", after := #[{ on := 69, ground := Ground.guard }], guard := some (69, false) }) (v := ?v76) rfl (by as_aux_lemma => kernel_rfl) (by as_aux_lemma => kernel_rfl) (by as_aux_lemma => kernel_rfl) (fun _ _ _ h => h) (Or.inl ⟨(by as_aux_lemma => kernel_rfl), ?hy76⟩) hH ?rest76
  case hy76 => (intro w hSw; (try dsimp only at hSw); go_simp; try with_reducible rfl)
  try simp only [Act.put, List.setIfInBounds_toArray, List.set_cons_zero, List.set_cons_succ]
  refine wpAnyH_take (i := 77) (oi := { dst := some 257, op := Op.indexAddr 30 (Operand.tmp 255) (Operand.tmp 256), type := 0, pos := "law.go:76", after := #[{ on := 75, ground := Ground.data }, { on := 76, ground := Ground.data }, { on := 69, ground := Ground.guard }], guard := some (69, false) }) (v := ?v77) rfl (by as_aux_lemma => kernel_rfl) (by as_aux_lemma => kernel_rfl) (by as_aux_lemma => kernel_rfl) (fun _ _ _ h => h) (Or.inl ⟨(by as_aux_lemma => kernel_rfl), ?hy77⟩) hH ?rest77
  case hy77 => (intro w hSw; (try dsimp only at hSw); go_simp; try with_reducible rfl)
  try simp only [Act.put, List.setIfInBounds_toArray, List.set_cons_zero, List.set_cons_succ]
  refine wpAnyH_take (i := 78) (oi := { dst := some 258, op := Op.load 32 (Operand.tmp 257), type := 32, pos := "law.go:76", after := #[{ on := 77, ground := Ground.data }, { on := 69, ground := Ground.guard }], guard := some (69, false) }) (v := ?v78) rfl (by as_aux_lemma => kernel_rfl) (by as_aux_lemma => kernel_rfl) (by as_aux_lemma => kernel_rfl) (fun _ _ _ h => h) (Or.inl ⟨(by as_aux_lemma => kernel_rfl), ?hy78⟩) hH ?rest78
  case hy78 => (intro w hSw; (try dsimp only at hSw); go_simp; try with_reducible rfl)
  try simp only [Act.put, List.setIfInBounds_toArray, List.set_cons_zero, List.set_cons_succ]
  refine wpAnyH_ready (rs := [74]) (by as_aux_lemma => kernel_rfl) (by simp) ?_
  refine AllReadyH.cons (o := { dst := some 254, op := Op.call { callee := Callee.value (Operand.func 26), args := #[Operand.tmp 253], argTypes := #[36] }, type := 29, pos := "law.go:76", after := #[{ on := 73, ground := Ground.data }, { on := 69, ground := Ground.chain }, { on := 69, ground := Ground.guard }], guard := some (69, false) }) rfl (fun K hK => ?_) AllReadyH.nil
  go_simp
  go_at_call 26
  (with_reducible refine (all_any p t _ (HW.out _ B10.out).2.1 HBD.out.1).mono ?_)
  rintro e w11 ⟨v11, rfl, hown11, hb11⟩
  obtain ⟨A11, c11, rfl, hr11, -⟩ := hown11.form
  have R11 := Lib.hid hr11
  have B11 := Lib.hid (B10.out.trans (hb11.mono B10.out.size))
  have P11 := Lib.hid (P10.out.below hb11 P10.out.lt)
  obtain ⟨z11_0, z11_1, z11_2, z11_3, z11_4, z11_5, z11_6⟩ := HC.out _ B11.out
  have z11_7 := P11.out.c0
  have z11_8 := P11.out.c1
  clear hb11 hown11 hr11 z10_0 z10_1 z10_2 z10_3 z10_4 z10_5 z10_6 z10_7 z10_8 B10 P10
  go_wp2_with fail
  refine hK.out _ _ ?_ (fun hH2 => ?_)
  · exact ⟨z11_0, z11_1, z11_2, z11_3, z11_4, z11_5, z11_6, z11_7, z11_8⟩
  clear hK K hH
  have hH := hH2
  clear hH2
  try simp only [Act.put, List.setIfInBounds_toArray, List.set_cons_zero, List.set_cons_succ]
  refine wpAnyH_ready (rs := [79]) (by as_aux_lemma => kernel_rfl) (by simp) ?_
  refine AllReadyH.cons (o := { dst := some 259, op := Op.call { callee := Callee.value (Operand.func 27), args := #[Operand.tmp 258], argTypes := #[32] }, type := 29, pos := "law.go:76", after := #[{ on := 78, ground := Ground.data }, { on := 74, ground := Ground.chain }, { on := 69, ground := Ground.guard }], guard := some (69, false) }) rfl (fun K hK => ?_) AllReadyH.nil
  go_simp
  go_at_call 27
  have hc := refAll_any (Fp (.slice (some ⟨gu, 0, none⟩) L cu) (.slice (some ⟨gv, 0, none⟩) L cv) mb) t HBD.out.2 (tV r (x1, x2) (.slice A1 (obeside t).length k1) (.slice A2' (okids t).len k2) (osize t : Nat)) _ (HW.out _ B11.out).2.2.1
  simp only [tV] at hc
  (with_reducible refine hc.mono ?_)
  rintro e w12 ⟨A12, c12, rfl, hr12, hn12, hb12⟩
  clear hc
  have R12 := Lib.hid (And.intro (R11.out.below hb12) hr12)
  have B12 := Lib.hid (B11.out.trans (hb12.mono B11.out.size))
  have P12 := Lib.hid (P11.out.below hb12 P11.out.lt)
  obtain ⟨z12_0, z12_1, z12_2, z12_3, z12_4, z12_5, z12_6⟩ := HC.out _ B12.out
  have z12_7 := P12.out.c0
  have z12_8 := P12.out.c1
  clear hb12 hr12 hn12 R11 z11_0 z11_1 z11_2 z11_3 z11_4 z11_5 z11_6 z11_7 z11_8 B11 P11
  go_wp2_with fail
  refine hK.out _ _ ?_ (fun hH2 => ?_)
  · exact ⟨z12_0, z12_1, z12_2, z12_3, z12_4, z12_5, z12_6, z12_7, z12_8⟩
  clear hK K hH
  have hH := hH2
  clear hH2
  try simp only [Act.put, List.setIfInBounds_toArray, List.set_cons_zero, List.set_cons_succ]
  refine wpAnyH_ready (rs := [80]) (by as_aux_lemma => kernel_rfl) (by simp) ?_
  refine AllReadyH.cons (o := { dst := some 260, op := Op.call { callee := Callee.value (Operand.func 25), args := #[Operand.tmp 254, Operand.tmp 259], argTypes := #[29, 29] }, type := 4, pos := "law.go:76", after := #[{ on := 74, ground := Ground.data }, { on := 79, ground := Ground.data }, { on := 79, ground := Ground.chain }, { on := 69, ground := Ground.guard }], guard := some (69, false) }) rfl (fun K hK => ?_) AllReadyH.nil
  go_simp
  go_at_call 25
  (with_reducible refine (same_any A11 A12 (oall t) (oall t) c11 c12 _ HLn.out.1 R12.out.1 R12.out.2).mono ?_)
  rintro e w13 ⟨rfl, hb13⟩
  rw [decide_eq_true (rfl : oall t = oall t)]
  have B13 := Lib.hid (B12.out.trans (hb13.mono B12.out.size))
  have P13 := Lib.hid (P12.out.below hb13 P12.out.lt)
  obtain ⟨z13_0, z13_1, z13_2, z13_3, z13_4, z13_5, z13_6⟩ := HC.out _ B13.out
  have z13_7 := P13.out.c0
  have z13_8 := P13.out.c1
  clear hb13 R12 z12_0 z12_1 z12_2 z12_3 z12_4 z12_5 z12_6 z12_7 z12_8 B12 P12
  go_wp2_with fail
  refine hK.out _ _ ?_ (fun hH2 => ?_)
  · exact ⟨z13_0, z13_1, z13_2, z13_3, z13_4, z13_5, z13_6, z13_7, z13_8⟩
  clear hK K hH
  have hH := hH2
  clear hH2
  try simp only [Act.put, List.setIfInBounds_toArray, List.set_cons_zero, List.set_cons_succ]
  refine wpAnyH_take (i := 81) (oi := { dst := some 261, op := Op.unOp UnOp.not 4 (Operand.tmp 260), type := 4, pos := "law.go:76", after := #[{ on := 80, ground := Ground.data }, { on := 69, ground := Ground.guard }], guard := some (69, false) }) (v := ?v81) rfl (by as_aux_lemma => kernel_rfl) (by as_aux_lemma => kernel_rfl) (by as_aux_lemma => kernel_rfl) (fun _ _ _ h => h) (Or.inl ⟨(by as_aux_lemma => kernel_rfl), ?hy81⟩) hH ?rest81
  case hy81 => (intro w hSw; (try dsimp only at hSw); go_simp; try with_reducible rfl)
  try simp only [Act.put, List.setIfInBounds_toArray, List.set_cons_zero, List.set_cons_succ]
  refine wpAnyH_take (i := 82) (oi := { dst := some 262, op := Op.pick (Operand.tmp 249) (Operand.const (Value.bool true)) (Operand.tmp 261), type := 4, pos := "law.go:76", after := #[{ on := 69, ground := Ground.data }, { on := 81, ground := Ground.data }], guard := none }) (v := ?v82) rfl (by as_aux_lemma => kernel_rfl) (by as_aux_lemma => kernel_rfl) (by as_aux_lemma => kernel_rfl) (fun _ _ _ h => h) (Or.inl ⟨(by as_aux_lemma => kernel_rfl), ?hy82⟩) hH ?rest82
  case hy82 => (intro w hSw; (try dsimp only at hSw); go_simp; try with_reducible rfl)
  try simp only [Act.put, List.setIfInBounds_toArray, List.set_cons_zero, List.set_cons_succ]
  refine wpAnyH_take (i := 83) (oi := { dst := some 263, op := Op.move (Operand.tmp 262), type := 4, pos := "law.go:76", after := #[{ on := 82, ground := Ground.data }, { on := 80, ground := Ground.chain }], guard := none }) (v := ?v83) rfl (by as_aux_lemma => kernel_rfl) (by as_aux_lemma => kernel_rfl) (by as_aux_lemma => kernel_rfl) (fun _ _ _ h => h) (Or.inl ⟨(by as_aux_lemma => kernel_rfl), ?hy83⟩) hH ?rest83
  case hy83 => (intro w hSw; (try dsimp only at hSw); go_simp; try with_reducible rfl)
  try simp only [Act.put, List.setIfInBounds_toArray, List.set_cons_zero, List.set_cons_succ]
  refine wpAnyH_take (i := 84) (oi := { dst := some 264, op := Op.move (Operand.tmp 5), type := 26, pos := "law.go:76", after := #[{ on := 83, ground := Ground.guard }], guard := some (83, false) }) (v := ?v84) rfl (by as_aux_lemma => kernel_rfl) (by as_aux_lemma => kernel_rfl) (by as_aux_lemma => kernel_rfl) (fun _ _ _ h => h) (Or.inl ⟨(by as_aux_lemma => kernel_rfl), ?hy84⟩) hH ?rest84
  case hy84 => (intro w hSw; (try dsimp only at hSw); go_simp; try with_reducible rfl)
  try simp only [Act.put, List.setIfInBounds_toArray, List.set_cons_zero, List.set_cons_succ]
  refine wpAnyH_take (i := 85) (oi := { dst := some 265, op := Op.move (Operand.tmp 18), type := 3, pos := "law.go:76", after := #[{ on := 83, ground := Ground.guard }], guard := some (83, false) }) (v := ?v85) rfl (by as_aux_lemma => kernel_rfl) (by as_aux_lemma => kernel_rfl) (by as_aux_lemma => kernel_rfl) (fun _ _ _ h => h) (Or.inl ⟨(by as_aux_lemma => kernel_rfl), ?hy85⟩) hH ?rest85
  case hy85 => (intro w hSw; (try dsimp only at hSw); go_simp; try with_reducible rfl)
  try simp only [Act.put, List.setIfInBounds_toArray, List.set_cons_zero, List.set_cons_succ]
  refine wpAnyH_take (i := 86) (oi := { dst := some 266, op := Op.indexAddr 26 (Operand.tmp 264) (Operand.tmp 265), type := 0, pos := "law.go:76", after := #[{ on := 84, ground := Ground.data }, { on := 85, ground := Ground.data }, { on := 83, ground := Ground.guard }], guard := some (83, false) }) (v := ?v86) rfl (by as_aux_lemma => kernel_rfl) (by as_aux_lemma => kernel_rfl) (by as_aux_lemma => kernel_rfl) (fun _ _ _ h => h) (Or.inl ⟨(by as_aux_lemma => kernel_rfl), ?hy86⟩) hH ?rest86
  case hy86 => (intro w hSw; (try dsimp only at hSw); go_simp; try with_reducible rfl)
  try simp only [Act.put, List.setIfInBounds_toArray, List.set_cons_zero, List.set_cons_succ]
  refine wpAnyH_take (i := 87) (oi := { dst := some 267, op := Op.load 36 (Operand.tmp 266), type := 36, pos := "law.go:76", after := #[{ on := 86, ground := Ground.data }, { on := 83, ground := Ground.guard }], guard := some (83, false) }) (v := ?v87) rfl (by as_aux_lemma => kernel_rfl) (by as_aux_lemma => kernel_rfl) (by as_aux_lemma => kernel_rfl) (fun _ _ _ h => h) (Or.inl ⟨(by as_aux_lemma => kernel_rfl), ?hy87⟩) hH ?rest87
  case hy87 => (intro w hSw; (try dsimp only at hSw); go_simp; try with_reducible rfl)
  try simp only [Act.put, List.setIfInBounds_toArray, List.set_cons_zero, List.set_cons_succ]
  refine wpAnyH_take (i := 89) (oi := { dst := some 269, op := Op.move (Operand.tmp 6), type := 30, pos := "law.go:76", after := #[{ on := 83, ground := Ground.guard }], guard := some (83, false) }) (v := ?v89) rfl (by as_aux_lemma => kernel_rfl) (by as_aux_lemma => kernel_rfl) (by as_aux_lemma => kernel_rfl) (fun _ _ _ h => h) (Or.inl ⟨(by as_aux_lemma => kernel_rfl), ?hy89⟩) hH ?rest89
  case hy89 => (intro w hSw; (try dsimp only at hSw); go_simp; try with_reducible rfl)
  try simp only [Act.put, List.setIfInBounds_toArray, List.set_cons_zero, List.set_cons_succ]
  refine wpAnyH_take (i := 90) (oi := { dst := some 270, op := Op.move (Operand.tmp 18), type := 3, pos := "law.go:76", after := #[{ on := 83, ground := Ground.guard }], guard := some (83, false) }) (v := ?v90) rfl (by as_aux_lemma => kernel_rfl) (by as_aux_lemma => kernel_rfl) (by as_aux_lemma => kernel_rfl) (fun _ _ _ h => h) (Or.inl ⟨(by as_aux_lemma => kernel_rfl), ?hy90⟩) hH ?rest90
  case hy90 => (intro w hSw; (try dsimp only at hSw); go_simp; try with_reducible rfl)
  try simp only [Act.put, List.setIfInBounds_toArray, List.set_cons_zero, List.set_cons_succ]
  refine wpAnyH_take (i := 91) (oi := { dst := some 271, op := Op.indexAddr 30 (Operand.tmp 269) (Operand.tmp 270), type := 0, pos := "law.go:76", after := #[{ on := 89, ground := Ground.data }, { on := 90, ground := Ground.data }, { on := 83, ground := Ground.guard }], guard := some (83, false) }) (v := ?v91) rfl (by as_aux_lemma => kernel_rfl) (by as_aux_lemma => kernel_rfl) (by as_aux_lemma => kernel_rfl) (fun _ _ _ h => h) (Or.inl ⟨(by as_aux_lemma => kernel_rfl), ?hy91⟩) hH ?rest91
  case hy91 => (intro w hSw; (try dsimp only at hSw); go_simp; try with_reducible rfl)
  try simp only [Act.put, List.setIfInBounds_toArray, List.set_cons_zero, List.set_cons_succ]
  refine wpAnyH_take (i := 92) (oi := { dst := some 272, op := Op.fieldAddr 32 (Operand.tmp 271) 2, type := 0, pos := "law.go:76", after := #[{ on := 91, ground := Ground.data }, { on := 83, ground := Ground.guard }], guard := some (83, false) }) (v := ?v92) rfl (by as_aux_lemma => kernel_rfl) (by as_aux_lemma => kernel_rfl) (by as_aux_lemma => kernel_rfl) (fun _ _ _ h => h) (Or.inl ⟨(by as_aux_lemma => kernel_rfl), ?hy92⟩) hH ?rest92
  case hy92 => (intro w hSw; (try dsimp only at hSw); go_simp; try with_reducible rfl)
  try simp only [Act.put, List.setIfInBounds_toArray, List.set_cons_zero, List.set_cons_succ]
  refine wpAnyH_take (i := 93) (oi := { dst := some 273, op := Op.load 29 (Operand.tmp 272), type := 29, pos := "law.go:76", after := #[{ on := 92, ground := Ground.data }, { on := 83, ground := Ground.guard }], guard := some (83, false) }) (v := ?v93) rfl (by as_aux_lemma => kernel_rfl) (by as_aux_lemma => kernel_rfl) (by as_aux_lemma => kernel_rfl) (fun _ _ _ h => h) (Or.inl ⟨(by as_aux_lemma => kernel_rfl), ?hy93⟩) hH ?rest93
  case hy93 => (intro w hSw; (try dsimp only at hSw); go_simp; try with_reducible rfl)
  try simp only [Act.put, List.setIfInBounds_toArray, List.set_cons_zero, List.set_cons_succ]
  refine wpAnyH_ready (rs := [88]) (by as_aux_lemma => kernel_rfl) (by simp) ?_
  refine AllReadyH.cons (o := { dst := some 268, op := Op.call { callee := Callee.value (Operand.func 28), args := #[Operand.tmp 267], argTypes := #[36] }, type := 29, pos := "law.go:76", after := #[{ on := 87, ground := Ground.data }, { on := 83, ground := Ground.chain }, { on := 83, ground := Ground.guard }], guard := some (83, false) }) rfl (fun K hK => ?_) AllReadyH.nil
  go_simp
  go_at_call 28
  (with_reducible refine (beside_any p t _ (HW.out _ B13.out).2.1 HBD.out.1).mono ?_)
  rintro e w14 ⟨v14, rfl, hown14, hb14⟩
  obtain ⟨A14, c14, rfl, hr14, -⟩ := hown14.form
  have R14 := Lib.hid hr14
  have B14 := Lib.hid (B13.out.trans (hb14.mono B13.out.size))
  have P14 := Lib.hid (P13.out.below hb14 P13.out.lt)
  obtain ⟨z14_0, z14_1, z14_2, z14_3, z14_4, z14_5, z14_6⟩ := HC.out _ B14.out
  have z14_7 := P14.out.c0
  have z14_8 := P14.out.c1
  clear hb14 hown14 hr14 z13_0 z13_1 z13_2 z13_3 z13_4 z13_5 z13_6 z13_7 z13_8 B13 P13
  go_wp2_with fail
  refine hK.out _ _ ?_ (fun hH2 => ?_)
  · exact ⟨z14_0, z14_1, z14_2, z14_3, z14_4, z14_5, z14_6, z14_7, z14_8⟩
  clear hK K hH
  have hH := hH2
  clear hH2
  try simp only [Act.put, List.setIfInBounds_toArray, List.set_cons_zero, List.set_cons_succ]
  refine wpAnyH_ready (rs := [94]) (by as_aux_lemma => kernel_rfl) (by simp) ?_
  refine AllReadyH.cons (o := { dst := some 274, op := Op.call { callee := Callee.value (Operand.func 25), args := #[Operand.tmp 268, Operand.tmp 273], argTypes := #[29, 29] }, type := 4, pos := "law.go:76", after := #[{ on := 88, ground := Ground.data }, { on := 93, ground := Ground.data }, { on := 88, ground := Ground.chain }, { on := 83, ground := Ground.guard }], guard := some (83, false) }) rfl (fun K hK => ?_) AllReadyH.nil
  go_simp
  go_at_call 25
  (with_reducible refine (same_any A14 A1 (obeside t) (obeside t) c14 k1 _ HLn.out.2 R14.out (HW.out _ B14.out).2.2.2).mono ?_)
  rintro e w15 ⟨rfl, hb15⟩
  rw [decide_eq_true (rfl : obeside t = obeside t)]
  have B15 := Lib.hid (B14.out.trans (hb15.mono B14.out.size))
  have P15 := Lib.hid (P14.out.below hb15 P14.out.lt)
  obtain ⟨z15_0, z15_1, z15_2, z15_3, z15_4, z15_5, z15_6⟩ := HC.out _ B15.out
  have z15_7 := P15.out.c0
  have z15_8 := P15.out.c1
  clear hb15 R14 z14_0 z14_1 z14_2 z14_3 z14_4 z14_5 z14_6 z14_7 z14_8 B14 P14
  go_wp2_with fail
  refine hK.out _ _ ?_ (fun hH2 => ?_)
  · exact ⟨z15_0, z15_1, z15_2, z15_3, z15_4, z15_5, z15_6, z15_7, z15_8⟩
  clear hK K hH
  have hH := hH2
  clear hH2
  try simp only [Act.put, List.setIfInBounds_toArray, List.set_cons_zero, List.set_cons_succ]
  refine wpAnyH_take (i := 95) (oi := { dst := some 275, op := Op.unOp UnOp.not 4 (Operand.tmp 274), type := 4, pos := "law.go:76", after := #[{ on := 94, ground := Ground.data }, { on := 83, ground := Ground.guard }], guard := some (83, false) }) (v := ?v95) rfl (by as_aux_lemma => kernel_rfl) (by as_aux_lemma => kernel_rfl) (by as_aux_lemma => kernel_rfl) (fun _ _ _ h => h) (Or.inl ⟨(by as_aux_lemma => kernel_rfl), ?hy95⟩) hH ?rest95
  case hy95 => (intro w hSw; (try dsimp only at hSw); go_simp; try with_reducible rfl)
  try simp only [Act.put, List.setIfInBounds_toArray, List.set_cons_zero, List.set_cons_succ]
  refine wpAnyH_take (i := 96) (oi := { dst := some 276, op := Op.pick (Operand.tmp 263) (Operand.const (Value.bool true)) (Operand.tmp 275), type := 4, pos := "law.go:76", after := #[{ on := 83, ground := Ground.data }, { on := 95, ground := Ground.data }], guard := none }) (v := ?v96) rfl (by as_aux_lemma => kernel_rfl) (by as_aux_lemma => kernel_rfl) (by as_aux_lemma => kernel_rfl) (fun _ _ _ h => h) (Or.inl ⟨(by as_aux_lemma => kernel_rfl), ?hy96⟩) hH ?rest96
  case hy96 => (intro w hSw; (try dsimp only at hSw); go_simp; try with_reducible rfl)
  try simp only [Act.put, List.setIfInBounds_toArray, List.set_cons_zero, List.set_cons_succ]
  refine wpAnyH_take (i := 97) (oi := { dst := some 277, op := Op.move (Operand.tmp 276), type := 4, pos := "law.go:76", after := #[{ on := 96, ground := Ground.data }, { on := 94, ground := Ground.chain }], guard := none }) (v := ?v97) rfl (by as_aux_lemma => kernel_rfl) (by as_aux_lemma => kernel_rfl) (by as_aux_lemma => kernel_rfl) (fun _ _ _ h => h) (Or.inl ⟨(by as_aux_lemma => kernel_rfl), ?hy97⟩) hH ?rest97
  case hy97 => (intro w hSw; (try dsimp only at hSw); go_simp; try with_reducible rfl)
  try simp only [Act.put, List.setIfInBounds_toArray, List.set_cons_zero, List.set_cons_succ]
  refine wpAnyH_take (i := 98) (oi := { dst := some 278, op := Op.move (Operand.tmp 5), type := 26, pos := "law.go:76", after := #[{ on := 97, ground := Ground.guard }], guard := some (97, false) }) (v := ?v98) rfl (by as_aux_lemma => kernel_rfl) (by as_aux_lemma => kernel_rfl) (by as_aux_lemma => kernel_rfl) (fun _ _ _ h => h) (Or.inl ⟨(by as_aux_lemma => kernel_rfl), ?hy98⟩) hH ?rest98
  case hy98 => (intro w hSw; (try dsimp only at hSw); go_simp; try with_reducible rfl)
  try simp only [Act.put, List.setIfInBounds_toArray, List.set_cons_zero, List.set_cons_succ]
  refine wpAnyH_take (i := 99) (oi := { dst := some 279, op := Op.move (Operand.tmp 18), type := 3, pos := "law.go:76", after := #[{ on := 97, ground := Ground.guard }], guard := some (97, false) }) (v := ?v99) rfl (by as_aux_lemma => kernel_rfl) (by as_aux_lemma => kernel_rfl) (by as_aux_lemma => kernel_rfl) (fun _ _ _ h => h) (Or.inl ⟨(by as_aux_lemma => kernel_rfl), ?hy99⟩) hH ?rest99
  case hy99 => (intro w hSw; (try dsimp only at hSw); go_simp; try with_reducible rfl)
  try simp only [Act.put, List.setIfInBounds_toArray, List.set_cons_zero, List.set_cons_succ]
  refine wpAnyH_take (i := 100) (oi := { dst := some 280, op := Op.indexAddr 26 (Operand.tmp 278) (Operand.tmp 279), type := 0, pos := "law.go:76", after := #[{ on := 98, ground := Ground.data }, { on := 99, ground := Ground.data }, { on := 97, ground := Ground.guard }], guard := some (97, false) }) (v := ?v100) rfl (by as_aux_lemma => kernel_rfl) (by as_aux_lemma => kernel_rfl) (by as_aux_lemma => kernel_rfl) (fun _ _ _ h => h) (Or.inl ⟨(by as_aux_lemma => kernel_rfl), ?hy100⟩) hH ?rest100
  case hy100 => (intro w hSw; (try dsimp only at hSw); go_simp; try with_reducible rfl)
  try simp only [Act.put, List.setIfInBounds_toArray, List.set_cons_zero, List.set_cons_succ]
  refine wpAnyH_take (i := 101) (oi := { dst := some 281, op := Op.load 36 (Operand.tmp 280), type := 36, pos := "law.go:76", after := #[{ on := 100, ground := Ground.data }, { on := 97, ground := Ground.guard }], guard := some (97, false) }) (v := ?v101) rfl (by as_aux_lemma => kernel_rfl) (by as_aux_lemma => kernel_rfl) (by as_aux_lemma => kernel_rfl) (fun _ _ _ h => h) (Or.inl ⟨(by as_aux_lemma => kernel_rfl), ?hy101⟩) hH ?rest101
  case hy101 => (intro w hSw; (try dsimp only at hSw); go_simp; try with_reducible rfl)
  try simp only [Act.put, List.setIfInBounds_toArray, List.set_cons_zero, List.set_cons_succ]
  refine wpAnyH_take (i := 104) (oi := { dst := some 284, op := Op.move (Operand.tmp 6), type := 30, pos := "law.go:76", after := #[{ on := 97, ground := Ground.guard }], guard := some (97, false) }) (v := ?v104) rfl (by as_aux_lemma => kernel_rfl) (by as_aux_lemma => kernel_rfl) (by as_aux_lemma => kernel_rfl) (fun _ _ _ h => h) (Or.inl ⟨(by as_aux_lemma => kernel_rfl), ?hy104⟩) hH ?rest104
  case hy104 => (intro w hSw; (try dsimp only at hSw); go_simp; try with_reducible rfl)
  try simp only [Act.put, List.setIfInBounds_toArray, List.set_cons_zero, List.set_cons_succ]
  refine wpAnyH_take (i := 105) (oi := { dst := some 285, op := Op.move (Operand.tmp 18), type := 3, pos := "law.go:76", after := #[{ on := 97, ground := Ground.guard }], guard := some (97, false) }) (v := ?v105) rfl (by as_aux_lemma => kernel_rfl) (by as_aux_lemma => kernel_rfl) (by as_aux_lemma => kernel_rfl) (fun _ _ _ h => h) (Or.inl ⟨(by as_aux_lemma => kernel_rfl), ?hy105⟩) hH ?rest105
  case hy105 => (intro w hSw; (try dsimp only at hSw); go_simp; try with_reducible rfl)
  try simp only [Act.put, List.setIfInBounds_toArray, List.set_cons_zero, List.set_cons_succ]
  refine wpAnyH_take (i := 106) (oi := { dst := some 286, op := Op.indexAddr 30 (Operand.tmp 284) (Operand.tmp 285), type := 0, pos := "law.go:76", after := #[{ on := 104, ground := Ground.data }, { on := 105, ground := Ground.data }, { on := 97, ground := Ground.guard }], guard := some (97, false) }) (v := ?v106) rfl (by as_aux_lemma => kernel_rfl) (by as_aux_lemma => kernel_rfl) (by as_aux_lemma => kernel_rfl) (fun _ _ _ h => h) (Or.inl ⟨(by as_aux_lemma => kernel_rfl), ?hy106⟩) hH ?rest106
  case hy106 => (intro w hSw; (try dsimp only at hSw); go_simp; try with_reducible rfl)
  try simp only [Act.put, List.setIfInBounds_toArray, List.set_cons_zero, List.set_cons_succ]
  refine wpAnyH_take (i := 107) (oi := { dst := some 287, op := Op.fieldAddr 32 (Operand.tmp 286) 3, type := 0, pos := "law.go:76", after := #[{ on := 106, ground := Ground.data }, { on := 97, ground := Ground.guard }], guard := some (97, false) }) (v := ?v107) rfl (by as_aux_lemma => kernel_rfl) (by as_aux_lemma => kernel_rfl) (by as_aux_lemma => kernel_rfl) (fun _ _ _ h => h) (Or.inl ⟨(by as_aux_lemma => kernel_rfl), ?hy107⟩) hH ?rest107
  case hy107 => (intro w hSw; (try dsimp only at hSw); go_simp; try with_reducible rfl)
  try simp only [Act.put, List.setIfInBounds_toArray, List.set_cons_zero, List.set_cons_succ]
  refine wpAnyH_take (i := 108) (oi := { dst := some 288, op := Op.load 30 (Operand.tmp 287), type := 30, pos := "law.go:76", after := #[{ on := 107, ground := Ground.data }, { on := 97, ground := Ground.guard }], guard := some (97, false) }) (v := ?v108) rfl (by as_aux_lemma => kernel_rfl) (by as_aux_lemma => kernel_rfl) (by as_aux_lemma => kernel_rfl) (fun _ _ _ h => h) (Or.inl ⟨(by as_aux_lemma => kernel_rfl), ?hy108⟩) hH ?rest108
  case hy108 => (intro w hSw; (try dsimp only at hSw); go_simp; try with_reducible rfl)
  try simp only [Act.put, List.setIfInBounds_toArray, List.set_cons_zero, List.set_cons_succ]
  refine wpAnyH_take (i := 109) (oi := { dst := some 289, op := Op.call { callee := Callee.builtin Builtin.len, args := #[Operand.tmp 288], argTypes := #[30] }, type := 3, pos := "law.go:76", after := #[{ on := 108, ground := Ground.data }, { on := 97, ground := Ground.guard }], guard := some (97, false) }) (v := ?v109) rfl (by as_aux_lemma => kernel_rfl) (by as_aux_lemma => kernel_rfl) (by as_aux_lemma => kernel_rfl) (fun _ _ _ h => h) (Or.inl ⟨(by as_aux_lemma => kernel_rfl), ?hy109⟩) hH ?rest109
  case hy109 => (intro w hSw; (try dsimp only at hSw); go_simp; try with_reducible rfl)
  try simp only [Act.put, List.setIfInBounds_toArray, List.set_cons_zero, List.set_cons_succ]
  refine wpAnyH_ready (rs := [102]) (by as_aux_lemma => kernel_rfl) (by simp) ?_
  refine AllReadyH.cons (o := { dst := some 282, op := Op.call { callee := Callee.value (Operand.func 29), args := #[Operand.tmp 281], argTypes := #[36] }, type := 26, pos := "law.go:76", after := #[{ on := 101, ground := Ground.data }, { on := 97, ground := Ground.chain }, { on := 97, ground := Ground.guard }], guard := some (97, false) }) rfl (fun K hK => ?_) AllReadyH.nil
  go_simp
  go_at_call 29
  (with_reducible refine (kids_any p t _ (HW.out _ B15.out).2.1 HBD.out.1).mono ?_)
  rintro e w16 ⟨v16, ps16, rfl, hk16, hown16, hb16⟩
  obtain ⟨A16, c16, rfl, hc16, -⟩ := OwnP.form hown16
  rw [show ps16.length = (okids t).len from hk16.length]
  have B16 := Lib.hid (B15.out.trans (hb16.mono B15.out.size))
  have P16 := Lib.hid (P15.out.below hb16 P15.out.lt)
  obtain ⟨z16_0, z16_1, z16_2, z16_3, z16_4, z16_5, z16_6⟩ := HC.out _ B16.out
  have z16_7 := P16.out.c0
  have z16_8 := P16.out.c1
  clear hb16 hown16 hk16 hc16 z15_0 z15_1 z15_2 z15_3 z15_4 z15_5 z15_6 z15_7 z15_8 B15 P15
  go_wp2_with fail
  refine hK.out _ _ ?_ (fun hH2 => ?_)
  · exact ⟨z16_0, z16_1, z16_2, z16_3, z16_4, z16_5, z16_6, z16_7, z16_8⟩
  clear hK K hH
  have hH := hH2
  clear hH2
  try simp only [Act.put, List.setIfInBounds_toArray, List.set_cons_zero, List.set_cons_succ]
  refine wpAnyH_take (i := 103) (oi := { dst := some 283, op := Op.call { callee := Callee.builtin Builtin.len, args := #[Operand.tmp 282], argTypes := #[26] }, type := 3, pos := "law.go:76", after := #[{ on := 102, ground := Ground.data }, { on := 97, ground := Ground.guard }], guard := some (97, false) }) (v := ?v103) rfl (by as_aux_lemma => kernel_rfl) (by as_aux_lemma => kernel_rfl) (by as_aux_lemma => kernel_rfl) (fun _ _ _ h => h) (Or.inl ⟨(by as_aux_lemma => kernel_rfl), ?hy103⟩) hH ?rest103
  case hy103 => (intro w hSw; (try dsimp only at hSw); go_simp; try with_reducible rfl)
  try simp only [Act.put, List.setIfInBounds_toArray, List.set_cons_zero, List.set_cons_succ]
  refine wpAnyH_take (i := 110) (oi := { dst := some 290, op := Op.binOp BinOp.neq 3 (Operand.tmp 283) (Operand.tmp 289) 3, type := 4, pos := "law.go:76", after := #[{ on := 103, ground := Ground.data }, { on := 109, ground := Ground.data }, { on := 97, ground := Ground.guard }], guard := some (97, false) }) (v := ?v110) rfl (by as_aux_lemma => kernel_rfl) (by as_aux_lemma => kernel_rfl) (by as_aux_lemma => kernel_rfl) (fun _ _ _ h => h) (Or.inl ⟨(by as_aux_lemma => kernel_rfl), ?hy110⟩) hH ?rest110
  case hy110 => (intro w hSw; (try dsimp only at hSw); go_simp; try with_reducible rfl)
  try simp only [Act.put, List.setIfInBounds_toArray, List.set_cons_zero, List.set_cons_succ]
  refine wpAnyH_take (i := 111) (oi := { dst := some 291, op := Op.pick (Operand.tmp 277) (Operand.const (Value.bool true)) (Operand.tmp 290), type := 4, pos := "law.go:76", after := #[{ on := 97, ground := Ground.data }, { on := 110, ground := Ground.data }], guard := none }) (v := ?v111) rfl (by as_aux_lemma => kernel_rfl) (by as_aux_lemma => kernel_rfl) (by as_aux_lemma => kernel_rfl) (fun _ _ _ h => h) (Or.inl ⟨(by as_aux_lemma => kernel_rfl), ?hy111⟩) hH ?rest111
  case hy111 => (intro w hSw; (try dsimp only at hSw); go_simp; try with_reducible rfl)
  try simp only [Act.put, List.setIfInBounds_toArray, List.set_cons_zero, List.set_cons_succ]
  refine wpAnyH_done (by as_aux_lemma => kernel_rfl) ?_ _
  refine NoPanic.normal ?_
  exact hQ _ _ _ _ _ _ _ _ _ _ _ _ _ _ _ _ _ _ _ _ _ _ _ _ _ _ _ _ _ _ _ _ _ _ _ _ _ _ _ _ _ _ _ _ _ _ _ _ _ _ _ _ _ _ _ _ _ _ _ _ _ _ _ _ _ _ _ _ _ _ _ _ _ _ _ _ _ _ _ _ _ _ _ _ _ _ _ _ _ _ _ _ _ _ _ _ _ _ _ _ _ _ _ _ _ _ _ _ _ _ _ _ B16.out

end Go.Proofs.YtlkpmafgokoaiaaDoor
