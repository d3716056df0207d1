/- Own work of the verifier: HoCtx. -/
import Derived.Test.YtfebkjgioddgaaaHpAF
import Derived.Test.YtfebkjgioddgaaaProg
import Derived.KernelRfl
set_option linter.all false
set_option exponentiation.threshold 3000
set_option linter.deprecated false
open Go.Proofs
namespace Go.PI
def pk0 : String := String.ofList [Char.ofNat 102, Char.ofNat 108, Char.ofNat 97, Char.ofNat 116, Char.ofNat 108, Char.ofNat 97, Char.ofNat 110, Char.ofNat 100, Char.ofNat 47, Char.ofNat 104, Char.ofNat 111, Char.ofNat 109, Char.ofNat 111, Char.ofNat 108, Char.ofNat 111, Char.ofNat 103, Char.ofNat 121]
def pk1 : String := String.ofList [Char.ofNat 102, Char.ofNat 108, Char.ofNat 97, Char.ofNat 116, Char.ofNat 108, Char.ofNat 97, Char.ofNat 110, Char.ofNat 100, Char.ofNat 47, Char.ofNat 111, Char.ofNat 114, Char.ofNat 98, Char.ofNat 105, Char.ofNat 116]
def t3 : TI := { desc := Go.TypeDesc.int (Go.IntKind.i64), size := 1, bytes := 8, zero := .int .i64 (0) }
def t4 : TI := { desc := Go.TypeDesc.bool, size := 1, bytes := 1, zero := .bool false }
def t5 : TI := { desc := Go.TypeDesc.int (Go.IntKind.u8), size := 1, bytes := 1, zero := .int .u8 (0) }
def t9 : TI := { desc := Go.TypeDesc.string, size := 1, bytes := 16, zero := .str .empty }
def t21 : TI := { desc := Go.TypeDesc.int (Go.IntKind.i32), size := 1, bytes := 4, zero := .int .i32 (0) }
def t22 : TI := { desc := Go.TypeDesc.slice 3, size := 1, bytes := 24, zero := .nils }
def t24 : TI := { desc := Go.TypeDesc.struct #[{ name := "Right", type := 22, offset := 0, embedded := false, tag := "", pkgPath := "", byteOffset := 0 }, { name := "Up", type := 22, offset := 1, embedded := false, tag := "", pkgPath := "", byteOffset := 24 }], size := 2, bytes := 48, zero := .agg [.nils, .nils] }
def t28 : TI := { desc := Go.TypeDesc.int (Go.IntKind.i64), size := 1, bytes := 8, zero := .int .i64 (0) }
def t34 : TI := { desc := Go.TypeDesc.struct #[{ name := "N", type := 3, offset := 0, embedded := false, tag := "", pkgPath := "", byteOffset := 0 }, { name := "Right", type := 22, offset := 1, embedded := false, tag := "", pkgPath := "", byteOffset := 8 }, { name := "Up", type := 22, offset := 2, embedded := false, tag := "", pkgPath := "", byteOffset := 32 }, { name := "Left", type := 22, offset := 3, embedded := false, tag := "", pkgPath := "", byteOffset := 56 }, { name := "Down", type := 22, offset := 4, embedded := false, tag := "", pkgPath := "", byteOffset := 80 }, { name := "Corner", type := 22, offset := 5, embedded := false, tag := "", pkgPath := "", byteOffset := 104 }, { name := "Corners", type := 3, offset := 6, embedded := false, tag := "", pkgPath := "", byteOffset := 128 }], size := 7, bytes := 136, zero := .agg [.int .i64 (0), .nils, .nils, .nils, .nils, .nils, .int .i64 (0)] }
def t49 : TI := { desc := Go.TypeDesc.struct #[{ name := "A", type := 22, offset := 0, embedded := false, tag := "", pkgPath := "", byteOffset := 0 }, { name := "B", type := 22, offset := 1, embedded := false, tag := "", pkgPath := "", byteOffset := 24 }, { name := "Square", type := 3, offset := 2, embedded := false, tag := "", pkgPath := "", byteOffset := 48 }], size := 3, bytes := 56, zero := .agg [.nils, .nils, .int .i64 (0)] }
def t50 : TI := { desc := Go.TypeDesc.int (Go.IntKind.i8), size := 1, bytes := 1, zero := .int .i8 (0) }
def t52 : TI := { desc := Go.TypeDesc.slice 22, size := 1, bytes := 24, zero := .nils }
def t79 : TI := { desc := Go.TypeDesc.func #[81] #[22] false, size := 1, bytes := 8, zero := .nilf }
def t81 : TI := { desc := Go.TypeDesc.pointer 86, size := 1, bytes := 8, zero := .nilp }
def t82 : TI := { desc := Go.TypeDesc.slice 117, size := 1, bytes := 24, zero := .nils }
def t84 : TI := { desc := Go.TypeDesc.struct #[{ name := "vertices", type := 3, offset := 0, embedded := false, tag := "", pkgPath := pk0, byteOffset := 0 }, { name := "faces", type := 3, offset := 1, embedded := false, tag := "", pkgPath := pk0, byteOffset := 8 }, { name := "edges", type := 82, offset := 2, embedded := false, tag := "", pkgPath := pk0, byteOffset := 16 }], size := 3, bytes := 40, zero := .agg [.int .i64 (0), .int .i64 (0), .nils] }
def t86 : TI := { desc := Go.TypeDesc.struct #[{ name := "mesh", type := 84, offset := 0, embedded := true, tag := "", pkgPath := pk0, byteOffset := 0 }, { name := "right", type := 22, offset := 3, embedded := false, tag := "", pkgPath := pk0, byteOffset := 40 }, { name := "up", type := 22, offset := 4, embedded := false, tag := "", pkgPath := pk0, byteOffset := 64 }, { name := "left", type := 22, offset := 5, embedded := false, tag := "", pkgPath := pk0, byteOffset := 88 }, { name := "down", type := 22, offset := 6, embedded := false, tag := "", pkgPath := pk0, byteOffset := 112 }, { name := "corners", type := 52, offset := 7, embedded := false, tag := "", pkgPath := pk0, byteOffset := 136 }], size := 8, bytes := 160, zero := .agg [.int .i64 (0), .int .i64 (0), .nils, .nils, .nils, .nils, .nils, .nils] }
def t87 : TI := { desc := Go.TypeDesc.func #[81] #[28] false, size := 1, bytes := 8, zero := .nilf }
def t93 : TI := { desc := Go.TypeDesc.pointer 123, size := 1, bytes := 8, zero := .nilp }
def t95 : TI := { desc := Go.TypeDesc.slice 4, size := 1, bytes := 24, zero := .nils }
def t98 : TI := { desc := Go.TypeDesc.func #[81] #[3] false, size := 1, bytes := 8, zero := .nilf }
def t99 : TI := { desc := Go.TypeDesc.array 2 3, size := 2, bytes := 16, zero := .agg [.int .i64 (0), .int .i64 (0)] }
def t103 : TI := { desc := Go.TypeDesc.func #[81] #[99] false, size := 1, bytes := 8, zero := .nilf }
def t114 : TI := { desc := Go.TypeDesc.slice 87, size := 1, bytes := 24, zero := .nils }
def t115 : TI := { desc := Go.TypeDesc.pointer 84, size := 1, bytes := 8, zero := .nilp }
def t117 : TI := { desc := Go.TypeDesc.struct #[{ name := "begin", type := 3, offset := 0, embedded := false, tag := "", pkgPath := pk0, byteOffset := 0 }, { name := "end", type := 3, offset := 1, embedded := false, tag := "", pkgPath := pk0, byteOffset := 8 }, { name := "left", type := 3, offset := 2, embedded := false, tag := "", pkgPath := pk0, byteOffset := 16 }, { name := "right", type := 3, offset := 3, embedded := false, tag := "", pkgPath := pk0, byteOffset := 24 }], size := 4, bytes := 32, zero := .agg [.int .i64 (0), .int .i64 (0), .int .i64 (0), .int .i64 (0)] }
def t121 : TI := { desc := Go.TypeDesc.slice 127, size := 1, bytes := 24, zero := .nils }
def t123 : TI := { desc := Go.TypeDesc.struct #[{ name := "mesh", type := 84, offset := 0, embedded := true, tag := "", pkgPath := pk0, byteOffset := 0 }, { name := "bridges", type := 121, offset := 3, embedded := false, tag := "", pkgPath := pk0, byteOffset := 40 }, { name := "paths", type := 52, offset := 4, embedded := false, tag := "", pkgPath := pk0, byteOffset := 64 }, { name := "loops", type := 22, offset := 5, embedded := false, tag := "", pkgPath := pk0, byteOffset := 88 }], size := 6, bytes := 112, zero := .agg [.int .i64 (0), .int .i64 (0), .nils, .nils, .nils, .nils] }
def t127 : TI := { desc := Go.TypeDesc.struct #[{ name := "edge", type := 3, offset := 0, embedded := false, tag := "", pkgPath := pk0, byteOffset := 0 }, { name := "sign", type := 3, offset := 1, embedded := false, tag := "", pkgPath := pk0, byteOffset := 8 }, { name := "from", type := 3, offset := 2, embedded := false, tag := "", pkgPath := pk0, byteOffset := 16 }, { name := "to", type := 3, offset := 3, embedded := false, tag := "", pkgPath := pk0, byteOffset := 24 }], size := 4, bytes := 32, zero := .agg [.int .i64 (0), .int .i64 (0), .int .i64 (0), .int .i64 (0)] }
def t128 : TI := { desc := Go.TypeDesc.func #[127] #[] false, size := 1, bytes := 8, zero := .nilf }
def t130 : TI := { desc := Go.TypeDesc.func #[3] #[4] false, size := 1, bytes := 8, zero := .nilf }
def t132 : TI := { desc := Go.TypeDesc.map 21 135, size := 1, bytes := 8, zero := .nilm }
def t135 : TI := { desc := Go.TypeDesc.func #[81, 3, 3, 3, 163] #[] false, size := 1, bytes := 8, zero := .nilf }
def t142 : TI := { desc := Go.TypeDesc.slice 21, size := 1, bytes := 24, zero := .nils }
def t159 : TI := { desc := Go.TypeDesc.func #[174] #[28] true, size := 1, bytes := 8, zero := .nilf }
def t160 : TI := { desc := Go.TypeDesc.func #[24] #[52] false, size := 1, bytes := 8, zero := .nilf }
def t161 : TI := { desc := Go.TypeDesc.slice 121, size := 1, bytes := 24, zero := .nils }
def t163 : TI := { desc := Go.TypeDesc.func #[3, 3] #[] false, size := 1, bytes := 8, zero := .nilf }
def t174 : TI := { desc := Go.TypeDesc.slice 24, size := 1, bytes := 24, zero := .nils }
def t177 : TI := { desc := Go.TypeDesc.map 5 180, size := 1, bytes := 8, zero := .nilm }
def t180 : TI := { desc := Go.TypeDesc.struct #[{ name := "A", type := 3, offset := 0, embedded := false, tag := "", pkgPath := "", byteOffset := 0 }, { name := "B", type := 3, offset := 1, embedded := false, tag := "", pkgPath := "", byteOffset := 8 }, { name := "C", type := 3, offset := 2, embedded := false, tag := "", pkgPath := "", byteOffset := 16 }, { name := "D", type := 3, offset := 3, embedded := false, tag := "", pkgPath := "", byteOffset := 24 }], size := 4, bytes := 32, zero := .agg [.int .i64 (0), .int .i64 (0), .int .i64 (0), .int .i64 (0)] }
def t182 : TI := { desc := Go.TypeDesc.slice 186, size := 1, bytes := 24, zero := .nils }
def t184 : TI := { desc := Go.TypeDesc.func #[24] #[24] false, size := 1, bytes := 8, zero := .nilf }
def t186 : TI := { desc := Go.TypeDesc.struct #[{ name := "letter", type := 5, offset := 0, embedded := false, tag := "", pkgPath := pk1, byteOffset := 0 }, { name := "act", type := 184, offset := 1, embedded := false, tag := "", pkgPath := pk1, byteOffset := 8 }], size := 2, bytes := 16, zero := .agg [.int .u8 (0), .nilf] }
def t189 : TI := { desc := Go.TypeDesc.func #[186] #[4] false, size := 1, bytes := 8, zero := .nilf }
def t199 : TI := { desc := Go.TypeDesc.slice 182, size := 1, bytes := 24, zero := .nils }
def tget (f : Nat) : Option TI :=
  if f < 114 then
   if f < 52 then
    if f < 22 then
     if f < 5 then
      if f < 4 then
       if f = 3 then some t3 else none
      else
       if f = 4 then some t4 else none
     else
      if f < 9 then
       if f = 5 then some t5 else none
      else
       if f < 21 then
        if f = 9 then some t9 else none
       else
        if f = 21 then some t21 else none
    else
     if f < 34 then
      if f < 24 then
       if f = 22 then some t22 else none
      else
       if f < 28 then
        if f = 24 then some t24 else none
       else
        if f = 28 then some t28 else none
     else
      if f < 49 then
       if f = 34 then some t34 else none
      else
       if f < 50 then
        if f = 49 then some t49 else none
       else
        if f = 50 then some t50 else none
   else
    if f < 87 then
     if f < 82 then
      if f < 79 then
       if f = 52 then some t52 else none
      else
       if f < 81 then
        if f = 79 then some t79 else none
       else
        if f = 81 then some t81 else none
     else
      if f < 84 then
       if f = 82 then some t82 else none
      else
       if f < 86 then
        if f = 84 then some t84 else none
       else
        if f = 86 then some t86 else none
    else
     if f < 98 then
      if f < 93 then
       if f = 87 then some t87 else none
      else
       if f < 95 then
        if f = 93 then some t93 else none
       else
        if f = 95 then some t95 else none
     else
      if f < 99 then
       if f = 98 then some t98 else none
      else
       if f < 103 then
        if f = 99 then some t99 else none
       else
        if f = 103 then some t103 else none
  else
   if f < 159 then
    if f < 127 then
     if f < 117 then
      if f < 115 then
       if f = 114 then some t114 else none
      else
       if f = 115 then some t115 else none
     else
      if f < 121 then
       if f = 117 then some t117 else none
      else
       if f < 123 then
        if f = 121 then some t121 else none
       else
        if f = 123 then some t123 else none
    else
     if f < 132 then
      if f < 128 then
       if f = 127 then some t127 else none
      else
       if f < 130 then
        if f = 128 then some t128 else none
       else
        if f = 130 then some t130 else none
     else
      if f < 135 then
       if f = 132 then some t132 else none
      else
       if f < 142 then
        if f = 135 then some t135 else none
       else
        if f = 142 then some t142 else none
   else
    if f < 180 then
     if f < 163 then
      if f < 160 then
       if f = 159 then some t159 else none
      else
       if f < 161 then
        if f = 160 then some t160 else none
       else
        if f = 161 then some t161 else none
     else
      if f < 174 then
       if f = 163 then some t163 else none
      else
       if f < 177 then
        if f = 174 then some t174 else none
       else
        if f = 177 then some t177 else none
    else
     if f < 186 then
      if f < 182 then
       if f = 180 then some t180 else none
      else
       if f < 184 then
        if f = 182 then some t182 else none
       else
        if f = 184 then some t184 else none
     else
      if f < 189 then
       if f = 186 then some t186 else none
      else
       if f < 199 then
        if f = 189 then some t189 else none
       else
        if f = 199 then some t199 else none
noncomputable def c3 : FI := fiOf Try.f3
noncomputable def c4 : FI := fiOf Try.f4
noncomputable def c5 : FI := fiOf Try.f5
noncomputable def c6 : FI := fiOf Try.f6
noncomputable def c8 : FI := fiOf Try.f8
noncomputable def c9 : FI := fiOf Try.f9
noncomputable def c10 : FI := fiOf Try.f10
noncomputable def c11 : FI := fiOf Try.f11
noncomputable def c12 : FI := fiOf Try.f12
noncomputable def c13 : FI := fiOf Try.f13
noncomputable def c14 : FI := fiOf Try.f14
noncomputable def c15 : FI := fiOf Try.f15
noncomputable def c16 : FI := fiOf Try.f16
noncomputable def c17 : FI := fiOf Try.f17
noncomputable def c18 : FI := fiOf Try.f18
noncomputable def c19 : FI := fiOf Try.f19
noncomputable def c20 : FI := fiOf Try.f20
noncomputable def c21 : FI := fiOf Try.f21
noncomputable def c22 : FI := fiOf Try.f22
noncomputable def c23 : FI := fiOf Try.f23
noncomputable def c24 : FI := fiOf Try.f24
noncomputable def c25 : FI := fiOf Try.f25
noncomputable def c26 : FI := fiOf Try.f26
noncomputable def c27 : FI := fiOf Try.f27
noncomputable def c28 : FI := fiOf Try.f28
noncomputable def c29 : FI := fiOf Try.f29
noncomputable def c30 : FI := fiOf Try.f30
noncomputable def c31 : FI := fiOf Try.f31
noncomputable def c32 : FI := fiOf Try.f32
noncomputable def c33 : FI := fiOf Try.f33
noncomputable def c41 : FI := fiOf Try.f41
noncomputable def c42 : FI := fiOf Try.f42
noncomputable def c43 : FI := fiOf Try.f43
noncomputable def c44 : FI := fiOf Try.f44
noncomputable def c45 : FI := fiOf Try.f45
noncomputable def c46 : FI := fiOf Try.f46
noncomputable def c47 : FI := fiOf Try.f47
noncomputable def c48 : FI := fiOf Try.f48
noncomputable def c49 : FI := fiOf Try.f49
noncomputable def c50 : FI := fiOf Try.f50
noncomputable def c51 : FI := fiOf Try.f51
noncomputable def c52 : FI := fiOf Try.f52
noncomputable def c53 : FI := fiOf Try.f53
noncomputable def c54 : FI := fiOf Try.f54
noncomputable def c55 : FI := fiOf Try.f55
noncomputable def c56 : FI := fiOf Try.f56
noncomputable def c57 : FI := fiOf Try.f57
noncomputable def c58 : FI := fiOf Try.f58
noncomputable def c59 : FI := fiOf Try.f59
noncomputable def c60 : FI := fiOf Try.f60
noncomputable def c61 : FI := fiOf Try.f61
noncomputable def c62 : FI := fiOf Try.f62
noncomputable def c63 : FI := fiOf Try.f63
noncomputable def c64 : FI := fiOf Try.f64
noncomputable def c65 : FI := fiOf Try.f65
noncomputable def c66 : FI := fiOf Try.f66
noncomputable def c67 : FI := fiOf Try.f67
noncomputable def c68 : FI := fiOf Try.f68
noncomputable def c72 : FI := fiOf Try.f72
noncomputable def c82 : FI := fiOf Try.f82
noncomputable def c83 : FI := fiOf Try.f83
noncomputable def c84 : FI := fiOf Try.f84
noncomputable def c85 : FI := fiOf Try.f85
noncomputable def c86 : FI := fiOf Try.f86
noncomputable def c87 : FI := fiOf Try.f87
noncomputable def c88 : FI := fiOf Try.f88
noncomputable def c89 : FI := fiOf Try.f89
noncomputable def c90 : FI := fiOf Try.f90
noncomputable def c91 : FI := fiOf Try.f91
noncomputable def c92 : FI := fiOf Try.f92
noncomputable def c93 : FI := fiOf Try.f93
noncomputable def c94 : FI := fiOf Try.f94
noncomputable def c95 : FI := fiOf Try.f95
noncomputable def c96 : FI := fiOf Try.f96
noncomputable def c97 : FI := fiOf Try.f97
noncomputable def c98 : FI := fiOf Try.f98
noncomputable def c99 : FI := fiOf Try.f99
noncomputable def c100 : FI := fiOf Try.f100
noncomputable def c101 : FI := fiOf Try.f101
noncomputable def c102 : FI := fiOf Try.f102
noncomputable def c103 : FI := fiOf Try.f103
noncomputable def c104 : FI := fiOf Try.f104
noncomputable def c105 : FI := fiOf Try.f105
noncomputable def c107 : FI := fiOf Try.f107
noncomputable def c108 : FI := fiOf Try.f108
noncomputable def c124 : FI := fiOf Try.f124
noncomputable def c125 : FI := fiOf Try.f125
noncomputable def c126 : FI := fiOf Try.f126
noncomputable def c127 : FI := fiOf Try.f127
noncomputable def c128 : FI := fiOf Try.f128
noncomputable def c129 : FI := fiOf Try.f129
noncomputable def c130 : FI := fiOf Try.f130
noncomputable def c131 : FI := fiOf Try.f131
noncomputable def c132 : FI := fiOf Try.f132
noncomputable def c133 : FI := fiOf Try.f133
noncomputable def c134 : FI := fiOf Try.f134
noncomputable def c135 : FI := fiOf Try.f135
noncomputable def c136 : FI := fiOf Try.f136
noncomputable def c137 : FI := fiOf Try.f137
noncomputable def c150 : FI := fiOf Try.f150
noncomputable def c151 : FI := fiOf Try.f151
noncomputable def c152 : FI := fiOf Try.f152
noncomputable def c153 : FI := fiOf Try.f153
noncomputable def c154 : FI := fiOf Try.f154
noncomputable def c155 : FI := fiOf Try.f155
noncomputable def c156 : FI := fiOf Try.f156
noncomputable def c157 : FI := fiOf Try.f157
noncomputable def c158 : FI := fiOf Try.f158
noncomputable def c177 : FI := fiOf Try.f177
noncomputable def c178 : FI := fiOf Try.f178
noncomputable def c179 : FI := fiOf Try.f179
noncomputable def c180 : FI := fiOf Try.f180
noncomputable def c181 : FI := fiOf Try.f181
noncomputable def c182 : FI := fiOf Try.f182
noncomputable def c183 : FI := fiOf Try.f183
noncomputable def c184 : FI := fiOf Try.f184
noncomputable def c185 : FI := fiOf Try.f185
noncomputable def c186 : FI := fiOf Try.f186
noncomputable def c187 : FI := fiOf Try.f187
noncomputable def c197 : FI := fiOf Try.f197
noncomputable def c198 : FI := fiOf Try.f198
noncomputable def c199 : FI := fiOf Try.f199
noncomputable def c203 : FI := fiOf Try.f203
noncomputable def cget (f : Nat) : Option FI :=
  if f < 84 then
   if f < 41 then
    if f < 19 then
     if f < 11 then
      if f < 6 then
       if f < 4 then
        if f = 3 then some c3 else none
       else
        if f < 5 then
         if f = 4 then some c4 else none
        else
         if f = 5 then some c5 else none
      else
       if f < 9 then
        if f < 8 then
         if f = 6 then some c6 else none
        else
         if f = 8 then some c8 else none
       else
        if f < 10 then
         if f = 9 then some c9 else none
        else
         if f = 10 then some c10 else none
     else
      if f < 15 then
       if f < 13 then
        if f < 12 then
         if f = 11 then some c11 else none
        else
         if f = 12 then some c12 else none
       else
        if f < 14 then
         if f = 13 then some c13 else none
        else
         if f = 14 then some c14 else none
      else
       if f < 17 then
        if f < 16 then
         if f = 15 then some c15 else none
        else
         if f = 16 then some c16 else none
       else
        if f < 18 then
         if f = 17 then some c17 else none
        else
         if f = 18 then some c18 else none
    else
     if f < 26 then
      if f < 22 then
       if f < 20 then
        if f = 19 then some c19 else none
       else
        if f < 21 then
         if f = 20 then some c20 else none
        else
         if f = 21 then some c21 else none
      else
       if f < 24 then
        if f < 23 then
         if f = 22 then some c22 else none
        else
         if f = 23 then some c23 else none
       else
        if f < 25 then
         if f = 24 then some c24 else none
        else
         if f = 25 then some c25 else none
     else
      if f < 30 then
       if f < 28 then
        if f < 27 then
         if f = 26 then some c26 else none
        else
         if f = 27 then some c27 else none
       else
        if f < 29 then
         if f = 28 then some c28 else none
        else
         if f = 29 then some c29 else none
      else
       if f < 32 then
        if f < 31 then
         if f = 30 then some c30 else none
        else
         if f = 31 then some c31 else none
       else
        if f < 33 then
         if f = 32 then some c32 else none
        else
         if f = 33 then some c33 else none
   else
    if f < 56 then
     if f < 48 then
      if f < 44 then
       if f < 42 then
        if f = 41 then some c41 else none
       else
        if f < 43 then
         if f = 42 then some c42 else none
        else
         if f = 43 then some c43 else none
      else
       if f < 46 then
        if f < 45 then
         if f = 44 then some c44 else none
        else
         if f = 45 then some c45 else none
       else
        if f < 47 then
         if f = 46 then some c46 else none
        else
         if f = 47 then some c47 else none
     else
      if f < 52 then
       if f < 50 then
        if f < 49 then
         if f = 48 then some c48 else none
        else
         if f = 49 then some c49 else none
       else
        if f < 51 then
         if f = 50 then some c50 else none
        else
         if f = 51 then some c51 else none
      else
       if f < 54 then
        if f < 53 then
         if f = 52 then some c52 else none
        else
         if f = 53 then some c53 else none
       else
        if f < 55 then
         if f = 54 then some c54 else none
        else
         if f = 55 then some c55 else none
    else
     if f < 64 then
      if f < 60 then
       if f < 58 then
        if f < 57 then
         if f = 56 then some c56 else none
        else
         if f = 57 then some c57 else none
       else
        if f < 59 then
         if f = 58 then some c58 else none
        else
         if f = 59 then some c59 else none
      else
       if f < 62 then
        if f < 61 then
         if f = 60 then some c60 else none
        else
         if f = 61 then some c61 else none
       else
        if f < 63 then
         if f = 62 then some c62 else none
        else
         if f = 63 then some c63 else none
     else
      if f < 68 then
       if f < 66 then
        if f < 65 then
         if f = 64 then some c64 else none
        else
         if f = 65 then some c65 else none
       else
        if f < 67 then
         if f = 66 then some c66 else none
        else
         if f = 67 then some c67 else none
      else
       if f < 82 then
        if f < 72 then
         if f = 68 then some c68 else none
        else
         if f = 72 then some c72 else none
       else
        if f < 83 then
         if f = 82 then some c82 else none
        else
         if f = 83 then some c83 else none
  else
   if f < 131 then
    if f < 99 then
     if f < 91 then
      if f < 87 then
       if f < 85 then
        if f = 84 then some c84 else none
       else
        if f < 86 then
         if f = 85 then some c85 else none
        else
         if f = 86 then some c86 else none
      else
       if f < 89 then
        if f < 88 then
         if f = 87 then some c87 else none
        else
         if f = 88 then some c88 else none
       else
        if f < 90 then
         if f = 89 then some c89 else none
        else
         if f = 90 then some c90 else none
     else
      if f < 95 then
       if f < 93 then
        if f < 92 then
         if f = 91 then some c91 else none
        else
         if f = 92 then some c92 else none
       else
        if f < 94 then
         if f = 93 then some c93 else none
        else
         if f = 94 then some c94 else none
      else
       if f < 97 then
        if f < 96 then
         if f = 95 then some c95 else none
        else
         if f = 96 then some c96 else none
       else
        if f < 98 then
         if f = 97 then some c97 else none
        else
         if f = 98 then some c98 else none
    else
     if f < 108 then
      if f < 103 then
       if f < 101 then
        if f < 100 then
         if f = 99 then some c99 else none
        else
         if f = 100 then some c100 else none
       else
        if f < 102 then
         if f = 101 then some c101 else none
        else
         if f = 102 then some c102 else none
      else
       if f < 105 then
        if f < 104 then
         if f = 103 then some c103 else none
        else
         if f = 104 then some c104 else none
       else
        if f < 107 then
         if f = 105 then some c105 else none
        else
         if f = 107 then some c107 else none
     else
      if f < 127 then
       if f < 125 then
        if f < 124 then
         if f = 108 then some c108 else none
        else
         if f = 124 then some c124 else none
       else
        if f < 126 then
         if f = 125 then some c125 else none
        else
         if f = 126 then some c126 else none
      else
       if f < 129 then
        if f < 128 then
         if f = 127 then some c127 else none
        else
         if f = 128 then some c128 else none
       else
        if f < 130 then
         if f = 129 then some c129 else none
        else
         if f = 130 then some c130 else none
   else
    if f < 158 then
     if f < 150 then
      if f < 134 then
       if f < 132 then
        if f = 131 then some c131 else none
       else
        if f < 133 then
         if f = 132 then some c132 else none
        else
         if f = 133 then some c133 else none
      else
       if f < 136 then
        if f < 135 then
         if f = 134 then some c134 else none
        else
         if f = 135 then some c135 else none
       else
        if f < 137 then
         if f = 136 then some c136 else none
        else
         if f = 137 then some c137 else none
     else
      if f < 154 then
       if f < 152 then
        if f < 151 then
         if f = 150 then some c150 else none
        else
         if f = 151 then some c151 else none
       else
        if f < 153 then
         if f = 152 then some c152 else none
        else
         if f = 153 then some c153 else none
      else
       if f < 156 then
        if f < 155 then
         if f = 154 then some c154 else none
        else
         if f = 155 then some c155 else none
       else
        if f < 157 then
         if f = 156 then some c156 else none
        else
         if f = 157 then some c157 else none
    else
     if f < 184 then
      if f < 180 then
       if f < 178 then
        if f < 177 then
         if f = 158 then some c158 else none
        else
         if f = 177 then some c177 else none
       else
        if f < 179 then
         if f = 178 then some c178 else none
        else
         if f = 179 then some c179 else none
      else
       if f < 182 then
        if f < 181 then
         if f = 180 then some c180 else none
        else
         if f = 181 then some c181 else none
       else
        if f < 183 then
         if f = 182 then some c182 else none
        else
         if f = 183 then some c183 else none
     else
      if f < 197 then
       if f < 186 then
        if f < 185 then
         if f = 184 then some c184 else none
        else
         if f = 185 then some c185 else none
       else
        if f < 187 then
         if f = 186 then some c186 else none
        else
         if f = 187 then some c187 else none
      else
       if f < 199 then
        if f < 198 then
         if f = 197 then some c197 else none
        else
         if f = 198 then some c198 else none
       else
        if f < 203 then
         if f = 199 then some c199 else none
        else
         if f = 203 then some c203 else none
theorem tok3 : TiOk Try.prog 3 t3 := ⟨by kernel_rfl, by kernel_rfl, by kernel_rfl⟩
theorem tok4 : TiOk Try.prog 4 t4 := ⟨by kernel_rfl, by kernel_rfl, by kernel_rfl⟩
theorem tok5 : TiOk Try.prog 5 t5 := ⟨by kernel_rfl, by kernel_rfl, by kernel_rfl⟩
theorem tok9 : TiOk Try.prog 9 t9 := ⟨by kernel_rfl, by kernel_rfl, by kernel_rfl⟩
theorem tok21 : TiOk Try.prog 21 t21 := ⟨by kernel_rfl, by kernel_rfl, by kernel_rfl⟩
theorem tok22 : TiOk Try.prog 22 t22 := ⟨by kernel_rfl, by kernel_rfl, by kernel_rfl⟩
theorem tok24 : TiOk Try.prog 24 t24 := ⟨by kernel_rfl, by kernel_rfl, by kernel_rfl⟩
theorem tok28 : TiOk Try.prog 28 t28 := ⟨by kernel_rfl, by kernel_rfl, by kernel_rfl⟩
theorem tok34 : TiOk Try.prog 34 t34 := ⟨by kernel_rfl, by kernel_rfl, by kernel_rfl⟩
theorem tok49 : TiOk Try.prog 49 t49 := ⟨by kernel_rfl, by kernel_rfl, by kernel_rfl⟩
theorem tok50 : TiOk Try.prog 50 t50 := ⟨by kernel_rfl, by kernel_rfl, by kernel_rfl⟩
theorem tok52 : TiOk Try.prog 52 t52 := ⟨by kernel_rfl, by kernel_rfl, by kernel_rfl⟩
theorem tok79 : TiOk Try.prog 79 t79 := ⟨by kernel_rfl, by kernel_rfl, by kernel_rfl⟩
theorem tok81 : TiOk Try.prog 81 t81 := ⟨by kernel_rfl, by kernel_rfl, by kernel_rfl⟩
theorem tok82 : TiOk Try.prog 82 t82 := ⟨by kernel_rfl, by kernel_rfl, by kernel_rfl⟩
theorem tok84 : TiOk Try.prog 84 t84 := ⟨by kernel_rfl, by kernel_rfl, by kernel_rfl⟩
theorem tok86 : TiOk Try.prog 86 t86 := ⟨by kernel_rfl, by kernel_rfl, by kernel_rfl⟩
theorem tok87 : TiOk Try.prog 87 t87 := ⟨by kernel_rfl, by kernel_rfl, by kernel_rfl⟩
theorem tok93 : TiOk Try.prog 93 t93 := ⟨by kernel_rfl, by kernel_rfl, by kernel_rfl⟩
theorem tok95 : TiOk Try.prog 95 t95 := ⟨by kernel_rfl, by kernel_rfl, by kernel_rfl⟩
theorem tok98 : TiOk Try.prog 98 t98 := ⟨by kernel_rfl, by kernel_rfl, by kernel_rfl⟩
theorem tok99 : TiOk Try.prog 99 t99 := ⟨by kernel_rfl, by kernel_rfl, by kernel_rfl⟩
theorem tok103 : TiOk Try.prog 103 t103 := ⟨by kernel_rfl, by kernel_rfl, by kernel_rfl⟩
theorem tok114 : TiOk Try.prog 114 t114 := ⟨by kernel_rfl, by kernel_rfl, by kernel_rfl⟩
theorem tok115 : TiOk Try.prog 115 t115 := ⟨by kernel_rfl, by kernel_rfl, by kernel_rfl⟩
theorem tok117 : TiOk Try.prog 117 t117 := ⟨by kernel_rfl, by kernel_rfl, by kernel_rfl⟩
theorem tok121 : TiOk Try.prog 121 t121 := ⟨by kernel_rfl, by kernel_rfl, by kernel_rfl⟩
theorem tok123 : TiOk Try.prog 123 t123 := ⟨by kernel_rfl, by kernel_rfl, by kernel_rfl⟩
theorem tok127 : TiOk Try.prog 127 t127 := ⟨by kernel_rfl, by kernel_rfl, by kernel_rfl⟩
theorem tok128 : TiOk Try.prog 128 t128 := ⟨by kernel_rfl, by kernel_rfl, by kernel_rfl⟩
theorem tok130 : TiOk Try.prog 130 t130 := ⟨by kernel_rfl, by kernel_rfl, by kernel_rfl⟩
theorem tok132 : TiOk Try.prog 132 t132 := ⟨by kernel_rfl, by kernel_rfl, by kernel_rfl⟩
theorem tok135 : TiOk Try.prog 135 t135 := ⟨by kernel_rfl, by kernel_rfl, by kernel_rfl⟩
theorem tok142 : TiOk Try.prog 142 t142 := ⟨by kernel_rfl, by kernel_rfl, by kernel_rfl⟩
theorem tok159 : TiOk Try.prog 159 t159 := ⟨by kernel_rfl, by kernel_rfl, by kernel_rfl⟩
theorem tok160 : TiOk Try.prog 160 t160 := ⟨by kernel_rfl, by kernel_rfl, by kernel_rfl⟩
theorem tok161 : TiOk Try.prog 161 t161 := ⟨by kernel_rfl, by kernel_rfl, by kernel_rfl⟩
theorem tok163 : TiOk Try.prog 163 t163 := ⟨by kernel_rfl, by kernel_rfl, by kernel_rfl⟩
theorem tok174 : TiOk Try.prog 174 t174 := ⟨by kernel_rfl, by kernel_rfl, by kernel_rfl⟩
theorem tok177 : TiOk Try.prog 177 t177 := ⟨by kernel_rfl, by kernel_rfl, by kernel_rfl⟩
theorem tok180 : TiOk Try.prog 180 t180 := ⟨by kernel_rfl, by kernel_rfl, by kernel_rfl⟩
theorem tok182 : TiOk Try.prog 182 t182 := ⟨by kernel_rfl, by kernel_rfl, by kernel_rfl⟩
theorem tok184 : TiOk Try.prog 184 t184 := ⟨by kernel_rfl, by kernel_rfl, by kernel_rfl⟩
theorem tok186 : TiOk Try.prog 186 t186 := ⟨by kernel_rfl, by kernel_rfl, by kernel_rfl⟩
theorem tok189 : TiOk Try.prog 189 t189 := ⟨by kernel_rfl, by kernel_rfl, by kernel_rfl⟩
theorem tok199 : TiOk Try.prog 199 t199 := ⟨by kernel_rfl, by kernel_rfl, by kernel_rfl⟩
theorem cok3 : FiOk Try.prog 3 c3 := fiOk_of Try.func3 (by kernel_rfl) (by kernel_rfl)
theorem cok4 : FiOk Try.prog 4 c4 := fiOk_of Try.func4 (by kernel_rfl) (by kernel_rfl)
theorem cok5 : FiOk Try.prog 5 c5 := fiOk_of Try.func5 (by kernel_rfl) (by kernel_rfl)
theorem cok6 : FiOk Try.prog 6 c6 := fiOk_of Try.func6 (by kernel_rfl) (by kernel_rfl)
theorem cok8 : FiOk Try.prog 8 c8 := fiOk_of Try.func8 (by kernel_rfl) (by kernel_rfl)
theorem cok9 : FiOk Try.prog 9 c9 := fiOk_of Try.func9 (by kernel_rfl) (by kernel_rfl)
theorem cok10 : FiOk Try.prog 10 c10 := fiOk_of Try.func10 (by kernel_rfl) (by kernel_rfl)
theorem cok11 : FiOk Try.prog 11 c11 := fiOk_of Try.func11 (by kernel_rfl) (by kernel_rfl)
theorem cok12 : FiOk Try.prog 12 c12 := fiOk_of Try.func12 (by kernel_rfl) (by kernel_rfl)
theorem cok13 : FiOk Try.prog 13 c13 := fiOk_of Try.func13 (by kernel_rfl) (by kernel_rfl)
theorem cok14 : FiOk Try.prog 14 c14 := fiOk_of Try.func14 (by kernel_rfl) (by kernel_rfl)
theorem cok15 : FiOk Try.prog 15 c15 := fiOk_of Try.func15 (by kernel_rfl) (by kernel_rfl)
theorem cok16 : FiOk Try.prog 16 c16 := fiOk_of Try.func16 (by kernel_rfl) (by kernel_rfl)
theorem cok17 : FiOk Try.prog 17 c17 := fiOk_of Try.func17 (by kernel_rfl) (by kernel_rfl)
theorem cok18 : FiOk Try.prog 18 c18 := fiOk_of Try.func18 (by kernel_rfl) (by kernel_rfl)
theorem cok19 : FiOk Try.prog 19 c19 := fiOk_of Try.func19 (by kernel_rfl) (by kernel_rfl)
theorem cok20 : FiOk Try.prog 20 c20 := fiOk_of Try.func20 (by kernel_rfl) (by kernel_rfl)
theorem cok21 : FiOk Try.prog 21 c21 := fiOk_of Try.func21 (by kernel_rfl) (by kernel_rfl)
theorem cok22 : FiOk Try.prog 22 c22 := fiOk_of Try.func22 (by kernel_rfl) (by kernel_rfl)
theorem cok23 : FiOk Try.prog 23 c23 := fiOk_of Try.func23 (by kernel_rfl) (by kernel_rfl)
theorem cok24 : FiOk Try.prog 24 c24 := fiOk_of Try.func24 (by kernel_rfl) (by kernel_rfl)
theorem cok25 : FiOk Try.prog 25 c25 := fiOk_of Try.func25 (by kernel_rfl) (by kernel_rfl)
theorem cok26 : FiOk Try.prog 26 c26 := fiOk_of Try.func26 (by kernel_rfl) (by kernel_rfl)
theorem cok27 : FiOk Try.prog 27 c27 := fiOk_of Try.func27 (by kernel_rfl) (by kernel_rfl)
theorem cok28 : FiOk Try.prog 28 c28 := fiOk_of Try.func28 (by kernel_rfl) (by kernel_rfl)
theorem cok29 : FiOk Try.prog 29 c29 := fiOk_of Try.func29 (by kernel_rfl) (by kernel_rfl)
theorem cok30 : FiOk Try.prog 30 c30 := fiOk_of Try.func30 (by kernel_rfl) (by kernel_rfl)
theorem cok31 : FiOk Try.prog 31 c31 := fiOk_of Try.func31 (by kernel_rfl) (by kernel_rfl)
theorem cok32 : FiOk Try.prog 32 c32 := fiOk_of Try.func32 (by kernel_rfl) (by kernel_rfl)
theorem cok33 : FiOk Try.prog 33 c33 := fiOk_of Try.func33 (by kernel_rfl) (by kernel_rfl)
theorem cok41 : FiOk Try.prog 41 c41 := fiOk_of Try.func41 (by kernel_rfl) (by kernel_rfl)
theorem cok42 : FiOk Try.prog 42 c42 := fiOk_of Try.func42 (by kernel_rfl) (by kernel_rfl)
theorem cok43 : FiOk Try.prog 43 c43 := fiOk_of Try.func43 (by kernel_rfl) (by kernel_rfl)
theorem cok44 : FiOk Try.prog 44 c44 := fiOk_of Try.func44 (by kernel_rfl) (by kernel_rfl)
theorem cok45 : FiOk Try.prog 45 c45 := fiOk_of Try.func45 (by kernel_rfl) (by kernel_rfl)
theorem cok46 : FiOk Try.prog 46 c46 := fiOk_of Try.func46 (by kernel_rfl) (by kernel_rfl)
theorem cok47 : FiOk Try.prog 47 c47 := fiOk_of Try.func47 (by kernel_rfl) (by kernel_rfl)
theorem cok48 : FiOk Try.prog 48 c48 := fiOk_of Try.func48 (by kernel_rfl) (by kernel_rfl)
theorem cok49 : FiOk Try.prog 49 c49 := fiOk_of Try.func49 (by kernel_rfl) (by kernel_rfl)
theorem cok50 : FiOk Try.prog 50 c50 := fiOk_of Try.func50 (by kernel_rfl) (by kernel_rfl)
theorem cok51 : FiOk Try.prog 51 c51 := fiOk_of Try.func51 (by kernel_rfl) (by kernel_rfl)
theorem cok52 : FiOk Try.prog 52 c52 := fiOk_of Try.func52 (by kernel_rfl) (by kernel_rfl)
theorem cok53 : FiOk Try.prog 53 c53 := fiOk_of Try.func53 (by kernel_rfl) (by kernel_rfl)
theorem cok54 : FiOk Try.prog 54 c54 := fiOk_of Try.func54 (by kernel_rfl) (by kernel_rfl)
theorem cok55 : FiOk Try.prog 55 c55 := fiOk_of Try.func55 (by kernel_rfl) (by kernel_rfl)
theorem cok56 : FiOk Try.prog 56 c56 := fiOk_of Try.func56 (by kernel_rfl) (by kernel_rfl)
theorem cok57 : FiOk Try.prog 57 c57 := fiOk_of Try.func57 (by kernel_rfl) (by kernel_rfl)
theorem cok58 : FiOk Try.prog 58 c58 := fiOk_of Try.func58 (by kernel_rfl) (by kernel_rfl)
theorem cok59 : FiOk Try.prog 59 c59 := fiOk_of Try.func59 (by kernel_rfl) (by kernel_rfl)
theorem cok60 : FiOk Try.prog 60 c60 := fiOk_of Try.func60 (by kernel_rfl) (by kernel_rfl)
theorem cok61 : FiOk Try.prog 61 c61 := fiOk_of Try.func61 (by kernel_rfl) (by kernel_rfl)
theorem cok62 : FiOk Try.prog 62 c62 := fiOk_of Try.func62 (by kernel_rfl) (by kernel_rfl)
theorem cok63 : FiOk Try.prog 63 c63 := fiOk_of Try.func63 (by kernel_rfl) (by kernel_rfl)
theorem cok64 : FiOk Try.prog 64 c64 := fiOk_of Try.func64 (by kernel_rfl) (by kernel_rfl)
theorem cok65 : FiOk Try.prog 65 c65 := fiOk_of Try.func65 (by kernel_rfl) (by kernel_rfl)
theorem cok66 : FiOk Try.prog 66 c66 := fiOk_of Try.func66 (by kernel_rfl) (by kernel_rfl)
theorem cok67 : FiOk Try.prog 67 c67 := fiOk_of Try.func67 (by kernel_rfl) (by kernel_rfl)
theorem cok68 : FiOk Try.prog 68 c68 := fiOk_of Try.func68 (by kernel_rfl) (by kernel_rfl)
theorem cok72 : FiOk Try.prog 72 c72 := fiOk_of Try.func72 (by kernel_rfl) (by kernel_rfl)
theorem cok82 : FiOk Try.prog 82 c82 := fiOk_of Try.func82 (by kernel_rfl) (by kernel_rfl)
theorem cok83 : FiOk Try.prog 83 c83 := fiOk_of Try.func83 (by kernel_rfl) (by kernel_rfl)
theorem cok84 : FiOk Try.prog 84 c84 := fiOk_of Try.func84 (by kernel_rfl) (by kernel_rfl)
theorem cok85 : FiOk Try.prog 85 c85 := fiOk_of Try.func85 (by kernel_rfl) (by kernel_rfl)
theorem cok86 : FiOk Try.prog 86 c86 := fiOk_of Try.func86 (by kernel_rfl) (by kernel_rfl)
theorem cok87 : FiOk Try.prog 87 c87 := fiOk_of Try.func87 (by kernel_rfl) (by kernel_rfl)
theorem cok88 : FiOk Try.prog 88 c88 := fiOk_of Try.func88 (by kernel_rfl) (by kernel_rfl)
theorem cok89 : FiOk Try.prog 89 c89 := fiOk_of Try.func89 (by kernel_rfl) (by kernel_rfl)
theorem cok90 : FiOk Try.prog 90 c90 := fiOk_of Try.func90 (by kernel_rfl) (by kernel_rfl)
theorem cok91 : FiOk Try.prog 91 c91 := fiOk_of Try.func91 (by kernel_rfl) (by kernel_rfl)
theorem cok92 : FiOk Try.prog 92 c92 := fiOk_of Try.func92 (by kernel_rfl) (by kernel_rfl)
theorem cok93 : FiOk Try.prog 93 c93 := fiOk_of Try.func93 (by kernel_rfl) (by kernel_rfl)
theorem cok94 : FiOk Try.prog 94 c94 := fiOk_of Try.func94 (by kernel_rfl) (by kernel_rfl)
theorem cok95 : FiOk Try.prog 95 c95 := fiOk_of Try.func95 (by kernel_rfl) (by kernel_rfl)
theorem cok96 : FiOk Try.prog 96 c96 := fiOk_of Try.func96 (by kernel_rfl) (by kernel_rfl)
theorem cok97 : FiOk Try.prog 97 c97 := fiOk_of Try.func97 (by kernel_rfl) (by kernel_rfl)
theorem cok98 : FiOk Try.prog 98 c98 := fiOk_of Try.func98 (by kernel_rfl) (by kernel_rfl)
theorem cok99 : FiOk Try.prog 99 c99 := fiOk_of Try.func99 (by kernel_rfl) (by kernel_rfl)
theorem cok100 : FiOk Try.prog 100 c100 := fiOk_of Try.func100 (by kernel_rfl) (by kernel_rfl)
theorem cok101 : FiOk Try.prog 101 c101 := fiOk_of Try.func101 (by kernel_rfl) (by kernel_rfl)
theorem cok102 : FiOk Try.prog 102 c102 := fiOk_of Try.func102 (by kernel_rfl) (by kernel_rfl)
theorem cok103 : FiOk Try.prog 103 c103 := fiOk_of Try.func103 (by kernel_rfl) (by kernel_rfl)
theorem cok104 : FiOk Try.prog 104 c104 := fiOk_of Try.func104 (by kernel_rfl) (by kernel_rfl)
theorem cok105 : FiOk Try.prog 105 c105 := fiOk_of Try.func105 (by kernel_rfl) (by kernel_rfl)
theorem cok107 : FiOk Try.prog 107 c107 := fiOk_of Try.func107 (by kernel_rfl) (by kernel_rfl)
theorem cok108 : FiOk Try.prog 108 c108 := fiOk_of Try.func108 (by kernel_rfl) (by kernel_rfl)
theorem cok124 : FiOk Try.prog 124 c124 := fiOk_of Try.func124 (by kernel_rfl) (by kernel_rfl)
theorem cok125 : FiOk Try.prog 125 c125 := fiOk_of Try.func125 (by kernel_rfl) (by kernel_rfl)
theorem cok126 : FiOk Try.prog 126 c126 := fiOk_of Try.func126 (by kernel_rfl) (by kernel_rfl)
theorem cok127 : FiOk Try.prog 127 c127 := fiOk_of Try.func127 (by kernel_rfl) (by kernel_rfl)
theorem cok128 : FiOk Try.prog 128 c128 := fiOk_of Try.func128 (by kernel_rfl) (by kernel_rfl)
theorem cok129 : FiOk Try.prog 129 c129 := fiOk_of Try.func129 (by kernel_rfl) (by kernel_rfl)
theorem cok130 : FiOk Try.prog 130 c130 := fiOk_of Try.func130 (by kernel_rfl) (by kernel_rfl)
theorem cok131 : FiOk Try.prog 131 c131 := fiOk_of Try.func131 (by kernel_rfl) (by kernel_rfl)
theorem cok132 : FiOk Try.prog 132 c132 := fiOk_of Try.func132 (by kernel_rfl) (by kernel_rfl)
theorem cok133 : FiOk Try.prog 133 c133 := fiOk_of Try.func133 (by kernel_rfl) (by kernel_rfl)
theorem cok134 : FiOk Try.prog 134 c134 := fiOk_of Try.func134 (by kernel_rfl) (by kernel_rfl)
theorem cok135 : FiOk Try.prog 135 c135 := fiOk_of Try.func135 (by kernel_rfl) (by kernel_rfl)
theorem cok136 : FiOk Try.prog 136 c136 := fiOk_of Try.func136 (by kernel_rfl) (by kernel_rfl)
theorem cok137 : FiOk Try.prog 137 c137 := fiOk_of Try.func137 (by kernel_rfl) (by kernel_rfl)
theorem cok150 : FiOk Try.prog 150 c150 := fiOk_of Try.func150 (by kernel_rfl) (by kernel_rfl)
theorem cok151 : FiOk Try.prog 151 c151 := fiOk_of Try.func151 (by kernel_rfl) (by kernel_rfl)
theorem cok152 : FiOk Try.prog 152 c152 := fiOk_of Try.func152 (by kernel_rfl) (by kernel_rfl)
theorem cok153 : FiOk Try.prog 153 c153 := fiOk_of Try.func153 (by kernel_rfl) (by kernel_rfl)
theorem cok154 : FiOk Try.prog 154 c154 := fiOk_of Try.func154 (by kernel_rfl) (by kernel_rfl)
theorem cok155 : FiOk Try.prog 155 c155 := fiOk_of Try.func155 (by kernel_rfl) (by kernel_rfl)
theorem cok156 : FiOk Try.prog 156 c156 := fiOk_of Try.func156 (by kernel_rfl) (by kernel_rfl)
theorem cok157 : FiOk Try.prog 157 c157 := fiOk_of Try.func157 (by kernel_rfl) (by kernel_rfl)
theorem cok158 : FiOk Try.prog 158 c158 := fiOk_of Try.func158 (by kernel_rfl) (by kernel_rfl)
theorem cok177 : FiOk Try.prog 177 c177 := fiOk_of Try.func177 (by kernel_rfl) (by kernel_rfl)
theorem cok178 : FiOk Try.prog 178 c178 := fiOk_of Try.func178 (by kernel_rfl) (by kernel_rfl)
theorem cok179 : FiOk Try.prog 179 c179 := fiOk_of Try.func179 (by kernel_rfl) (by kernel_rfl)
theorem cok180 : FiOk Try.prog 180 c180 := fiOk_of Try.func180 (by kernel_rfl) (by kernel_rfl)
theorem cok181 : FiOk Try.prog 181 c181 := fiOk_of Try.func181 (by kernel_rfl) (by kernel_rfl)
theorem cok182 : FiOk Try.prog 182 c182 := fiOk_of Try.func182 (by kernel_rfl) (by kernel_rfl)
theorem cok183 : FiOk Try.prog 183 c183 := fiOk_of Try.func183 (by kernel_rfl) (by kernel_rfl)
theorem cok184 : FiOk Try.prog 184 c184 := fiOk_of Try.func184 (by kernel_rfl) (by kernel_rfl)
theorem cok185 : FiOk Try.prog 185 c185 := fiOk_of Try.func185 (by kernel_rfl) (by kernel_rfl)
theorem cok186 : FiOk Try.prog 186 c186 := fiOk_of Try.func186 (by kernel_rfl) (by kernel_rfl)
theorem cok187 : FiOk Try.prog 187 c187 := fiOk_of Try.func187 (by kernel_rfl) (by kernel_rfl)
theorem cok197 : FiOk Try.prog 197 c197 := fiOk_of Try.func197 (by kernel_rfl) (by kernel_rfl)
theorem cok198 : FiOk Try.prog 198 c198 := fiOk_of Try.func198 (by kernel_rfl) (by kernel_rfl)
theorem cok199 : FiOk Try.prog 199 c199 := fiOk_of Try.func199 (by kernel_rfl) (by kernel_rfl)
theorem cok203 : FiOk Try.prog 203 c203 := fiOk_of Try.func203 (by kernel_rfl) (by kernel_rfl)
theorem tget_ok (f : Nat) (i : TI) (h : tget f = some i) : TiOk Try.prog f i :=
  let Q := TiOk Try.prog
  ite_q (ite_q (ite_q (ite_q (ite_q (leaf_q (Q := Q) tok3) (leaf_q (Q := Q) tok4)) (ite_q (leaf_q (Q := Q) tok5) (ite_q (leaf_q (Q := Q) tok9) (leaf_q (Q := Q) tok21)))) (ite_q (ite_q (leaf_q (Q := Q) tok22) (ite_q (leaf_q (Q := Q) tok24) (leaf_q (Q := Q) tok28))) (ite_q (leaf_q (Q := Q) tok34) (ite_q (leaf_q (Q := Q) tok49) (leaf_q (Q := Q) tok50))))) (ite_q (ite_q (ite_q (leaf_q (Q := Q) tok52) (ite_q (leaf_q (Q := Q) tok79) (leaf_q (Q := Q) tok81))) (ite_q (leaf_q (Q := Q) tok82) (ite_q (leaf_q (Q := Q) tok84) (leaf_q (Q := Q) tok86)))) (ite_q (ite_q (leaf_q (Q := Q) tok87) (ite_q (leaf_q (Q := Q) tok93) (leaf_q (Q := Q) tok95))) (ite_q (leaf_q (Q := Q) tok98) (ite_q (leaf_q (Q := Q) tok99) (leaf_q (Q := Q) tok103)))))) (ite_q (ite_q (ite_q (ite_q (leaf_q (Q := Q) tok114) (leaf_q (Q := Q) tok115)) (ite_q (leaf_q (Q := Q) tok117) (ite_q (leaf_q (Q := Q) tok121) (leaf_q (Q := Q) tok123)))) (ite_q (ite_q (leaf_q (Q := Q) tok127) (ite_q (leaf_q (Q := Q) tok128) (leaf_q (Q := Q) tok130))) (ite_q (leaf_q (Q := Q) tok132) (ite_q (leaf_q (Q := Q) tok135) (leaf_q (Q := Q) tok142))))) (ite_q (ite_q (ite_q (leaf_q (Q := Q) tok159) (ite_q (leaf_q (Q := Q) tok160) (leaf_q (Q := Q) tok161))) (ite_q (leaf_q (Q := Q) tok163) (ite_q (leaf_q (Q := Q) tok174) (leaf_q (Q := Q) tok177)))) (ite_q (ite_q (leaf_q (Q := Q) tok180) (ite_q (leaf_q (Q := Q) tok182) (leaf_q (Q := Q) tok184))) (ite_q (leaf_q (Q := Q) tok186) (ite_q (leaf_q (Q := Q) tok189) (leaf_q (Q := Q) tok199)))))) h
theorem cget_ok (f : Nat) (i : FI) (h : cget f = some i) : FiOk Try.prog f i :=
  let Q := FiOk Try.prog
  ite_q (ite_q (ite_q (ite_q (ite_q (ite_q (leaf_q (Q := Q) cok3) (ite_q (leaf_q (Q := Q) cok4) (leaf_q (Q := Q) cok5))) (ite_q (ite_q (leaf_q (Q := Q) cok6) (leaf_q (Q := Q) cok8)) (ite_q (leaf_q (Q := Q) cok9) (leaf_q (Q := Q) cok10)))) (ite_q (ite_q (ite_q (leaf_q (Q := Q) cok11) (leaf_q (Q := Q) cok12)) (ite_q (leaf_q (Q := Q) cok13) (leaf_q (Q := Q) cok14))) (ite_q (ite_q (leaf_q (Q := Q) cok15) (leaf_q (Q := Q) cok16)) (ite_q (leaf_q (Q := Q) cok17) (leaf_q (Q := Q) cok18))))) (ite_q (ite_q (ite_q (leaf_q (Q := Q) cok19) (ite_q (leaf_q (Q := Q) cok20) (leaf_q (Q := Q) cok21))) (ite_q (ite_q (leaf_q (Q := Q) cok22) (leaf_q (Q := Q) cok23)) (ite_q (leaf_q (Q := Q) cok24) (leaf_q (Q := Q) cok25)))) (ite_q (ite_q (ite_q (leaf_q (Q := Q) cok26) (leaf_q (Q := Q) cok27)) (ite_q (leaf_q (Q := Q) cok28) (leaf_q (Q := Q) cok29))) (ite_q (ite_q (leaf_q (Q := Q) cok30) (leaf_q (Q := Q) cok31)) (ite_q (leaf_q (Q := Q) cok32) (leaf_q (Q := Q) cok33)))))) (ite_q (ite_q (ite_q (ite_q (leaf_q (Q := Q) cok41) (ite_q (leaf_q (Q := Q) cok42) (leaf_q (Q := Q) cok43))) (ite_q (ite_q (leaf_q (Q := Q) cok44) (leaf_q (Q := Q) cok45)) (ite_q (leaf_q (Q := Q) cok46) (leaf_q (Q := Q) cok47)))) (ite_q (ite_q (ite_q (leaf_q (Q := Q) cok48) (leaf_q (Q := Q) cok49)) (ite_q (leaf_q (Q := Q) cok50) (leaf_q (Q := Q) cok51))) (ite_q (ite_q (leaf_q (Q := Q) cok52) (leaf_q (Q := Q) cok53)) (ite_q (leaf_q (Q := Q) cok54) (leaf_q (Q := Q) cok55))))) (ite_q (ite_q (ite_q (ite_q (leaf_q (Q := Q) cok56) (leaf_q (Q := Q) cok57)) (ite_q (leaf_q (Q := Q) cok58) (leaf_q (Q := Q) cok59))) (ite_q (ite_q (leaf_q (Q := Q) cok60) (leaf_q (Q := Q) cok61)) (ite_q (leaf_q (Q := Q) cok62) (leaf_q (Q := Q) cok63)))) (ite_q (ite_q (ite_q (leaf_q (Q := Q) cok64) (leaf_q (Q := Q) cok65)) (ite_q (leaf_q (Q := Q) cok66) (leaf_q (Q := Q) cok67))) (ite_q (ite_q (leaf_q (Q := Q) cok68) (leaf_q (Q := Q) cok72)) (ite_q (leaf_q (Q := Q) cok82) (leaf_q (Q := Q) cok83))))))) (ite_q (ite_q (ite_q (ite_q (ite_q (leaf_q (Q := Q) cok84) (ite_q (leaf_q (Q := Q) cok85) (leaf_q (Q := Q) cok86))) (ite_q (ite_q (leaf_q (Q := Q) cok87) (leaf_q (Q := Q) cok88)) (ite_q (leaf_q (Q := Q) cok89) (leaf_q (Q := Q) cok90)))) (ite_q (ite_q (ite_q (leaf_q (Q := Q) cok91) (leaf_q (Q := Q) cok92)) (ite_q (leaf_q (Q := Q) cok93) (leaf_q (Q := Q) cok94))) (ite_q (ite_q (leaf_q (Q := Q) cok95) (leaf_q (Q := Q) cok96)) (ite_q (leaf_q (Q := Q) cok97) (leaf_q (Q := Q) cok98))))) (ite_q (ite_q (ite_q (ite_q (leaf_q (Q := Q) cok99) (leaf_q (Q := Q) cok100)) (ite_q (leaf_q (Q := Q) cok101) (leaf_q (Q := Q) cok102))) (ite_q (ite_q (leaf_q (Q := Q) cok103) (leaf_q (Q := Q) cok104)) (ite_q (leaf_q (Q := Q) cok105) (leaf_q (Q := Q) cok107)))) (ite_q (ite_q (ite_q (leaf_q (Q := Q) cok108) (leaf_q (Q := Q) cok124)) (ite_q (leaf_q (Q := Q) cok125) (leaf_q (Q := Q) cok126))) (ite_q (ite_q (leaf_q (Q := Q) cok127) (leaf_q (Q := Q) cok128)) (ite_q (leaf_q (Q := Q) cok129) (leaf_q (Q := Q) cok130)))))) (ite_q (ite_q (ite_q (ite_q (leaf_q (Q := Q) cok131) (ite_q (leaf_q (Q := Q) cok132) (leaf_q (Q := Q) cok133))) (ite_q (ite_q (leaf_q (Q := Q) cok134) (leaf_q (Q := Q) cok135)) (ite_q (leaf_q (Q := Q) cok136) (leaf_q (Q := Q) cok137)))) (ite_q (ite_q (ite_q (leaf_q (Q := Q) cok150) (leaf_q (Q := Q) cok151)) (ite_q (leaf_q (Q := Q) cok152) (leaf_q (Q := Q) cok153))) (ite_q (ite_q (leaf_q (Q := Q) cok154) (leaf_q (Q := Q) cok155)) (ite_q (leaf_q (Q := Q) cok156) (leaf_q (Q := Q) cok157))))) (ite_q (ite_q (ite_q (ite_q (leaf_q (Q := Q) cok158) (leaf_q (Q := Q) cok177)) (ite_q (leaf_q (Q := Q) cok178) (leaf_q (Q := Q) cok179))) (ite_q (ite_q (leaf_q (Q := Q) cok180) (leaf_q (Q := Q) cok181)) (ite_q (leaf_q (Q := Q) cok182) (leaf_q (Q := Q) cok183)))) (ite_q (ite_q (ite_q (leaf_q (Q := Q) cok184) (leaf_q (Q := Q) cok185)) (ite_q (leaf_q (Q := Q) cok186) (leaf_q (Q := Q) cok187))) (ite_q (ite_q (leaf_q (Q := Q) cok197) (leaf_q (Q := Q) cok198)) (ite_q (leaf_q (Q := Q) cok199) (leaf_q (Q := Q) cok203))))))) h
noncomputable def ctx : Ctx := ⟨tget, cget, fun _ => none, fun _ => none, fun _ => false⟩
theorem mixed : Try.prog.follows .mixedOrders = true := by kernel_rfl
theorem ctx_ok : Ctx.Ok Try.prog ctx where
  ty := fun t i h => (tget_ok t i h).ok
  fn := fun f i h => cget_ok f i h
  same := fun f h v w => by cases h
  noZero := fun f e h n w h0 hle => by cases h
  mixed := mixed
  eqs := fun t h => by cases h
  sum := fun _ _ _ _ _ _ h => by cases h
end Go.PI
