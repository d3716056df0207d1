/- Own work of the verifier: ClCtx. -/
import Derived.Test.YtgmhmahdmbdngaaGreatDoorGvAE
import Derived.Test.YtgmhmahdmbdngaaGreatDoorProg
import Derived.KernelRfl
set_option linter.all false
set_option linter.deprecated false
open Go.Proofs
namespace Go.PI
def pk0 : String := String.ofList [Char.ofNat 102, Char.ofNat 108, Char.ofNat 97, Char.ofNat 116, Char.ofNat 108, Char.ofNat 97, Char.ofNat 110, Char.ofNat 100, Char.ofNat 47, Char.ofNat 102, Char.ofNat 105, Char.ofNat 101, Char.ofNat 108, Char.ofNat 100]
def t2 : TI := { desc := Go.TypeDesc.int (Go.IntKind.i64), size := 1, bytes := 8, zero := .int .i64 (0) }
def t3 : TI := { desc := Go.TypeDesc.int (Go.IntKind.i64), size := 1, bytes := 8, zero := .int .i64 (0) }
def t4 : TI := { desc := Go.TypeDesc.bool, size := 1, bytes := 1, zero := .bool false }
def t5 : TI := { desc := Go.TypeDesc.int (Go.IntKind.u8), size := 1, bytes := 1, zero := .int .u8 (0) }
def t9 : TI := { desc := Go.TypeDesc.string, size := 1, bytes := 16, zero := .str .empty }
def t22 : TI := { desc := Go.TypeDesc.slice 3, size := 1, bytes := 24, zero := .nils }
def t32 : TI := { desc := Go.TypeDesc.int (Go.IntKind.i64), size := 1, bytes := 8, zero := .int .i64 (0) }
def t46 : TI := { desc := Go.TypeDesc.struct #[{ name := "Poly", type := 22, offset := 0, embedded := false, tag := "", pkgPath := "", byteOffset := 0 }, { name := "Lo", type := 3, offset := 1, embedded := false, tag := "", pkgPath := "", byteOffset := 24 }, { name := "Hi", type := 3, offset := 2, embedded := false, tag := "", pkgPath := "", byteOffset := 32 }, { name := "Den", type := 3, offset := 3, embedded := false, tag := "", pkgPath := "", byteOffset := 40 }], size := 4, bytes := 48, zero := .agg [.nils, .int .i64 (0), .int .i64 (0), .int .i64 (0)] }
def t48 : TI := { desc := Go.TypeDesc.pointer 147, size := 1, bytes := 8, zero := .nilp }
def t59 : TI := { desc := Go.TypeDesc.slice 22, size := 1, bytes := 24, zero := .nils }
def t61 : TI := { desc := Go.TypeDesc.struct #[{ name := "C", type := 59, offset := 0, embedded := false, tag := "", pkgPath := "", byteOffset := 0 }, { name := "D", type := 22, offset := 1, embedded := false, tag := "", pkgPath := "", byteOffset := 24 }], size := 2, bytes := 48, zero := .agg [.nils, .nils] }
def t116 : TI := { desc := Go.TypeDesc.func #[3] #[4] false, size := 1, bytes := 8, zero := .nilf }
def t129 : TI := { desc := Go.TypeDesc.pointer 132, size := 1, bytes := 8, zero := .nilp }
def t130 : TI := { desc := Go.TypeDesc.slice 5, size := 1, bytes := 24, zero := .nils }
def t132 : TI := { desc := Go.TypeDesc.struct #[{ name := "addr", type := 129, offset := 0, embedded := false, tag := "", pkgPath := "strings", byteOffset := 0 }, { name := "buf", type := 130, offset := 1, embedded := false, tag := "", pkgPath := "strings", byteOffset := 8 }], size := 2, bytes := 32, zero := .agg [.nilp, .nils] }
def t142 : TI := { desc := Go.TypeDesc.struct #[{ name := "lo", type := 22, offset := 0, embedded := false, tag := "", pkgPath := pk0, byteOffset := 0 }, { name := "width", type := 22, offset := 1, embedded := false, tag := "", pkgPath := pk0, byteOffset := 24 }, { name := "den", type := 22, offset := 2, embedded := false, tag := "", pkgPath := pk0, byteOffset := 48 }, { name := "halvings", type := 3, offset := 3, embedded := false, tag := "", pkgPath := pk0, byteOffset := 72 }], size := 4, bytes := 80, zero := .agg [.nils, .nils, .nils, .int .i64 (0)] }
def t143 : TI := { desc := Go.TypeDesc.array 4 22, size := 4, bytes := 96, zero := .agg [.nils, .nils, .nils, .nils] }
def t145 : TI := { desc := Go.TypeDesc.struct #[{ name := "low", type := 143, offset := 0, embedded := false, tag := "", pkgPath := pk0, byteOffset := 0 }, { name := "high", type := 143, offset := 4, embedded := false, tag := "", pkgPath := pk0, byteOffset := 96 }, { name := "scale", type := 22, offset := 8, embedded := false, tag := "", pkgPath := pk0, byteOffset := 192 }], size := 9, bytes := 216, zero := .agg [.nils, .nils, .nils, .nils, .nils, .nils, .nils, .nils, .nils] }
def t147 : TI := { desc := Go.TypeDesc.struct #[{ name := "field", type := 46, offset := 0, embedded := false, tag := "", pkgPath := pk0, byteOffset := 0 }, { name := "degree", type := 3, offset := 4, embedded := false, tag := "", pkgPath := pk0, byteOffset := 48 }, { name := "poly", type := 59, offset := 5, embedded := false, tag := "", pkgPath := pk0, byteOffset := 56 }, { name := "start", type := 142, offset := 6, embedded := false, tag := "", pkgPath := pk0, byteOffset := 80 }, { name := "near", type := 145, offset := 10, embedded := false, tag := "", pkgPath := pk0, byteOffset := 160 }], size := 19, bytes := 376, zero := .agg [.nils, .int .i64 (0), .int .i64 (0), .int .i64 (0), .int .i64 (0), .nils, .nils, .nils, .nils, .int .i64 (0), .nils, .nils, .nils, .nils, .nils, .nils, .nils, .nils, .nils] }
def t159 : TI := { desc := Go.TypeDesc.struct #[{ name := "c", type := 143, offset := 0, embedded := false, tag := "", pkgPath := pk0, byteOffset := 0 }, { name := "d", type := 22, offset := 4, embedded := false, tag := "", pkgPath := pk0, byteOffset := 96 }], size := 5, bytes := 120, zero := .agg [.nils, .nils, .nils, .nils, .nils] }
def t176 : TI := { desc := Go.TypeDesc.slice 59, size := 1, bytes := 24, zero := .nils }
def t183 : TI := { desc := Go.TypeDesc.slice 9, size := 1, bytes := 24, zero := .nils }
def t200 : TI := { desc := Go.TypeDesc.pointer 5, size := 1, bytes := 8, zero := .nilp }
def t215 : TI := { desc := Go.TypeDesc.array 7 22, size := 7, bytes := 168, zero := .agg [.nils, .nils, .nils, .nils, .nils, .nils, .nils] }
def t222 : TI := { desc := Go.TypeDesc.func #[145] #[4] false, size := 1, bytes := 8, zero := .nilf }
def t231 : TI := { desc := Go.TypeDesc.unsafePointer, size := 1, bytes := 8, zero := .nilp }
def t240 : TI := { desc := Go.TypeDesc.int (Go.IntKind.u64), size := 1, bytes := 8, zero := .int .u64 (0) }
def t251 : TI := { desc := Go.TypeDesc.array 24 5, size := 24, bytes := 24, zero := .agg [.int .u8 (0), .int .u8 (0), .int .u8 (0), .int .u8 (0), .int .u8 (0), .int .u8 (0), .int .u8 (0), .int .u8 (0), .int .u8 (0), .int .u8 (0), .int .u8 (0), .int .u8 (0), .int .u8 (0), .int .u8 (0), .int .u8 (0), .int .u8 (0), .int .u8 (0), .int .u8 (0), .int .u8 (0), .int .u8 (0), .int .u8 (0), .int .u8 (0), .int .u8 (0), .int .u8 (0)] }
def t252 : TI := { desc := Go.TypeDesc.int (Go.IntKind.u64), size := 1, bytes := 8, zero := .int .u64 (0) }
def t268 : TI := { desc := Go.TypeDesc.array 20 252, size := 20, bytes := 160, zero := .agg [.int .u64 (0), .int .u64 (0), .int .u64 (0), .int .u64 (0), .int .u64 (0), .int .u64 (0), .int .u64 (0), .int .u64 (0), .int .u64 (0), .int .u64 (0), .int .u64 (0), .int .u64 (0), .int .u64 (0), .int .u64 (0), .int .u64 (0), .int .u64 (0), .int .u64 (0), .int .u64 (0), .int .u64 (0), .int .u64 (0)] }
def t269 : TI := { desc := Go.TypeDesc.int (Go.IntKind.u32), size := 1, bytes := 4, zero := .int .u32 (0) }
def t270 : TI := { desc := Go.TypeDesc.array 65 5, size := 65, bytes := 65, zero := .agg [.int .u8 (0), .int .u8 (0), .int .u8 (0), .int .u8 (0), .int .u8 (0), .int .u8 (0), .int .u8 (0), .int .u8 (0), .int .u8 (0), .int .u8 (0), .int .u8 (0), .int .u8 (0), .int .u8 (0), .int .u8 (0), .int .u8 (0), .int .u8 (0), .int .u8 (0), .int .u8 (0), .int .u8 (0), .int .u8 (0), .int .u8 (0), .int .u8 (0), .int .u8 (0), .int .u8 (0), .int .u8 (0), .int .u8 (0), .int .u8 (0), .int .u8 (0), .int .u8 (0), .int .u8 (0), .int .u8 (0), .int .u8 (0), .int .u8 (0), .int .u8 (0), .int .u8 (0), .int .u8 (0), .int .u8 (0), .int .u8 (0), .int .u8 (0), .int .u8 (0), .int .u8 (0), .int .u8 (0), .int .u8 (0), .int .u8 (0), .int .u8 (0), .int .u8 (0), .int .u8 (0), .int .u8 (0), .int .u8 (0), .int .u8 (0), .int .u8 (0), .int .u8 (0), .int .u8 (0), .int .u8 (0), .int .u8 (0), .int .u8 (0), .int .u8 (0), .int .u8 (0), .int .u8 (0), .int .u8 (0), .int .u8 (0), .int .u8 (0), .int .u8 (0), .int .u8 (0), .int .u8 (0)] }
def t283 : TI := { desc := Go.TypeDesc.array 32 5, size := 32, bytes := 32, zero := .agg [.int .u8 (0), .int .u8 (0), .int .u8 (0), .int .u8 (0), .int .u8 (0), .int .u8 (0), .int .u8 (0), .int .u8 (0), .int .u8 (0), .int .u8 (0), .int .u8 (0), .int .u8 (0), .int .u8 (0), .int .u8 (0), .int .u8 (0), .int .u8 (0), .int .u8 (0), .int .u8 (0), .int .u8 (0), .int .u8 (0), .int .u8 (0), .int .u8 (0), .int .u8 (0), .int .u8 (0), .int .u8 (0), .int .u8 (0), .int .u8 (0), .int .u8 (0), .int .u8 (0), .int .u8 (0), .int .u8 (0), .int .u8 (0)] }
def t284 : TI := { desc := Go.TypeDesc.array 64 5, size := 64, bytes := 64, zero := .agg [.int .u8 (0), .int .u8 (0), .int .u8 (0), .int .u8 (0), .int .u8 (0), .int .u8 (0), .int .u8 (0), .int .u8 (0), .int .u8 (0), .int .u8 (0), .int .u8 (0), .int .u8 (0), .int .u8 (0), .int .u8 (0), .int .u8 (0), .int .u8 (0), .int .u8 (0), .int .u8 (0), .int .u8 (0), .int .u8 (0), .int .u8 (0), .int .u8 (0), .int .u8 (0), .int .u8 (0), .int .u8 (0), .int .u8 (0), .int .u8 (0), .int .u8 (0), .int .u8 (0), .int .u8 (0), .int .u8 (0), .int .u8 (0), .int .u8 (0), .int .u8 (0), .int .u8 (0), .int .u8 (0), .int .u8 (0), .int .u8 (0), .int .u8 (0), .int .u8 (0), .int .u8 (0), .int .u8 (0), .int .u8 (0), .int .u8 (0), .int .u8 (0), .int .u8 (0), .int .u8 (0), .int .u8 (0), .int .u8 (0), .int .u8 (0), .int .u8 (0), .int .u8 (0), .int .u8 (0), .int .u8 (0), .int .u8 (0), .int .u8 (0), .int .u8 (0), .int .u8 (0), .int .u8 (0), .int .u8 (0), .int .u8 (0), .int .u8 (0), .int .u8 (0), .int .u8 (0)] }
def tget (f : Nat) : Option TI :=
  if f < 145 then
   if f < 48 then
    if f < 9 then
     if f < 4 then
      if f < 3 then
       if f = 2 then some t2 else none
      else
       if f = 3 then some t3 else none
     else
      if f < 5 then
       if f = 4 then some t4 else none
      else
       if f = 5 then some t5 else none
    else
     if f < 32 then
      if f < 22 then
       if f = 9 then some t9 else none
      else
       if f = 22 then some t22 else none
     else
      if f < 46 then
       if f = 32 then some t32 else none
      else
       if f = 46 then some t46 else none
   else
    if f < 129 then
     if f < 61 then
      if f < 59 then
       if f = 48 then some t48 else none
      else
       if f = 59 then some t59 else none
     else
      if f < 116 then
       if f = 61 then some t61 else none
      else
       if f = 116 then some t116 else none
    else
     if f < 132 then
      if f < 130 then
       if f = 129 then some t129 else none
      else
       if f = 130 then some t130 else none
     else
      if f < 142 then
       if f = 132 then some t132 else none
      else
       if f < 143 then
        if f = 142 then some t142 else none
       else
        if f = 143 then some t143 else none
  else
   if f < 231 then
    if f < 183 then
     if f < 159 then
      if f < 147 then
       if f = 145 then some t145 else none
      else
       if f = 147 then some t147 else none
     else
      if f < 176 then
       if f = 159 then some t159 else none
      else
       if f = 176 then some t176 else none
    else
     if f < 215 then
      if f < 200 then
       if f = 183 then some t183 else none
      else
       if f = 200 then some t200 else none
     else
      if f < 222 then
       if f = 215 then some t215 else none
      else
       if f = 222 then some t222 else none
   else
    if f < 268 then
     if f < 251 then
      if f < 240 then
       if f = 231 then some t231 else none
      else
       if f = 240 then some t240 else none
     else
      if f < 252 then
       if f = 251 then some t251 else none
      else
       if f = 252 then some t252 else none
    else
     if f < 270 then
      if f < 269 then
       if f = 268 then some t268 else none
      else
       if f = 269 then some t269 else none
     else
      if f < 283 then
       if f = 270 then some t270 else none
      else
       if f < 284 then
        if f = 283 then some t283 else none
       else
        if f = 284 then some t284 else none
noncomputable def c7 : FI := fiOf Tryz.f7
noncomputable def c20 : FI := fiOf Tryz.f20
noncomputable def c23 : FI := fiOf Tryz.f23
noncomputable def c25 : FI := fiOf Tryz.f25
noncomputable def c26 : FI := fiOf Tryz.f26
noncomputable def c28 : FI := fiOf Tryz.f28
noncomputable def c30 : FI := fiOf Tryz.f30
noncomputable def c32 : FI := fiOf Tryz.f32
noncomputable def c36 : FI := fiOf Tryz.f36
noncomputable def c37 : FI := fiOf Tryz.f37
noncomputable def c38 : FI := fiOf Tryz.f38
noncomputable def c41 : FI := fiOf Tryz.f41
noncomputable def c44 : FI := fiOf Tryz.f44
noncomputable def c45 : FI := fiOf Tryz.f45
noncomputable def c46 : FI := fiOf Tryz.f46
noncomputable def c48 : FI := fiOf Tryz.f48
noncomputable def c49 : FI := fiOf Tryz.f49
noncomputable def c50 : FI := fiOf Tryz.f50
noncomputable def c51 : FI := fiOf Tryz.f51
noncomputable def c52 : FI := fiOf Tryz.f52
noncomputable def c53 : FI := fiOf Tryz.f53
noncomputable def c54 : FI := fiOf Tryz.f54
noncomputable def c55 : FI := fiOf Tryz.f55
noncomputable def c56 : FI := fiOf Tryz.f56
noncomputable def c57 : FI := fiOf Tryz.f57
noncomputable def c58 : FI := fiOf Tryz.f58
noncomputable def c62 : FI := fiOf Tryz.f62
noncomputable def c64 : FI := fiOf Tryz.f64
noncomputable def c66 : FI := fiOf Tryz.f66
noncomputable def c68 : FI := fiOf Tryz.f68
noncomputable def c70 : FI := fiOf Tryz.f70
noncomputable def c74 : FI := fiOf Tryz.f74
noncomputable def c78 : FI := fiOf Tryz.f78
noncomputable def c104 : FI := fiOf Tryz.f104
noncomputable def c106 : FI := fiOf Tryz.f106
noncomputable def c107 : FI := fiOf Tryz.f107
noncomputable def c108 : FI := fiOf Tryz.f108
noncomputable def c109 : FI := fiOf Tryz.f109
noncomputable def c110 : FI := fiOf Tryz.f110
noncomputable def c111 : FI := fiOf Tryz.f111
noncomputable def c112 : FI := fiOf Tryz.f112
noncomputable def c113 : FI := fiOf Tryz.f113
noncomputable def c114 : FI := fiOf Tryz.f114
noncomputable def c115 : FI := fiOf Tryz.f115
noncomputable def c116 : FI := fiOf Tryz.f116
noncomputable def c117 : FI := fiOf Tryz.f117
noncomputable def c118 : FI := fiOf Tryz.f118
noncomputable def c119 : FI := fiOf Tryz.f119
noncomputable def c120 : FI := fiOf Tryz.f120
noncomputable def c121 : FI := fiOf Tryz.f121
noncomputable def c122 : FI := fiOf Tryz.f122
noncomputable def c125 : FI := fiOf Tryz.f125
noncomputable def c126 : FI := fiOf Tryz.f126
noncomputable def c127 : FI := fiOf Tryz.f127
noncomputable def c128 : FI := fiOf Tryz.f128
noncomputable def c129 : FI := fiOf Tryz.f129
noncomputable def c130 : FI := fiOf Tryz.f130
noncomputable def c131 : FI := fiOf Tryz.f131
noncomputable def c134 : FI := fiOf Tryz.f134
noncomputable def c135 : FI := fiOf Tryz.f135
noncomputable def c136 : FI := fiOf Tryz.f136
noncomputable def c137 : FI := fiOf Tryz.f137
noncomputable def c138 : FI := fiOf Tryz.f138
noncomputable def c139 : FI := fiOf Tryz.f139
noncomputable def c140 : FI := fiOf Tryz.f140
noncomputable def c141 : FI := fiOf Tryz.f141
noncomputable def c142 : FI := fiOf Tryz.f142
noncomputable def c143 : FI := fiOf Tryz.f143
noncomputable def c144 : FI := fiOf Tryz.f144
noncomputable def c147 : FI := fiOf Tryz.f147
noncomputable def c148 : FI := fiOf Tryz.f148
noncomputable def c149 : FI := fiOf Tryz.f149
noncomputable def c150 : FI := fiOf Tryz.f150
noncomputable def c151 : FI := fiOf Tryz.f151
noncomputable def c155 : FI := fiOf Tryz.f155
noncomputable def c157 : FI := fiOf Tryz.f157
noncomputable def c159 : FI := fiOf Tryz.f159
noncomputable def c160 : FI := fiOf Tryz.f160
noncomputable def c162 : FI := fiOf Tryz.f162
noncomputable def c165 : FI := fiOf Tryz.f165
noncomputable def c166 : FI := fiOf Tryz.f166
noncomputable def c178 : FI := fiOf Tryz.f178
noncomputable def c179 : FI := fiOf Tryz.f179
noncomputable def c180 : FI := fiOf Tryz.f180
noncomputable def c181 : FI := fiOf Tryz.f181
noncomputable def c182 : FI := fiOf Tryz.f182
noncomputable def c183 : FI := fiOf Tryz.f183
noncomputable def c184 : FI := fiOf Tryz.f184
noncomputable def c185 : FI := fiOf Tryz.f185
noncomputable def c186 : FI := fiOf Tryz.f186
noncomputable def c187 : FI := fiOf Tryz.f187
noncomputable def c188 : FI := fiOf Tryz.f188
noncomputable def c189 : FI := fiOf Tryz.f189
noncomputable def c190 : FI := fiOf Tryz.f190
noncomputable def c193 : FI := fiOf Tryz.f193
noncomputable def c194 : FI := fiOf Tryz.f194
noncomputable def c198 : FI := fiOf Tryz.f198
noncomputable def c199 : FI := fiOf Tryz.f199
noncomputable def c200 : FI := fiOf Tryz.f200
noncomputable def c201 : FI := fiOf Tryz.f201
noncomputable def c202 : FI := fiOf Tryz.f202
noncomputable def c203 : FI := fiOf Tryz.f203
noncomputable def c204 : FI := fiOf Tryz.f204
noncomputable def c205 : FI := fiOf Tryz.f205
noncomputable def c206 : FI := fiOf Tryz.f206
noncomputable def c207 : FI := fiOf Tryz.f207
noncomputable def c208 : FI := fiOf Tryz.f208
noncomputable def c209 : FI := fiOf Tryz.f209
noncomputable def c210 : FI := fiOf Tryz.f210
noncomputable def c211 : FI := fiOf Tryz.f211
noncomputable def c212 : FI := fiOf Tryz.f212
noncomputable def c214 : FI := fiOf Tryz.f214
noncomputable def c215 : FI := fiOf Tryz.f215
noncomputable def c216 : FI := fiOf Tryz.f216
noncomputable def c217 : FI := fiOf Tryz.f217
noncomputable def c218 : FI := fiOf Tryz.f218
noncomputable def c219 : FI := fiOf Tryz.f219
noncomputable def c226 : FI := fiOf Tryz.f226
noncomputable def c227 : FI := fiOf Tryz.f227
noncomputable def c228 : FI := fiOf Tryz.f228
noncomputable def c229 : FI := fiOf Tryz.f229
noncomputable def c230 : FI := fiOf Tryz.f230
noncomputable def c231 : FI := fiOf Tryz.f231
noncomputable def c232 : FI := fiOf Tryz.f232
noncomputable def c235 : FI := fiOf Tryz.f235
noncomputable def c237 : FI := fiOf Tryz.f237
noncomputable def c238 : FI := fiOf Tryz.f238
noncomputable def c239 : FI := fiOf Tryz.f239
noncomputable def c240 : FI := fiOf Tryz.f240
noncomputable def c241 : FI := fiOf Tryz.f241
noncomputable def c242 : FI := fiOf Tryz.f242
noncomputable def c252 : FI := fiOf Tryz.f252
noncomputable def c253 : FI := fiOf Tryz.f253
noncomputable def c255 : FI := fiOf Tryz.f255
noncomputable def c256 : FI := fiOf Tryz.f256
noncomputable def c257 : FI := fiOf Tryz.f257
noncomputable def c258 : FI := fiOf Tryz.f258
noncomputable def c270 : FI := fiOf Tryz.f270
noncomputable def c271 : FI := fiOf Tryz.f271
noncomputable def c272 : FI := fiOf Tryz.f272
noncomputable def c273 : FI := fiOf Tryz.f273
noncomputable def c274 : FI := fiOf Tryz.f274
noncomputable def c280 : FI := fiOf Tryz.f280
noncomputable def c281 : FI := fiOf Tryz.f281
noncomputable def cget (f : Nat) : Option FI :=
  if f < 150 then
   if f < 108 then
    if f < 51 then
     if f < 37 then
      if f < 26 then
       if f < 23 then
        if f < 20 then
         if f = 7 then some c7 else none
        else
         if f = 20 then some c20 else none
       else
        if f < 25 then
         if f = 23 then some c23 else none
        else
         if f = 25 then some c25 else none
      else
       if f < 30 then
        if f < 28 then
         if f = 26 then some c26 else none
        else
         if f = 28 then some c28 else none
       else
        if f < 32 then
         if f = 30 then some c30 else none
        else
         if f < 36 then
          if f = 32 then some c32 else none
         else
          if f = 36 then some c36 else none
     else
      if f < 45 then
       if f < 41 then
        if f < 38 then
         if f = 37 then some c37 else none
        else
         if f = 38 then some c38 else none
       else
        if f < 44 then
         if f = 41 then some c41 else none
        else
         if f = 44 then some c44 else none
      else
       if f < 48 then
        if f < 46 then
         if f = 45 then some c45 else none
        else
         if f = 46 then some c46 else none
       else
        if f < 49 then
         if f = 48 then some c48 else none
        else
         if f < 50 then
          if f = 49 then some c49 else none
         else
          if f = 50 then some c50 else none
    else
     if f < 64 then
      if f < 55 then
       if f < 53 then
        if f < 52 then
         if f = 51 then some c51 else none
        else
         if f = 52 then some c52 else none
       else
        if f < 54 then
         if f = 53 then some c53 else none
        else
         if f = 54 then some c54 else none
      else
       if f < 57 then
        if f < 56 then
         if f = 55 then some c55 else none
        else
         if f = 56 then some c56 else none
       else
        if f < 58 then
         if f = 57 then some c57 else none
        else
         if f < 62 then
          if f = 58 then some c58 else none
         else
          if f = 62 then some c62 else none
     else
      if f < 74 then
       if f < 68 then
        if f < 66 then
         if f = 64 then some c64 else none
        else
         if f = 66 then some c66 else none
       else
        if f < 70 then
         if f = 68 then some c68 else none
        else
         if f = 70 then some c70 else none
      else
       if f < 104 then
        if f < 78 then
         if f = 74 then some c74 else none
        else
         if f = 78 then some c78 else none
       else
        if f < 106 then
         if f = 104 then some c104 else none
        else
         if f < 107 then
          if f = 106 then some c106 else none
         else
          if f = 107 then some c107 else none
   else
    if f < 128 then
     if f < 117 then
      if f < 112 then
       if f < 110 then
        if f < 109 then
         if f = 108 then some c108 else none
        else
         if f = 109 then some c109 else none
       else
        if f < 111 then
         if f = 110 then some c110 else none
        else
         if f = 111 then some c111 else none
      else
       if f < 114 then
        if f < 113 then
         if f = 112 then some c112 else none
        else
         if f = 113 then some c113 else none
       else
        if f < 115 then
         if f = 114 then some c114 else none
        else
         if f < 116 then
          if f = 115 then some c115 else none
         else
          if f = 116 then some c116 else none
     else
      if f < 121 then
       if f < 119 then
        if f < 118 then
         if f = 117 then some c117 else none
        else
         if f = 118 then some c118 else none
       else
        if f < 120 then
         if f = 119 then some c119 else none
        else
         if f = 120 then some c120 else none
      else
       if f < 125 then
        if f < 122 then
         if f = 121 then some c121 else none
        else
         if f = 122 then some c122 else none
       else
        if f < 126 then
         if f = 125 then some c125 else none
        else
         if f < 127 then
          if f = 126 then some c126 else none
         else
          if f = 127 then some c127 else none
    else
     if f < 139 then
      if f < 134 then
       if f < 130 then
        if f < 129 then
         if f = 128 then some c128 else none
        else
         if f = 129 then some c129 else none
       else
        if f < 131 then
         if f = 130 then some c130 else none
        else
         if f = 131 then some c131 else none
      else
       if f < 136 then
        if f < 135 then
         if f = 134 then some c134 else none
        else
         if f = 135 then some c135 else none
       else
        if f < 137 then
         if f = 136 then some c136 else none
        else
         if f < 138 then
          if f = 137 then some c137 else none
         else
          if f = 138 then some c138 else none
     else
      if f < 143 then
       if f < 141 then
        if f < 140 then
         if f = 139 then some c139 else none
        else
         if f = 140 then some c140 else none
       else
        if f < 142 then
         if f = 141 then some c141 else none
        else
         if f = 142 then some c142 else none
      else
       if f < 147 then
        if f < 144 then
         if f = 143 then some c143 else none
        else
         if f = 144 then some c144 else none
       else
        if f < 148 then
         if f = 147 then some c147 else none
        else
         if f < 149 then
          if f = 148 then some c148 else none
         else
          if f = 149 then some c149 else none
  else
   if f < 210 then
    if f < 187 then
     if f < 178 then
      if f < 159 then
       if f < 155 then
        if f < 151 then
         if f = 150 then some c150 else none
        else
         if f = 151 then some c151 else none
       else
        if f < 157 then
         if f = 155 then some c155 else none
        else
         if f = 157 then some c157 else none
      else
       if f < 162 then
        if f < 160 then
         if f = 159 then some c159 else none
        else
         if f = 160 then some c160 else none
       else
        if f < 165 then
         if f = 162 then some c162 else none
        else
         if f < 166 then
          if f = 165 then some c165 else none
         else
          if f = 166 then some c166 else none
     else
      if f < 182 then
       if f < 180 then
        if f < 179 then
         if f = 178 then some c178 else none
        else
         if f = 179 then some c179 else none
       else
        if f < 181 then
         if f = 180 then some c180 else none
        else
         if f = 181 then some c181 else none
      else
       if f < 184 then
        if f < 183 then
         if f = 182 then some c182 else none
        else
         if f = 183 then some c183 else none
       else
        if f < 185 then
         if f = 184 then some c184 else none
        else
         if f < 186 then
          if f = 185 then some c185 else none
         else
          if f = 186 then some c186 else none
    else
     if f < 201 then
      if f < 193 then
       if f < 189 then
        if f < 188 then
         if f = 187 then some c187 else none
        else
         if f = 188 then some c188 else none
       else
        if f < 190 then
         if f = 189 then some c189 else none
        else
         if f = 190 then some c190 else none
      else
       if f < 198 then
        if f < 194 then
         if f = 193 then some c193 else none
        else
         if f = 194 then some c194 else none
       else
        if f < 199 then
         if f = 198 then some c198 else none
        else
         if f < 200 then
          if f = 199 then some c199 else none
         else
          if f = 200 then some c200 else none
     else
      if f < 205 then
       if f < 203 then
        if f < 202 then
         if f = 201 then some c201 else none
        else
         if f = 202 then some c202 else none
       else
        if f < 204 then
         if f = 203 then some c203 else none
        else
         if f = 204 then some c204 else none
      else
       if f < 207 then
        if f < 206 then
         if f = 205 then some c205 else none
        else
         if f = 206 then some c206 else none
       else
        if f < 208 then
         if f = 207 then some c207 else none
        else
         if f < 209 then
          if f = 208 then some c208 else none
         else
          if f = 209 then some c209 else none
   else
    if f < 238 then
     if f < 226 then
      if f < 215 then
       if f < 212 then
        if f < 211 then
         if f = 210 then some c210 else none
        else
         if f = 211 then some c211 else none
       else
        if f < 214 then
         if f = 212 then some c212 else none
        else
         if f = 214 then some c214 else none
      else
       if f < 217 then
        if f < 216 then
         if f = 215 then some c215 else none
        else
         if f = 216 then some c216 else none
       else
        if f < 218 then
         if f = 217 then some c217 else none
        else
         if f < 219 then
          if f = 218 then some c218 else none
         else
          if f = 219 then some c219 else none
     else
      if f < 230 then
       if f < 228 then
        if f < 227 then
         if f = 226 then some c226 else none
        else
         if f = 227 then some c227 else none
       else
        if f < 229 then
         if f = 228 then some c228 else none
        else
         if f = 229 then some c229 else none
      else
       if f < 232 then
        if f < 231 then
         if f = 230 then some c230 else none
        else
         if f = 231 then some c231 else none
       else
        if f < 235 then
         if f = 232 then some c232 else none
        else
         if f < 237 then
          if f = 235 then some c235 else none
         else
          if f = 237 then some c237 else none
    else
     if f < 257 then
      if f < 242 then
       if f < 240 then
        if f < 239 then
         if f = 238 then some c238 else none
        else
         if f = 239 then some c239 else none
       else
        if f < 241 then
         if f = 240 then some c240 else none
        else
         if f = 241 then some c241 else none
      else
       if f < 253 then
        if f < 252 then
         if f = 242 then some c242 else none
        else
         if f = 252 then some c252 else none
       else
        if f < 255 then
         if f = 253 then some c253 else none
        else
         if f < 256 then
          if f = 255 then some c255 else none
         else
          if f = 256 then some c256 else none
     else
      if f < 272 then
       if f < 270 then
        if f < 258 then
         if f = 257 then some c257 else none
        else
         if f = 258 then some c258 else none
       else
        if f < 271 then
         if f = 270 then some c270 else none
        else
         if f = 271 then some c271 else none
      else
       if f < 274 then
        if f < 273 then
         if f = 272 then some c272 else none
        else
         if f = 273 then some c273 else none
       else
        if f < 280 then
         if f = 274 then some c274 else none
        else
         if f < 281 then
          if f = 280 then some c280 else none
         else
          if f = 281 then some c281 else none
theorem tok2 : TiOk Tryz.prog 2 t2 := ⟨by kernel_rfl, by kernel_rfl, by kernel_rfl⟩
theorem tok3 : TiOk Tryz.prog 3 t3 := ⟨by kernel_rfl, by kernel_rfl, by kernel_rfl⟩
theorem tok4 : TiOk Tryz.prog 4 t4 := ⟨by kernel_rfl, by kernel_rfl, by kernel_rfl⟩
theorem tok5 : TiOk Tryz.prog 5 t5 := ⟨by kernel_rfl, by kernel_rfl, by kernel_rfl⟩
theorem tok9 : TiOk Tryz.prog 9 t9 := ⟨by kernel_rfl, by kernel_rfl, by kernel_rfl⟩
theorem tok22 : TiOk Tryz.prog 22 t22 := ⟨by kernel_rfl, by kernel_rfl, by kernel_rfl⟩
theorem tok32 : TiOk Tryz.prog 32 t32 := ⟨by kernel_rfl, by kernel_rfl, by kernel_rfl⟩
theorem tok46 : TiOk Tryz.prog 46 t46 := ⟨by kernel_rfl, by kernel_rfl, by kernel_rfl⟩
theorem tok48 : TiOk Tryz.prog 48 t48 := ⟨by kernel_rfl, by kernel_rfl, by kernel_rfl⟩
theorem tok59 : TiOk Tryz.prog 59 t59 := ⟨by kernel_rfl, by kernel_rfl, by kernel_rfl⟩
theorem tok61 : TiOk Tryz.prog 61 t61 := ⟨by kernel_rfl, by kernel_rfl, by kernel_rfl⟩
theorem tok116 : TiOk Tryz.prog 116 t116 := ⟨by kernel_rfl, by kernel_rfl, by kernel_rfl⟩
theorem tok129 : TiOk Tryz.prog 129 t129 := ⟨by kernel_rfl, by kernel_rfl, by kernel_rfl⟩
theorem tok130 : TiOk Tryz.prog 130 t130 := ⟨by kernel_rfl, by kernel_rfl, by kernel_rfl⟩
theorem tok132 : TiOk Tryz.prog 132 t132 := ⟨by kernel_rfl, by kernel_rfl, by kernel_rfl⟩
theorem tok142 : TiOk Tryz.prog 142 t142 := ⟨by kernel_rfl, by kernel_rfl, by kernel_rfl⟩
theorem tok143 : TiOk Tryz.prog 143 t143 := ⟨by kernel_rfl, by kernel_rfl, by kernel_rfl⟩
theorem tok145 : TiOk Tryz.prog 145 t145 := ⟨by kernel_rfl, by kernel_rfl, by kernel_rfl⟩
theorem tok147 : TiOk Tryz.prog 147 t147 := ⟨by kernel_rfl, by kernel_rfl, by kernel_rfl⟩
theorem tok159 : TiOk Tryz.prog 159 t159 := ⟨by kernel_rfl, by kernel_rfl, by kernel_rfl⟩
theorem tok176 : TiOk Tryz.prog 176 t176 := ⟨by kernel_rfl, by kernel_rfl, by kernel_rfl⟩
theorem tok183 : TiOk Tryz.prog 183 t183 := ⟨by kernel_rfl, by kernel_rfl, by kernel_rfl⟩
theorem tok200 : TiOk Tryz.prog 200 t200 := ⟨by kernel_rfl, by kernel_rfl, by kernel_rfl⟩
theorem tok215 : TiOk Tryz.prog 215 t215 := ⟨by kernel_rfl, by kernel_rfl, by kernel_rfl⟩
theorem tok222 : TiOk Tryz.prog 222 t222 := ⟨by kernel_rfl, by kernel_rfl, by kernel_rfl⟩
theorem tok231 : TiOk Tryz.prog 231 t231 := ⟨by kernel_rfl, by kernel_rfl, by kernel_rfl⟩
theorem tok240 : TiOk Tryz.prog 240 t240 := ⟨by kernel_rfl, by kernel_rfl, by kernel_rfl⟩
theorem tok251 : TiOk Tryz.prog 251 t251 := ⟨by kernel_rfl, by kernel_rfl, by kernel_rfl⟩
theorem tok252 : TiOk Tryz.prog 252 t252 := ⟨by kernel_rfl, by kernel_rfl, by kernel_rfl⟩
theorem tok268 : TiOk Tryz.prog 268 t268 := ⟨by kernel_rfl, by kernel_rfl, by kernel_rfl⟩
theorem tok269 : TiOk Tryz.prog 269 t269 := ⟨by kernel_rfl, by kernel_rfl, by kernel_rfl⟩
theorem tok270 : TiOk Tryz.prog 270 t270 := ⟨by kernel_rfl, by kernel_rfl, by kernel_rfl⟩
theorem tok283 : TiOk Tryz.prog 283 t283 := ⟨by kernel_rfl, by kernel_rfl, by kernel_rfl⟩
theorem tok284 : TiOk Tryz.prog 284 t284 := ⟨by kernel_rfl, by kernel_rfl, by kernel_rfl⟩
theorem cok7 : FiOk Tryz.prog 7 c7 := fiOk_of Tryz.func7 (by kernel_rfl) (by kernel_rfl)
theorem cok20 : FiOk Tryz.prog 20 c20 := fiOk_of Tryz.func20 (by kernel_rfl) (by kernel_rfl)
theorem cok23 : FiOk Tryz.prog 23 c23 := fiOk_of Tryz.func23 (by kernel_rfl) (by kernel_rfl)
theorem cok25 : FiOk Tryz.prog 25 c25 := fiOk_of Tryz.func25 (by kernel_rfl) (by kernel_rfl)
theorem cok26 : FiOk Tryz.prog 26 c26 := fiOk_of Tryz.func26 (by kernel_rfl) (by kernel_rfl)
theorem cok28 : FiOk Tryz.prog 28 c28 := fiOk_of Tryz.func28 (by kernel_rfl) (by kernel_rfl)
theorem cok30 : FiOk Tryz.prog 30 c30 := fiOk_of Tryz.func30 (by kernel_rfl) (by kernel_rfl)
theorem cok32 : FiOk Tryz.prog 32 c32 := fiOk_of Tryz.func32 (by kernel_rfl) (by kernel_rfl)
theorem cok36 : FiOk Tryz.prog 36 c36 := fiOk_of Tryz.func36 (by kernel_rfl) (by kernel_rfl)
theorem cok37 : FiOk Tryz.prog 37 c37 := fiOk_of Tryz.func37 (by kernel_rfl) (by kernel_rfl)
theorem cok38 : FiOk Tryz.prog 38 c38 := fiOk_of Tryz.func38 (by kernel_rfl) (by kernel_rfl)
theorem cok41 : FiOk Tryz.prog 41 c41 := fiOk_of Tryz.func41 (by kernel_rfl) (by kernel_rfl)
theorem cok44 : FiOk Tryz.prog 44 c44 := fiOk_of Tryz.func44 (by kernel_rfl) (by kernel_rfl)
theorem cok45 : FiOk Tryz.prog 45 c45 := fiOk_of Tryz.func45 (by kernel_rfl) (by kernel_rfl)
theorem cok46 : FiOk Tryz.prog 46 c46 := fiOk_of Tryz.func46 (by kernel_rfl) (by kernel_rfl)
theorem cok48 : FiOk Tryz.prog 48 c48 := fiOk_of Tryz.func48 (by kernel_rfl) (by kernel_rfl)
theorem cok49 : FiOk Tryz.prog 49 c49 := fiOk_of Tryz.func49 (by kernel_rfl) (by kernel_rfl)
theorem cok50 : FiOk Tryz.prog 50 c50 := fiOk_of Tryz.func50 (by kernel_rfl) (by kernel_rfl)
theorem cok51 : FiOk Tryz.prog 51 c51 := fiOk_of Tryz.func51 (by kernel_rfl) (by kernel_rfl)
theorem cok52 : FiOk Tryz.prog 52 c52 := fiOk_of Tryz.func52 (by kernel_rfl) (by kernel_rfl)
theorem cok53 : FiOk Tryz.prog 53 c53 := fiOk_of Tryz.func53 (by kernel_rfl) (by kernel_rfl)
theorem cok54 : FiOk Tryz.prog 54 c54 := fiOk_of Tryz.func54 (by kernel_rfl) (by kernel_rfl)
theorem cok55 : FiOk Tryz.prog 55 c55 := fiOk_of Tryz.func55 (by kernel_rfl) (by kernel_rfl)
theorem cok56 : FiOk Tryz.prog 56 c56 := fiOk_of Tryz.func56 (by kernel_rfl) (by kernel_rfl)
theorem cok57 : FiOk Tryz.prog 57 c57 := fiOk_of Tryz.func57 (by kernel_rfl) (by kernel_rfl)
theorem cok58 : FiOk Tryz.prog 58 c58 := fiOk_of Tryz.func58 (by kernel_rfl) (by kernel_rfl)
theorem cok62 : FiOk Tryz.prog 62 c62 := fiOk_of Tryz.func62 (by kernel_rfl) (by kernel_rfl)
theorem cok64 : FiOk Tryz.prog 64 c64 := fiOk_of Tryz.func64 (by kernel_rfl) (by kernel_rfl)
theorem cok66 : FiOk Tryz.prog 66 c66 := fiOk_of Tryz.func66 (by kernel_rfl) (by kernel_rfl)
theorem cok68 : FiOk Tryz.prog 68 c68 := fiOk_of Tryz.func68 (by kernel_rfl) (by kernel_rfl)
theorem cok70 : FiOk Tryz.prog 70 c70 := fiOk_of Tryz.func70 (by kernel_rfl) (by kernel_rfl)
theorem cok74 : FiOk Tryz.prog 74 c74 := fiOk_of Tryz.func74 (by kernel_rfl) (by kernel_rfl)
theorem cok78 : FiOk Tryz.prog 78 c78 := fiOk_of Tryz.func78 (by kernel_rfl) (by kernel_rfl)
theorem cok104 : FiOk Tryz.prog 104 c104 := fiOk_of Tryz.func104 (by kernel_rfl) (by kernel_rfl)
theorem cok106 : FiOk Tryz.prog 106 c106 := fiOk_of Tryz.func106 (by kernel_rfl) (by kernel_rfl)
theorem cok107 : FiOk Tryz.prog 107 c107 := fiOk_of Tryz.func107 (by kernel_rfl) (by kernel_rfl)
theorem cok108 : FiOk Tryz.prog 108 c108 := fiOk_of Tryz.func108 (by kernel_rfl) (by kernel_rfl)
theorem cok109 : FiOk Tryz.prog 109 c109 := fiOk_of Tryz.func109 (by kernel_rfl) (by kernel_rfl)
theorem cok110 : FiOk Tryz.prog 110 c110 := fiOk_of Tryz.func110 (by kernel_rfl) (by kernel_rfl)
theorem cok111 : FiOk Tryz.prog 111 c111 := fiOk_of Tryz.func111 (by kernel_rfl) (by kernel_rfl)
theorem cok112 : FiOk Tryz.prog 112 c112 := fiOk_of Tryz.func112 (by kernel_rfl) (by kernel_rfl)
theorem cok113 : FiOk Tryz.prog 113 c113 := fiOk_of Tryz.func113 (by kernel_rfl) (by kernel_rfl)
theorem cok114 : FiOk Tryz.prog 114 c114 := fiOk_of Tryz.func114 (by kernel_rfl) (by kernel_rfl)
theorem cok115 : FiOk Tryz.prog 115 c115 := fiOk_of Tryz.func115 (by kernel_rfl) (by kernel_rfl)
theorem cok116 : FiOk Tryz.prog 116 c116 := fiOk_of Tryz.func116 (by kernel_rfl) (by kernel_rfl)
theorem cok117 : FiOk Tryz.prog 117 c117 := fiOk_of Tryz.func117 (by kernel_rfl) (by kernel_rfl)
theorem cok118 : FiOk Tryz.prog 118 c118 := fiOk_of Tryz.func118 (by kernel_rfl) (by kernel_rfl)
theorem cok119 : FiOk Tryz.prog 119 c119 := fiOk_of Tryz.func119 (by kernel_rfl) (by kernel_rfl)
theorem cok120 : FiOk Tryz.prog 120 c120 := fiOk_of Tryz.func120 (by kernel_rfl) (by kernel_rfl)
theorem cok121 : FiOk Tryz.prog 121 c121 := fiOk_of Tryz.func121 (by kernel_rfl) (by kernel_rfl)
theorem cok122 : FiOk Tryz.prog 122 c122 := fiOk_of Tryz.func122 (by kernel_rfl) (by kernel_rfl)
theorem cok125 : FiOk Tryz.prog 125 c125 := fiOk_of Tryz.func125 (by kernel_rfl) (by kernel_rfl)
theorem cok126 : FiOk Tryz.prog 126 c126 := fiOk_of Tryz.func126 (by kernel_rfl) (by kernel_rfl)
theorem cok127 : FiOk Tryz.prog 127 c127 := fiOk_of Tryz.func127 (by kernel_rfl) (by kernel_rfl)
theorem cok128 : FiOk Tryz.prog 128 c128 := fiOk_of Tryz.func128 (by kernel_rfl) (by kernel_rfl)
theorem cok129 : FiOk Tryz.prog 129 c129 := fiOk_of Tryz.func129 (by kernel_rfl) (by kernel_rfl)
theorem cok130 : FiOk Tryz.prog 130 c130 := fiOk_of Tryz.func130 (by kernel_rfl) (by kernel_rfl)
theorem cok131 : FiOk Tryz.prog 131 c131 := fiOk_of Tryz.func131 (by kernel_rfl) (by kernel_rfl)
theorem cok134 : FiOk Tryz.prog 134 c134 := fiOk_of Tryz.func134 (by kernel_rfl) (by kernel_rfl)
theorem cok135 : FiOk Tryz.prog 135 c135 := fiOk_of Tryz.func135 (by kernel_rfl) (by kernel_rfl)
theorem cok136 : FiOk Tryz.prog 136 c136 := fiOk_of Tryz.func136 (by kernel_rfl) (by kernel_rfl)
theorem cok137 : FiOk Tryz.prog 137 c137 := fiOk_of Tryz.func137 (by kernel_rfl) (by kernel_rfl)
theorem cok138 : FiOk Tryz.prog 138 c138 := fiOk_of Tryz.func138 (by kernel_rfl) (by kernel_rfl)
theorem cok139 : FiOk Tryz.prog 139 c139 := fiOk_of Tryz.func139 (by kernel_rfl) (by kernel_rfl)
theorem cok140 : FiOk Tryz.prog 140 c140 := fiOk_of Tryz.func140 (by kernel_rfl) (by kernel_rfl)
theorem cok141 : FiOk Tryz.prog 141 c141 := fiOk_of Tryz.func141 (by kernel_rfl) (by kernel_rfl)
theorem cok142 : FiOk Tryz.prog 142 c142 := fiOk_of Tryz.func142 (by kernel_rfl) (by kernel_rfl)
theorem cok143 : FiOk Tryz.prog 143 c143 := fiOk_of Tryz.func143 (by kernel_rfl) (by kernel_rfl)
theorem cok144 : FiOk Tryz.prog 144 c144 := fiOk_of Tryz.func144 (by kernel_rfl) (by kernel_rfl)
theorem cok147 : FiOk Tryz.prog 147 c147 := fiOk_of Tryz.func147 (by kernel_rfl) (by kernel_rfl)
theorem cok148 : FiOk Tryz.prog 148 c148 := fiOk_of Tryz.func148 (by kernel_rfl) (by kernel_rfl)
theorem cok149 : FiOk Tryz.prog 149 c149 := fiOk_of Tryz.func149 (by kernel_rfl) (by kernel_rfl)
theorem cok150 : FiOk Tryz.prog 150 c150 := fiOk_of Tryz.func150 (by kernel_rfl) (by kernel_rfl)
theorem cok151 : FiOk Tryz.prog 151 c151 := fiOk_of Tryz.func151 (by kernel_rfl) (by kernel_rfl)
theorem cok155 : FiOk Tryz.prog 155 c155 := fiOk_of Tryz.func155 (by kernel_rfl) (by kernel_rfl)
theorem cok157 : FiOk Tryz.prog 157 c157 := fiOk_of Tryz.func157 (by kernel_rfl) (by kernel_rfl)
theorem cok159 : FiOk Tryz.prog 159 c159 := fiOk_of Tryz.func159 (by kernel_rfl) (by kernel_rfl)
theorem cok160 : FiOk Tryz.prog 160 c160 := fiOk_of Tryz.func160 (by kernel_rfl) (by kernel_rfl)
theorem cok162 : FiOk Tryz.prog 162 c162 := fiOk_of Tryz.func162 (by kernel_rfl) (by kernel_rfl)
theorem cok165 : FiOk Tryz.prog 165 c165 := fiOk_of Tryz.func165 (by kernel_rfl) (by kernel_rfl)
theorem cok166 : FiOk Tryz.prog 166 c166 := fiOk_of Tryz.func166 (by kernel_rfl) (by kernel_rfl)
theorem cok178 : FiOk Tryz.prog 178 c178 := fiOk_of Tryz.func178 (by kernel_rfl) (by kernel_rfl)
theorem cok179 : FiOk Tryz.prog 179 c179 := fiOk_of Tryz.func179 (by kernel_rfl) (by kernel_rfl)
theorem cok180 : FiOk Tryz.prog 180 c180 := fiOk_of Tryz.func180 (by kernel_rfl) (by kernel_rfl)
theorem cok181 : FiOk Tryz.prog 181 c181 := fiOk_of Tryz.func181 (by kernel_rfl) (by kernel_rfl)
theorem cok182 : FiOk Tryz.prog 182 c182 := fiOk_of Tryz.func182 (by kernel_rfl) (by kernel_rfl)
theorem cok183 : FiOk Tryz.prog 183 c183 := fiOk_of Tryz.func183 (by kernel_rfl) (by kernel_rfl)
theorem cok184 : FiOk Tryz.prog 184 c184 := fiOk_of Tryz.func184 (by kernel_rfl) (by kernel_rfl)
theorem cok185 : FiOk Tryz.prog 185 c185 := fiOk_of Tryz.func185 (by kernel_rfl) (by kernel_rfl)
theorem cok186 : FiOk Tryz.prog 186 c186 := fiOk_of Tryz.func186 (by kernel_rfl) (by kernel_rfl)
theorem cok187 : FiOk Tryz.prog 187 c187 := fiOk_of Tryz.func187 (by kernel_rfl) (by kernel_rfl)
theorem cok188 : FiOk Tryz.prog 188 c188 := fiOk_of Tryz.func188 (by kernel_rfl) (by kernel_rfl)
theorem cok189 : FiOk Tryz.prog 189 c189 := fiOk_of Tryz.func189 (by kernel_rfl) (by kernel_rfl)
theorem cok190 : FiOk Tryz.prog 190 c190 := fiOk_of Tryz.func190 (by kernel_rfl) (by kernel_rfl)
theorem cok193 : FiOk Tryz.prog 193 c193 := fiOk_of Tryz.func193 (by kernel_rfl) (by kernel_rfl)
theorem cok194 : FiOk Tryz.prog 194 c194 := fiOk_of Tryz.func194 (by kernel_rfl) (by kernel_rfl)
theorem cok198 : FiOk Tryz.prog 198 c198 := fiOk_of Tryz.func198 (by kernel_rfl) (by kernel_rfl)
theorem cok199 : FiOk Tryz.prog 199 c199 := fiOk_of Tryz.func199 (by kernel_rfl) (by kernel_rfl)
theorem cok200 : FiOk Tryz.prog 200 c200 := fiOk_of Tryz.func200 (by kernel_rfl) (by kernel_rfl)
theorem cok201 : FiOk Tryz.prog 201 c201 := fiOk_of Tryz.func201 (by kernel_rfl) (by kernel_rfl)
theorem cok202 : FiOk Tryz.prog 202 c202 := fiOk_of Tryz.func202 (by kernel_rfl) (by kernel_rfl)
theorem cok203 : FiOk Tryz.prog 203 c203 := fiOk_of Tryz.func203 (by kernel_rfl) (by kernel_rfl)
theorem cok204 : FiOk Tryz.prog 204 c204 := fiOk_of Tryz.func204 (by kernel_rfl) (by kernel_rfl)
theorem cok205 : FiOk Tryz.prog 205 c205 := fiOk_of Tryz.func205 (by kernel_rfl) (by kernel_rfl)
theorem cok206 : FiOk Tryz.prog 206 c206 := fiOk_of Tryz.func206 (by kernel_rfl) (by kernel_rfl)
theorem cok207 : FiOk Tryz.prog 207 c207 := fiOk_of Tryz.func207 (by kernel_rfl) (by kernel_rfl)
theorem cok208 : FiOk Tryz.prog 208 c208 := fiOk_of Tryz.func208 (by kernel_rfl) (by kernel_rfl)
theorem cok209 : FiOk Tryz.prog 209 c209 := fiOk_of Tryz.func209 (by kernel_rfl) (by kernel_rfl)
theorem cok210 : FiOk Tryz.prog 210 c210 := fiOk_of Tryz.func210 (by kernel_rfl) (by kernel_rfl)
theorem cok211 : FiOk Tryz.prog 211 c211 := fiOk_of Tryz.func211 (by kernel_rfl) (by kernel_rfl)
theorem cok212 : FiOk Tryz.prog 212 c212 := fiOk_of Tryz.func212 (by kernel_rfl) (by kernel_rfl)
theorem cok214 : FiOk Tryz.prog 214 c214 := fiOk_of Tryz.func214 (by kernel_rfl) (by kernel_rfl)
theorem cok215 : FiOk Tryz.prog 215 c215 := fiOk_of Tryz.func215 (by kernel_rfl) (by kernel_rfl)
theorem cok216 : FiOk Tryz.prog 216 c216 := fiOk_of Tryz.func216 (by kernel_rfl) (by kernel_rfl)
theorem cok217 : FiOk Tryz.prog 217 c217 := fiOk_of Tryz.func217 (by kernel_rfl) (by kernel_rfl)
theorem cok218 : FiOk Tryz.prog 218 c218 := fiOk_of Tryz.func218 (by kernel_rfl) (by kernel_rfl)
theorem cok219 : FiOk Tryz.prog 219 c219 := fiOk_of Tryz.func219 (by kernel_rfl) (by kernel_rfl)
theorem cok226 : FiOk Tryz.prog 226 c226 := fiOk_of Tryz.func226 (by kernel_rfl) (by kernel_rfl)
theorem cok227 : FiOk Tryz.prog 227 c227 := fiOk_of Tryz.func227 (by kernel_rfl) (by kernel_rfl)
theorem cok228 : FiOk Tryz.prog 228 c228 := fiOk_of Tryz.func228 (by kernel_rfl) (by kernel_rfl)
theorem cok229 : FiOk Tryz.prog 229 c229 := fiOk_of Tryz.func229 (by kernel_rfl) (by kernel_rfl)
theorem cok230 : FiOk Tryz.prog 230 c230 := fiOk_of Tryz.func230 (by kernel_rfl) (by kernel_rfl)
theorem cok231 : FiOk Tryz.prog 231 c231 := fiOk_of Tryz.func231 (by kernel_rfl) (by kernel_rfl)
theorem cok232 : FiOk Tryz.prog 232 c232 := fiOk_of Tryz.func232 (by kernel_rfl) (by kernel_rfl)
theorem cok235 : FiOk Tryz.prog 235 c235 := fiOk_of Tryz.func235 (by kernel_rfl) (by kernel_rfl)
theorem cok237 : FiOk Tryz.prog 237 c237 := fiOk_of Tryz.func237 (by kernel_rfl) (by kernel_rfl)
theorem cok238 : FiOk Tryz.prog 238 c238 := fiOk_of Tryz.func238 (by kernel_rfl) (by kernel_rfl)
theorem cok239 : FiOk Tryz.prog 239 c239 := fiOk_of Tryz.func239 (by kernel_rfl) (by kernel_rfl)
theorem cok240 : FiOk Tryz.prog 240 c240 := fiOk_of Tryz.func240 (by kernel_rfl) (by kernel_rfl)
theorem cok241 : FiOk Tryz.prog 241 c241 := fiOk_of Tryz.func241 (by kernel_rfl) (by kernel_rfl)
theorem cok242 : FiOk Tryz.prog 242 c242 := fiOk_of Tryz.func242 (by kernel_rfl) (by kernel_rfl)
theorem cok252 : FiOk Tryz.prog 252 c252 := fiOk_of Tryz.func252 (by kernel_rfl) (by kernel_rfl)
theorem cok253 : FiOk Tryz.prog 253 c253 := fiOk_of Tryz.func253 (by kernel_rfl) (by kernel_rfl)
theorem cok255 : FiOk Tryz.prog 255 c255 := fiOk_of Tryz.func255 (by kernel_rfl) (by kernel_rfl)
theorem cok256 : FiOk Tryz.prog 256 c256 := fiOk_of Tryz.func256 (by kernel_rfl) (by kernel_rfl)
theorem cok257 : FiOk Tryz.prog 257 c257 := fiOk_of Tryz.func257 (by kernel_rfl) (by kernel_rfl)
theorem cok258 : FiOk Tryz.prog 258 c258 := fiOk_of Tryz.func258 (by kernel_rfl) (by kernel_rfl)
theorem cok270 : FiOk Tryz.prog 270 c270 := fiOk_of Tryz.func270 (by kernel_rfl) (by kernel_rfl)
theorem cok271 : FiOk Tryz.prog 271 c271 := fiOk_of Tryz.func271 (by kernel_rfl) (by kernel_rfl)
theorem cok272 : FiOk Tryz.prog 272 c272 := fiOk_of Tryz.func272 (by kernel_rfl) (by kernel_rfl)
theorem cok273 : FiOk Tryz.prog 273 c273 := fiOk_of Tryz.func273 (by kernel_rfl) (by kernel_rfl)
theorem cok274 : FiOk Tryz.prog 274 c274 := fiOk_of Tryz.func274 (by kernel_rfl) (by kernel_rfl)
theorem cok280 : FiOk Tryz.prog 280 c280 := fiOk_of Tryz.func280 (by kernel_rfl) (by kernel_rfl)
theorem cok281 : FiOk Tryz.prog 281 c281 := fiOk_of Tryz.func281 (by kernel_rfl) (by kernel_rfl)
theorem tget_ok (f : Nat) (i : TI) (h : tget f = some i) : TiOk Tryz.prog f i :=
  let Q := TiOk Tryz.prog
  ite_q (ite_q (ite_q (ite_q (ite_q (leaf_q (Q := Q) tok2) (leaf_q (Q := Q) tok3)) (ite_q (leaf_q (Q := Q) tok4) (leaf_q (Q := Q) tok5))) (ite_q (ite_q (leaf_q (Q := Q) tok9) (leaf_q (Q := Q) tok22)) (ite_q (leaf_q (Q := Q) tok32) (leaf_q (Q := Q) tok46)))) (ite_q (ite_q (ite_q (leaf_q (Q := Q) tok48) (leaf_q (Q := Q) tok59)) (ite_q (leaf_q (Q := Q) tok61) (leaf_q (Q := Q) tok116))) (ite_q (ite_q (leaf_q (Q := Q) tok129) (leaf_q (Q := Q) tok130)) (ite_q (leaf_q (Q := Q) tok132) (ite_q (leaf_q (Q := Q) tok142) (leaf_q (Q := Q) tok143)))))) (ite_q (ite_q (ite_q (ite_q (leaf_q (Q := Q) tok145) (leaf_q (Q := Q) tok147)) (ite_q (leaf_q (Q := Q) tok159) (leaf_q (Q := Q) tok176))) (ite_q (ite_q (leaf_q (Q := Q) tok183) (leaf_q (Q := Q) tok200)) (ite_q (leaf_q (Q := Q) tok215) (leaf_q (Q := Q) tok222)))) (ite_q (ite_q (ite_q (leaf_q (Q := Q) tok231) (leaf_q (Q := Q) tok240)) (ite_q (leaf_q (Q := Q) tok251) (leaf_q (Q := Q) tok252))) (ite_q (ite_q (leaf_q (Q := Q) tok268) (leaf_q (Q := Q) tok269)) (ite_q (leaf_q (Q := Q) tok270) (ite_q (leaf_q (Q := Q) tok283) (leaf_q (Q := Q) tok284)))))) h
theorem cget_ok (f : Nat) (i : FI) (h : cget f = some i) : FiOk Tryz.prog f i :=
  let Q := FiOk Tryz.prog
  ite_q (ite_q (ite_q (ite_q (ite_q (ite_q (ite_q (leaf_q (Q := Q) cok7) (leaf_q (Q := Q) cok20)) (ite_q (leaf_q (Q := Q) cok23) (leaf_q (Q := Q) cok25))) (ite_q (ite_q (leaf_q (Q := Q) cok26) (leaf_q (Q := Q) cok28)) (ite_q (leaf_q (Q := Q) cok30) (ite_q (leaf_q (Q := Q) cok32) (leaf_q (Q := Q) cok36))))) (ite_q (ite_q (ite_q (leaf_q (Q := Q) cok37) (leaf_q (Q := Q) cok38)) (ite_q (leaf_q (Q := Q) cok41) (leaf_q (Q := Q) cok44))) (ite_q (ite_q (leaf_q (Q := Q) cok45) (leaf_q (Q := Q) cok46)) (ite_q (leaf_q (Q := Q) cok48) (ite_q (leaf_q (Q := Q) cok49) (leaf_q (Q := Q) cok50)))))) (ite_q (ite_q (ite_q (ite_q (leaf_q (Q := Q) cok51) (leaf_q (Q := Q) cok52)) (ite_q (leaf_q (Q := Q) cok53) (leaf_q (Q := Q) cok54))) (ite_q (ite_q (leaf_q (Q := Q) cok55) (leaf_q (Q := Q) cok56)) (ite_q (leaf_q (Q := Q) cok57) (ite_q (leaf_q (Q := Q) cok58) (leaf_q (Q := Q) cok62))))) (ite_q (ite_q (ite_q (leaf_q (Q := Q) cok64) (leaf_q (Q := Q) cok66)) (ite_q (leaf_q (Q := Q) cok68) (leaf_q (Q := Q) cok70))) (ite_q (ite_q (leaf_q (Q := Q) cok74) (leaf_q (Q := Q) cok78)) (ite_q (leaf_q (Q := Q) cok104) (ite_q (leaf_q (Q := Q) cok106) (leaf_q (Q := Q) cok107))))))) (ite_q (ite_q (ite_q (ite_q (ite_q (leaf_q (Q := Q) cok108) (leaf_q (Q := Q) cok109)) (ite_q (leaf_q (Q := Q) cok110) (leaf_q (Q := Q) cok111))) (ite_q (ite_q (leaf_q (Q := Q) cok112) (leaf_q (Q := Q) cok113)) (ite_q (leaf_q (Q := Q) cok114) (ite_q (leaf_q (Q := Q) cok115) (leaf_q (Q := Q) cok116))))) (ite_q (ite_q (ite_q (leaf_q (Q := Q) cok117) (leaf_q (Q := Q) cok118)) (ite_q (leaf_q (Q := Q) cok119) (leaf_q (Q := Q) cok120))) (ite_q (ite_q (leaf_q (Q := Q) cok121) (leaf_q (Q := Q) cok122)) (ite_q (leaf_q (Q := Q) cok125) (ite_q (leaf_q (Q := Q) cok126) (leaf_q (Q := Q) cok127)))))) (ite_q (ite_q (ite_q (ite_q (leaf_q (Q := Q) cok128) (leaf_q (Q := Q) cok129)) (ite_q (leaf_q (Q := Q) cok130) (leaf_q (Q := Q) cok131))) (ite_q (ite_q (leaf_q (Q := Q) cok134) (leaf_q (Q := Q) cok135)) (ite_q (leaf_q (Q := Q) cok136) (ite_q (leaf_q (Q := Q) cok137) (leaf_q (Q := Q) cok138))))) (ite_q (ite_q (ite_q (leaf_q (Q := Q) cok139) (leaf_q (Q := Q) cok140)) (ite_q (leaf_q (Q := Q) cok141) (leaf_q (Q := Q) cok142))) (ite_q (ite_q (leaf_q (Q := Q) cok143) (leaf_q (Q := Q) cok144)) (ite_q (leaf_q (Q := Q) cok147) (ite_q (leaf_q (Q := Q) cok148) (leaf_q (Q := Q) cok149)))))))) (ite_q (ite_q (ite_q (ite_q (ite_q (ite_q (leaf_q (Q := Q) cok150) (leaf_q (Q := Q) cok151)) (ite_q (leaf_q (Q := Q) cok155) (leaf_q (Q := Q) cok157))) (ite_q (ite_q (leaf_q (Q := Q) cok159) (leaf_q (Q := Q) cok160)) (ite_q (leaf_q (Q := Q) cok162) (ite_q (leaf_q (Q := Q) cok165) (leaf_q (Q := Q) cok166))))) (ite_q (ite_q (ite_q (leaf_q (Q := Q) cok178) (leaf_q (Q := Q) cok179)) (ite_q (leaf_q (Q := Q) cok180) (leaf_q (Q := Q) cok181))) (ite_q (ite_q (leaf_q (Q := Q) cok182) (leaf_q (Q := Q) cok183)) (ite_q (leaf_q (Q := Q) cok184) (ite_q (leaf_q (Q := Q) cok185) (leaf_q (Q := Q) cok186)))))) (ite_q (ite_q (ite_q (ite_q (leaf_q (Q := Q) cok187) (leaf_q (Q := Q) cok188)) (ite_q (leaf_q (Q := Q) cok189) (leaf_q (Q := Q) cok190))) (ite_q (ite_q (leaf_q (Q := Q) cok193) (leaf_q (Q := Q) cok194)) (ite_q (leaf_q (Q := Q) cok198) (ite_q (leaf_q (Q := Q) cok199) (leaf_q (Q := Q) cok200))))) (ite_q (ite_q (ite_q (leaf_q (Q := Q) cok201) (leaf_q (Q := Q) cok202)) (ite_q (leaf_q (Q := Q) cok203) (leaf_q (Q := Q) cok204))) (ite_q (ite_q (leaf_q (Q := Q) cok205) (leaf_q (Q := Q) cok206)) (ite_q (leaf_q (Q := Q) cok207) (ite_q (leaf_q (Q := Q) cok208) (leaf_q (Q := Q) cok209))))))) (ite_q (ite_q (ite_q (ite_q (ite_q (leaf_q (Q := Q) cok210) (leaf_q (Q := Q) cok211)) (ite_q (leaf_q (Q := Q) cok212) (leaf_q (Q := Q) cok214))) (ite_q (ite_q (leaf_q (Q := Q) cok215) (leaf_q (Q := Q) cok216)) (ite_q (leaf_q (Q := Q) cok217) (ite_q (leaf_q (Q := Q) cok218) (leaf_q (Q := Q) cok219))))) (ite_q (ite_q (ite_q (leaf_q (Q := Q) cok226) (leaf_q (Q := Q) cok227)) (ite_q (leaf_q (Q := Q) cok228) (leaf_q (Q := Q) cok229))) (ite_q (ite_q (leaf_q (Q := Q) cok230) (leaf_q (Q := Q) cok231)) (ite_q (leaf_q (Q := Q) cok232) (ite_q (leaf_q (Q := Q) cok235) (leaf_q (Q := Q) cok237)))))) (ite_q (ite_q (ite_q (ite_q (leaf_q (Q := Q) cok238) (leaf_q (Q := Q) cok239)) (ite_q (leaf_q (Q := Q) cok240) (leaf_q (Q := Q) cok241))) (ite_q (ite_q (leaf_q (Q := Q) cok242) (leaf_q (Q := Q) cok252)) (ite_q (leaf_q (Q := Q) cok253) (ite_q (leaf_q (Q := Q) cok255) (leaf_q (Q := Q) cok256))))) (ite_q (ite_q (ite_q (leaf_q (Q := Q) cok257) (leaf_q (Q := Q) cok258)) (ite_q (leaf_q (Q := Q) cok270) (leaf_q (Q := Q) cok271))) (ite_q (ite_q (leaf_q (Q := Q) cok272) (leaf_q (Q := Q) cok273)) (ite_q (leaf_q (Q := Q) cok274) (ite_q (leaf_q (Q := Q) cok280) (leaf_q (Q := Q) cok281)))))))) h
noncomputable def ctx : Ctx := ⟨tget, cget, fun f => if f = 234 then some .same else if f = 269 then some (.noZero 5) else none, fun _ => none⟩
theorem e1 : (Tryz.f234.body).isNone = true := by kernel_rfl
theorem e2 : (Tryz.f234.name == "runtime.NumGoroutine") = false := by kernel_rfl
theorem e3 : Extern.findNext Tryz.f234 = none := by kernel_rfl
theorem e4 : Extern.find Tryz.f234 = some Extern.AbiNoEscape.same := by kernel_rfl
theorem g1 : (Tryz.f269.body).isNone = true := by kernel_rfl
theorem g2 : (Tryz.f269.name == "runtime.NumGoroutine") = false := by kernel_rfl
theorem g3 : Extern.findNext Tryz.f269 = none := by kernel_rfl
theorem g4 : Extern.find Tryz.f269 = some (Extern.BytealgMakeNoZero.makeNoZero Tryz.f269.params Tryz.f269.resultTypes) := by kernel_rfl
theorem g5 : Tryz.f269.resultTypes[0]? = some 130 := by kernel_rfl
theorem g6 : Tryz.prog.underlying 130 = some (.slice 5) := by kernel_rfl
theorem mixed : Tryz.prog.follows .mixedOrders = true := by kernel_rfl
theorem ctx_ok : Ctx.Ok Tryz.prog ctx where
  ty := fun t i h => (tget_ok t i h).ok
  fn := fun f i h => cget_ok f i h
  same := by
    intro f h v w
    simp only [ctx] at h
    split at h
    · rename_i he; subst he; exact same_of Tryz.func234 e1 e2 e3 e4 v w
    · split at h <;> cases h
  noZero := by
    intro f e h n w h0 hle
    simp only [ctx] at h
    split at h
    · cases h
    · split at h
      · rename_i he; subst he; cases h; exact noZero_of Tryz.func269 g1 g2 g3 g4 g5 g6 n w h0 hle
      · cases h
  mixed := mixed
  sum := fun _ _ _ _ _ _ h => by cases h
end Go.PI

