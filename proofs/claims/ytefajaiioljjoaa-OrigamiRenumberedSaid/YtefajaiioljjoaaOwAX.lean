/- Own work of the verifier: OgCtx. -/
import Derived.Test.YtefajaiioljjoaaOwAI
import Derived.Test.YtefajaiioljjoaaProg
import Derived.KernelRfl
set_option linter.all false
set_option exponentiation.threshold 3000
set_option linter.deprecated false
open Go.Proofs
namespace Go.PI
def pk0 : String := String.ofList [Char.ofNat 102, Char.ofNat 108, Char.ofNat 97, Char.ofNat 116, Char.ofNat 108, Char.ofNat 97, Char.ofNat 110, Char.ofNat 100, Char.ofNat 47, Char.ofNat 111, Char.ofNat 114, Char.ofNat 105, Char.ofNat 103, Char.ofNat 97, Char.ofNat 109, Char.ofNat 105]
def t3 : TI := { desc := Go.TypeDesc.int (Go.IntKind.i64), size := 1, bytes := 8, zero := .int .i64 (0) }
def t4 : TI := { desc := Go.TypeDesc.bool, size := 1, bytes := 1, zero := .bool false }
def t5 : TI := { desc := Go.TypeDesc.int (Go.IntKind.u8), size := 1, bytes := 1, zero := .int .u8 (0) }
def t9 : TI := { desc := Go.TypeDesc.string, size := 1, bytes := 16, zero := .str .empty }
def t22 : TI := { desc := Go.TypeDesc.slice 3, size := 1, bytes := 24, zero := .nils }
def t24 : TI := { desc := Go.TypeDesc.struct #[{ name := "Right", type := 22, offset := 0, embedded := false, tag := "", pkgPath := "", byteOffset := 0 }, { name := "Up", type := 22, offset := 1, embedded := false, tag := "", pkgPath := "", byteOffset := 24 }], size := 2, bytes := 48, zero := .agg [.nils, .nils] }
def t26 : TI := { desc := Go.TypeDesc.func #[24] #[4] false, size := 1, bytes := 8, zero := .nilf }
def t27 : TI := { desc := Go.TypeDesc.func #[24] #[3] false, size := 1, bytes := 8, zero := .nilf }
def t28 : TI := { desc := Go.TypeDesc.slice 22, size := 1, bytes := 24, zero := .nils }
def t29 : TI := { desc := Go.TypeDesc.int (Go.IntKind.i64), size := 1, bytes := 8, zero := .int .i64 (0) }
def t35 : TI := { desc := Go.TypeDesc.func #[24] #[28] false, size := 1, bytes := 8, zero := .nilf }
def t56 : TI := { desc := Go.TypeDesc.func #[24] #[22] false, size := 1, bytes := 8, zero := .nilf }
def t60 : TI := { desc := Go.TypeDesc.struct #[{ name := "A", type := 3, offset := 0, embedded := false, tag := "", pkgPath := "", byteOffset := 0 }, { name := "B", type := 3, offset := 1, embedded := false, tag := "", pkgPath := "", byteOffset := 8 }, { name := "C", type := 3, offset := 2, embedded := false, tag := "", pkgPath := "", byteOffset := 16 }], size := 3, bytes := 24, zero := .agg [.int .i64 (0), .int .i64 (0), .int .i64 (0)] }
def t63 : TI := { desc := Go.TypeDesc.func #[24] #[60] false, size := 1, bytes := 8, zero := .nilf }
def t64 : TI := { desc := Go.TypeDesc.slice 69, size := 1, bytes := 24, zero := .nils }
def t67 : TI := { desc := Go.TypeDesc.func #[24] #[64] false, size := 1, bytes := 8, zero := .nilf }
def t69 : TI := { desc := Go.TypeDesc.struct #[{ name := "Square", type := 3, offset := 0, embedded := false, tag := "", pkgPath := "", byteOffset := 0 }, { name := "Length", type := 3, offset := 1, embedded := false, tag := "", pkgPath := "", byteOffset := 8 }, { name := "From", type := 3, offset := 2, embedded := false, tag := "", pkgPath := "", byteOffset := 16 }, { name := "To", type := 3, offset := 3, embedded := false, tag := "", pkgPath := "", byteOffset := 24 }, { name := "Above", type := 3, offset := 4, embedded := false, tag := "", pkgPath := "", byteOffset := 32 }, { name := "Below", type := 3, offset := 5, embedded := false, tag := "", pkgPath := "", byteOffset := 40 }], size := 6, bytes := 48, zero := .agg [.int .i64 (0), .int .i64 (0), .int .i64 (0), .int .i64 (0), .int .i64 (0), .int .i64 (0)] }
def t76 : TI := { desc := Go.TypeDesc.slice 5, size := 1, bytes := 24, zero := .nils }
def t82 : TI := { desc := Go.TypeDesc.func #[102] #[29] true, size := 1, bytes := 8, zero := .nilf }
def t87 : TI := { desc := Go.TypeDesc.func #[117] #[] false, size := 1, bytes := 8, zero := .nilf }
def t98 : TI := { desc := Go.TypeDesc.slice 4, size := 1, bytes := 24, zero := .nils }
def t102 : TI := { desc := Go.TypeDesc.slice 24, size := 1, bytes := 24, zero := .nils }
def t104 : TI := { desc := Go.TypeDesc.pointer 116, size := 1, bytes := 8, zero := .nilp }
def t107 : TI := { desc := Go.TypeDesc.array 2 3, size := 2, bytes := 16, zero := .agg [.int .i64 (0), .int .i64 (0)] }
def t110 : TI := { desc := Go.TypeDesc.func #[3] #[4] false, size := 1, bytes := 8, zero := .nilf }
def t114 : TI := { desc := Go.TypeDesc.map 3 3, size := 1, bytes := 8, zero := .nilm }
def t116 : TI := { desc := Go.TypeDesc.struct #[{ name := "squares", type := 22, offset := 0, embedded := false, tag := "", pkgPath := pk0, byteOffset := 0 }, { name := "numbers", type := 114, offset := 1, embedded := false, tag := "", pkgPath := pk0, byteOffset := 24 }], size := 2, bytes := 32, zero := .agg [.nils, .nilm] }
def t118 : TI := { desc := Go.TypeDesc.map 3 4, size := 1, bytes := 8, zero := .nilm }
def t120 : TI := { desc := Go.TypeDesc.array 2 107, size := 4, bytes := 32, zero := .agg [.int .i64 (0), .int .i64 (0), .int .i64 (0), .int .i64 (0)] }
def t121 : TI := { desc := Go.TypeDesc.map 3 107, size := 1, bytes := 8, zero := .nilm }
def t126 : TI := { desc := Go.TypeDesc.int (Go.IntKind.u64), size := 1, bytes := 8, zero := .int .u64 (0) }
def t135 : TI := { desc := Go.TypeDesc.int (Go.IntKind.i64), size := 1, bytes := 8, zero := .int .i64 (0) }
def t143 : TI := { desc := Go.TypeDesc.int (Go.IntKind.u32), size := 1, bytes := 4, zero := .int .u32 (0) }
def t145 : TI := { desc := Go.TypeDesc.int (Go.IntKind.u64), size := 1, bytes := 8, zero := .int .u64 (0) }
def t150 : TI := { desc := Go.TypeDesc.int (Go.IntKind.u64), size := 1, bytes := 8, zero := .int .u64 (0) }
def t154 : TI := { desc := Go.TypeDesc.pointer 3, size := 1, bytes := 8, zero := .nilp }
def tget (f : Nat) : Option TI :=
  if f < 82 then
   if f < 29 then
    if f < 22 then
     if f < 5 then
      if f < 4 then
       if f = 3 then some t3 else none
      else
       if f = 4 then some t4 else none
     else
      if f < 9 then
       if f = 5 then some t5 else none
      else
       if f = 9 then some t9 else none
    else
     if f < 26 then
      if f < 24 then
       if f = 22 then some t22 else none
      else
       if f = 24 then some t24 else none
     else
      if f < 27 then
       if f = 26 then some t26 else none
      else
       if f < 28 then
        if f = 27 then some t27 else none
       else
        if f = 28 then some t28 else none
   else
    if f < 63 then
     if f < 56 then
      if f < 35 then
       if f = 29 then some t29 else none
      else
       if f = 35 then some t35 else none
     else
      if f < 60 then
       if f = 56 then some t56 else none
      else
       if f = 60 then some t60 else none
    else
     if f < 67 then
      if f < 64 then
       if f = 63 then some t63 else none
      else
       if f = 64 then some t64 else none
     else
      if f < 69 then
       if f = 67 then some t67 else none
      else
       if f < 76 then
        if f = 69 then some t69 else none
       else
        if f = 76 then some t76 else none
  else
   if f < 118 then
    if f < 104 then
     if f < 98 then
      if f < 87 then
       if f = 82 then some t82 else none
      else
       if f = 87 then some t87 else none
     else
      if f < 102 then
       if f = 98 then some t98 else none
      else
       if f = 102 then some t102 else none
    else
     if f < 110 then
      if f < 107 then
       if f = 104 then some t104 else none
      else
       if f = 107 then some t107 else none
     else
      if f < 114 then
       if f = 110 then some t110 else none
      else
       if f < 116 then
        if f = 114 then some t114 else none
       else
        if f = 116 then some t116 else none
   else
    if f < 135 then
     if f < 121 then
      if f < 120 then
       if f = 118 then some t118 else none
      else
       if f = 120 then some t120 else none
     else
      if f < 126 then
       if f = 121 then some t121 else none
      else
       if f = 126 then some t126 else none
    else
     if f < 145 then
      if f < 143 then
       if f = 135 then some t135 else none
      else
       if f = 143 then some t143 else none
     else
      if f < 150 then
       if f = 145 then some t145 else none
      else
       if f < 154 then
        if f = 150 then some t150 else none
       else
        if f = 154 then some t154 else none
noncomputable def c3 : FI := fiOf Try.f3
noncomputable def c4 : FI := fiOf Try.f4
noncomputable def c5 : FI := fiOf Try.f5
noncomputable def c6 : FI := fiOf Try.f6
noncomputable def c7 : FI := fiOf Try.f7
noncomputable def c8 : FI := fiOf Try.f8
noncomputable def c9 : FI := fiOf Try.f9
noncomputable def c10 : FI := fiOf Try.f10
noncomputable def c11 : FI := fiOf Try.f11
noncomputable def c12 : FI := fiOf Try.f12
noncomputable def c13 : FI := fiOf Try.f13
noncomputable def c14 : FI := fiOf Try.f14
noncomputable def c15 : FI := fiOf Try.f15
noncomputable def c16 : FI := fiOf Try.f16
noncomputable def c17 : FI := fiOf Try.f17
noncomputable def c18 : FI := fiOf Try.f18
noncomputable def c19 : FI := fiOf Try.f19
noncomputable def c20 : FI := fiOf Try.f20
noncomputable def c21 : FI := fiOf Try.f21
noncomputable def c22 : FI := fiOf Try.f22
noncomputable def c23 : FI := fiOf Try.f23
noncomputable def c24 : FI := fiOf Try.f24
noncomputable def c25 : FI := fiOf Try.f25
noncomputable def c26 : FI := fiOf Try.f26
noncomputable def c27 : FI := fiOf Try.f27
noncomputable def c28 : FI := fiOf Try.f28
noncomputable def c29 : FI := fiOf Try.f29
noncomputable def c30 : FI := fiOf Try.f30
noncomputable def c31 : FI := fiOf Try.f31
noncomputable def c32 : FI := fiOf Try.f32
noncomputable def c33 : FI := fiOf Try.f33
noncomputable def c34 : FI := fiOf Try.f34
noncomputable def c35 : FI := fiOf Try.f35
noncomputable def c36 : FI := fiOf Try.f36
noncomputable def c37 : FI := fiOf Try.f37
noncomputable def c38 : FI := fiOf Try.f38
noncomputable def c39 : FI := fiOf Try.f39
noncomputable def c40 : FI := fiOf Try.f40
noncomputable def c41 : FI := fiOf Try.f41
noncomputable def c42 : FI := fiOf Try.f42
noncomputable def c43 : FI := fiOf Try.f43
noncomputable def c44 : FI := fiOf Try.f44
noncomputable def c45 : FI := fiOf Try.f45
noncomputable def c46 : FI := fiOf Try.f46
noncomputable def c47 : FI := fiOf Try.f47
noncomputable def c48 : FI := fiOf Try.f48
noncomputable def c49 : FI := fiOf Try.f49
noncomputable def c50 : FI := fiOf Try.f50
noncomputable def c51 : FI := fiOf Try.f51
noncomputable def c52 : FI := fiOf Try.f52
noncomputable def c53 : FI := fiOf Try.f53
noncomputable def c54 : FI := fiOf Try.f54
noncomputable def c55 : FI := fiOf Try.f55
noncomputable def c56 : FI := fiOf Try.f56
noncomputable def c57 : FI := fiOf Try.f57
noncomputable def c58 : FI := fiOf Try.f58
noncomputable def c59 : FI := fiOf Try.f59
noncomputable def c60 : FI := fiOf Try.f60
noncomputable def c61 : FI := fiOf Try.f61
noncomputable def c62 : FI := fiOf Try.f62
noncomputable def c63 : FI := fiOf Try.f63
noncomputable def c64 : FI := fiOf Try.f64
noncomputable def c65 : FI := fiOf Try.f65
noncomputable def c66 : FI := fiOf Try.f66
noncomputable def c67 : FI := fiOf Try.f67
noncomputable def c68 : FI := fiOf Try.f68
noncomputable def c69 : FI := fiOf Try.f69
noncomputable def c70 : FI := fiOf Try.f70
noncomputable def c71 : FI := fiOf Try.f71
noncomputable def c72 : FI := fiOf Try.f72
noncomputable def c73 : FI := fiOf Try.f73
noncomputable def c74 : FI := fiOf Try.f74
noncomputable def c75 : FI := fiOf Try.f75
noncomputable def c76 : FI := fiOf Try.f76
noncomputable def c77 : FI := fiOf Try.f77
noncomputable def c78 : FI := fiOf Try.f78
noncomputable def c79 : FI := fiOf Try.f79
noncomputable def c80 : FI := fiOf Try.f80
noncomputable def c81 : FI := fiOf Try.f81
noncomputable def c82 : FI := fiOf Try.f82
noncomputable def c83 : FI := fiOf Try.f83
noncomputable def c84 : FI := fiOf Try.f84
noncomputable def c85 : FI := fiOf Try.f85
noncomputable def c86 : FI := fiOf Try.f86
noncomputable def c87 : FI := fiOf Try.f87
noncomputable def c88 : FI := fiOf Try.f88
noncomputable def c89 : FI := fiOf Try.f89
noncomputable def c90 : FI := fiOf Try.f90
noncomputable def c91 : FI := fiOf Try.f91
noncomputable def c92 : FI := fiOf Try.f92
noncomputable def c93 : FI := fiOf Try.f93
noncomputable def c94 : FI := fiOf Try.f94
noncomputable def c95 : FI := fiOf Try.f95
noncomputable def c96 : FI := fiOf Try.f96
noncomputable def c97 : FI := fiOf Try.f97
noncomputable def c98 : FI := fiOf Try.f98
noncomputable def c99 : FI := fiOf Try.f99
noncomputable def c100 : FI := fiOf Try.f100
noncomputable def c101 : FI := fiOf Try.f101
noncomputable def c102 : FI := fiOf Try.f102
noncomputable def c103 : FI := fiOf Try.f103
noncomputable def c104 : FI := fiOf Try.f104
noncomputable def c105 : FI := fiOf Try.f105
noncomputable def c106 : FI := fiOf Try.f106
noncomputable def c107 : FI := fiOf Try.f107
noncomputable def c108 : FI := fiOf Try.f108
noncomputable def c109 : FI := fiOf Try.f109
noncomputable def c110 : FI := fiOf Try.f110
noncomputable def c111 : FI := fiOf Try.f111
noncomputable def c112 : FI := fiOf Try.f112
noncomputable def c113 : FI := fiOf Try.f113
noncomputable def c114 : FI := fiOf Try.f114
noncomputable def c115 : FI := fiOf Try.f115
noncomputable def c116 : FI := fiOf Try.f116
noncomputable def c117 : FI := fiOf Try.f117
noncomputable def c118 : FI := fiOf Try.f118
noncomputable def c119 : FI := fiOf Try.f119
noncomputable def c120 : FI := fiOf Try.f120
noncomputable def c121 : FI := fiOf Try.f121
noncomputable def c122 : FI := fiOf Try.f122
noncomputable def c123 : FI := fiOf Try.f123
noncomputable def c124 : FI := fiOf Try.f124
noncomputable def c125 : FI := fiOf Try.f125
noncomputable def c126 : FI := fiOf Try.f126
noncomputable def c127 : FI := fiOf Try.f127
noncomputable def c128 : FI := fiOf Try.f128
noncomputable def c129 : FI := fiOf Try.f129
noncomputable def c130 : FI := fiOf Try.f130
noncomputable def c131 : FI := fiOf Try.f131
noncomputable def c132 : FI := fiOf Try.f132
noncomputable def c133 : FI := fiOf Try.f133
noncomputable def c134 : FI := fiOf Try.f134
noncomputable def c135 : FI := fiOf Try.f135
noncomputable def c136 : FI := fiOf Try.f136
noncomputable def c137 : FI := fiOf Try.f137
noncomputable def c138 : FI := fiOf Try.f138
noncomputable def c139 : FI := fiOf Try.f139
noncomputable def c140 : FI := fiOf Try.f140
noncomputable def c141 : FI := fiOf Try.f141
noncomputable def c142 : FI := fiOf Try.f142
noncomputable def c143 : FI := fiOf Try.f143
noncomputable def c144 : FI := fiOf Try.f144
noncomputable def c145 : FI := fiOf Try.f145
noncomputable def c146 : FI := fiOf Try.f146
noncomputable def c147 : FI := fiOf Try.f147
noncomputable def c148 : FI := fiOf Try.f148
noncomputable def c149 : FI := fiOf Try.f149
noncomputable def c150 : FI := fiOf Try.f150
noncomputable def c151 : FI := fiOf Try.f151
noncomputable def c152 : FI := fiOf Try.f152
noncomputable def c153 : FI := fiOf Try.f153
noncomputable def c154 : FI := fiOf Try.f154
noncomputable def c155 : FI := fiOf Try.f155
noncomputable def c156 : FI := fiOf Try.f156
noncomputable def c157 : FI := fiOf Try.f157
noncomputable def c158 : FI := fiOf Try.f158
noncomputable def c159 : FI := fiOf Try.f159
noncomputable def c160 : FI := fiOf Try.f160
noncomputable def c161 : FI := fiOf Try.f161
noncomputable def cget (f : Nat) : Option FI :=
  if f < 82 then
   if f < 42 then
    if f < 22 then
     if f < 12 then
      if f < 7 then
       if f < 5 then
        if f < 4 then
         if f = 3 then some c3 else none
        else
         if f = 4 then some c4 else none
       else
        if f < 6 then
         if f = 5 then some c5 else none
        else
         if f = 6 then some c6 else none
      else
       if f < 9 then
        if f < 8 then
         if f = 7 then some c7 else none
        else
         if f = 8 then some c8 else none
       else
        if f < 10 then
         if f = 9 then some c9 else none
        else
         if f < 11 then
          if f = 10 then some c10 else none
         else
          if f = 11 then some c11 else none
     else
      if f < 17 then
       if f < 14 then
        if f < 13 then
         if f = 12 then some c12 else none
        else
         if f = 13 then some c13 else none
       else
        if f < 15 then
         if f = 14 then some c14 else none
        else
         if f < 16 then
          if f = 15 then some c15 else none
         else
          if f = 16 then some c16 else none
      else
       if f < 19 then
        if f < 18 then
         if f = 17 then some c17 else none
        else
         if f = 18 then some c18 else none
       else
        if f < 20 then
         if f = 19 then some c19 else none
        else
         if f < 21 then
          if f = 20 then some c20 else none
         else
          if f = 21 then some c21 else none
    else
     if f < 32 then
      if f < 27 then
       if f < 24 then
        if f < 23 then
         if f = 22 then some c22 else none
        else
         if f = 23 then some c23 else none
       else
        if f < 25 then
         if f = 24 then some c24 else none
        else
         if f < 26 then
          if f = 25 then some c25 else none
         else
          if f = 26 then some c26 else none
      else
       if f < 29 then
        if f < 28 then
         if f = 27 then some c27 else none
        else
         if f = 28 then some c28 else none
       else
        if f < 30 then
         if f = 29 then some c29 else none
        else
         if f < 31 then
          if f = 30 then some c30 else none
         else
          if f = 31 then some c31 else none
     else
      if f < 37 then
       if f < 34 then
        if f < 33 then
         if f = 32 then some c32 else none
        else
         if f = 33 then some c33 else none
       else
        if f < 35 then
         if f = 34 then some c34 else none
        else
         if f < 36 then
          if f = 35 then some c35 else none
         else
          if f = 36 then some c36 else none
      else
       if f < 39 then
        if f < 38 then
         if f = 37 then some c37 else none
        else
         if f = 38 then some c38 else none
       else
        if f < 40 then
         if f = 39 then some c39 else none
        else
         if f < 41 then
          if f = 40 then some c40 else none
         else
          if f = 41 then some c41 else none
   else
    if f < 62 then
     if f < 52 then
      if f < 47 then
       if f < 44 then
        if f < 43 then
         if f = 42 then some c42 else none
        else
         if f = 43 then some c43 else none
       else
        if f < 45 then
         if f = 44 then some c44 else none
        else
         if f < 46 then
          if f = 45 then some c45 else none
         else
          if f = 46 then some c46 else none
      else
       if f < 49 then
        if f < 48 then
         if f = 47 then some c47 else none
        else
         if f = 48 then some c48 else none
       else
        if f < 50 then
         if f = 49 then some c49 else none
        else
         if f < 51 then
          if f = 50 then some c50 else none
         else
          if f = 51 then some c51 else none
     else
      if f < 57 then
       if f < 54 then
        if f < 53 then
         if f = 52 then some c52 else none
        else
         if f = 53 then some c53 else none
       else
        if f < 55 then
         if f = 54 then some c54 else none
        else
         if f < 56 then
          if f = 55 then some c55 else none
         else
          if f = 56 then some c56 else none
      else
       if f < 59 then
        if f < 58 then
         if f = 57 then some c57 else none
        else
         if f = 58 then some c58 else none
       else
        if f < 60 then
         if f = 59 then some c59 else none
        else
         if f < 61 then
          if f = 60 then some c60 else none
         else
          if f = 61 then some c61 else none
    else
     if f < 72 then
      if f < 67 then
       if f < 64 then
        if f < 63 then
         if f = 62 then some c62 else none
        else
         if f = 63 then some c63 else none
       else
        if f < 65 then
         if f = 64 then some c64 else none
        else
         if f < 66 then
          if f = 65 then some c65 else none
         else
          if f = 66 then some c66 else none
      else
       if f < 69 then
        if f < 68 then
         if f = 67 then some c67 else none
        else
         if f = 68 then some c68 else none
       else
        if f < 70 then
         if f = 69 then some c69 else none
        else
         if f < 71 then
          if f = 70 then some c70 else none
         else
          if f = 71 then some c71 else none
     else
      if f < 77 then
       if f < 74 then
        if f < 73 then
         if f = 72 then some c72 else none
        else
         if f = 73 then some c73 else none
       else
        if f < 75 then
         if f = 74 then some c74 else none
        else
         if f < 76 then
          if f = 75 then some c75 else none
         else
          if f = 76 then some c76 else none
      else
       if f < 79 then
        if f < 78 then
         if f = 77 then some c77 else none
        else
         if f = 78 then some c78 else none
       else
        if f < 80 then
         if f = 79 then some c79 else none
        else
         if f < 81 then
          if f = 80 then some c80 else none
         else
          if f = 81 then some c81 else none
  else
   if f < 122 then
    if f < 102 then
     if f < 92 then
      if f < 87 then
       if f < 84 then
        if f < 83 then
         if f = 82 then some c82 else none
        else
         if f = 83 then some c83 else none
       else
        if f < 85 then
         if f = 84 then some c84 else none
        else
         if f < 86 then
          if f = 85 then some c85 else none
         else
          if f = 86 then some c86 else none
      else
       if f < 89 then
        if f < 88 then
         if f = 87 then some c87 else none
        else
         if f = 88 then some c88 else none
       else
        if f < 90 then
         if f = 89 then some c89 else none
        else
         if f < 91 then
          if f = 90 then some c90 else none
         else
          if f = 91 then some c91 else none
     else
      if f < 97 then
       if f < 94 then
        if f < 93 then
         if f = 92 then some c92 else none
        else
         if f = 93 then some c93 else none
       else
        if f < 95 then
         if f = 94 then some c94 else none
        else
         if f < 96 then
          if f = 95 then some c95 else none
         else
          if f = 96 then some c96 else none
      else
       if f < 99 then
        if f < 98 then
         if f = 97 then some c97 else none
        else
         if f = 98 then some c98 else none
       else
        if f < 100 then
         if f = 99 then some c99 else none
        else
         if f < 101 then
          if f = 100 then some c100 else none
         else
          if f = 101 then some c101 else none
    else
     if f < 112 then
      if f < 107 then
       if f < 104 then
        if f < 103 then
         if f = 102 then some c102 else none
        else
         if f = 103 then some c103 else none
       else
        if f < 105 then
         if f = 104 then some c104 else none
        else
         if f < 106 then
          if f = 105 then some c105 else none
         else
          if f = 106 then some c106 else none
      else
       if f < 109 then
        if f < 108 then
         if f = 107 then some c107 else none
        else
         if f = 108 then some c108 else none
       else
        if f < 110 then
         if f = 109 then some c109 else none
        else
         if f < 111 then
          if f = 110 then some c110 else none
         else
          if f = 111 then some c111 else none
     else
      if f < 117 then
       if f < 114 then
        if f < 113 then
         if f = 112 then some c112 else none
        else
         if f = 113 then some c113 else none
       else
        if f < 115 then
         if f = 114 then some c114 else none
        else
         if f < 116 then
          if f = 115 then some c115 else none
         else
          if f = 116 then some c116 else none
      else
       if f < 119 then
        if f < 118 then
         if f = 117 then some c117 else none
        else
         if f = 118 then some c118 else none
       else
        if f < 120 then
         if f = 119 then some c119 else none
        else
         if f < 121 then
          if f = 120 then some c120 else none
         else
          if f = 121 then some c121 else none
   else
    if f < 142 then
     if f < 132 then
      if f < 127 then
       if f < 124 then
        if f < 123 then
         if f = 122 then some c122 else none
        else
         if f = 123 then some c123 else none
       else
        if f < 125 then
         if f = 124 then some c124 else none
        else
         if f < 126 then
          if f = 125 then some c125 else none
         else
          if f = 126 then some c126 else none
      else
       if f < 129 then
        if f < 128 then
         if f = 127 then some c127 else none
        else
         if f = 128 then some c128 else none
       else
        if f < 130 then
         if f = 129 then some c129 else none
        else
         if f < 131 then
          if f = 130 then some c130 else none
         else
          if f = 131 then some c131 else none
     else
      if f < 137 then
       if f < 134 then
        if f < 133 then
         if f = 132 then some c132 else none
        else
         if f = 133 then some c133 else none
       else
        if f < 135 then
         if f = 134 then some c134 else none
        else
         if f < 136 then
          if f = 135 then some c135 else none
         else
          if f = 136 then some c136 else none
      else
       if f < 139 then
        if f < 138 then
         if f = 137 then some c137 else none
        else
         if f = 138 then some c138 else none
       else
        if f < 140 then
         if f = 139 then some c139 else none
        else
         if f < 141 then
          if f = 140 then some c140 else none
         else
          if f = 141 then some c141 else none
    else
     if f < 152 then
      if f < 147 then
       if f < 144 then
        if f < 143 then
         if f = 142 then some c142 else none
        else
         if f = 143 then some c143 else none
       else
        if f < 145 then
         if f = 144 then some c144 else none
        else
         if f < 146 then
          if f = 145 then some c145 else none
         else
          if f = 146 then some c146 else none
      else
       if f < 149 then
        if f < 148 then
         if f = 147 then some c147 else none
        else
         if f = 148 then some c148 else none
       else
        if f < 150 then
         if f = 149 then some c149 else none
        else
         if f < 151 then
          if f = 150 then some c150 else none
         else
          if f = 151 then some c151 else none
     else
      if f < 157 then
       if f < 154 then
        if f < 153 then
         if f = 152 then some c152 else none
        else
         if f = 153 then some c153 else none
       else
        if f < 155 then
         if f = 154 then some c154 else none
        else
         if f < 156 then
          if f = 155 then some c155 else none
         else
          if f = 156 then some c156 else none
      else
       if f < 159 then
        if f < 158 then
         if f = 157 then some c157 else none
        else
         if f = 158 then some c158 else none
       else
        if f < 160 then
         if f = 159 then some c159 else none
        else
         if f < 161 then
          if f = 160 then some c160 else none
         else
          if f = 161 then some c161 else none
theorem tok3 : TiOk Try.prog 3 t3 := ⟨by kernel_rfl, by kernel_rfl, by kernel_rfl⟩
theorem tok4 : TiOk Try.prog 4 t4 := ⟨by kernel_rfl, by kernel_rfl, by kernel_rfl⟩
theorem tok5 : TiOk Try.prog 5 t5 := ⟨by kernel_rfl, by kernel_rfl, by kernel_rfl⟩
theorem tok9 : TiOk Try.prog 9 t9 := ⟨by kernel_rfl, by kernel_rfl, by kernel_rfl⟩
theorem tok22 : TiOk Try.prog 22 t22 := ⟨by kernel_rfl, by kernel_rfl, by kernel_rfl⟩
theorem tok24 : TiOk Try.prog 24 t24 := ⟨by kernel_rfl, by kernel_rfl, by kernel_rfl⟩
theorem tok26 : TiOk Try.prog 26 t26 := ⟨by kernel_rfl, by kernel_rfl, by kernel_rfl⟩
theorem tok27 : TiOk Try.prog 27 t27 := ⟨by kernel_rfl, by kernel_rfl, by kernel_rfl⟩
theorem tok28 : TiOk Try.prog 28 t28 := ⟨by kernel_rfl, by kernel_rfl, by kernel_rfl⟩
theorem tok29 : TiOk Try.prog 29 t29 := ⟨by kernel_rfl, by kernel_rfl, by kernel_rfl⟩
theorem tok35 : TiOk Try.prog 35 t35 := ⟨by kernel_rfl, by kernel_rfl, by kernel_rfl⟩
theorem tok56 : TiOk Try.prog 56 t56 := ⟨by kernel_rfl, by kernel_rfl, by kernel_rfl⟩
theorem tok60 : TiOk Try.prog 60 t60 := ⟨by kernel_rfl, by kernel_rfl, by kernel_rfl⟩
theorem tok63 : TiOk Try.prog 63 t63 := ⟨by kernel_rfl, by kernel_rfl, by kernel_rfl⟩
theorem tok64 : TiOk Try.prog 64 t64 := ⟨by kernel_rfl, by kernel_rfl, by kernel_rfl⟩
theorem tok67 : TiOk Try.prog 67 t67 := ⟨by kernel_rfl, by kernel_rfl, by kernel_rfl⟩
theorem tok69 : TiOk Try.prog 69 t69 := ⟨by kernel_rfl, by kernel_rfl, by kernel_rfl⟩
theorem tok76 : TiOk Try.prog 76 t76 := ⟨by kernel_rfl, by kernel_rfl, by kernel_rfl⟩
theorem tok82 : TiOk Try.prog 82 t82 := ⟨by kernel_rfl, by kernel_rfl, by kernel_rfl⟩
theorem tok87 : TiOk Try.prog 87 t87 := ⟨by kernel_rfl, by kernel_rfl, by kernel_rfl⟩
theorem tok98 : TiOk Try.prog 98 t98 := ⟨by kernel_rfl, by kernel_rfl, by kernel_rfl⟩
theorem tok102 : TiOk Try.prog 102 t102 := ⟨by kernel_rfl, by kernel_rfl, by kernel_rfl⟩
theorem tok104 : TiOk Try.prog 104 t104 := ⟨by kernel_rfl, by kernel_rfl, by kernel_rfl⟩
theorem tok107 : TiOk Try.prog 107 t107 := ⟨by kernel_rfl, by kernel_rfl, by kernel_rfl⟩
theorem tok110 : TiOk Try.prog 110 t110 := ⟨by kernel_rfl, by kernel_rfl, by kernel_rfl⟩
theorem tok114 : TiOk Try.prog 114 t114 := ⟨by kernel_rfl, by kernel_rfl, by kernel_rfl⟩
theorem tok116 : TiOk Try.prog 116 t116 := ⟨by kernel_rfl, by kernel_rfl, by kernel_rfl⟩
theorem tok118 : TiOk Try.prog 118 t118 := ⟨by kernel_rfl, by kernel_rfl, by kernel_rfl⟩
theorem tok120 : TiOk Try.prog 120 t120 := ⟨by kernel_rfl, by kernel_rfl, by kernel_rfl⟩
theorem tok121 : TiOk Try.prog 121 t121 := ⟨by kernel_rfl, by kernel_rfl, by kernel_rfl⟩
theorem tok126 : TiOk Try.prog 126 t126 := ⟨by kernel_rfl, by kernel_rfl, by kernel_rfl⟩
theorem tok135 : TiOk Try.prog 135 t135 := ⟨by kernel_rfl, by kernel_rfl, by kernel_rfl⟩
theorem tok143 : TiOk Try.prog 143 t143 := ⟨by kernel_rfl, by kernel_rfl, by kernel_rfl⟩
theorem tok145 : TiOk Try.prog 145 t145 := ⟨by kernel_rfl, by kernel_rfl, by kernel_rfl⟩
theorem tok150 : TiOk Try.prog 150 t150 := ⟨by kernel_rfl, by kernel_rfl, by kernel_rfl⟩
theorem tok154 : TiOk Try.prog 154 t154 := ⟨by kernel_rfl, by kernel_rfl, by kernel_rfl⟩
theorem cok3 : FiOk Try.prog 3 c3 := fiOk_of Try.func3 (by kernel_rfl) (by kernel_rfl)
theorem cok4 : FiOk Try.prog 4 c4 := fiOk_of Try.func4 (by kernel_rfl) (by kernel_rfl)
theorem cok5 : FiOk Try.prog 5 c5 := fiOk_of Try.func5 (by kernel_rfl) (by kernel_rfl)
theorem cok6 : FiOk Try.prog 6 c6 := fiOk_of Try.func6 (by kernel_rfl) (by kernel_rfl)
theorem cok7 : FiOk Try.prog 7 c7 := fiOk_of Try.func7 (by kernel_rfl) (by kernel_rfl)
theorem cok8 : FiOk Try.prog 8 c8 := fiOk_of Try.func8 (by kernel_rfl) (by kernel_rfl)
theorem cok9 : FiOk Try.prog 9 c9 := fiOk_of Try.func9 (by kernel_rfl) (by kernel_rfl)
theorem cok10 : FiOk Try.prog 10 c10 := fiOk_of Try.func10 (by kernel_rfl) (by kernel_rfl)
theorem cok11 : FiOk Try.prog 11 c11 := fiOk_of Try.func11 (by kernel_rfl) (by kernel_rfl)
theorem cok12 : FiOk Try.prog 12 c12 := fiOk_of Try.func12 (by kernel_rfl) (by kernel_rfl)
theorem cok13 : FiOk Try.prog 13 c13 := fiOk_of Try.func13 (by kernel_rfl) (by kernel_rfl)
theorem cok14 : FiOk Try.prog 14 c14 := fiOk_of Try.func14 (by kernel_rfl) (by kernel_rfl)
theorem cok15 : FiOk Try.prog 15 c15 := fiOk_of Try.func15 (by kernel_rfl) (by kernel_rfl)
theorem cok16 : FiOk Try.prog 16 c16 := fiOk_of Try.func16 (by kernel_rfl) (by kernel_rfl)
theorem cok17 : FiOk Try.prog 17 c17 := fiOk_of Try.func17 (by kernel_rfl) (by kernel_rfl)
theorem cok18 : FiOk Try.prog 18 c18 := fiOk_of Try.func18 (by kernel_rfl) (by kernel_rfl)
theorem cok19 : FiOk Try.prog 19 c19 := fiOk_of Try.func19 (by kernel_rfl) (by kernel_rfl)
theorem cok20 : FiOk Try.prog 20 c20 := fiOk_of Try.func20 (by kernel_rfl) (by kernel_rfl)
theorem cok21 : FiOk Try.prog 21 c21 := fiOk_of Try.func21 (by kernel_rfl) (by kernel_rfl)
theorem cok22 : FiOk Try.prog 22 c22 := fiOk_of Try.func22 (by kernel_rfl) (by kernel_rfl)
theorem cok23 : FiOk Try.prog 23 c23 := fiOk_of Try.func23 (by kernel_rfl) (by kernel_rfl)
theorem cok24 : FiOk Try.prog 24 c24 := fiOk_of Try.func24 (by kernel_rfl) (by kernel_rfl)
theorem cok25 : FiOk Try.prog 25 c25 := fiOk_of Try.func25 (by kernel_rfl) (by kernel_rfl)
theorem cok26 : FiOk Try.prog 26 c26 := fiOk_of Try.func26 (by kernel_rfl) (by kernel_rfl)
theorem cok27 : FiOk Try.prog 27 c27 := fiOk_of Try.func27 (by kernel_rfl) (by kernel_rfl)
theorem cok28 : FiOk Try.prog 28 c28 := fiOk_of Try.func28 (by kernel_rfl) (by kernel_rfl)
theorem cok29 : FiOk Try.prog 29 c29 := fiOk_of Try.func29 (by kernel_rfl) (by kernel_rfl)
theorem cok30 : FiOk Try.prog 30 c30 := fiOk_of Try.func30 (by kernel_rfl) (by kernel_rfl)
theorem cok31 : FiOk Try.prog 31 c31 := fiOk_of Try.func31 (by kernel_rfl) (by kernel_rfl)
theorem cok32 : FiOk Try.prog 32 c32 := fiOk_of Try.func32 (by kernel_rfl) (by kernel_rfl)
theorem cok33 : FiOk Try.prog 33 c33 := fiOk_of Try.func33 (by kernel_rfl) (by kernel_rfl)
theorem cok34 : FiOk Try.prog 34 c34 := fiOk_of Try.func34 (by kernel_rfl) (by kernel_rfl)
theorem cok35 : FiOk Try.prog 35 c35 := fiOk_of Try.func35 (by kernel_rfl) (by kernel_rfl)
theorem cok36 : FiOk Try.prog 36 c36 := fiOk_of Try.func36 (by kernel_rfl) (by kernel_rfl)
theorem cok37 : FiOk Try.prog 37 c37 := fiOk_of Try.func37 (by kernel_rfl) (by kernel_rfl)
theorem cok38 : FiOk Try.prog 38 c38 := fiOk_of Try.func38 (by kernel_rfl) (by kernel_rfl)
theorem cok39 : FiOk Try.prog 39 c39 := fiOk_of Try.func39 (by kernel_rfl) (by kernel_rfl)
theorem cok40 : FiOk Try.prog 40 c40 := fiOk_of Try.func40 (by kernel_rfl) (by kernel_rfl)
theorem cok41 : FiOk Try.prog 41 c41 := fiOk_of Try.func41 (by kernel_rfl) (by kernel_rfl)
theorem cok42 : FiOk Try.prog 42 c42 := fiOk_of Try.func42 (by kernel_rfl) (by kernel_rfl)
theorem cok43 : FiOk Try.prog 43 c43 := fiOk_of Try.func43 (by kernel_rfl) (by kernel_rfl)
theorem cok44 : FiOk Try.prog 44 c44 := fiOk_of Try.func44 (by kernel_rfl) (by kernel_rfl)
theorem cok45 : FiOk Try.prog 45 c45 := fiOk_of Try.func45 (by kernel_rfl) (by kernel_rfl)
theorem cok46 : FiOk Try.prog 46 c46 := fiOk_of Try.func46 (by kernel_rfl) (by kernel_rfl)
theorem cok47 : FiOk Try.prog 47 c47 := fiOk_of Try.func47 (by kernel_rfl) (by kernel_rfl)
theorem cok48 : FiOk Try.prog 48 c48 := fiOk_of Try.func48 (by kernel_rfl) (by kernel_rfl)
theorem cok49 : FiOk Try.prog 49 c49 := fiOk_of Try.func49 (by kernel_rfl) (by kernel_rfl)
theorem cok50 : FiOk Try.prog 50 c50 := fiOk_of Try.func50 (by kernel_rfl) (by kernel_rfl)
theorem cok51 : FiOk Try.prog 51 c51 := fiOk_of Try.func51 (by kernel_rfl) (by kernel_rfl)
theorem cok52 : FiOk Try.prog 52 c52 := fiOk_of Try.func52 (by kernel_rfl) (by kernel_rfl)
theorem cok53 : FiOk Try.prog 53 c53 := fiOk_of Try.func53 (by kernel_rfl) (by kernel_rfl)
theorem cok54 : FiOk Try.prog 54 c54 := fiOk_of Try.func54 (by kernel_rfl) (by kernel_rfl)
theorem cok55 : FiOk Try.prog 55 c55 := fiOk_of Try.func55 (by kernel_rfl) (by kernel_rfl)
theorem cok56 : FiOk Try.prog 56 c56 := fiOk_of Try.func56 (by kernel_rfl) (by kernel_rfl)
theorem cok57 : FiOk Try.prog 57 c57 := fiOk_of Try.func57 (by kernel_rfl) (by kernel_rfl)
theorem cok58 : FiOk Try.prog 58 c58 := fiOk_of Try.func58 (by kernel_rfl) (by kernel_rfl)
theorem cok59 : FiOk Try.prog 59 c59 := fiOk_of Try.func59 (by kernel_rfl) (by kernel_rfl)
theorem cok60 : FiOk Try.prog 60 c60 := fiOk_of Try.func60 (by kernel_rfl) (by kernel_rfl)
theorem cok61 : FiOk Try.prog 61 c61 := fiOk_of Try.func61 (by kernel_rfl) (by kernel_rfl)
theorem cok62 : FiOk Try.prog 62 c62 := fiOk_of Try.func62 (by kernel_rfl) (by kernel_rfl)
theorem cok63 : FiOk Try.prog 63 c63 := fiOk_of Try.func63 (by kernel_rfl) (by kernel_rfl)
theorem cok64 : FiOk Try.prog 64 c64 := fiOk_of Try.func64 (by kernel_rfl) (by kernel_rfl)
theorem cok65 : FiOk Try.prog 65 c65 := fiOk_of Try.func65 (by kernel_rfl) (by kernel_rfl)
theorem cok66 : FiOk Try.prog 66 c66 := fiOk_of Try.func66 (by kernel_rfl) (by kernel_rfl)
theorem cok67 : FiOk Try.prog 67 c67 := fiOk_of Try.func67 (by kernel_rfl) (by kernel_rfl)
theorem cok68 : FiOk Try.prog 68 c68 := fiOk_of Try.func68 (by kernel_rfl) (by kernel_rfl)
theorem cok69 : FiOk Try.prog 69 c69 := fiOk_of Try.func69 (by kernel_rfl) (by kernel_rfl)
theorem cok70 : FiOk Try.prog 70 c70 := fiOk_of Try.func70 (by kernel_rfl) (by kernel_rfl)
theorem cok71 : FiOk Try.prog 71 c71 := fiOk_of Try.func71 (by kernel_rfl) (by kernel_rfl)
theorem cok72 : FiOk Try.prog 72 c72 := fiOk_of Try.func72 (by kernel_rfl) (by kernel_rfl)
theorem cok73 : FiOk Try.prog 73 c73 := fiOk_of Try.func73 (by kernel_rfl) (by kernel_rfl)
theorem cok74 : FiOk Try.prog 74 c74 := fiOk_of Try.func74 (by kernel_rfl) (by kernel_rfl)
theorem cok75 : FiOk Try.prog 75 c75 := fiOk_of Try.func75 (by kernel_rfl) (by kernel_rfl)
theorem cok76 : FiOk Try.prog 76 c76 := fiOk_of Try.func76 (by kernel_rfl) (by kernel_rfl)
theorem cok77 : FiOk Try.prog 77 c77 := fiOk_of Try.func77 (by kernel_rfl) (by kernel_rfl)
theorem cok78 : FiOk Try.prog 78 c78 := fiOk_of Try.func78 (by kernel_rfl) (by kernel_rfl)
theorem cok79 : FiOk Try.prog 79 c79 := fiOk_of Try.func79 (by kernel_rfl) (by kernel_rfl)
theorem cok80 : FiOk Try.prog 80 c80 := fiOk_of Try.func80 (by kernel_rfl) (by kernel_rfl)
theorem cok81 : FiOk Try.prog 81 c81 := fiOk_of Try.func81 (by kernel_rfl) (by kernel_rfl)
theorem cok82 : FiOk Try.prog 82 c82 := fiOk_of Try.func82 (by kernel_rfl) (by kernel_rfl)
theorem cok83 : FiOk Try.prog 83 c83 := fiOk_of Try.func83 (by kernel_rfl) (by kernel_rfl)
theorem cok84 : FiOk Try.prog 84 c84 := fiOk_of Try.func84 (by kernel_rfl) (by kernel_rfl)
theorem cok85 : FiOk Try.prog 85 c85 := fiOk_of Try.func85 (by kernel_rfl) (by kernel_rfl)
theorem cok86 : FiOk Try.prog 86 c86 := fiOk_of Try.func86 (by kernel_rfl) (by kernel_rfl)
theorem cok87 : FiOk Try.prog 87 c87 := fiOk_of Try.func87 (by kernel_rfl) (by kernel_rfl)
theorem cok88 : FiOk Try.prog 88 c88 := fiOk_of Try.func88 (by kernel_rfl) (by kernel_rfl)
theorem cok89 : FiOk Try.prog 89 c89 := fiOk_of Try.func89 (by kernel_rfl) (by kernel_rfl)
theorem cok90 : FiOk Try.prog 90 c90 := fiOk_of Try.func90 (by kernel_rfl) (by kernel_rfl)
theorem cok91 : FiOk Try.prog 91 c91 := fiOk_of Try.func91 (by kernel_rfl) (by kernel_rfl)
theorem cok92 : FiOk Try.prog 92 c92 := fiOk_of Try.func92 (by kernel_rfl) (by kernel_rfl)
theorem cok93 : FiOk Try.prog 93 c93 := fiOk_of Try.func93 (by kernel_rfl) (by kernel_rfl)
theorem cok94 : FiOk Try.prog 94 c94 := fiOk_of Try.func94 (by kernel_rfl) (by kernel_rfl)
theorem cok95 : FiOk Try.prog 95 c95 := fiOk_of Try.func95 (by kernel_rfl) (by kernel_rfl)
theorem cok96 : FiOk Try.prog 96 c96 := fiOk_of Try.func96 (by kernel_rfl) (by kernel_rfl)
theorem cok97 : FiOk Try.prog 97 c97 := fiOk_of Try.func97 (by kernel_rfl) (by kernel_rfl)
theorem cok98 : FiOk Try.prog 98 c98 := fiOk_of Try.func98 (by kernel_rfl) (by kernel_rfl)
theorem cok99 : FiOk Try.prog 99 c99 := fiOk_of Try.func99 (by kernel_rfl) (by kernel_rfl)
theorem cok100 : FiOk Try.prog 100 c100 := fiOk_of Try.func100 (by kernel_rfl) (by kernel_rfl)
theorem cok101 : FiOk Try.prog 101 c101 := fiOk_of Try.func101 (by kernel_rfl) (by kernel_rfl)
theorem cok102 : FiOk Try.prog 102 c102 := fiOk_of Try.func102 (by kernel_rfl) (by kernel_rfl)
theorem cok103 : FiOk Try.prog 103 c103 := fiOk_of Try.func103 (by kernel_rfl) (by kernel_rfl)
theorem cok104 : FiOk Try.prog 104 c104 := fiOk_of Try.func104 (by kernel_rfl) (by kernel_rfl)
theorem cok105 : FiOk Try.prog 105 c105 := fiOk_of Try.func105 (by kernel_rfl) (by kernel_rfl)
theorem cok106 : FiOk Try.prog 106 c106 := fiOk_of Try.func106 (by kernel_rfl) (by kernel_rfl)
theorem cok107 : FiOk Try.prog 107 c107 := fiOk_of Try.func107 (by kernel_rfl) (by kernel_rfl)
theorem cok108 : FiOk Try.prog 108 c108 := fiOk_of Try.func108 (by kernel_rfl) (by kernel_rfl)
theorem cok109 : FiOk Try.prog 109 c109 := fiOk_of Try.func109 (by kernel_rfl) (by kernel_rfl)
theorem cok110 : FiOk Try.prog 110 c110 := fiOk_of Try.func110 (by kernel_rfl) (by kernel_rfl)
theorem cok111 : FiOk Try.prog 111 c111 := fiOk_of Try.func111 (by kernel_rfl) (by kernel_rfl)
theorem cok112 : FiOk Try.prog 112 c112 := fiOk_of Try.func112 (by kernel_rfl) (by kernel_rfl)
theorem cok113 : FiOk Try.prog 113 c113 := fiOk_of Try.func113 (by kernel_rfl) (by kernel_rfl)
theorem cok114 : FiOk Try.prog 114 c114 := fiOk_of Try.func114 (by kernel_rfl) (by kernel_rfl)
theorem cok115 : FiOk Try.prog 115 c115 := fiOk_of Try.func115 (by kernel_rfl) (by kernel_rfl)
theorem cok116 : FiOk Try.prog 116 c116 := fiOk_of Try.func116 (by kernel_rfl) (by kernel_rfl)
theorem cok117 : FiOk Try.prog 117 c117 := fiOk_of Try.func117 (by kernel_rfl) (by kernel_rfl)
theorem cok118 : FiOk Try.prog 118 c118 := fiOk_of Try.func118 (by kernel_rfl) (by kernel_rfl)
theorem cok119 : FiOk Try.prog 119 c119 := fiOk_of Try.func119 (by kernel_rfl) (by kernel_rfl)
theorem cok120 : FiOk Try.prog 120 c120 := fiOk_of Try.func120 (by kernel_rfl) (by kernel_rfl)
theorem cok121 : FiOk Try.prog 121 c121 := fiOk_of Try.func121 (by kernel_rfl) (by kernel_rfl)
theorem cok122 : FiOk Try.prog 122 c122 := fiOk_of Try.func122 (by kernel_rfl) (by kernel_rfl)
theorem cok123 : FiOk Try.prog 123 c123 := fiOk_of Try.func123 (by kernel_rfl) (by kernel_rfl)
theorem cok124 : FiOk Try.prog 124 c124 := fiOk_of Try.func124 (by kernel_rfl) (by kernel_rfl)
theorem cok125 : FiOk Try.prog 125 c125 := fiOk_of Try.func125 (by kernel_rfl) (by kernel_rfl)
theorem cok126 : FiOk Try.prog 126 c126 := fiOk_of Try.func126 (by kernel_rfl) (by kernel_rfl)
theorem cok127 : FiOk Try.prog 127 c127 := fiOk_of Try.func127 (by kernel_rfl) (by kernel_rfl)
theorem cok128 : FiOk Try.prog 128 c128 := fiOk_of Try.func128 (by kernel_rfl) (by kernel_rfl)
theorem cok129 : FiOk Try.prog 129 c129 := fiOk_of Try.func129 (by kernel_rfl) (by kernel_rfl)
theorem cok130 : FiOk Try.prog 130 c130 := fiOk_of Try.func130 (by kernel_rfl) (by kernel_rfl)
theorem cok131 : FiOk Try.prog 131 c131 := fiOk_of Try.func131 (by kernel_rfl) (by kernel_rfl)
theorem cok132 : FiOk Try.prog 132 c132 := fiOk_of Try.func132 (by kernel_rfl) (by kernel_rfl)
theorem cok133 : FiOk Try.prog 133 c133 := fiOk_of Try.func133 (by kernel_rfl) (by kernel_rfl)
theorem cok134 : FiOk Try.prog 134 c134 := fiOk_of Try.func134 (by kernel_rfl) (by kernel_rfl)
theorem cok135 : FiOk Try.prog 135 c135 := fiOk_of Try.func135 (by kernel_rfl) (by kernel_rfl)
theorem cok136 : FiOk Try.prog 136 c136 := fiOk_of Try.func136 (by kernel_rfl) (by kernel_rfl)
theorem cok137 : FiOk Try.prog 137 c137 := fiOk_of Try.func137 (by kernel_rfl) (by kernel_rfl)
theorem cok138 : FiOk Try.prog 138 c138 := fiOk_of Try.func138 (by kernel_rfl) (by kernel_rfl)
theorem cok139 : FiOk Try.prog 139 c139 := fiOk_of Try.func139 (by kernel_rfl) (by kernel_rfl)
theorem cok140 : FiOk Try.prog 140 c140 := fiOk_of Try.func140 (by kernel_rfl) (by kernel_rfl)
theorem cok141 : FiOk Try.prog 141 c141 := fiOk_of Try.func141 (by kernel_rfl) (by kernel_rfl)
theorem cok142 : FiOk Try.prog 142 c142 := fiOk_of Try.func142 (by kernel_rfl) (by kernel_rfl)
theorem cok143 : FiOk Try.prog 143 c143 := fiOk_of Try.func143 (by kernel_rfl) (by kernel_rfl)
theorem cok144 : FiOk Try.prog 144 c144 := fiOk_of Try.func144 (by kernel_rfl) (by kernel_rfl)
theorem cok145 : FiOk Try.prog 145 c145 := fiOk_of Try.func145 (by kernel_rfl) (by kernel_rfl)
theorem cok146 : FiOk Try.prog 146 c146 := fiOk_of Try.func146 (by kernel_rfl) (by kernel_rfl)
theorem cok147 : FiOk Try.prog 147 c147 := fiOk_of Try.func147 (by kernel_rfl) (by kernel_rfl)
theorem cok148 : FiOk Try.prog 148 c148 := fiOk_of Try.func148 (by kernel_rfl) (by kernel_rfl)
theorem cok149 : FiOk Try.prog 149 c149 := fiOk_of Try.func149 (by kernel_rfl) (by kernel_rfl)
theorem cok150 : FiOk Try.prog 150 c150 := fiOk_of Try.func150 (by kernel_rfl) (by kernel_rfl)
theorem cok151 : FiOk Try.prog 151 c151 := fiOk_of Try.func151 (by kernel_rfl) (by kernel_rfl)
theorem cok152 : FiOk Try.prog 152 c152 := fiOk_of Try.func152 (by kernel_rfl) (by kernel_rfl)
theorem cok153 : FiOk Try.prog 153 c153 := fiOk_of Try.func153 (by kernel_rfl) (by kernel_rfl)
theorem cok154 : FiOk Try.prog 154 c154 := fiOk_of Try.func154 (by kernel_rfl) (by kernel_rfl)
theorem cok155 : FiOk Try.prog 155 c155 := fiOk_of Try.func155 (by kernel_rfl) (by kernel_rfl)
theorem cok156 : FiOk Try.prog 156 c156 := fiOk_of Try.func156 (by kernel_rfl) (by kernel_rfl)
theorem cok157 : FiOk Try.prog 157 c157 := fiOk_of Try.func157 (by kernel_rfl) (by kernel_rfl)
theorem cok158 : FiOk Try.prog 158 c158 := fiOk_of Try.func158 (by kernel_rfl) (by kernel_rfl)
theorem cok159 : FiOk Try.prog 159 c159 := fiOk_of Try.func159 (by kernel_rfl) (by kernel_rfl)
theorem cok160 : FiOk Try.prog 160 c160 := fiOk_of Try.func160 (by kernel_rfl) (by kernel_rfl)
theorem cok161 : FiOk Try.prog 161 c161 := fiOk_of Try.func161 (by kernel_rfl) (by kernel_rfl)
theorem tget_ok (f : Nat) (i : TI) (h : tget f = some i) : TiOk Try.prog f i :=
  let Q := TiOk Try.prog
  ite_q (ite_q (ite_q (ite_q (ite_q (leaf_q (Q := Q) tok3) (leaf_q (Q := Q) tok4)) (ite_q (leaf_q (Q := Q) tok5) (leaf_q (Q := Q) tok9))) (ite_q (ite_q (leaf_q (Q := Q) tok22) (leaf_q (Q := Q) tok24)) (ite_q (leaf_q (Q := Q) tok26) (ite_q (leaf_q (Q := Q) tok27) (leaf_q (Q := Q) tok28))))) (ite_q (ite_q (ite_q (leaf_q (Q := Q) tok29) (leaf_q (Q := Q) tok35)) (ite_q (leaf_q (Q := Q) tok56) (leaf_q (Q := Q) tok60))) (ite_q (ite_q (leaf_q (Q := Q) tok63) (leaf_q (Q := Q) tok64)) (ite_q (leaf_q (Q := Q) tok67) (ite_q (leaf_q (Q := Q) tok69) (leaf_q (Q := Q) tok76)))))) (ite_q (ite_q (ite_q (ite_q (leaf_q (Q := Q) tok82) (leaf_q (Q := Q) tok87)) (ite_q (leaf_q (Q := Q) tok98) (leaf_q (Q := Q) tok102))) (ite_q (ite_q (leaf_q (Q := Q) tok104) (leaf_q (Q := Q) tok107)) (ite_q (leaf_q (Q := Q) tok110) (ite_q (leaf_q (Q := Q) tok114) (leaf_q (Q := Q) tok116))))) (ite_q (ite_q (ite_q (leaf_q (Q := Q) tok118) (leaf_q (Q := Q) tok120)) (ite_q (leaf_q (Q := Q) tok121) (leaf_q (Q := Q) tok126))) (ite_q (ite_q (leaf_q (Q := Q) tok135) (leaf_q (Q := Q) tok143)) (ite_q (leaf_q (Q := Q) tok145) (ite_q (leaf_q (Q := Q) tok150) (leaf_q (Q := Q) tok154)))))) h
theorem cget_ok (f : Nat) (i : FI) (h : cget f = some i) : FiOk Try.prog f i :=
  let Q := FiOk Try.prog
  ite_q (ite_q (ite_q (ite_q (ite_q (ite_q (ite_q (leaf_q (Q := Q) cok3) (leaf_q (Q := Q) cok4)) (ite_q (leaf_q (Q := Q) cok5) (leaf_q (Q := Q) cok6))) (ite_q (ite_q (leaf_q (Q := Q) cok7) (leaf_q (Q := Q) cok8)) (ite_q (leaf_q (Q := Q) cok9) (ite_q (leaf_q (Q := Q) cok10) (leaf_q (Q := Q) cok11))))) (ite_q (ite_q (ite_q (leaf_q (Q := Q) cok12) (leaf_q (Q := Q) cok13)) (ite_q (leaf_q (Q := Q) cok14) (ite_q (leaf_q (Q := Q) cok15) (leaf_q (Q := Q) cok16)))) (ite_q (ite_q (leaf_q (Q := Q) cok17) (leaf_q (Q := Q) cok18)) (ite_q (leaf_q (Q := Q) cok19) (ite_q (leaf_q (Q := Q) cok20) (leaf_q (Q := Q) cok21)))))) (ite_q (ite_q (ite_q (ite_q (leaf_q (Q := Q) cok22) (leaf_q (Q := Q) cok23)) (ite_q (leaf_q (Q := Q) cok24) (ite_q (leaf_q (Q := Q) cok25) (leaf_q (Q := Q) cok26)))) (ite_q (ite_q (leaf_q (Q := Q) cok27) (leaf_q (Q := Q) cok28)) (ite_q (leaf_q (Q := Q) cok29) (ite_q (leaf_q (Q := Q) cok30) (leaf_q (Q := Q) cok31))))) (ite_q (ite_q (ite_q (leaf_q (Q := Q) cok32) (leaf_q (Q := Q) cok33)) (ite_q (leaf_q (Q := Q) cok34) (ite_q (leaf_q (Q := Q) cok35) (leaf_q (Q := Q) cok36)))) (ite_q (ite_q (leaf_q (Q := Q) cok37) (leaf_q (Q := Q) cok38)) (ite_q (leaf_q (Q := Q) cok39) (ite_q (leaf_q (Q := Q) cok40) (leaf_q (Q := Q) cok41))))))) (ite_q (ite_q (ite_q (ite_q (ite_q (leaf_q (Q := Q) cok42) (leaf_q (Q := Q) cok43)) (ite_q (leaf_q (Q := Q) cok44) (ite_q (leaf_q (Q := Q) cok45) (leaf_q (Q := Q) cok46)))) (ite_q (ite_q (leaf_q (Q := Q) cok47) (leaf_q (Q := Q) cok48)) (ite_q (leaf_q (Q := Q) cok49) (ite_q (leaf_q (Q := Q) cok50) (leaf_q (Q := Q) cok51))))) (ite_q (ite_q (ite_q (leaf_q (Q := Q) cok52) (leaf_q (Q := Q) cok53)) (ite_q (leaf_q (Q := Q) cok54) (ite_q (leaf_q (Q := Q) cok55) (leaf_q (Q := Q) cok56)))) (ite_q (ite_q (leaf_q (Q := Q) cok57) (leaf_q (Q := Q) cok58)) (ite_q (leaf_q (Q := Q) cok59) (ite_q (leaf_q (Q := Q) cok60) (leaf_q (Q := Q) cok61)))))) (ite_q (ite_q (ite_q (ite_q (leaf_q (Q := Q) cok62) (leaf_q (Q := Q) cok63)) (ite_q (leaf_q (Q := Q) cok64) (ite_q (leaf_q (Q := Q) cok65) (leaf_q (Q := Q) cok66)))) (ite_q (ite_q (leaf_q (Q := Q) cok67) (leaf_q (Q := Q) cok68)) (ite_q (leaf_q (Q := Q) cok69) (ite_q (leaf_q (Q := Q) cok70) (leaf_q (Q := Q) cok71))))) (ite_q (ite_q (ite_q (leaf_q (Q := Q) cok72) (leaf_q (Q := Q) cok73)) (ite_q (leaf_q (Q := Q) cok74) (ite_q (leaf_q (Q := Q) cok75) (leaf_q (Q := Q) cok76)))) (ite_q (ite_q (leaf_q (Q := Q) cok77) (leaf_q (Q := Q) cok78)) (ite_q (leaf_q (Q := Q) cok79) (ite_q (leaf_q (Q := Q) cok80) (leaf_q (Q := Q) cok81)))))))) (ite_q (ite_q (ite_q (ite_q (ite_q (ite_q (leaf_q (Q := Q) cok82) (leaf_q (Q := Q) cok83)) (ite_q (leaf_q (Q := Q) cok84) (ite_q (leaf_q (Q := Q) cok85) (leaf_q (Q := Q) cok86)))) (ite_q (ite_q (leaf_q (Q := Q) cok87) (leaf_q (Q := Q) cok88)) (ite_q (leaf_q (Q := Q) cok89) (ite_q (leaf_q (Q := Q) cok90) (leaf_q (Q := Q) cok91))))) (ite_q (ite_q (ite_q (leaf_q (Q := Q) cok92) (leaf_q (Q := Q) cok93)) (ite_q (leaf_q (Q := Q) cok94) (ite_q (leaf_q (Q := Q) cok95) (leaf_q (Q := Q) cok96)))) (ite_q (ite_q (leaf_q (Q := Q) cok97) (leaf_q (Q := Q) cok98)) (ite_q (leaf_q (Q := Q) cok99) (ite_q (leaf_q (Q := Q) cok100) (leaf_q (Q := Q) cok101)))))) (ite_q (ite_q (ite_q (ite_q (leaf_q (Q := Q) cok102) (leaf_q (Q := Q) cok103)) (ite_q (leaf_q (Q := Q) cok104) (ite_q (leaf_q (Q := Q) cok105) (leaf_q (Q := Q) cok106)))) (ite_q (ite_q (leaf_q (Q := Q) cok107) (leaf_q (Q := Q) cok108)) (ite_q (leaf_q (Q := Q) cok109) (ite_q (leaf_q (Q := Q) cok110) (leaf_q (Q := Q) cok111))))) (ite_q (ite_q (ite_q (leaf_q (Q := Q) cok112) (leaf_q (Q := Q) cok113)) (ite_q (leaf_q (Q := Q) cok114) (ite_q (leaf_q (Q := Q) cok115) (leaf_q (Q := Q) cok116)))) (ite_q (ite_q (leaf_q (Q := Q) cok117) (leaf_q (Q := Q) cok118)) (ite_q (leaf_q (Q := Q) cok119) (ite_q (leaf_q (Q := Q) cok120) (leaf_q (Q := Q) cok121))))))) (ite_q (ite_q (ite_q (ite_q (ite_q (leaf_q (Q := Q) cok122) (leaf_q (Q := Q) cok123)) (ite_q (leaf_q (Q := Q) cok124) (ite_q (leaf_q (Q := Q) cok125) (leaf_q (Q := Q) cok126)))) (ite_q (ite_q (leaf_q (Q := Q) cok127) (leaf_q (Q := Q) cok128)) (ite_q (leaf_q (Q := Q) cok129) (ite_q (leaf_q (Q := Q) cok130) (leaf_q (Q := Q) cok131))))) (ite_q (ite_q (ite_q (leaf_q (Q := Q) cok132) (leaf_q (Q := Q) cok133)) (ite_q (leaf_q (Q := Q) cok134) (ite_q (leaf_q (Q := Q) cok135) (leaf_q (Q := Q) cok136)))) (ite_q (ite_q (leaf_q (Q := Q) cok137) (leaf_q (Q := Q) cok138)) (ite_q (leaf_q (Q := Q) cok139) (ite_q (leaf_q (Q := Q) cok140) (leaf_q (Q := Q) cok141)))))) (ite_q (ite_q (ite_q (ite_q (leaf_q (Q := Q) cok142) (leaf_q (Q := Q) cok143)) (ite_q (leaf_q (Q := Q) cok144) (ite_q (leaf_q (Q := Q) cok145) (leaf_q (Q := Q) cok146)))) (ite_q (ite_q (leaf_q (Q := Q) cok147) (leaf_q (Q := Q) cok148)) (ite_q (leaf_q (Q := Q) cok149) (ite_q (leaf_q (Q := Q) cok150) (leaf_q (Q := Q) cok151))))) (ite_q (ite_q (ite_q (leaf_q (Q := Q) cok152) (leaf_q (Q := Q) cok153)) (ite_q (leaf_q (Q := Q) cok154) (ite_q (leaf_q (Q := Q) cok155) (leaf_q (Q := Q) cok156)))) (ite_q (ite_q (leaf_q (Q := Q) cok157) (leaf_q (Q := Q) cok158)) (ite_q (leaf_q (Q := Q) cok159) (ite_q (leaf_q (Q := Q) cok160) (leaf_q (Q := Q) cok161)))))))) h
noncomputable def ctx : Ctx := ⟨tget, cget, fun _ => none, fun _ => none, fun t => Nat.beq t 69 || Nat.beq t 60⟩
theorem q69 : Try.prog.stoodInHeld 69 = false ∧ Try.prog.eqGuardType Try.prog.depth 69 = false ∧ (Try.prog.fieldsOf 69).toList.all (fun f => f.name != "_") = true := ⟨by kernel_rfl, by kernel_rfl, by kernel_rfl⟩
theorem q60 : Try.prog.stoodInHeld 60 = false ∧ Try.prog.eqGuardType Try.prog.depth 60 = false ∧ (Try.prog.fieldsOf 60).toList.all (fun f => f.name != "_") = true := ⟨by kernel_rfl, by kernel_rfl, by kernel_rfl⟩
theorem mixed : Try.prog.follows .mixedOrders = true := by kernel_rfl
theorem ctx_ok : Ctx.Ok Try.prog ctx where
  ty := fun t i h => (tget_ok t i h).ok
  fn := fun f i h => cget_ok f i h
  same := fun f h v w => by cases h
  noZero := fun f e h n w h0 hle => by cases h
  mixed := mixed
  eqs := fun t h => by
    have h : (Nat.beq t 69 || Nat.beq t 60) = true := h
    rcases (Bool.or_eq_true _ _).mp h with h | h
    · rw [Nat.eq_of_beq_eq_true h]; exact q69
    · rw [Nat.eq_of_beq_eq_true h]; exact q60
  sum := fun _ _ _ _ _ _ h => by cases h
end Go.PI
