/- Own work of the verifier: CoCtx. -/
import Derived.Test.YtdflpkkgjppmgaaGreatChAJ
import Derived.Test.YtdflpkkgjppmgaaGreatProg
import Derived.KernelRfl
set_option linter.all false
set_option exponentiation.threshold 3000
set_option linter.deprecated false
open Go.Proofs
namespace Go.PI
def t3 : TI := { desc := Go.TypeDesc.int (Go.IntKind.i64), size := 1, bytes := 8, zero := .int .i64 (0) }
def t4 : TI := { desc := Go.TypeDesc.bool, size := 1, bytes := 1, zero := .bool false }
def t5 : TI := { desc := Go.TypeDesc.int (Go.IntKind.u8), size := 1, bytes := 1, zero := .int .u8 (0) }
def t9 : TI := { desc := Go.TypeDesc.string, size := 1, bytes := 16, zero := .str .empty }
def t22 : TI := { desc := Go.TypeDesc.slice 3, size := 1, bytes := 24, zero := .nils }
def t23 : TI := { desc := Go.TypeDesc.func #[22] #[4] false, size := 1, bytes := 8, zero := .nilf }
def t25 : TI := { desc := Go.TypeDesc.slice 22, size := 1, bytes := 24, zero := .nils }
def t26 : TI := { desc := Go.TypeDesc.int (Go.IntKind.i64), size := 1, bytes := 8, zero := .int .i64 (0) }
def t31 : TI := { desc := Go.TypeDesc.slice 42, size := 1, bytes := 24, zero := .nils }
def t34 : TI := { desc := Go.TypeDesc.func #[22] #[3] false, size := 1, bytes := 8, zero := .nilf }
def t36 : TI := { desc := Go.TypeDesc.func #[22] #[25] false, size := 1, bytes := 8, zero := .nilf }
def t37 : TI := { desc := Go.TypeDesc.func #[22, 22] #[4] false, size := 1, bytes := 8, zero := .nilf }
def t38 : TI := { desc := Go.TypeDesc.func #[22] #[22] false, size := 1, bytes := 8, zero := .nilf }
def t42 : TI := { desc := Go.TypeDesc.struct #[{ name := "Left", type := 22, offset := 0, embedded := false, tag := "", pkgPath := "", byteOffset := 0 }, { name := "Height", type := 3, offset := 1, embedded := false, tag := "", pkgPath := "", byteOffset := 24 }], size := 2, bytes := 32, zero := .agg [.nils, .int .i64 (0)] }
def t45 : TI := { desc := Go.TypeDesc.struct #[{ name := "Num", type := 22, offset := 0, embedded := false, tag := "", pkgPath := "", byteOffset := 0 }, { name := "Den", type := 22, offset := 1, embedded := false, tag := "", pkgPath := "", byteOffset := 24 }], size := 2, bytes := 48, zero := .agg [.nils, .nils] }
def t49 : TI := { desc := Go.TypeDesc.func #[22] #[45] false, size := 1, bytes := 8, zero := .nilf }
def t63 : TI := { desc := Go.TypeDesc.func #[3] #[4] false, size := 1, bytes := 8, zero := .nilf }
def t70 : TI := { desc := Go.TypeDesc.int (Go.IntKind.u64), size := 1, bytes := 8, zero := .int .u64 (0) }
def t71 : TI := { desc := Go.TypeDesc.int (Go.IntKind.u64), size := 1, bytes := 8, zero := .int .u64 (0) }
def t80 : TI := { desc := Go.TypeDesc.slice 4, size := 1, bytes := 24, zero := .nils }
def t90 : TI := { desc := Go.TypeDesc.func #[71, 3] #[4] false, size := 1, bytes := 8, zero := .nilf }
def t102 : TI := { desc := Go.TypeDesc.func #[22, 22] #[] false, size := 1, bytes := 8, zero := .nilf }
def t113 : TI := { desc := Go.TypeDesc.map 71 3, size := 1, bytes := 8, zero := .nilm }
def t114 : TI := { desc := Go.TypeDesc.func #[71, 22] #[3] false, size := 1, bytes := 8, zero := .nilf }
def t122 : TI := { desc := Go.TypeDesc.int (Go.IntKind.u64), size := 1, bytes := 8, zero := .int .u64 (0) }
def t125 : TI := { desc := Go.TypeDesc.map 71 22, size := 1, bytes := 8, zero := .nilm }
def t126 : TI := { desc := Go.TypeDesc.func #[22, 22, 22] #[4] false, size := 1, bytes := 8, zero := .nilf }
def t132 : TI := { desc := Go.TypeDesc.int (Go.IntKind.i64), size := 1, bytes := 8, zero := .int .i64 (0) }
def t140 : TI := { desc := Go.TypeDesc.int (Go.IntKind.u32), size := 1, bytes := 4, zero := .int .u32 (0) }
def t149 : TI := { desc := Go.TypeDesc.int (Go.IntKind.u64), size := 1, bytes := 8, zero := .int .u64 (0) }
def t153 : TI := { desc := Go.TypeDesc.pointer 3, size := 1, bytes := 8, zero := .nilp }
def tget (f : Nat) : Option TI :=
  if f < 49 then
   if f < 26 then
    if f < 9 then
     if f < 4 then
      if f = 3 then some t3 else none
     else
      if f < 5 then
       if f = 4 then some t4 else none
      else
       if f = 5 then some t5 else none
    else
     if f < 23 then
      if f < 22 then
       if f = 9 then some t9 else none
      else
       if f = 22 then some t22 else none
     else
      if f < 25 then
       if f = 23 then some t23 else none
      else
       if f = 25 then some t25 else none
   else
    if f < 37 then
     if f < 34 then
      if f < 31 then
       if f = 26 then some t26 else none
      else
       if f = 31 then some t31 else none
     else
      if f < 36 then
       if f = 34 then some t34 else none
      else
       if f = 36 then some t36 else none
    else
     if f < 42 then
      if f < 38 then
       if f = 37 then some t37 else none
      else
       if f = 38 then some t38 else none
     else
      if f < 45 then
       if f = 42 then some t42 else none
      else
       if f = 45 then some t45 else none
  else
   if f < 114 then
    if f < 80 then
     if f < 70 then
      if f < 63 then
       if f = 49 then some t49 else none
      else
       if f = 63 then some t63 else none
     else
      if f < 71 then
       if f = 70 then some t70 else none
      else
       if f = 71 then some t71 else none
    else
     if f < 102 then
      if f < 90 then
       if f = 80 then some t80 else none
      else
       if f = 90 then some t90 else none
     else
      if f < 113 then
       if f = 102 then some t102 else none
      else
       if f = 113 then some t113 else none
   else
    if f < 132 then
     if f < 125 then
      if f < 122 then
       if f = 114 then some t114 else none
      else
       if f = 122 then some t122 else none
     else
      if f < 126 then
       if f = 125 then some t125 else none
      else
       if f = 126 then some t126 else none
    else
     if f < 149 then
      if f < 140 then
       if f = 132 then some t132 else none
      else
       if f = 140 then some t140 else none
     else
      if f < 153 then
       if f = 149 then some t149 else none
      else
       if f = 153 then some t153 else none
noncomputable def c3 : FI := fiOf Tryz.f3
noncomputable def c4 : FI := fiOf Tryz.f4
noncomputable def c5 : FI := fiOf Tryz.f5
noncomputable def c6 : FI := fiOf Tryz.f6
noncomputable def c7 : FI := fiOf Tryz.f7
noncomputable def c8 : FI := fiOf Tryz.f8
noncomputable def c9 : FI := fiOf Tryz.f9
noncomputable def c10 : FI := fiOf Tryz.f10
noncomputable def c11 : FI := fiOf Tryz.f11
noncomputable def c12 : FI := fiOf Tryz.f12
noncomputable def c13 : FI := fiOf Tryz.f13
noncomputable def c14 : FI := fiOf Tryz.f14
noncomputable def c15 : FI := fiOf Tryz.f15
noncomputable def c16 : FI := fiOf Tryz.f16
noncomputable def c17 : FI := fiOf Tryz.f17
noncomputable def c18 : FI := fiOf Tryz.f18
noncomputable def c19 : FI := fiOf Tryz.f19
noncomputable def c20 : FI := fiOf Tryz.f20
noncomputable def c21 : FI := fiOf Tryz.f21
noncomputable def c22 : FI := fiOf Tryz.f22
noncomputable def c23 : FI := fiOf Tryz.f23
noncomputable def c24 : FI := fiOf Tryz.f24
noncomputable def c25 : FI := fiOf Tryz.f25
noncomputable def c26 : FI := fiOf Tryz.f26
noncomputable def c27 : FI := fiOf Tryz.f27
noncomputable def c28 : FI := fiOf Tryz.f28
noncomputable def c29 : FI := fiOf Tryz.f29
noncomputable def c30 : FI := fiOf Tryz.f30
noncomputable def c31 : FI := fiOf Tryz.f31
noncomputable def c32 : FI := fiOf Tryz.f32
noncomputable def c33 : FI := fiOf Tryz.f33
noncomputable def c34 : FI := fiOf Tryz.f34
noncomputable def c35 : FI := fiOf Tryz.f35
noncomputable def c36 : FI := fiOf Tryz.f36
noncomputable def c37 : FI := fiOf Tryz.f37
noncomputable def c38 : FI := fiOf Tryz.f38
noncomputable def c39 : FI := fiOf Tryz.f39
noncomputable def c40 : FI := fiOf Tryz.f40
noncomputable def c41 : FI := fiOf Tryz.f41
noncomputable def c42 : FI := fiOf Tryz.f42
noncomputable def c43 : FI := fiOf Tryz.f43
noncomputable def c44 : FI := fiOf Tryz.f44
noncomputable def c45 : FI := fiOf Tryz.f45
noncomputable def c46 : FI := fiOf Tryz.f46
noncomputable def c47 : FI := fiOf Tryz.f47
noncomputable def c48 : FI := fiOf Tryz.f48
noncomputable def c49 : FI := fiOf Tryz.f49
noncomputable def c50 : FI := fiOf Tryz.f50
noncomputable def c51 : FI := fiOf Tryz.f51
noncomputable def c52 : FI := fiOf Tryz.f52
noncomputable def c53 : FI := fiOf Tryz.f53
noncomputable def c54 : FI := fiOf Tryz.f54
noncomputable def c55 : FI := fiOf Tryz.f55
noncomputable def c56 : FI := fiOf Tryz.f56
noncomputable def c57 : FI := fiOf Tryz.f57
noncomputable def c58 : FI := fiOf Tryz.f58
noncomputable def c59 : FI := fiOf Tryz.f59
noncomputable def c60 : FI := fiOf Tryz.f60
noncomputable def c61 : FI := fiOf Tryz.f61
noncomputable def c62 : FI := fiOf Tryz.f62
noncomputable def c63 : FI := fiOf Tryz.f63
noncomputable def c64 : FI := fiOf Tryz.f64
noncomputable def c65 : FI := fiOf Tryz.f65
noncomputable def c66 : FI := fiOf Tryz.f66
noncomputable def c67 : FI := fiOf Tryz.f67
noncomputable def c68 : FI := fiOf Tryz.f68
noncomputable def c69 : FI := fiOf Tryz.f69
noncomputable def c70 : FI := fiOf Tryz.f70
noncomputable def c71 : FI := fiOf Tryz.f71
noncomputable def c72 : FI := fiOf Tryz.f72
noncomputable def c73 : FI := fiOf Tryz.f73
noncomputable def c74 : FI := fiOf Tryz.f74
noncomputable def c75 : FI := fiOf Tryz.f75
noncomputable def c76 : FI := fiOf Tryz.f76
noncomputable def c77 : FI := fiOf Tryz.f77
noncomputable def c78 : FI := fiOf Tryz.f78
noncomputable def c79 : FI := fiOf Tryz.f79
noncomputable def c80 : FI := fiOf Tryz.f80
noncomputable def c81 : FI := fiOf Tryz.f81
noncomputable def c82 : FI := fiOf Tryz.f82
noncomputable def c83 : FI := fiOf Tryz.f83
noncomputable def c84 : FI := fiOf Tryz.f84
noncomputable def c85 : FI := fiOf Tryz.f85
noncomputable def c86 : FI := fiOf Tryz.f86
noncomputable def c87 : FI := fiOf Tryz.f87
noncomputable def c88 : FI := fiOf Tryz.f88
noncomputable def c89 : FI := fiOf Tryz.f89
noncomputable def c90 : FI := fiOf Tryz.f90
noncomputable def c91 : FI := fiOf Tryz.f91
noncomputable def c92 : FI := fiOf Tryz.f92
noncomputable def c93 : FI := fiOf Tryz.f93
noncomputable def c94 : FI := fiOf Tryz.f94
noncomputable def c95 : FI := fiOf Tryz.f95
noncomputable def c96 : FI := fiOf Tryz.f96
noncomputable def c97 : FI := fiOf Tryz.f97
noncomputable def c98 : FI := fiOf Tryz.f98
noncomputable def c99 : FI := fiOf Tryz.f99
noncomputable def c100 : FI := fiOf Tryz.f100
noncomputable def c101 : FI := fiOf Tryz.f101
noncomputable def c102 : FI := fiOf Tryz.f102
noncomputable def c103 : FI := fiOf Tryz.f103
noncomputable def c104 : FI := fiOf Tryz.f104
noncomputable def c105 : FI := fiOf Tryz.f105
noncomputable def c106 : FI := fiOf Tryz.f106
noncomputable def c107 : FI := fiOf Tryz.f107
noncomputable def c108 : FI := fiOf Tryz.f108
noncomputable def c109 : FI := fiOf Tryz.f109
noncomputable def c110 : FI := fiOf Tryz.f110
noncomputable def c111 : FI := fiOf Tryz.f111
noncomputable def c112 : FI := fiOf Tryz.f112
noncomputable def c113 : FI := fiOf Tryz.f113
noncomputable def c114 : FI := fiOf Tryz.f114
noncomputable def c115 : FI := fiOf Tryz.f115
noncomputable def c116 : FI := fiOf Tryz.f116
noncomputable def c117 : FI := fiOf Tryz.f117
noncomputable def c118 : FI := fiOf Tryz.f118
noncomputable def c119 : FI := fiOf Tryz.f119
noncomputable def c120 : FI := fiOf Tryz.f120
noncomputable def c121 : FI := fiOf Tryz.f121
noncomputable def c122 : FI := fiOf Tryz.f122
noncomputable def c123 : FI := fiOf Tryz.f123
noncomputable def c124 : FI := fiOf Tryz.f124
noncomputable def c125 : FI := fiOf Tryz.f125
noncomputable def c126 : FI := fiOf Tryz.f126
noncomputable def c127 : FI := fiOf Tryz.f127
noncomputable def c128 : FI := fiOf Tryz.f128
noncomputable def c129 : FI := fiOf Tryz.f129
noncomputable def c130 : FI := fiOf Tryz.f130
noncomputable def c131 : FI := fiOf Tryz.f131
noncomputable def c132 : FI := fiOf Tryz.f132
noncomputable def c133 : FI := fiOf Tryz.f133
noncomputable def c134 : FI := fiOf Tryz.f134
noncomputable def c135 : FI := fiOf Tryz.f135
noncomputable def c136 : FI := fiOf Tryz.f136
noncomputable def c137 : FI := fiOf Tryz.f137
noncomputable def c138 : FI := fiOf Tryz.f138
noncomputable def c139 : FI := fiOf Tryz.f139
noncomputable def c140 : FI := fiOf Tryz.f140
noncomputable def c141 : FI := fiOf Tryz.f141
noncomputable def c142 : FI := fiOf Tryz.f142
noncomputable def c143 : FI := fiOf Tryz.f143
noncomputable def c144 : FI := fiOf Tryz.f144
noncomputable def c145 : FI := fiOf Tryz.f145
noncomputable def c146 : FI := fiOf Tryz.f146
noncomputable def c147 : FI := fiOf Tryz.f147
noncomputable def c148 : FI := fiOf Tryz.f148
noncomputable def c149 : FI := fiOf Tryz.f149
noncomputable def c150 : FI := fiOf Tryz.f150
noncomputable def c151 : FI := fiOf Tryz.f151
noncomputable def c152 : FI := fiOf Tryz.f152
noncomputable def c153 : FI := fiOf Tryz.f153
noncomputable def c154 : FI := fiOf Tryz.f154
noncomputable def c155 : FI := fiOf Tryz.f155
noncomputable def c156 : FI := fiOf Tryz.f156
noncomputable def c157 : FI := fiOf Tryz.f157
noncomputable def c158 : FI := fiOf Tryz.f158
noncomputable def c159 : FI := fiOf Tryz.f159
noncomputable def c160 : FI := fiOf Tryz.f160
noncomputable def c161 : FI := fiOf Tryz.f161
noncomputable def c162 : FI := fiOf Tryz.f162
noncomputable def c163 : FI := fiOf Tryz.f163
noncomputable def c164 : FI := fiOf Tryz.f164
noncomputable def c165 : FI := fiOf Tryz.f165
noncomputable def c166 : FI := fiOf Tryz.f166
noncomputable def c167 : FI := fiOf Tryz.f167
noncomputable def c168 : FI := fiOf Tryz.f168
noncomputable def c169 : FI := fiOf Tryz.f169
noncomputable def c170 : FI := fiOf Tryz.f170
noncomputable def c171 : FI := fiOf Tryz.f171
noncomputable def c172 : FI := fiOf Tryz.f172
noncomputable def c173 : FI := fiOf Tryz.f173
noncomputable def c174 : FI := fiOf Tryz.f174
noncomputable def c175 : FI := fiOf Tryz.f175
noncomputable def c176 : FI := fiOf Tryz.f176
noncomputable def c177 : FI := fiOf Tryz.f177
noncomputable def c178 : FI := fiOf Tryz.f178
noncomputable def c179 : FI := fiOf Tryz.f179
noncomputable def c180 : FI := fiOf Tryz.f180
noncomputable def c181 : FI := fiOf Tryz.f181
noncomputable def c182 : FI := fiOf Tryz.f182
noncomputable def c183 : FI := fiOf Tryz.f183
noncomputable def c184 : FI := fiOf Tryz.f184
noncomputable def c185 : FI := fiOf Tryz.f185
noncomputable def c186 : FI := fiOf Tryz.f186
noncomputable def c187 : FI := fiOf Tryz.f187
noncomputable def c188 : FI := fiOf Tryz.f188
noncomputable def c189 : FI := fiOf Tryz.f189
noncomputable def c190 : FI := fiOf Tryz.f190
noncomputable def c191 : FI := fiOf Tryz.f191
noncomputable def c192 : FI := fiOf Tryz.f192
noncomputable def c193 : FI := fiOf Tryz.f193
noncomputable def c194 : FI := fiOf Tryz.f194
noncomputable def c195 : FI := fiOf Tryz.f195
noncomputable def c196 : FI := fiOf Tryz.f196
noncomputable def c197 : FI := fiOf Tryz.f197
noncomputable def c198 : FI := fiOf Tryz.f198
noncomputable def c199 : FI := fiOf Tryz.f199
noncomputable def c200 : FI := fiOf Tryz.f200
noncomputable def c201 : FI := fiOf Tryz.f201
noncomputable def c202 : FI := fiOf Tryz.f202
noncomputable def c203 : FI := fiOf Tryz.f203
noncomputable def c204 : FI := fiOf Tryz.f204
noncomputable def c205 : FI := fiOf Tryz.f205
noncomputable def c206 : FI := fiOf Tryz.f206
noncomputable def c207 : FI := fiOf Tryz.f207
noncomputable def c208 : FI := fiOf Tryz.f208
noncomputable def c209 : FI := fiOf Tryz.f209
noncomputable def c210 : FI := fiOf Tryz.f210
noncomputable def c211 : FI := fiOf Tryz.f211
noncomputable def cget (f : Nat) : Option FI :=
  if f < 107 then
   if f < 55 then
    if f < 29 then
     if f < 16 then
      if f < 9 then
       if f < 6 then
        if f < 4 then
         if f = 3 then some c3 else none
        else
         if f < 5 then
          if f = 4 then some c4 else none
         else
          if f = 5 then some c5 else none
       else
        if f < 7 then
         if f = 6 then some c6 else none
        else
         if f < 8 then
          if f = 7 then some c7 else none
         else
          if f = 8 then some c8 else none
      else
       if f < 12 then
        if f < 10 then
         if f = 9 then some c9 else none
        else
         if f < 11 then
          if f = 10 then some c10 else none
         else
          if f = 11 then some c11 else none
       else
        if f < 14 then
         if f < 13 then
          if f = 12 then some c12 else none
         else
          if f = 13 then some c13 else none
        else
         if f < 15 then
          if f = 14 then some c14 else none
         else
          if f = 15 then some c15 else none
     else
      if f < 22 then
       if f < 19 then
        if f < 17 then
         if f = 16 then some c16 else none
        else
         if f < 18 then
          if f = 17 then some c17 else none
         else
          if f = 18 then some c18 else none
       else
        if f < 20 then
         if f = 19 then some c19 else none
        else
         if f < 21 then
          if f = 20 then some c20 else none
         else
          if f = 21 then some c21 else none
      else
       if f < 25 then
        if f < 23 then
         if f = 22 then some c22 else none
        else
         if f < 24 then
          if f = 23 then some c23 else none
         else
          if f = 24 then some c24 else none
       else
        if f < 27 then
         if f < 26 then
          if f = 25 then some c25 else none
         else
          if f = 26 then some c26 else none
        else
         if f < 28 then
          if f = 27 then some c27 else none
         else
          if f = 28 then some c28 else none
    else
     if f < 42 then
      if f < 35 then
       if f < 32 then
        if f < 30 then
         if f = 29 then some c29 else none
        else
         if f < 31 then
          if f = 30 then some c30 else none
         else
          if f = 31 then some c31 else none
       else
        if f < 33 then
         if f = 32 then some c32 else none
        else
         if f < 34 then
          if f = 33 then some c33 else none
         else
          if f = 34 then some c34 else none
      else
       if f < 38 then
        if f < 36 then
         if f = 35 then some c35 else none
        else
         if f < 37 then
          if f = 36 then some c36 else none
         else
          if f = 37 then some c37 else none
       else
        if f < 40 then
         if f < 39 then
          if f = 38 then some c38 else none
         else
          if f = 39 then some c39 else none
        else
         if f < 41 then
          if f = 40 then some c40 else none
         else
          if f = 41 then some c41 else none
     else
      if f < 48 then
       if f < 45 then
        if f < 43 then
         if f = 42 then some c42 else none
        else
         if f < 44 then
          if f = 43 then some c43 else none
         else
          if f = 44 then some c44 else none
       else
        if f < 46 then
         if f = 45 then some c45 else none
        else
         if f < 47 then
          if f = 46 then some c46 else none
         else
          if f = 47 then some c47 else none
      else
       if f < 51 then
        if f < 49 then
         if f = 48 then some c48 else none
        else
         if f < 50 then
          if f = 49 then some c49 else none
         else
          if f = 50 then some c50 else none
       else
        if f < 53 then
         if f < 52 then
          if f = 51 then some c51 else none
         else
          if f = 52 then some c52 else none
        else
         if f < 54 then
          if f = 53 then some c53 else none
         else
          if f = 54 then some c54 else none
   else
    if f < 81 then
     if f < 68 then
      if f < 61 then
       if f < 58 then
        if f < 56 then
         if f = 55 then some c55 else none
        else
         if f < 57 then
          if f = 56 then some c56 else none
         else
          if f = 57 then some c57 else none
       else
        if f < 59 then
         if f = 58 then some c58 else none
        else
         if f < 60 then
          if f = 59 then some c59 else none
         else
          if f = 60 then some c60 else none
      else
       if f < 64 then
        if f < 62 then
         if f = 61 then some c61 else none
        else
         if f < 63 then
          if f = 62 then some c62 else none
         else
          if f = 63 then some c63 else none
       else
        if f < 66 then
         if f < 65 then
          if f = 64 then some c64 else none
         else
          if f = 65 then some c65 else none
        else
         if f < 67 then
          if f = 66 then some c66 else none
         else
          if f = 67 then some c67 else none
     else
      if f < 74 then
       if f < 71 then
        if f < 69 then
         if f = 68 then some c68 else none
        else
         if f < 70 then
          if f = 69 then some c69 else none
         else
          if f = 70 then some c70 else none
       else
        if f < 72 then
         if f = 71 then some c71 else none
        else
         if f < 73 then
          if f = 72 then some c72 else none
         else
          if f = 73 then some c73 else none
      else
       if f < 77 then
        if f < 75 then
         if f = 74 then some c74 else none
        else
         if f < 76 then
          if f = 75 then some c75 else none
         else
          if f = 76 then some c76 else none
       else
        if f < 79 then
         if f < 78 then
          if f = 77 then some c77 else none
         else
          if f = 78 then some c78 else none
        else
         if f < 80 then
          if f = 79 then some c79 else none
         else
          if f = 80 then some c80 else none
    else
     if f < 94 then
      if f < 87 then
       if f < 84 then
        if f < 82 then
         if f = 81 then some c81 else none
        else
         if f < 83 then
          if f = 82 then some c82 else none
         else
          if f = 83 then some c83 else none
       else
        if f < 85 then
         if f = 84 then some c84 else none
        else
         if f < 86 then
          if f = 85 then some c85 else none
         else
          if f = 86 then some c86 else none
      else
       if f < 90 then
        if f < 88 then
         if f = 87 then some c87 else none
        else
         if f < 89 then
          if f = 88 then some c88 else none
         else
          if f = 89 then some c89 else none
       else
        if f < 92 then
         if f < 91 then
          if f = 90 then some c90 else none
         else
          if f = 91 then some c91 else none
        else
         if f < 93 then
          if f = 92 then some c92 else none
         else
          if f = 93 then some c93 else none
     else
      if f < 100 then
       if f < 97 then
        if f < 95 then
         if f = 94 then some c94 else none
        else
         if f < 96 then
          if f = 95 then some c95 else none
         else
          if f = 96 then some c96 else none
       else
        if f < 98 then
         if f = 97 then some c97 else none
        else
         if f < 99 then
          if f = 98 then some c98 else none
         else
          if f = 99 then some c99 else none
      else
       if f < 103 then
        if f < 101 then
         if f = 100 then some c100 else none
        else
         if f < 102 then
          if f = 101 then some c101 else none
         else
          if f = 102 then some c102 else none
       else
        if f < 105 then
         if f < 104 then
          if f = 103 then some c103 else none
         else
          if f = 104 then some c104 else none
        else
         if f < 106 then
          if f = 105 then some c105 else none
         else
          if f = 106 then some c106 else none
  else
   if f < 159 then
    if f < 133 then
     if f < 120 then
      if f < 113 then
       if f < 110 then
        if f < 108 then
         if f = 107 then some c107 else none
        else
         if f < 109 then
          if f = 108 then some c108 else none
         else
          if f = 109 then some c109 else none
       else
        if f < 111 then
         if f = 110 then some c110 else none
        else
         if f < 112 then
          if f = 111 then some c111 else none
         else
          if f = 112 then some c112 else none
      else
       if f < 116 then
        if f < 114 then
         if f = 113 then some c113 else none
        else
         if f < 115 then
          if f = 114 then some c114 else none
         else
          if f = 115 then some c115 else none
       else
        if f < 118 then
         if f < 117 then
          if f = 116 then some c116 else none
         else
          if f = 117 then some c117 else none
        else
         if f < 119 then
          if f = 118 then some c118 else none
         else
          if f = 119 then some c119 else none
     else
      if f < 126 then
       if f < 123 then
        if f < 121 then
         if f = 120 then some c120 else none
        else
         if f < 122 then
          if f = 121 then some c121 else none
         else
          if f = 122 then some c122 else none
       else
        if f < 124 then
         if f = 123 then some c123 else none
        else
         if f < 125 then
          if f = 124 then some c124 else none
         else
          if f = 125 then some c125 else none
      else
       if f < 129 then
        if f < 127 then
         if f = 126 then some c126 else none
        else
         if f < 128 then
          if f = 127 then some c127 else none
         else
          if f = 128 then some c128 else none
       else
        if f < 131 then
         if f < 130 then
          if f = 129 then some c129 else none
         else
          if f = 130 then some c130 else none
        else
         if f < 132 then
          if f = 131 then some c131 else none
         else
          if f = 132 then some c132 else none
    else
     if f < 146 then
      if f < 139 then
       if f < 136 then
        if f < 134 then
         if f = 133 then some c133 else none
        else
         if f < 135 then
          if f = 134 then some c134 else none
         else
          if f = 135 then some c135 else none
       else
        if f < 137 then
         if f = 136 then some c136 else none
        else
         if f < 138 then
          if f = 137 then some c137 else none
         else
          if f = 138 then some c138 else none
      else
       if f < 142 then
        if f < 140 then
         if f = 139 then some c139 else none
        else
         if f < 141 then
          if f = 140 then some c140 else none
         else
          if f = 141 then some c141 else none
       else
        if f < 144 then
         if f < 143 then
          if f = 142 then some c142 else none
         else
          if f = 143 then some c143 else none
        else
         if f < 145 then
          if f = 144 then some c144 else none
         else
          if f = 145 then some c145 else none
     else
      if f < 152 then
       if f < 149 then
        if f < 147 then
         if f = 146 then some c146 else none
        else
         if f < 148 then
          if f = 147 then some c147 else none
         else
          if f = 148 then some c148 else none
       else
        if f < 150 then
         if f = 149 then some c149 else none
        else
         if f < 151 then
          if f = 150 then some c150 else none
         else
          if f = 151 then some c151 else none
      else
       if f < 155 then
        if f < 153 then
         if f = 152 then some c152 else none
        else
         if f < 154 then
          if f = 153 then some c153 else none
         else
          if f = 154 then some c154 else none
       else
        if f < 157 then
         if f < 156 then
          if f = 155 then some c155 else none
         else
          if f = 156 then some c156 else none
        else
         if f < 158 then
          if f = 157 then some c157 else none
         else
          if f = 158 then some c158 else none
   else
    if f < 185 then
     if f < 172 then
      if f < 165 then
       if f < 162 then
        if f < 160 then
         if f = 159 then some c159 else none
        else
         if f < 161 then
          if f = 160 then some c160 else none
         else
          if f = 161 then some c161 else none
       else
        if f < 163 then
         if f = 162 then some c162 else none
        else
         if f < 164 then
          if f = 163 then some c163 else none
         else
          if f = 164 then some c164 else none
      else
       if f < 168 then
        if f < 166 then
         if f = 165 then some c165 else none
        else
         if f < 167 then
          if f = 166 then some c166 else none
         else
          if f = 167 then some c167 else none
       else
        if f < 170 then
         if f < 169 then
          if f = 168 then some c168 else none
         else
          if f = 169 then some c169 else none
        else
         if f < 171 then
          if f = 170 then some c170 else none
         else
          if f = 171 then some c171 else none
     else
      if f < 178 then
       if f < 175 then
        if f < 173 then
         if f = 172 then some c172 else none
        else
         if f < 174 then
          if f = 173 then some c173 else none
         else
          if f = 174 then some c174 else none
       else
        if f < 176 then
         if f = 175 then some c175 else none
        else
         if f < 177 then
          if f = 176 then some c176 else none
         else
          if f = 177 then some c177 else none
      else
       if f < 181 then
        if f < 179 then
         if f = 178 then some c178 else none
        else
         if f < 180 then
          if f = 179 then some c179 else none
         else
          if f = 180 then some c180 else none
       else
        if f < 183 then
         if f < 182 then
          if f = 181 then some c181 else none
         else
          if f = 182 then some c182 else none
        else
         if f < 184 then
          if f = 183 then some c183 else none
         else
          if f = 184 then some c184 else none
    else
     if f < 198 then
      if f < 191 then
       if f < 188 then
        if f < 186 then
         if f = 185 then some c185 else none
        else
         if f < 187 then
          if f = 186 then some c186 else none
         else
          if f = 187 then some c187 else none
       else
        if f < 189 then
         if f = 188 then some c188 else none
        else
         if f < 190 then
          if f = 189 then some c189 else none
         else
          if f = 190 then some c190 else none
      else
       if f < 194 then
        if f < 192 then
         if f = 191 then some c191 else none
        else
         if f < 193 then
          if f = 192 then some c192 else none
         else
          if f = 193 then some c193 else none
       else
        if f < 196 then
         if f < 195 then
          if f = 194 then some c194 else none
         else
          if f = 195 then some c195 else none
        else
         if f < 197 then
          if f = 196 then some c196 else none
         else
          if f = 197 then some c197 else none
     else
      if f < 205 then
       if f < 201 then
        if f < 199 then
         if f = 198 then some c198 else none
        else
         if f < 200 then
          if f = 199 then some c199 else none
         else
          if f = 200 then some c200 else none
       else
        if f < 203 then
         if f < 202 then
          if f = 201 then some c201 else none
         else
          if f = 202 then some c202 else none
        else
         if f < 204 then
          if f = 203 then some c203 else none
         else
          if f = 204 then some c204 else none
      else
       if f < 208 then
        if f < 206 then
         if f = 205 then some c205 else none
        else
         if f < 207 then
          if f = 206 then some c206 else none
         else
          if f = 207 then some c207 else none
       else
        if f < 210 then
         if f < 209 then
          if f = 208 then some c208 else none
         else
          if f = 209 then some c209 else none
        else
         if f < 211 then
          if f = 210 then some c210 else none
         else
          if f = 211 then some c211 else none
theorem tok3 : TiOk Tryz.prog 3 t3 := ⟨by kernel_rfl, by kernel_rfl, by kernel_rfl⟩
theorem tok4 : TiOk Tryz.prog 4 t4 := ⟨by kernel_rfl, by kernel_rfl, by kernel_rfl⟩
theorem tok5 : TiOk Tryz.prog 5 t5 := ⟨by kernel_rfl, by kernel_rfl, by kernel_rfl⟩
theorem tok9 : TiOk Tryz.prog 9 t9 := ⟨by kernel_rfl, by kernel_rfl, by kernel_rfl⟩
theorem tok22 : TiOk Tryz.prog 22 t22 := ⟨by kernel_rfl, by kernel_rfl, by kernel_rfl⟩
theorem tok23 : TiOk Tryz.prog 23 t23 := ⟨by kernel_rfl, by kernel_rfl, by kernel_rfl⟩
theorem tok25 : TiOk Tryz.prog 25 t25 := ⟨by kernel_rfl, by kernel_rfl, by kernel_rfl⟩
theorem tok26 : TiOk Tryz.prog 26 t26 := ⟨by kernel_rfl, by kernel_rfl, by kernel_rfl⟩
theorem tok31 : TiOk Tryz.prog 31 t31 := ⟨by kernel_rfl, by kernel_rfl, by kernel_rfl⟩
theorem tok34 : TiOk Tryz.prog 34 t34 := ⟨by kernel_rfl, by kernel_rfl, by kernel_rfl⟩
theorem tok36 : TiOk Tryz.prog 36 t36 := ⟨by kernel_rfl, by kernel_rfl, by kernel_rfl⟩
theorem tok37 : TiOk Tryz.prog 37 t37 := ⟨by kernel_rfl, by kernel_rfl, by kernel_rfl⟩
theorem tok38 : TiOk Tryz.prog 38 t38 := ⟨by kernel_rfl, by kernel_rfl, by kernel_rfl⟩
theorem tok42 : TiOk Tryz.prog 42 t42 := ⟨by kernel_rfl, by kernel_rfl, by kernel_rfl⟩
theorem tok45 : TiOk Tryz.prog 45 t45 := ⟨by kernel_rfl, by kernel_rfl, by kernel_rfl⟩
theorem tok49 : TiOk Tryz.prog 49 t49 := ⟨by kernel_rfl, by kernel_rfl, by kernel_rfl⟩
theorem tok63 : TiOk Tryz.prog 63 t63 := ⟨by kernel_rfl, by kernel_rfl, by kernel_rfl⟩
theorem tok70 : TiOk Tryz.prog 70 t70 := ⟨by kernel_rfl, by kernel_rfl, by kernel_rfl⟩
theorem tok71 : TiOk Tryz.prog 71 t71 := ⟨by kernel_rfl, by kernel_rfl, by kernel_rfl⟩
theorem tok80 : TiOk Tryz.prog 80 t80 := ⟨by kernel_rfl, by kernel_rfl, by kernel_rfl⟩
theorem tok90 : TiOk Tryz.prog 90 t90 := ⟨by kernel_rfl, by kernel_rfl, by kernel_rfl⟩
theorem tok102 : TiOk Tryz.prog 102 t102 := ⟨by kernel_rfl, by kernel_rfl, by kernel_rfl⟩
theorem tok113 : TiOk Tryz.prog 113 t113 := ⟨by kernel_rfl, by kernel_rfl, by kernel_rfl⟩
theorem tok114 : TiOk Tryz.prog 114 t114 := ⟨by kernel_rfl, by kernel_rfl, by kernel_rfl⟩
theorem tok122 : TiOk Tryz.prog 122 t122 := ⟨by kernel_rfl, by kernel_rfl, by kernel_rfl⟩
theorem tok125 : TiOk Tryz.prog 125 t125 := ⟨by kernel_rfl, by kernel_rfl, by kernel_rfl⟩
theorem tok126 : TiOk Tryz.prog 126 t126 := ⟨by kernel_rfl, by kernel_rfl, by kernel_rfl⟩
theorem tok132 : TiOk Tryz.prog 132 t132 := ⟨by kernel_rfl, by kernel_rfl, by kernel_rfl⟩
theorem tok140 : TiOk Tryz.prog 140 t140 := ⟨by kernel_rfl, by kernel_rfl, by kernel_rfl⟩
theorem tok149 : TiOk Tryz.prog 149 t149 := ⟨by kernel_rfl, by kernel_rfl, by kernel_rfl⟩
theorem tok153 : TiOk Tryz.prog 153 t153 := ⟨by kernel_rfl, by kernel_rfl, by kernel_rfl⟩
theorem cok3 : FiOk Tryz.prog 3 c3 := fiOk_of Tryz.func3 (by kernel_rfl) (by kernel_rfl)
theorem cok4 : FiOk Tryz.prog 4 c4 := fiOk_of Tryz.func4 (by kernel_rfl) (by kernel_rfl)
theorem cok5 : FiOk Tryz.prog 5 c5 := fiOk_of Tryz.func5 (by kernel_rfl) (by kernel_rfl)
theorem cok6 : FiOk Tryz.prog 6 c6 := fiOk_of Tryz.func6 (by kernel_rfl) (by kernel_rfl)
theorem cok7 : FiOk Tryz.prog 7 c7 := fiOk_of Tryz.func7 (by kernel_rfl) (by kernel_rfl)
theorem cok8 : FiOk Tryz.prog 8 c8 := fiOk_of Tryz.func8 (by kernel_rfl) (by kernel_rfl)
theorem cok9 : FiOk Tryz.prog 9 c9 := fiOk_of Tryz.func9 (by kernel_rfl) (by kernel_rfl)
theorem cok10 : FiOk Tryz.prog 10 c10 := fiOk_of Tryz.func10 (by kernel_rfl) (by kernel_rfl)
theorem cok11 : FiOk Tryz.prog 11 c11 := fiOk_of Tryz.func11 (by kernel_rfl) (by kernel_rfl)
theorem cok12 : FiOk Tryz.prog 12 c12 := fiOk_of Tryz.func12 (by kernel_rfl) (by kernel_rfl)
theorem cok13 : FiOk Tryz.prog 13 c13 := fiOk_of Tryz.func13 (by kernel_rfl) (by kernel_rfl)
theorem cok14 : FiOk Tryz.prog 14 c14 := fiOk_of Tryz.func14 (by kernel_rfl) (by kernel_rfl)
theorem cok15 : FiOk Tryz.prog 15 c15 := fiOk_of Tryz.func15 (by kernel_rfl) (by kernel_rfl)
theorem cok16 : FiOk Tryz.prog 16 c16 := fiOk_of Tryz.func16 (by kernel_rfl) (by kernel_rfl)
theorem cok17 : FiOk Tryz.prog 17 c17 := fiOk_of Tryz.func17 (by kernel_rfl) (by kernel_rfl)
theorem cok18 : FiOk Tryz.prog 18 c18 := fiOk_of Tryz.func18 (by kernel_rfl) (by kernel_rfl)
theorem cok19 : FiOk Tryz.prog 19 c19 := fiOk_of Tryz.func19 (by kernel_rfl) (by kernel_rfl)
theorem cok20 : FiOk Tryz.prog 20 c20 := fiOk_of Tryz.func20 (by kernel_rfl) (by kernel_rfl)
theorem cok21 : FiOk Tryz.prog 21 c21 := fiOk_of Tryz.func21 (by kernel_rfl) (by kernel_rfl)
theorem cok22 : FiOk Tryz.prog 22 c22 := fiOk_of Tryz.func22 (by kernel_rfl) (by kernel_rfl)
theorem cok23 : FiOk Tryz.prog 23 c23 := fiOk_of Tryz.func23 (by kernel_rfl) (by kernel_rfl)
theorem cok24 : FiOk Tryz.prog 24 c24 := fiOk_of Tryz.func24 (by kernel_rfl) (by kernel_rfl)
theorem cok25 : FiOk Tryz.prog 25 c25 := fiOk_of Tryz.func25 (by kernel_rfl) (by kernel_rfl)
theorem cok26 : FiOk Tryz.prog 26 c26 := fiOk_of Tryz.func26 (by kernel_rfl) (by kernel_rfl)
theorem cok27 : FiOk Tryz.prog 27 c27 := fiOk_of Tryz.func27 (by kernel_rfl) (by kernel_rfl)
theorem cok28 : FiOk Tryz.prog 28 c28 := fiOk_of Tryz.func28 (by kernel_rfl) (by kernel_rfl)
theorem cok29 : FiOk Tryz.prog 29 c29 := fiOk_of Tryz.func29 (by kernel_rfl) (by kernel_rfl)
theorem cok30 : FiOk Tryz.prog 30 c30 := fiOk_of Tryz.func30 (by kernel_rfl) (by kernel_rfl)
theorem cok31 : FiOk Tryz.prog 31 c31 := fiOk_of Tryz.func31 (by kernel_rfl) (by kernel_rfl)
theorem cok32 : FiOk Tryz.prog 32 c32 := fiOk_of Tryz.func32 (by kernel_rfl) (by kernel_rfl)
theorem cok33 : FiOk Tryz.prog 33 c33 := fiOk_of Tryz.func33 (by kernel_rfl) (by kernel_rfl)
theorem cok34 : FiOk Tryz.prog 34 c34 := fiOk_of Tryz.func34 (by kernel_rfl) (by kernel_rfl)
theorem cok35 : FiOk Tryz.prog 35 c35 := fiOk_of Tryz.func35 (by kernel_rfl) (by kernel_rfl)
theorem cok36 : FiOk Tryz.prog 36 c36 := fiOk_of Tryz.func36 (by kernel_rfl) (by kernel_rfl)
theorem cok37 : FiOk Tryz.prog 37 c37 := fiOk_of Tryz.func37 (by kernel_rfl) (by kernel_rfl)
theorem cok38 : FiOk Tryz.prog 38 c38 := fiOk_of Tryz.func38 (by kernel_rfl) (by kernel_rfl)
theorem cok39 : FiOk Tryz.prog 39 c39 := fiOk_of Tryz.func39 (by kernel_rfl) (by kernel_rfl)
theorem cok40 : FiOk Tryz.prog 40 c40 := fiOk_of Tryz.func40 (by kernel_rfl) (by kernel_rfl)
theorem cok41 : FiOk Tryz.prog 41 c41 := fiOk_of Tryz.func41 (by kernel_rfl) (by kernel_rfl)
theorem cok42 : FiOk Tryz.prog 42 c42 := fiOk_of Tryz.func42 (by kernel_rfl) (by kernel_rfl)
theorem cok43 : FiOk Tryz.prog 43 c43 := fiOk_of Tryz.func43 (by kernel_rfl) (by kernel_rfl)
theorem cok44 : FiOk Tryz.prog 44 c44 := fiOk_of Tryz.func44 (by kernel_rfl) (by kernel_rfl)
theorem cok45 : FiOk Tryz.prog 45 c45 := fiOk_of Tryz.func45 (by kernel_rfl) (by kernel_rfl)
theorem cok46 : FiOk Tryz.prog 46 c46 := fiOk_of Tryz.func46 (by kernel_rfl) (by kernel_rfl)
theorem cok47 : FiOk Tryz.prog 47 c47 := fiOk_of Tryz.func47 (by kernel_rfl) (by kernel_rfl)
theorem cok48 : FiOk Tryz.prog 48 c48 := fiOk_of Tryz.func48 (by kernel_rfl) (by kernel_rfl)
theorem cok49 : FiOk Tryz.prog 49 c49 := fiOk_of Tryz.func49 (by kernel_rfl) (by kernel_rfl)
theorem cok50 : FiOk Tryz.prog 50 c50 := fiOk_of Tryz.func50 (by kernel_rfl) (by kernel_rfl)
theorem cok51 : FiOk Tryz.prog 51 c51 := fiOk_of Tryz.func51 (by kernel_rfl) (by kernel_rfl)
theorem cok52 : FiOk Tryz.prog 52 c52 := fiOk_of Tryz.func52 (by kernel_rfl) (by kernel_rfl)
theorem cok53 : FiOk Tryz.prog 53 c53 := fiOk_of Tryz.func53 (by kernel_rfl) (by kernel_rfl)
theorem cok54 : FiOk Tryz.prog 54 c54 := fiOk_of Tryz.func54 (by kernel_rfl) (by kernel_rfl)
theorem cok55 : FiOk Tryz.prog 55 c55 := fiOk_of Tryz.func55 (by kernel_rfl) (by kernel_rfl)
theorem cok56 : FiOk Tryz.prog 56 c56 := fiOk_of Tryz.func56 (by kernel_rfl) (by kernel_rfl)
theorem cok57 : FiOk Tryz.prog 57 c57 := fiOk_of Tryz.func57 (by kernel_rfl) (by kernel_rfl)
theorem cok58 : FiOk Tryz.prog 58 c58 := fiOk_of Tryz.func58 (by kernel_rfl) (by kernel_rfl)
theorem cok59 : FiOk Tryz.prog 59 c59 := fiOk_of Tryz.func59 (by kernel_rfl) (by kernel_rfl)
theorem cok60 : FiOk Tryz.prog 60 c60 := fiOk_of Tryz.func60 (by kernel_rfl) (by kernel_rfl)
theorem cok61 : FiOk Tryz.prog 61 c61 := fiOk_of Tryz.func61 (by kernel_rfl) (by kernel_rfl)
theorem cok62 : FiOk Tryz.prog 62 c62 := fiOk_of Tryz.func62 (by kernel_rfl) (by kernel_rfl)
theorem cok63 : FiOk Tryz.prog 63 c63 := fiOk_of Tryz.func63 (by kernel_rfl) (by kernel_rfl)
theorem cok64 : FiOk Tryz.prog 64 c64 := fiOk_of Tryz.func64 (by kernel_rfl) (by kernel_rfl)
theorem cok65 : FiOk Tryz.prog 65 c65 := fiOk_of Tryz.func65 (by kernel_rfl) (by kernel_rfl)
theorem cok66 : FiOk Tryz.prog 66 c66 := fiOk_of Tryz.func66 (by kernel_rfl) (by kernel_rfl)
theorem cok67 : FiOk Tryz.prog 67 c67 := fiOk_of Tryz.func67 (by kernel_rfl) (by kernel_rfl)
theorem cok68 : FiOk Tryz.prog 68 c68 := fiOk_of Tryz.func68 (by kernel_rfl) (by kernel_rfl)
theorem cok69 : FiOk Tryz.prog 69 c69 := fiOk_of Tryz.func69 (by kernel_rfl) (by kernel_rfl)
theorem cok70 : FiOk Tryz.prog 70 c70 := fiOk_of Tryz.func70 (by kernel_rfl) (by kernel_rfl)
theorem cok71 : FiOk Tryz.prog 71 c71 := fiOk_of Tryz.func71 (by kernel_rfl) (by kernel_rfl)
theorem cok72 : FiOk Tryz.prog 72 c72 := fiOk_of Tryz.func72 (by kernel_rfl) (by kernel_rfl)
theorem cok73 : FiOk Tryz.prog 73 c73 := fiOk_of Tryz.func73 (by kernel_rfl) (by kernel_rfl)
theorem cok74 : FiOk Tryz.prog 74 c74 := fiOk_of Tryz.func74 (by kernel_rfl) (by kernel_rfl)
theorem cok75 : FiOk Tryz.prog 75 c75 := fiOk_of Tryz.func75 (by kernel_rfl) (by kernel_rfl)
theorem cok76 : FiOk Tryz.prog 76 c76 := fiOk_of Tryz.func76 (by kernel_rfl) (by kernel_rfl)
theorem cok77 : FiOk Tryz.prog 77 c77 := fiOk_of Tryz.func77 (by kernel_rfl) (by kernel_rfl)
theorem cok78 : FiOk Tryz.prog 78 c78 := fiOk_of Tryz.func78 (by kernel_rfl) (by kernel_rfl)
theorem cok79 : FiOk Tryz.prog 79 c79 := fiOk_of Tryz.func79 (by kernel_rfl) (by kernel_rfl)
theorem cok80 : FiOk Tryz.prog 80 c80 := fiOk_of Tryz.func80 (by kernel_rfl) (by kernel_rfl)
theorem cok81 : FiOk Tryz.prog 81 c81 := fiOk_of Tryz.func81 (by kernel_rfl) (by kernel_rfl)
theorem cok82 : FiOk Tryz.prog 82 c82 := fiOk_of Tryz.func82 (by kernel_rfl) (by kernel_rfl)
theorem cok83 : FiOk Tryz.prog 83 c83 := fiOk_of Tryz.func83 (by kernel_rfl) (by kernel_rfl)
theorem cok84 : FiOk Tryz.prog 84 c84 := fiOk_of Tryz.func84 (by kernel_rfl) (by kernel_rfl)
theorem cok85 : FiOk Tryz.prog 85 c85 := fiOk_of Tryz.func85 (by kernel_rfl) (by kernel_rfl)
theorem cok86 : FiOk Tryz.prog 86 c86 := fiOk_of Tryz.func86 (by kernel_rfl) (by kernel_rfl)
theorem cok87 : FiOk Tryz.prog 87 c87 := fiOk_of Tryz.func87 (by kernel_rfl) (by kernel_rfl)
theorem cok88 : FiOk Tryz.prog 88 c88 := fiOk_of Tryz.func88 (by kernel_rfl) (by kernel_rfl)
theorem cok89 : FiOk Tryz.prog 89 c89 := fiOk_of Tryz.func89 (by kernel_rfl) (by kernel_rfl)
theorem cok90 : FiOk Tryz.prog 90 c90 := fiOk_of Tryz.func90 (by kernel_rfl) (by kernel_rfl)
theorem cok91 : FiOk Tryz.prog 91 c91 := fiOk_of Tryz.func91 (by kernel_rfl) (by kernel_rfl)
theorem cok92 : FiOk Tryz.prog 92 c92 := fiOk_of Tryz.func92 (by kernel_rfl) (by kernel_rfl)
theorem cok93 : FiOk Tryz.prog 93 c93 := fiOk_of Tryz.func93 (by kernel_rfl) (by kernel_rfl)
theorem cok94 : FiOk Tryz.prog 94 c94 := fiOk_of Tryz.func94 (by kernel_rfl) (by kernel_rfl)
theorem cok95 : FiOk Tryz.prog 95 c95 := fiOk_of Tryz.func95 (by kernel_rfl) (by kernel_rfl)
theorem cok96 : FiOk Tryz.prog 96 c96 := fiOk_of Tryz.func96 (by kernel_rfl) (by kernel_rfl)
theorem cok97 : FiOk Tryz.prog 97 c97 := fiOk_of Tryz.func97 (by kernel_rfl) (by kernel_rfl)
theorem cok98 : FiOk Tryz.prog 98 c98 := fiOk_of Tryz.func98 (by kernel_rfl) (by kernel_rfl)
theorem cok99 : FiOk Tryz.prog 99 c99 := fiOk_of Tryz.func99 (by kernel_rfl) (by kernel_rfl)
theorem cok100 : FiOk Tryz.prog 100 c100 := fiOk_of Tryz.func100 (by kernel_rfl) (by kernel_rfl)
theorem cok101 : FiOk Tryz.prog 101 c101 := fiOk_of Tryz.func101 (by kernel_rfl) (by kernel_rfl)
theorem cok102 : FiOk Tryz.prog 102 c102 := fiOk_of Tryz.func102 (by kernel_rfl) (by kernel_rfl)
theorem cok103 : FiOk Tryz.prog 103 c103 := fiOk_of Tryz.func103 (by kernel_rfl) (by kernel_rfl)
theorem cok104 : FiOk Tryz.prog 104 c104 := fiOk_of Tryz.func104 (by kernel_rfl) (by kernel_rfl)
theorem cok105 : FiOk Tryz.prog 105 c105 := fiOk_of Tryz.func105 (by kernel_rfl) (by kernel_rfl)
theorem cok106 : FiOk Tryz.prog 106 c106 := fiOk_of Tryz.func106 (by kernel_rfl) (by kernel_rfl)
theorem cok107 : FiOk Tryz.prog 107 c107 := fiOk_of Tryz.func107 (by kernel_rfl) (by kernel_rfl)
theorem cok108 : FiOk Tryz.prog 108 c108 := fiOk_of Tryz.func108 (by kernel_rfl) (by kernel_rfl)
theorem cok109 : FiOk Tryz.prog 109 c109 := fiOk_of Tryz.func109 (by kernel_rfl) (by kernel_rfl)
theorem cok110 : FiOk Tryz.prog 110 c110 := fiOk_of Tryz.func110 (by kernel_rfl) (by kernel_rfl)
theorem cok111 : FiOk Tryz.prog 111 c111 := fiOk_of Tryz.func111 (by kernel_rfl) (by kernel_rfl)
theorem cok112 : FiOk Tryz.prog 112 c112 := fiOk_of Tryz.func112 (by kernel_rfl) (by kernel_rfl)
theorem cok113 : FiOk Tryz.prog 113 c113 := fiOk_of Tryz.func113 (by kernel_rfl) (by kernel_rfl)
theorem cok114 : FiOk Tryz.prog 114 c114 := fiOk_of Tryz.func114 (by kernel_rfl) (by kernel_rfl)
theorem cok115 : FiOk Tryz.prog 115 c115 := fiOk_of Tryz.func115 (by kernel_rfl) (by kernel_rfl)
theorem cok116 : FiOk Tryz.prog 116 c116 := fiOk_of Tryz.func116 (by kernel_rfl) (by kernel_rfl)
theorem cok117 : FiOk Tryz.prog 117 c117 := fiOk_of Tryz.func117 (by kernel_rfl) (by kernel_rfl)
theorem cok118 : FiOk Tryz.prog 118 c118 := fiOk_of Tryz.func118 (by kernel_rfl) (by kernel_rfl)
theorem cok119 : FiOk Tryz.prog 119 c119 := fiOk_of Tryz.func119 (by kernel_rfl) (by kernel_rfl)
theorem cok120 : FiOk Tryz.prog 120 c120 := fiOk_of Tryz.func120 (by kernel_rfl) (by kernel_rfl)
theorem cok121 : FiOk Tryz.prog 121 c121 := fiOk_of Tryz.func121 (by kernel_rfl) (by kernel_rfl)
theorem cok122 : FiOk Tryz.prog 122 c122 := fiOk_of Tryz.func122 (by kernel_rfl) (by kernel_rfl)
theorem cok123 : FiOk Tryz.prog 123 c123 := fiOk_of Tryz.func123 (by kernel_rfl) (by kernel_rfl)
theorem cok124 : FiOk Tryz.prog 124 c124 := fiOk_of Tryz.func124 (by kernel_rfl) (by kernel_rfl)
theorem cok125 : FiOk Tryz.prog 125 c125 := fiOk_of Tryz.func125 (by kernel_rfl) (by kernel_rfl)
theorem cok126 : FiOk Tryz.prog 126 c126 := fiOk_of Tryz.func126 (by kernel_rfl) (by kernel_rfl)
theorem cok127 : FiOk Tryz.prog 127 c127 := fiOk_of Tryz.func127 (by kernel_rfl) (by kernel_rfl)
theorem cok128 : FiOk Tryz.prog 128 c128 := fiOk_of Tryz.func128 (by kernel_rfl) (by kernel_rfl)
theorem cok129 : FiOk Tryz.prog 129 c129 := fiOk_of Tryz.func129 (by kernel_rfl) (by kernel_rfl)
theorem cok130 : FiOk Tryz.prog 130 c130 := fiOk_of Tryz.func130 (by kernel_rfl) (by kernel_rfl)
theorem cok131 : FiOk Tryz.prog 131 c131 := fiOk_of Tryz.func131 (by kernel_rfl) (by kernel_rfl)
theorem cok132 : FiOk Tryz.prog 132 c132 := fiOk_of Tryz.func132 (by kernel_rfl) (by kernel_rfl)
theorem cok133 : FiOk Tryz.prog 133 c133 := fiOk_of Tryz.func133 (by kernel_rfl) (by kernel_rfl)
theorem cok134 : FiOk Tryz.prog 134 c134 := fiOk_of Tryz.func134 (by kernel_rfl) (by kernel_rfl)
theorem cok135 : FiOk Tryz.prog 135 c135 := fiOk_of Tryz.func135 (by kernel_rfl) (by kernel_rfl)
theorem cok136 : FiOk Tryz.prog 136 c136 := fiOk_of Tryz.func136 (by kernel_rfl) (by kernel_rfl)
theorem cok137 : FiOk Tryz.prog 137 c137 := fiOk_of Tryz.func137 (by kernel_rfl) (by kernel_rfl)
theorem cok138 : FiOk Tryz.prog 138 c138 := fiOk_of Tryz.func138 (by kernel_rfl) (by kernel_rfl)
theorem cok139 : FiOk Tryz.prog 139 c139 := fiOk_of Tryz.func139 (by kernel_rfl) (by kernel_rfl)
theorem cok140 : FiOk Tryz.prog 140 c140 := fiOk_of Tryz.func140 (by kernel_rfl) (by kernel_rfl)
theorem cok141 : FiOk Tryz.prog 141 c141 := fiOk_of Tryz.func141 (by kernel_rfl) (by kernel_rfl)
theorem cok142 : FiOk Tryz.prog 142 c142 := fiOk_of Tryz.func142 (by kernel_rfl) (by kernel_rfl)
theorem cok143 : FiOk Tryz.prog 143 c143 := fiOk_of Tryz.func143 (by kernel_rfl) (by kernel_rfl)
theorem cok144 : FiOk Tryz.prog 144 c144 := fiOk_of Tryz.func144 (by kernel_rfl) (by kernel_rfl)
theorem cok145 : FiOk Tryz.prog 145 c145 := fiOk_of Tryz.func145 (by kernel_rfl) (by kernel_rfl)
theorem cok146 : FiOk Tryz.prog 146 c146 := fiOk_of Tryz.func146 (by kernel_rfl) (by kernel_rfl)
theorem cok147 : FiOk Tryz.prog 147 c147 := fiOk_of Tryz.func147 (by kernel_rfl) (by kernel_rfl)
theorem cok148 : FiOk Tryz.prog 148 c148 := fiOk_of Tryz.func148 (by kernel_rfl) (by kernel_rfl)
theorem cok149 : FiOk Tryz.prog 149 c149 := fiOk_of Tryz.func149 (by kernel_rfl) (by kernel_rfl)
theorem cok150 : FiOk Tryz.prog 150 c150 := fiOk_of Tryz.func150 (by kernel_rfl) (by kernel_rfl)
theorem cok151 : FiOk Tryz.prog 151 c151 := fiOk_of Tryz.func151 (by kernel_rfl) (by kernel_rfl)
theorem cok152 : FiOk Tryz.prog 152 c152 := fiOk_of Tryz.func152 (by kernel_rfl) (by kernel_rfl)
theorem cok153 : FiOk Tryz.prog 153 c153 := fiOk_of Tryz.func153 (by kernel_rfl) (by kernel_rfl)
theorem cok154 : FiOk Tryz.prog 154 c154 := fiOk_of Tryz.func154 (by kernel_rfl) (by kernel_rfl)
theorem cok155 : FiOk Tryz.prog 155 c155 := fiOk_of Tryz.func155 (by kernel_rfl) (by kernel_rfl)
theorem cok156 : FiOk Tryz.prog 156 c156 := fiOk_of Tryz.func156 (by kernel_rfl) (by kernel_rfl)
theorem cok157 : FiOk Tryz.prog 157 c157 := fiOk_of Tryz.func157 (by kernel_rfl) (by kernel_rfl)
theorem cok158 : FiOk Tryz.prog 158 c158 := fiOk_of Tryz.func158 (by kernel_rfl) (by kernel_rfl)
theorem cok159 : FiOk Tryz.prog 159 c159 := fiOk_of Tryz.func159 (by kernel_rfl) (by kernel_rfl)
theorem cok160 : FiOk Tryz.prog 160 c160 := fiOk_of Tryz.func160 (by kernel_rfl) (by kernel_rfl)
theorem cok161 : FiOk Tryz.prog 161 c161 := fiOk_of Tryz.func161 (by kernel_rfl) (by kernel_rfl)
theorem cok162 : FiOk Tryz.prog 162 c162 := fiOk_of Tryz.func162 (by kernel_rfl) (by kernel_rfl)
theorem cok163 : FiOk Tryz.prog 163 c163 := fiOk_of Tryz.func163 (by kernel_rfl) (by kernel_rfl)
theorem cok164 : FiOk Tryz.prog 164 c164 := fiOk_of Tryz.func164 (by kernel_rfl) (by kernel_rfl)
theorem cok165 : FiOk Tryz.prog 165 c165 := fiOk_of Tryz.func165 (by kernel_rfl) (by kernel_rfl)
theorem cok166 : FiOk Tryz.prog 166 c166 := fiOk_of Tryz.func166 (by kernel_rfl) (by kernel_rfl)
theorem cok167 : FiOk Tryz.prog 167 c167 := fiOk_of Tryz.func167 (by kernel_rfl) (by kernel_rfl)
theorem cok168 : FiOk Tryz.prog 168 c168 := fiOk_of Tryz.func168 (by kernel_rfl) (by kernel_rfl)
theorem cok169 : FiOk Tryz.prog 169 c169 := fiOk_of Tryz.func169 (by kernel_rfl) (by kernel_rfl)
theorem cok170 : FiOk Tryz.prog 170 c170 := fiOk_of Tryz.func170 (by kernel_rfl) (by kernel_rfl)
theorem cok171 : FiOk Tryz.prog 171 c171 := fiOk_of Tryz.func171 (by kernel_rfl) (by kernel_rfl)
theorem cok172 : FiOk Tryz.prog 172 c172 := fiOk_of Tryz.func172 (by kernel_rfl) (by kernel_rfl)
theorem cok173 : FiOk Tryz.prog 173 c173 := fiOk_of Tryz.func173 (by kernel_rfl) (by kernel_rfl)
theorem cok174 : FiOk Tryz.prog 174 c174 := fiOk_of Tryz.func174 (by kernel_rfl) (by kernel_rfl)
theorem cok175 : FiOk Tryz.prog 175 c175 := fiOk_of Tryz.func175 (by kernel_rfl) (by kernel_rfl)
theorem cok176 : FiOk Tryz.prog 176 c176 := fiOk_of Tryz.func176 (by kernel_rfl) (by kernel_rfl)
theorem cok177 : FiOk Tryz.prog 177 c177 := fiOk_of Tryz.func177 (by kernel_rfl) (by kernel_rfl)
theorem cok178 : FiOk Tryz.prog 178 c178 := fiOk_of Tryz.func178 (by kernel_rfl) (by kernel_rfl)
theorem cok179 : FiOk Tryz.prog 179 c179 := fiOk_of Tryz.func179 (by kernel_rfl) (by kernel_rfl)
theorem cok180 : FiOk Tryz.prog 180 c180 := fiOk_of Tryz.func180 (by kernel_rfl) (by kernel_rfl)
theorem cok181 : FiOk Tryz.prog 181 c181 := fiOk_of Tryz.func181 (by kernel_rfl) (by kernel_rfl)
theorem cok182 : FiOk Tryz.prog 182 c182 := fiOk_of Tryz.func182 (by kernel_rfl) (by kernel_rfl)
theorem cok183 : FiOk Tryz.prog 183 c183 := fiOk_of Tryz.func183 (by kernel_rfl) (by kernel_rfl)
theorem cok184 : FiOk Tryz.prog 184 c184 := fiOk_of Tryz.func184 (by kernel_rfl) (by kernel_rfl)
theorem cok185 : FiOk Tryz.prog 185 c185 := fiOk_of Tryz.func185 (by kernel_rfl) (by kernel_rfl)
theorem cok186 : FiOk Tryz.prog 186 c186 := fiOk_of Tryz.func186 (by kernel_rfl) (by kernel_rfl)
theorem cok187 : FiOk Tryz.prog 187 c187 := fiOk_of Tryz.func187 (by kernel_rfl) (by kernel_rfl)
theorem cok188 : FiOk Tryz.prog 188 c188 := fiOk_of Tryz.func188 (by kernel_rfl) (by kernel_rfl)
theorem cok189 : FiOk Tryz.prog 189 c189 := fiOk_of Tryz.func189 (by kernel_rfl) (by kernel_rfl)
theorem cok190 : FiOk Tryz.prog 190 c190 := fiOk_of Tryz.func190 (by kernel_rfl) (by kernel_rfl)
theorem cok191 : FiOk Tryz.prog 191 c191 := fiOk_of Tryz.func191 (by kernel_rfl) (by kernel_rfl)
theorem cok192 : FiOk Tryz.prog 192 c192 := fiOk_of Tryz.func192 (by kernel_rfl) (by kernel_rfl)
theorem cok193 : FiOk Tryz.prog 193 c193 := fiOk_of Tryz.func193 (by kernel_rfl) (by kernel_rfl)
theorem cok194 : FiOk Tryz.prog 194 c194 := fiOk_of Tryz.func194 (by kernel_rfl) (by kernel_rfl)
theorem cok195 : FiOk Tryz.prog 195 c195 := fiOk_of Tryz.func195 (by kernel_rfl) (by kernel_rfl)
theorem cok196 : FiOk Tryz.prog 196 c196 := fiOk_of Tryz.func196 (by kernel_rfl) (by kernel_rfl)
theorem cok197 : FiOk Tryz.prog 197 c197 := fiOk_of Tryz.func197 (by kernel_rfl) (by kernel_rfl)
theorem cok198 : FiOk Tryz.prog 198 c198 := fiOk_of Tryz.func198 (by kernel_rfl) (by kernel_rfl)
theorem cok199 : FiOk Tryz.prog 199 c199 := fiOk_of Tryz.func199 (by kernel_rfl) (by kernel_rfl)
theorem cok200 : FiOk Tryz.prog 200 c200 := fiOk_of Tryz.func200 (by kernel_rfl) (by kernel_rfl)
theorem cok201 : FiOk Tryz.prog 201 c201 := fiOk_of Tryz.func201 (by kernel_rfl) (by kernel_rfl)
theorem cok202 : FiOk Tryz.prog 202 c202 := fiOk_of Tryz.func202 (by kernel_rfl) (by kernel_rfl)
theorem cok203 : FiOk Tryz.prog 203 c203 := fiOk_of Tryz.func203 (by kernel_rfl) (by kernel_rfl)
theorem cok204 : FiOk Tryz.prog 204 c204 := fiOk_of Tryz.func204 (by kernel_rfl) (by kernel_rfl)
theorem cok205 : FiOk Tryz.prog 205 c205 := fiOk_of Tryz.func205 (by kernel_rfl) (by kernel_rfl)
theorem cok206 : FiOk Tryz.prog 206 c206 := fiOk_of Tryz.func206 (by kernel_rfl) (by kernel_rfl)
theorem cok207 : FiOk Tryz.prog 207 c207 := fiOk_of Tryz.func207 (by kernel_rfl) (by kernel_rfl)
theorem cok208 : FiOk Tryz.prog 208 c208 := fiOk_of Tryz.func208 (by kernel_rfl) (by kernel_rfl)
theorem cok209 : FiOk Tryz.prog 209 c209 := fiOk_of Tryz.func209 (by kernel_rfl) (by kernel_rfl)
theorem cok210 : FiOk Tryz.prog 210 c210 := fiOk_of Tryz.func210 (by kernel_rfl) (by kernel_rfl)
theorem cok211 : FiOk Tryz.prog 211 c211 := fiOk_of Tryz.func211 (by kernel_rfl) (by kernel_rfl)
theorem tget_ok (f : Nat) (i : TI) (h : tget f = some i) : TiOk Tryz.prog f i :=
  let Q := TiOk Tryz.prog
  ite_q (ite_q (ite_q (ite_q (leaf_q (Q := Q) tok3) (ite_q (leaf_q (Q := Q) tok4) (leaf_q (Q := Q) tok5))) (ite_q (ite_q (leaf_q (Q := Q) tok9) (leaf_q (Q := Q) tok22)) (ite_q (leaf_q (Q := Q) tok23) (leaf_q (Q := Q) tok25)))) (ite_q (ite_q (ite_q (leaf_q (Q := Q) tok26) (leaf_q (Q := Q) tok31)) (ite_q (leaf_q (Q := Q) tok34) (leaf_q (Q := Q) tok36))) (ite_q (ite_q (leaf_q (Q := Q) tok37) (leaf_q (Q := Q) tok38)) (ite_q (leaf_q (Q := Q) tok42) (leaf_q (Q := Q) tok45))))) (ite_q (ite_q (ite_q (ite_q (leaf_q (Q := Q) tok49) (leaf_q (Q := Q) tok63)) (ite_q (leaf_q (Q := Q) tok70) (leaf_q (Q := Q) tok71))) (ite_q (ite_q (leaf_q (Q := Q) tok80) (leaf_q (Q := Q) tok90)) (ite_q (leaf_q (Q := Q) tok102) (leaf_q (Q := Q) tok113)))) (ite_q (ite_q (ite_q (leaf_q (Q := Q) tok114) (leaf_q (Q := Q) tok122)) (ite_q (leaf_q (Q := Q) tok125) (leaf_q (Q := Q) tok126))) (ite_q (ite_q (leaf_q (Q := Q) tok132) (leaf_q (Q := Q) tok140)) (ite_q (leaf_q (Q := Q) tok149) (leaf_q (Q := Q) tok153))))) h
theorem cget_ok (f : Nat) (i : FI) (h : cget f = some i) : FiOk Tryz.prog f i :=
  let Q := FiOk Tryz.prog
  ite_q (ite_q (ite_q (ite_q (ite_q (ite_q (ite_q (leaf_q (Q := Q) cok3) (ite_q (leaf_q (Q := Q) cok4) (leaf_q (Q := Q) cok5))) (ite_q (leaf_q (Q := Q) cok6) (ite_q (leaf_q (Q := Q) cok7) (leaf_q (Q := Q) cok8)))) (ite_q (ite_q (leaf_q (Q := Q) cok9) (ite_q (leaf_q (Q := Q) cok10) (leaf_q (Q := Q) cok11))) (ite_q (ite_q (leaf_q (Q := Q) cok12) (leaf_q (Q := Q) cok13)) (ite_q (leaf_q (Q := Q) cok14) (leaf_q (Q := Q) cok15))))) (ite_q (ite_q (ite_q (leaf_q (Q := Q) cok16) (ite_q (leaf_q (Q := Q) cok17) (leaf_q (Q := Q) cok18))) (ite_q (leaf_q (Q := Q) cok19) (ite_q (leaf_q (Q := Q) cok20) (leaf_q (Q := Q) cok21)))) (ite_q (ite_q (leaf_q (Q := Q) cok22) (ite_q (leaf_q (Q := Q) cok23) (leaf_q (Q := Q) cok24))) (ite_q (ite_q (leaf_q (Q := Q) cok25) (leaf_q (Q := Q) cok26)) (ite_q (leaf_q (Q := Q) cok27) (leaf_q (Q := Q) cok28)))))) (ite_q (ite_q (ite_q (ite_q (leaf_q (Q := Q) cok29) (ite_q (leaf_q (Q := Q) cok30) (leaf_q (Q := Q) cok31))) (ite_q (leaf_q (Q := Q) cok32) (ite_q (leaf_q (Q := Q) cok33) (leaf_q (Q := Q) cok34)))) (ite_q (ite_q (leaf_q (Q := Q) cok35) (ite_q (leaf_q (Q := Q) cok36) (leaf_q (Q := Q) cok37))) (ite_q (ite_q (leaf_q (Q := Q) cok38) (leaf_q (Q := Q) cok39)) (ite_q (leaf_q (Q := Q) cok40) (leaf_q (Q := Q) cok41))))) (ite_q (ite_q (ite_q (leaf_q (Q := Q) cok42) (ite_q (leaf_q (Q := Q) cok43) (leaf_q (Q := Q) cok44))) (ite_q (leaf_q (Q := Q) cok45) (ite_q (leaf_q (Q := Q) cok46) (leaf_q (Q := Q) cok47)))) (ite_q (ite_q (leaf_q (Q := Q) cok48) (ite_q (leaf_q (Q := Q) cok49) (leaf_q (Q := Q) cok50))) (ite_q (ite_q (leaf_q (Q := Q) cok51) (leaf_q (Q := Q) cok52)) (ite_q (leaf_q (Q := Q) cok53) (leaf_q (Q := Q) cok54))))))) (ite_q (ite_q (ite_q (ite_q (ite_q (leaf_q (Q := Q) cok55) (ite_q (leaf_q (Q := Q) cok56) (leaf_q (Q := Q) cok57))) (ite_q (leaf_q (Q := Q) cok58) (ite_q (leaf_q (Q := Q) cok59) (leaf_q (Q := Q) cok60)))) (ite_q (ite_q (leaf_q (Q := Q) cok61) (ite_q (leaf_q (Q := Q) cok62) (leaf_q (Q := Q) cok63))) (ite_q (ite_q (leaf_q (Q := Q) cok64) (leaf_q (Q := Q) cok65)) (ite_q (leaf_q (Q := Q) cok66) (leaf_q (Q := Q) cok67))))) (ite_q (ite_q (ite_q (leaf_q (Q := Q) cok68) (ite_q (leaf_q (Q := Q) cok69) (leaf_q (Q := Q) cok70))) (ite_q (leaf_q (Q := Q) cok71) (ite_q (leaf_q (Q := Q) cok72) (leaf_q (Q := Q) cok73)))) (ite_q (ite_q (leaf_q (Q := Q) cok74) (ite_q (leaf_q (Q := Q) cok75) (leaf_q (Q := Q) cok76))) (ite_q (ite_q (leaf_q (Q := Q) cok77) (leaf_q (Q := Q) cok78)) (ite_q (leaf_q (Q := Q) cok79) (leaf_q (Q := Q) cok80)))))) (ite_q (ite_q (ite_q (ite_q (leaf_q (Q := Q) cok81) (ite_q (leaf_q (Q := Q) cok82) (leaf_q (Q := Q) cok83))) (ite_q (leaf_q (Q := Q) cok84) (ite_q (leaf_q (Q := Q) cok85) (leaf_q (Q := Q) cok86)))) (ite_q (ite_q (leaf_q (Q := Q) cok87) (ite_q (leaf_q (Q := Q) cok88) (leaf_q (Q := Q) cok89))) (ite_q (ite_q (leaf_q (Q := Q) cok90) (leaf_q (Q := Q) cok91)) (ite_q (leaf_q (Q := Q) cok92) (leaf_q (Q := Q) cok93))))) (ite_q (ite_q (ite_q (leaf_q (Q := Q) cok94) (ite_q (leaf_q (Q := Q) cok95) (leaf_q (Q := Q) cok96))) (ite_q (leaf_q (Q := Q) cok97) (ite_q (leaf_q (Q := Q) cok98) (leaf_q (Q := Q) cok99)))) (ite_q (ite_q (leaf_q (Q := Q) cok100) (ite_q (leaf_q (Q := Q) cok101) (leaf_q (Q := Q) cok102))) (ite_q (ite_q (leaf_q (Q := Q) cok103) (leaf_q (Q := Q) cok104)) (ite_q (leaf_q (Q := Q) cok105) (leaf_q (Q := Q) cok106)))))))) (ite_q (ite_q (ite_q (ite_q (ite_q (ite_q (leaf_q (Q := Q) cok107) (ite_q (leaf_q (Q := Q) cok108) (leaf_q (Q := Q) cok109))) (ite_q (leaf_q (Q := Q) cok110) (ite_q (leaf_q (Q := Q) cok111) (leaf_q (Q := Q) cok112)))) (ite_q (ite_q (leaf_q (Q := Q) cok113) (ite_q (leaf_q (Q := Q) cok114) (leaf_q (Q := Q) cok115))) (ite_q (ite_q (leaf_q (Q := Q) cok116) (leaf_q (Q := Q) cok117)) (ite_q (leaf_q (Q := Q) cok118) (leaf_q (Q := Q) cok119))))) (ite_q (ite_q (ite_q (leaf_q (Q := Q) cok120) (ite_q (leaf_q (Q := Q) cok121) (leaf_q (Q := Q) cok122))) (ite_q (leaf_q (Q := Q) cok123) (ite_q (leaf_q (Q := Q) cok124) (leaf_q (Q := Q) cok125)))) (ite_q (ite_q (leaf_q (Q := Q) cok126) (ite_q (leaf_q (Q := Q) cok127) (leaf_q (Q := Q) cok128))) (ite_q (ite_q (leaf_q (Q := Q) cok129) (leaf_q (Q := Q) cok130)) (ite_q (leaf_q (Q := Q) cok131) (leaf_q (Q := Q) cok132)))))) (ite_q (ite_q (ite_q (ite_q (leaf_q (Q := Q) cok133) (ite_q (leaf_q (Q := Q) cok134) (leaf_q (Q := Q) cok135))) (ite_q (leaf_q (Q := Q) cok136) (ite_q (leaf_q (Q := Q) cok137) (leaf_q (Q := Q) cok138)))) (ite_q (ite_q (leaf_q (Q := Q) cok139) (ite_q (leaf_q (Q := Q) cok140) (leaf_q (Q := Q) cok141))) (ite_q (ite_q (leaf_q (Q := Q) cok142) (leaf_q (Q := Q) cok143)) (ite_q (leaf_q (Q := Q) cok144) (leaf_q (Q := Q) cok145))))) (ite_q (ite_q (ite_q (leaf_q (Q := Q) cok146) (ite_q (leaf_q (Q := Q) cok147) (leaf_q (Q := Q) cok148))) (ite_q (leaf_q (Q := Q) cok149) (ite_q (leaf_q (Q := Q) cok150) (leaf_q (Q := Q) cok151)))) (ite_q (ite_q (leaf_q (Q := Q) cok152) (ite_q (leaf_q (Q := Q) cok153) (leaf_q (Q := Q) cok154))) (ite_q (ite_q (leaf_q (Q := Q) cok155) (leaf_q (Q := Q) cok156)) (ite_q (leaf_q (Q := Q) cok157) (leaf_q (Q := Q) cok158))))))) (ite_q (ite_q (ite_q (ite_q (ite_q (leaf_q (Q := Q) cok159) (ite_q (leaf_q (Q := Q) cok160) (leaf_q (Q := Q) cok161))) (ite_q (leaf_q (Q := Q) cok162) (ite_q (leaf_q (Q := Q) cok163) (leaf_q (Q := Q) cok164)))) (ite_q (ite_q (leaf_q (Q := Q) cok165) (ite_q (leaf_q (Q := Q) cok166) (leaf_q (Q := Q) cok167))) (ite_q (ite_q (leaf_q (Q := Q) cok168) (leaf_q (Q := Q) cok169)) (ite_q (leaf_q (Q := Q) cok170) (leaf_q (Q := Q) cok171))))) (ite_q (ite_q (ite_q (leaf_q (Q := Q) cok172) (ite_q (leaf_q (Q := Q) cok173) (leaf_q (Q := Q) cok174))) (ite_q (leaf_q (Q := Q) cok175) (ite_q (leaf_q (Q := Q) cok176) (leaf_q (Q := Q) cok177)))) (ite_q (ite_q (leaf_q (Q := Q) cok178) (ite_q (leaf_q (Q := Q) cok179) (leaf_q (Q := Q) cok180))) (ite_q (ite_q (leaf_q (Q := Q) cok181) (leaf_q (Q := Q) cok182)) (ite_q (leaf_q (Q := Q) cok183) (leaf_q (Q := Q) cok184)))))) (ite_q (ite_q (ite_q (ite_q (leaf_q (Q := Q) cok185) (ite_q (leaf_q (Q := Q) cok186) (leaf_q (Q := Q) cok187))) (ite_q (leaf_q (Q := Q) cok188) (ite_q (leaf_q (Q := Q) cok189) (leaf_q (Q := Q) cok190)))) (ite_q (ite_q (leaf_q (Q := Q) cok191) (ite_q (leaf_q (Q := Q) cok192) (leaf_q (Q := Q) cok193))) (ite_q (ite_q (leaf_q (Q := Q) cok194) (leaf_q (Q := Q) cok195)) (ite_q (leaf_q (Q := Q) cok196) (leaf_q (Q := Q) cok197))))) (ite_q (ite_q (ite_q (leaf_q (Q := Q) cok198) (ite_q (leaf_q (Q := Q) cok199) (leaf_q (Q := Q) cok200))) (ite_q (ite_q (leaf_q (Q := Q) cok201) (leaf_q (Q := Q) cok202)) (ite_q (leaf_q (Q := Q) cok203) (leaf_q (Q := Q) cok204)))) (ite_q (ite_q (leaf_q (Q := Q) cok205) (ite_q (leaf_q (Q := Q) cok206) (leaf_q (Q := Q) cok207))) (ite_q (ite_q (leaf_q (Q := Q) cok208) (leaf_q (Q := Q) cok209)) (ite_q (leaf_q (Q := Q) cok210) (leaf_q (Q := Q) cok211)))))))) h
noncomputable def ctx : Ctx := ⟨tget, cget, fun _ => none, fun _ => none, fun _ => false⟩
theorem mixed : Tryz.prog.follows .mixedOrders = true := by kernel_rfl
theorem ctx_ok : Ctx.Ok Tryz.prog ctx where
  ty := fun t i h => (tget_ok t i h).ok
  fn := fun f i h => cget_ok f i h
  same := fun f h v w => by cases h
  noZero := fun f e h n w h0 hle => by cases h
  mixed := mixed
  eqs := fun t h => by cases h
  sum := fun _ _ _ _ _ _ h => by cases h
end Go.PI
