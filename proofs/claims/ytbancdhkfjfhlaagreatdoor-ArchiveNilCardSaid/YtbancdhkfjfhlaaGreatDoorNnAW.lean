/- Own work of the verifier: NlCtx. -/
import Derived.Test.YtbancdhkfjfhlaaGreatDoorNnAJ
import Derived.Test.YtbancdhkfjfhlaaGreatDoorProg
import Derived.KernelRfl
set_option linter.all false
set_option exponentiation.threshold 3000
set_option linter.deprecated false
open Go.Proofs
namespace Go.PI
def pk0 : String := String.ofList [Char.ofNat 102, Char.ofNat 108, Char.ofNat 97, Char.ofNat 116, Char.ofNat 108, Char.ofNat 97, Char.ofNat 110, Char.ofNat 100, Char.ofNat 47, Char.ofNat 97, Char.ofNat 114, Char.ofNat 99, Char.ofNat 104, Char.ofNat 105, Char.ofNat 118, Char.ofNat 101]
def pk1 : String := String.ofList [Char.ofNat 102, Char.ofNat 108, Char.ofNat 97, Char.ofNat 116, Char.ofNat 108, Char.ofNat 97, Char.ofNat 110, Char.ofNat 100, Char.ofNat 47, Char.ofNat 111, Char.ofNat 114, Char.ofNat 105, Char.ofNat 103, Char.ofNat 97, Char.ofNat 109, Char.ofNat 105]
def t2 : TI := { desc := Go.TypeDesc.int (Go.IntKind.i64), size := 1, bytes := 8, zero := .int .i64 (0) }
def t3 : TI := { desc := Go.TypeDesc.int (Go.IntKind.i64), size := 1, bytes := 8, zero := .int .i64 (0) }
def t4 : TI := { desc := Go.TypeDesc.bool, size := 1, bytes := 1, zero := .bool false }
def t5 : TI := { desc := Go.TypeDesc.int (Go.IntKind.u8), size := 1, bytes := 1, zero := .int .u8 (0) }
def t9 : TI := { desc := Go.TypeDesc.string, size := 1, bytes := 16, zero := .str .empty }
def t22 : TI := { desc := Go.TypeDesc.slice 3, size := 1, bytes := 24, zero := .nils }
def t24 : TI := { desc := Go.TypeDesc.struct #[{ name := "Poly", type := 22, offset := 0, embedded := false, tag := "", pkgPath := "", byteOffset := 0 }, { name := "Lo", type := 3, offset := 1, embedded := false, tag := "", pkgPath := "", byteOffset := 24 }, { name := "Hi", type := 3, offset := 2, embedded := false, tag := "", pkgPath := "", byteOffset := 32 }, { name := "Den", type := 3, offset := 3, embedded := false, tag := "", pkgPath := "", byteOffset := 40 }], size := 4, bytes := 48, zero := .agg [.nils, .int .i64 (0), .int .i64 (0), .int .i64 (0)] }
def t25 : TI := { desc := Go.TypeDesc.slice 32, size := 1, bytes := 24, zero := .nils }
def t27 : TI := { desc := Go.TypeDesc.struct #[{ name := "Field", type := 24, offset := 0, embedded := false, tag := "", pkgPath := "", byteOffset := 0 }, { name := "Corners", type := 25, offset := 4, embedded := false, tag := "", pkgPath := "", byteOffset := 48 }], size := 5, bytes := 72, zero := .agg [.nils, .int .i64 (0), .int .i64 (0), .int .i64 (0), .nils] }
def t28 : TI := { desc := Go.TypeDesc.slice 22, size := 1, bytes := 24, zero := .nils }
def t30 : TI := { desc := Go.TypeDesc.struct #[{ name := "C", type := 28, offset := 0, embedded := false, tag := "", pkgPath := "", byteOffset := 0 }, { name := "D", type := 22, offset := 1, embedded := false, tag := "", pkgPath := "", byteOffset := 24 }], size := 2, bytes := 48, zero := .agg [.nils, .nils] }
def t32 : TI := { desc := Go.TypeDesc.struct #[{ name := "X", type := 30, offset := 0, embedded := false, tag := "", pkgPath := "", byteOffset := 0 }, { name := "Y", type := 30, offset := 2, embedded := false, tag := "", pkgPath := "", byteOffset := 48 }], size := 4, bytes := 96, zero := .agg [.nils, .nils, .nils, .nils] }
def t34 : TI := { desc := Go.TypeDesc.struct #[{ name := "Side", type := 3, offset := 0, embedded := false, tag := "", pkgPath := "", byteOffset := 0 }, { name := "T", type := 30, offset := 1, embedded := false, tag := "", pkgPath := "", byteOffset := 8 }, { name := "Dir", type := 32, offset := 3, embedded := false, tag := "", pkgPath := "", byteOffset := 56 }], size := 7, bytes := 152, zero := .agg [.int .i64 (0), .nils, .nils, .nils, .nils, .nils, .nils] }
def t35 : TI := { desc := Go.TypeDesc.slice 25, size := 1, bytes := 24, zero := .nils }
def t36 : TI := { desc := Go.TypeDesc.slice 39, size := 1, bytes := 24, zero := .nils }
def t38 : TI := { desc := Go.TypeDesc.struct #[{ name := "Field", type := 24, offset := 0, embedded := false, tag := "", pkgPath := "", byteOffset := 0 }, { name := "Faces", type := 35, offset := 4, embedded := false, tag := "", pkgPath := "", byteOffset := 48 }, { name := "Glue", type := 36, offset := 5, embedded := false, tag := "", pkgPath := "", byteOffset := 72 }], size := 6, bytes := 96, zero := .agg [.nils, .int .i64 (0), .int .i64 (0), .int .i64 (0), .nils, .nils] }
def t39 : TI := { desc := Go.TypeDesc.slice 135, size := 1, bytes := 24, zero := .nils }
def t40 : TI := { desc := Go.TypeDesc.slice 137, size := 1, bytes := 24, zero := .nils }
def t42 : TI := { desc := Go.TypeDesc.struct #[{ name := "Right", type := 22, offset := 0, embedded := false, tag := "", pkgPath := "", byteOffset := 0 }, { name := "Up", type := 22, offset := 1, embedded := false, tag := "", pkgPath := "", byteOffset := 24 }], size := 2, bytes := 48, zero := .agg [.nils, .nils] }
def t43 : TI := { desc := Go.TypeDesc.slice 42, size := 1, bytes := 24, zero := .nils }
def t45 : TI := { desc := Go.TypeDesc.struct #[{ name := "Labels", type := 43, offset := 0, embedded := false, tag := "", pkgPath := "", byteOffset := 0 }, { name := "S", type := 22, offset := 1, embedded := false, tag := "", pkgPath := "", byteOffset := 24 }, { name := "T", type := 22, offset := 2, embedded := false, tag := "", pkgPath := "", byteOffset := 48 }], size := 3, bytes := 72, zero := .agg [.nils, .nils, .nils] }
def t47 : TI := { desc := Go.TypeDesc.struct #[{ name := "Top", type := 22, offset := 0, embedded := false, tag := "", pkgPath := "", byteOffset := 0 }, { name := "Bottom", type := 22, offset := 1, embedded := false, tag := "", pkgPath := "", byteOffset := 24 }], size := 2, bytes := 48, zero := .agg [.nils, .nils] }
def t49 : TI := { desc := Go.TypeDesc.struct #[{ name := "Num", type := 22, offset := 0, embedded := false, tag := "", pkgPath := "", byteOffset := 0 }, { name := "Den", type := 22, offset := 1, embedded := false, tag := "", pkgPath := "", byteOffset := 24 }], size := 2, bytes := 48, zero := .agg [.nils, .nils] }
def t51 : TI := { desc := Go.TypeDesc.struct #[{ name := "Kind", type := 3, offset := 0, embedded := false, tag := "", pkgPath := "", byteOffset := 0 }, { name := "Count", type := 3, offset := 1, embedded := false, tag := "", pkgPath := "", byteOffset := 8 }, { name := "Table", type := 27, offset := 2, embedded := false, tag := "", pkgPath := "", byteOffset := 16 }, { name := "State", type := 34, offset := 7, embedded := false, tag := "", pkgPath := "", byteOffset := 88 }, { name := "First", type := 38, offset := 14, embedded := false, tag := "", pkgPath := "", byteOffset := 240 }, { name := "Second", type := 38, offset := 20, embedded := false, tag := "", pkgPath := "", byteOffset := 336 }, { name := "Slots", type := 39, offset := 26, embedded := false, tag := "", pkgPath := "", byteOffset := 432 }, { name := "Dir", type := 32, offset := 27, embedded := false, tag := "", pkgPath := "", byteOffset := 456 }, { name := "Rays", type := 40, offset := 31, embedded := false, tag := "", pkgPath := "", byteOffset := 552 }, { name := "From", type := 42, offset := 32, embedded := false, tag := "", pkgPath := "", byteOffset := 576 }, { name := "To", type := 42, offset := 34, embedded := false, tag := "", pkgPath := "", byteOffset := 624 }, { name := "List", type := 22, offset := 36, embedded := false, tag := "", pkgPath := "", byteOffset := 672 }, { name := "Word", type := 9, offset := 37, embedded := false, tag := "", pkgPath := "", byteOffset := 696 }, { name := "Orbit", type := 45, offset := 38, embedded := false, tag := "", pkgPath := "", byteOffset := 712 }, { name := "Lists", type := 28, offset := 41, embedded := false, tag := "", pkgPath := "", byteOffset := 784 }, { name := "Rows", type := 47, offset := 42, embedded := false, tag := "", pkgPath := "", byteOffset := 808 }, { name := "Rate", type := 49, offset := 44, embedded := false, tag := "", pkgPath := "", byteOffset := 856 }], size := 46, bytes := 904, zero := .agg [.int .i64 (0), .int .i64 (0), .nils, .int .i64 (0), .int .i64 (0), .int .i64 (0), .nils, .int .i64 (0), .nils, .nils, .nils, .nils, .nils, .nils, .nils, .int .i64 (0), .int .i64 (0), .int .i64 (0), .nils, .nils, .nils, .int .i64 (0), .int .i64 (0), .int .i64 (0), .nils, .nils, .nils, .nils, .nils, .nils, .nils, .nils, .nils, .nils, .nils, .nils, .nils, .str .empty, .nils, .nils, .nils, .nils, .nils, .nils, .nils, .nils] }
def t53 : TI := { desc := Go.TypeDesc.struct #[{ name := "Name", type := 9, offset := 0, embedded := false, tag := "", pkgPath := "", byteOffset := 0 }, { name := "Author", type := 9, offset := 1, embedded := false, tag := "", pkgPath := "", byteOffset := 16 }, { name := "Number", type := 3, offset := 2, embedded := false, tag := "", pkgPath := "", byteOffset := 32 }, { name := "Claim", type := 51, offset := 3, embedded := false, tag := "", pkgPath := "", byteOffset := 40 }], size := 49, bytes := 944, zero := .agg [.str .empty, .str .empty, .int .i64 (0), .int .i64 (0), .int .i64 (0), .nils, .int .i64 (0), .int .i64 (0), .int .i64 (0), .nils, .int .i64 (0), .nils, .nils, .nils, .nils, .nils, .nils, .nils, .int .i64 (0), .int .i64 (0), .int .i64 (0), .nils, .nils, .nils, .int .i64 (0), .int .i64 (0), .int .i64 (0), .nils, .nils, .nils, .nils, .nils, .nils, .nils, .nils, .nils, .nils, .nils, .nils, .nils, .str .empty, .nils, .nils, .nils, .nils, .nils, .nils, .nils, .nils] }
def t55 : TI := { desc := Go.TypeDesc.func #[53] #[4] false, size := 1, bytes := 8, zero := .nilf }
def t56 : TI := { desc := Go.TypeDesc.pointer 85, size := 1, bytes := 8, zero := .nilp }
def t57 : TI := { desc := Go.TypeDesc.pointer 112, size := 1, bytes := 8, zero := .nilp }
def t58 : TI := { desc := Go.TypeDesc.int (Go.IntKind.i64), size := 1, bytes := 8, zero := .int .i64 (0) }
def t64 : TI := { desc := Go.TypeDesc.slice 53, size := 1, bytes := 24, zero := .nils }
def t75 : TI := { desc := Go.TypeDesc.struct #[{ name := "Squares", type := 3, offset := 0, embedded := false, tag := "", pkgPath := "", byteOffset := 0 }, { name := "Next", type := 3, offset := 1, embedded := false, tag := "", pkgPath := "", byteOffset := 8 }, { name := "Found", type := 43, offset := 2, embedded := false, tag := "", pkgPath := "", byteOffset := 16 }], size := 3, bytes := 40, zero := .agg [.int .i64 (0), .int .i64 (0), .nils] }
def t83 : TI := { desc := Go.TypeDesc.slice 9, size := 1, bytes := 24, zero := .nils }
def t85 : TI := { desc := Go.TypeDesc.struct #[{ name := "texts", type := 83, offset := 0, embedded := false, tag := "", pkgPath := pk0, byteOffset := 0 }], size := 1, bytes := 24, zero := .agg [.nils] }
def t91 : TI := { desc := Go.TypeDesc.pointer 94, size := 1, bytes := 8, zero := .nilp }
def t92 : TI := { desc := Go.TypeDesc.slice 5, size := 1, bytes := 24, zero := .nils }
def t94 : TI := { desc := Go.TypeDesc.struct #[{ name := "addr", type := 91, offset := 0, embedded := false, tag := "", pkgPath := "strings", byteOffset := 0 }, { name := "buf", type := 92, offset := 1, embedded := false, tag := "", pkgPath := "strings", byteOffset := 8 }], size := 2, bytes := 32, zero := .agg [.nilp, .nils] }
def t101 : TI := { desc := Go.TypeDesc.func #[57] #[9] false, size := 1, bytes := 8, zero := .nilf }
def t103 : TI := { desc := Go.TypeDesc.map 9 101, size := 1, bytes := 8, zero := .nilm }
def t107 : TI := { desc := Go.TypeDesc.func #[57, 9] #[9] false, size := 1, bytes := 8, zero := .nilf }
def t109 : TI := { desc := Go.TypeDesc.map 9 107, size := 1, bytes := 8, zero := .nilm }
def t112 : TI := { desc := Go.TypeDesc.struct #[{ name := "archive", type := 56, offset := 0, embedded := false, tag := "", pkgPath := pk0, byteOffset := 0 }, { name := "survey", type := 75, offset := 1, embedded := false, tag := "", pkgPath := pk0, byteOffset := 8 }], size := 4, bytes := 48, zero := .agg [.nilp, .int .i64 (0), .int .i64 (0), .nils] }
def t114 : TI := { desc := Go.TypeDesc.func #[116, 148] #[] false, size := 1, bytes := 8, zero := .nilf }
def t116 : TI := { desc := Go.TypeDesc.pointer 147, size := 1, bytes := 8, zero := .nilp }
def t131 : TI := { desc := Go.TypeDesc.func #[42] #[4] false, size := 1, bytes := 8, zero := .nilf }
def t135 : TI := { desc := Go.TypeDesc.struct #[{ name := "Face", type := 3, offset := 0, embedded := false, tag := "", pkgPath := "", byteOffset := 0 }, { name := "Edge", type := 3, offset := 1, embedded := false, tag := "", pkgPath := "", byteOffset := 8 }], size := 2, bytes := 16, zero := .agg [.int .i64 (0), .int .i64 (0)] }
def t137 : TI := { desc := Go.TypeDesc.struct #[{ name := "From", type := 135, offset := 0, embedded := false, tag := "", pkgPath := "", byteOffset := 0 }, { name := "To", type := 135, offset := 2, embedded := false, tag := "", pkgPath := "", byteOffset := 16 }, { name := "T", type := 30, offset := 4, embedded := false, tag := "", pkgPath := "", byteOffset := 32 }, { name := "Open", type := 4, offset := 6, embedded := false, tag := "", pkgPath := "", byteOffset := 80 }], size := 7, bytes := 88, zero := .agg [.int .i64 (0), .int .i64 (0), .int .i64 (0), .int .i64 (0), .nils, .nils, .bool false] }
def t147 : TI := { desc := Go.TypeDesc.struct #[{ name := "reading", type := 4, offset := 0, embedded := false, tag := "", pkgPath := pk0, byteOffset := 0 }, { name := "written", type := 92, offset := 1, embedded := false, tag := "", pkgPath := pk0, byteOffset := 8 }, { name := "words", type := 83, offset := 2, embedded := false, tag := "", pkgPath := pk0, byteOffset := 32 }, { name := "e", type := 58, offset := 3, embedded := false, tag := "", pkgPath := pk0, byteOffset := 56 }], size := 4, bytes := 64, zero := .agg [.bool false, .nils, .nils, .int .i64 (0)] }
def t148 : TI := { desc := Go.TypeDesc.pointer 53, size := 1, bytes := 8, zero := .nilp }
def t151 : TI := { desc := Go.TypeDesc.pointer 9, size := 1, bytes := 8, zero := .nilp }
def t153 : TI := { desc := Go.TypeDesc.pointer 3, size := 1, bytes := 8, zero := .nilp }
def t155 : TI := { desc := Go.TypeDesc.pointer 51, size := 1, bytes := 8, zero := .nilp }
def t215 : TI := { desc := Go.TypeDesc.int (Go.IntKind.u64), size := 1, bytes := 8, zero := .int .u64 (0) }
def t225 : TI := { desc := Go.TypeDesc.func #[153] #[] false, size := 1, bytes := 8, zero := .nilf }
def t227 : TI := { desc := Go.TypeDesc.pointer 27, size := 1, bytes := 8, zero := .nilp }
def t229 : TI := { desc := Go.TypeDesc.pointer 34, size := 1, bytes := 8, zero := .nilp }
def t231 : TI := { desc := Go.TypeDesc.pointer 38, size := 1, bytes := 8, zero := .nilp }
def t233 : TI := { desc := Go.TypeDesc.pointer 39, size := 1, bytes := 8, zero := .nilp }
def t235 : TI := { desc := Go.TypeDesc.pointer 32, size := 1, bytes := 8, zero := .nilp }
def t237 : TI := { desc := Go.TypeDesc.pointer 40, size := 1, bytes := 8, zero := .nilp }
def t238 : TI := { desc := Go.TypeDesc.func #[333] #[] false, size := 1, bytes := 8, zero := .nilf }
def t240 : TI := { desc := Go.TypeDesc.pointer 42, size := 1, bytes := 8, zero := .nilp }
def t242 : TI := { desc := Go.TypeDesc.pointer 22, size := 1, bytes := 8, zero := .nilp }
def t244 : TI := { desc := Go.TypeDesc.pointer 45, size := 1, bytes := 8, zero := .nilp }
def t246 : TI := { desc := Go.TypeDesc.pointer 28, size := 1, bytes := 8, zero := .nilp }
def t248 : TI := { desc := Go.TypeDesc.pointer 47, size := 1, bytes := 8, zero := .nilp }
def t250 : TI := { desc := Go.TypeDesc.pointer 49, size := 1, bytes := 8, zero := .nilp }
def t265 : TI := { desc := Go.TypeDesc.map 3 4, size := 1, bytes := 8, zero := .nilm }
def t275 : TI := { desc := Go.TypeDesc.func #[3] #[4] false, size := 1, bytes := 8, zero := .nilf }
def t276 : TI := { desc := Go.TypeDesc.array 2 3, size := 2, bytes := 16, zero := .agg [.int .i64 (0), .int .i64 (0)] }
def t316 : TI := { desc := Go.TypeDesc.array 24 5, size := 24, bytes := 24, zero := .agg [.int .u8 (0), .int .u8 (0), .int .u8 (0), .int .u8 (0), .int .u8 (0), .int .u8 (0), .int .u8 (0), .int .u8 (0), .int .u8 (0), .int .u8 (0), .int .u8 (0), .int .u8 (0), .int .u8 (0), .int .u8 (0), .int .u8 (0), .int .u8 (0), .int .u8 (0), .int .u8 (0), .int .u8 (0), .int .u8 (0), .int .u8 (0), .int .u8 (0), .int .u8 (0), .int .u8 (0)] }
def t346 : TI := { desc := Go.TypeDesc.pointer 352, size := 1, bytes := 8, zero := .nilp }
def t350 : TI := { desc := Go.TypeDesc.map 3 3, size := 1, bytes := 8, zero := .nilm }
def t352 : TI := { desc := Go.TypeDesc.struct #[{ name := "squares", type := 22, offset := 0, embedded := false, tag := "", pkgPath := pk1, byteOffset := 0 }, { name := "numbers", type := 350, offset := 1, embedded := false, tag := "", pkgPath := pk1, byteOffset := 24 }], size := 2, bytes := 32, zero := .agg [.nils, .nilm] }
def t407 : TI := { desc := Go.TypeDesc.slice 4, size := 1, bytes := 24, zero := .nils }
def tget (f : Nat) : Option TI :=
  if f < 103 then
   if f < 42 then
    if f < 28 then
     if f < 9 then
      if f < 4 then
       if f < 3 then
        if f = 2 then some t2 else none
       else
        if f = 3 then some t3 else none
      else
       if f < 5 then
        if f = 4 then some t4 else none
       else
        if f = 5 then some t5 else none
     else
      if f < 24 then
       if f < 22 then
        if f = 9 then some t9 else none
       else
        if f = 22 then some t22 else none
      else
       if f < 25 then
        if f = 24 then some t24 else none
       else
        if f < 27 then
         if f = 25 then some t25 else none
        else
         if f = 27 then some t27 else none
    else
     if f < 35 then
      if f < 32 then
       if f < 30 then
        if f = 28 then some t28 else none
       else
        if f = 30 then some t30 else none
      else
       if f < 34 then
        if f = 32 then some t32 else none
       else
        if f = 34 then some t34 else none
     else
      if f < 38 then
       if f < 36 then
        if f = 35 then some t35 else none
       else
        if f = 36 then some t36 else none
      else
       if f < 39 then
        if f = 38 then some t38 else none
       else
        if f < 40 then
         if f = 39 then some t39 else none
        else
         if f = 40 then some t40 else none
   else
    if f < 57 then
     if f < 49 then
      if f < 45 then
       if f < 43 then
        if f = 42 then some t42 else none
       else
        if f = 43 then some t43 else none
      else
       if f < 47 then
        if f = 45 then some t45 else none
       else
        if f = 47 then some t47 else none
     else
      if f < 53 then
       if f < 51 then
        if f = 49 then some t49 else none
       else
        if f = 51 then some t51 else none
      else
       if f < 55 then
        if f = 53 then some t53 else none
       else
        if f < 56 then
         if f = 55 then some t55 else none
        else
         if f = 56 then some t56 else none
    else
     if f < 85 then
      if f < 64 then
       if f < 58 then
        if f = 57 then some t57 else none
       else
        if f = 58 then some t58 else none
      else
       if f < 75 then
        if f = 64 then some t64 else none
       else
        if f < 83 then
         if f = 75 then some t75 else none
        else
         if f = 83 then some t83 else none
     else
      if f < 92 then
       if f < 91 then
        if f = 85 then some t85 else none
       else
        if f = 91 then some t91 else none
      else
       if f < 94 then
        if f = 92 then some t92 else none
       else
        if f < 101 then
         if f = 94 then some t94 else none
        else
         if f = 101 then some t101 else none
  else
   if f < 231 then
    if f < 147 then
     if f < 114 then
      if f < 109 then
       if f < 107 then
        if f = 103 then some t103 else none
       else
        if f = 107 then some t107 else none
      else
       if f < 112 then
        if f = 109 then some t109 else none
       else
        if f = 112 then some t112 else none
     else
      if f < 131 then
       if f < 116 then
        if f = 114 then some t114 else none
       else
        if f = 116 then some t116 else none
      else
       if f < 135 then
        if f = 131 then some t131 else none
       else
        if f < 137 then
         if f = 135 then some t135 else none
        else
         if f = 137 then some t137 else none
    else
     if f < 155 then
      if f < 151 then
       if f < 148 then
        if f = 147 then some t147 else none
       else
        if f = 148 then some t148 else none
      else
       if f < 153 then
        if f = 151 then some t151 else none
       else
        if f = 153 then some t153 else none
     else
      if f < 225 then
       if f < 215 then
        if f = 155 then some t155 else none
       else
        if f = 215 then some t215 else none
      else
       if f < 227 then
        if f = 225 then some t225 else none
       else
        if f < 229 then
         if f = 227 then some t227 else none
        else
         if f = 229 then some t229 else none
   else
    if f < 248 then
     if f < 238 then
      if f < 235 then
       if f < 233 then
        if f = 231 then some t231 else none
       else
        if f = 233 then some t233 else none
      else
       if f < 237 then
        if f = 235 then some t235 else none
       else
        if f = 237 then some t237 else none
     else
      if f < 242 then
       if f < 240 then
        if f = 238 then some t238 else none
       else
        if f = 240 then some t240 else none
      else
       if f < 244 then
        if f = 242 then some t242 else none
       else
        if f < 246 then
         if f = 244 then some t244 else none
        else
         if f = 246 then some t246 else none
    else
     if f < 316 then
      if f < 265 then
       if f < 250 then
        if f = 248 then some t248 else none
       else
        if f = 250 then some t250 else none
      else
       if f < 275 then
        if f = 265 then some t265 else none
       else
        if f < 276 then
         if f = 275 then some t275 else none
        else
         if f = 276 then some t276 else none
     else
      if f < 350 then
       if f < 346 then
        if f = 316 then some t316 else none
       else
        if f = 346 then some t346 else none
      else
       if f < 352 then
        if f = 350 then some t350 else none
       else
        if f < 407 then
         if f = 352 then some t352 else none
        else
         if f = 407 then some t407 else none
noncomputable def c3 : FI := fiOf Tryz.f3
noncomputable def c4 : FI := fiOf Tryz.f4
noncomputable def c5 : FI := fiOf Tryz.f5
noncomputable def c6 : FI := fiOf Tryz.f6
noncomputable def c7 : FI := fiOf Tryz.f7
noncomputable def c8 : FI := fiOf Tryz.f8
noncomputable def c9 : FI := fiOf Tryz.f9
noncomputable def c10 : FI := fiOf Tryz.f10
noncomputable def c11 : FI := fiOf Tryz.f11
noncomputable def c12 : FI := fiOf Tryz.f12
noncomputable def c13 : FI := fiOf Tryz.f13
noncomputable def c14 : FI := fiOf Tryz.f14
noncomputable def c15 : FI := fiOf Tryz.f15
noncomputable def c16 : FI := fiOf Tryz.f16
noncomputable def c17 : FI := fiOf Tryz.f17
noncomputable def c18 : FI := fiOf Tryz.f18
noncomputable def c19 : FI := fiOf Tryz.f19
noncomputable def c20 : FI := fiOf Tryz.f20
noncomputable def c21 : FI := fiOf Tryz.f21
noncomputable def c27 : FI := fiOf Tryz.f27
noncomputable def c28 : FI := fiOf Tryz.f28
noncomputable def c30 : FI := fiOf Tryz.f30
noncomputable def c36 : FI := fiOf Tryz.f36
noncomputable def c37 : FI := fiOf Tryz.f37
noncomputable def c38 : FI := fiOf Tryz.f38
noncomputable def c39 : FI := fiOf Tryz.f39
noncomputable def c40 : FI := fiOf Tryz.f40
noncomputable def c41 : FI := fiOf Tryz.f41
noncomputable def c43 : FI := fiOf Tryz.f43
noncomputable def c47 : FI := fiOf Tryz.f47
noncomputable def c48 : FI := fiOf Tryz.f48
noncomputable def c54 : FI := fiOf Tryz.f54
noncomputable def c55 : FI := fiOf Tryz.f55
noncomputable def c56 : FI := fiOf Tryz.f56
noncomputable def c57 : FI := fiOf Tryz.f57
noncomputable def c58 : FI := fiOf Tryz.f58
noncomputable def c59 : FI := fiOf Tryz.f59
noncomputable def c60 : FI := fiOf Tryz.f60
noncomputable def c65 : FI := fiOf Tryz.f65
noncomputable def c67 : FI := fiOf Tryz.f67
noncomputable def c76 : FI := fiOf Tryz.f76
noncomputable def c77 : FI := fiOf Tryz.f77
noncomputable def c78 : FI := fiOf Tryz.f78
noncomputable def c79 : FI := fiOf Tryz.f79
noncomputable def c80 : FI := fiOf Tryz.f80
noncomputable def c81 : FI := fiOf Tryz.f81
noncomputable def c82 : FI := fiOf Tryz.f82
noncomputable def c83 : FI := fiOf Tryz.f83
noncomputable def c91 : FI := fiOf Tryz.f91
noncomputable def c92 : FI := fiOf Tryz.f92
noncomputable def c93 : FI := fiOf Tryz.f93
noncomputable def c105 : FI := fiOf Tryz.f105
noncomputable def c107 : FI := fiOf Tryz.f107
noncomputable def c122 : FI := fiOf Tryz.f122
noncomputable def c127 : FI := fiOf Tryz.f127
noncomputable def c131 : FI := fiOf Tryz.f131
noncomputable def c139 : FI := fiOf Tryz.f139
noncomputable def c140 : FI := fiOf Tryz.f140
noncomputable def c146 : FI := fiOf Tryz.f146
noncomputable def c147 : FI := fiOf Tryz.f147
noncomputable def c148 : FI := fiOf Tryz.f148
noncomputable def c163 : FI := fiOf Tryz.f163
noncomputable def c164 : FI := fiOf Tryz.f164
noncomputable def c165 : FI := fiOf Tryz.f165
noncomputable def c166 : FI := fiOf Tryz.f166
noncomputable def c167 : FI := fiOf Tryz.f167
noncomputable def c202 : FI := fiOf Tryz.f202
noncomputable def c220 : FI := fiOf Tryz.f220
noncomputable def c225 : FI := fiOf Tryz.f225
noncomputable def c226 : FI := fiOf Tryz.f226
noncomputable def c227 : FI := fiOf Tryz.f227
noncomputable def c228 : FI := fiOf Tryz.f228
noncomputable def c229 : FI := fiOf Tryz.f229
noncomputable def c230 : FI := fiOf Tryz.f230
noncomputable def c251 : FI := fiOf Tryz.f251
noncomputable def c252 : FI := fiOf Tryz.f252
noncomputable def c259 : FI := fiOf Tryz.f259
noncomputable def c303 : FI := fiOf Tryz.f303
noncomputable def c304 : FI := fiOf Tryz.f304
noncomputable def c305 : FI := fiOf Tryz.f305
noncomputable def c306 : FI := fiOf Tryz.f306
noncomputable def c350 : FI := fiOf Tryz.f350
noncomputable def c354 : FI := fiOf Tryz.f354
noncomputable def c397 : FI := fiOf Tryz.f397
noncomputable def c431 : FI := fiOf Tryz.f431
noncomputable def cget (f : Nat) : Option FI :=
  if f < 78 then
   if f < 30 then
    if f < 13 then
     if f < 8 then
      if f < 5 then
       if f < 4 then
        if f = 3 then some c3 else none
       else
        if f = 4 then some c4 else none
      else
       if f < 6 then
        if f = 5 then some c5 else none
       else
        if f < 7 then
         if f = 6 then some c6 else none
        else
         if f = 7 then some c7 else none
     else
      if f < 10 then
       if f < 9 then
        if f = 8 then some c8 else none
       else
        if f = 9 then some c9 else none
      else
       if f < 11 then
        if f = 10 then some c10 else none
       else
        if f < 12 then
         if f = 11 then some c11 else none
        else
         if f = 12 then some c12 else none
    else
     if f < 18 then
      if f < 15 then
       if f < 14 then
        if f = 13 then some c13 else none
       else
        if f = 14 then some c14 else none
      else
       if f < 16 then
        if f = 15 then some c15 else none
       else
        if f < 17 then
         if f = 16 then some c16 else none
        else
         if f = 17 then some c17 else none
     else
      if f < 21 then
       if f < 19 then
        if f = 18 then some c18 else none
       else
        if f < 20 then
         if f = 19 then some c19 else none
        else
         if f = 20 then some c20 else none
      else
       if f < 27 then
        if f = 21 then some c21 else none
       else
        if f < 28 then
         if f = 27 then some c27 else none
        else
         if f = 28 then some c28 else none
   else
    if f < 54 then
     if f < 40 then
      if f < 37 then
       if f < 36 then
        if f = 30 then some c30 else none
       else
        if f = 36 then some c36 else none
      else
       if f < 38 then
        if f = 37 then some c37 else none
       else
        if f < 39 then
         if f = 38 then some c38 else none
        else
         if f = 39 then some c39 else none
     else
      if f < 43 then
       if f < 41 then
        if f = 40 then some c40 else none
       else
        if f = 41 then some c41 else none
      else
       if f < 47 then
        if f = 43 then some c43 else none
       else
        if f < 48 then
         if f = 47 then some c47 else none
        else
         if f = 48 then some c48 else none
    else
     if f < 59 then
      if f < 56 then
       if f < 55 then
        if f = 54 then some c54 else none
       else
        if f = 55 then some c55 else none
      else
       if f < 57 then
        if f = 56 then some c56 else none
       else
        if f < 58 then
         if f = 57 then some c57 else none
        else
         if f = 58 then some c58 else none
     else
      if f < 67 then
       if f < 60 then
        if f = 59 then some c59 else none
       else
        if f < 65 then
         if f = 60 then some c60 else none
        else
         if f = 65 then some c65 else none
      else
       if f < 76 then
        if f = 67 then some c67 else none
       else
        if f < 77 then
         if f = 76 then some c76 else none
        else
         if f = 77 then some c77 else none
  else
   if f < 165 then
    if f < 107 then
     if f < 83 then
      if f < 80 then
       if f < 79 then
        if f = 78 then some c78 else none
       else
        if f = 79 then some c79 else none
      else
       if f < 81 then
        if f = 80 then some c80 else none
       else
        if f < 82 then
         if f = 81 then some c81 else none
        else
         if f = 82 then some c82 else none
     else
      if f < 92 then
       if f < 91 then
        if f = 83 then some c83 else none
       else
        if f = 91 then some c91 else none
      else
       if f < 93 then
        if f = 92 then some c92 else none
       else
        if f < 105 then
         if f = 93 then some c93 else none
        else
         if f = 105 then some c105 else none
    else
     if f < 140 then
      if f < 127 then
       if f < 122 then
        if f = 107 then some c107 else none
       else
        if f = 122 then some c122 else none
      else
       if f < 131 then
        if f = 127 then some c127 else none
       else
        if f < 139 then
         if f = 131 then some c131 else none
        else
         if f = 139 then some c139 else none
     else
      if f < 148 then
       if f < 146 then
        if f = 140 then some c140 else none
       else
        if f < 147 then
         if f = 146 then some c146 else none
        else
         if f = 147 then some c147 else none
      else
       if f < 163 then
        if f = 148 then some c148 else none
       else
        if f < 164 then
         if f = 163 then some c163 else none
        else
         if f = 164 then some c164 else none
   else
    if f < 251 then
     if f < 225 then
      if f < 167 then
       if f < 166 then
        if f = 165 then some c165 else none
       else
        if f = 166 then some c166 else none
      else
       if f < 202 then
        if f = 167 then some c167 else none
       else
        if f < 220 then
         if f = 202 then some c202 else none
        else
         if f = 220 then some c220 else none
     else
      if f < 228 then
       if f < 226 then
        if f = 225 then some c225 else none
       else
        if f < 227 then
         if f = 226 then some c226 else none
        else
         if f = 227 then some c227 else none
      else
       if f < 229 then
        if f = 228 then some c228 else none
       else
        if f < 230 then
         if f = 229 then some c229 else none
        else
         if f = 230 then some c230 else none
    else
     if f < 305 then
      if f < 259 then
       if f < 252 then
        if f = 251 then some c251 else none
       else
        if f = 252 then some c252 else none
      else
       if f < 303 then
        if f = 259 then some c259 else none
       else
        if f < 304 then
         if f = 303 then some c303 else none
        else
         if f = 304 then some c304 else none
     else
      if f < 354 then
       if f < 306 then
        if f = 305 then some c305 else none
       else
        if f < 350 then
         if f = 306 then some c306 else none
        else
         if f = 350 then some c350 else none
      else
       if f < 397 then
        if f = 354 then some c354 else none
       else
        if f < 431 then
         if f = 397 then some c397 else none
        else
         if f = 431 then some c431 else none
theorem tok2 : TiOk Tryz.prog 2 t2 := ⟨by kernel_rfl, by kernel_rfl, by kernel_rfl⟩
theorem tok3 : TiOk Tryz.prog 3 t3 := ⟨by kernel_rfl, by kernel_rfl, by kernel_rfl⟩
theorem tok4 : TiOk Tryz.prog 4 t4 := ⟨by kernel_rfl, by kernel_rfl, by kernel_rfl⟩
theorem tok5 : TiOk Tryz.prog 5 t5 := ⟨by kernel_rfl, by kernel_rfl, by kernel_rfl⟩
theorem tok9 : TiOk Tryz.prog 9 t9 := ⟨by kernel_rfl, by kernel_rfl, by kernel_rfl⟩
theorem tok22 : TiOk Tryz.prog 22 t22 := ⟨by kernel_rfl, by kernel_rfl, by kernel_rfl⟩
theorem tok24 : TiOk Tryz.prog 24 t24 := ⟨by kernel_rfl, by kernel_rfl, by kernel_rfl⟩
theorem tok25 : TiOk Tryz.prog 25 t25 := ⟨by kernel_rfl, by kernel_rfl, by kernel_rfl⟩
theorem tok27 : TiOk Tryz.prog 27 t27 := ⟨by kernel_rfl, by kernel_rfl, by kernel_rfl⟩
theorem tok28 : TiOk Tryz.prog 28 t28 := ⟨by kernel_rfl, by kernel_rfl, by kernel_rfl⟩
theorem tok30 : TiOk Tryz.prog 30 t30 := ⟨by kernel_rfl, by kernel_rfl, by kernel_rfl⟩
theorem tok32 : TiOk Tryz.prog 32 t32 := ⟨by kernel_rfl, by kernel_rfl, by kernel_rfl⟩
theorem tok34 : TiOk Tryz.prog 34 t34 := ⟨by kernel_rfl, by kernel_rfl, by kernel_rfl⟩
theorem tok35 : TiOk Tryz.prog 35 t35 := ⟨by kernel_rfl, by kernel_rfl, by kernel_rfl⟩
theorem tok36 : TiOk Tryz.prog 36 t36 := ⟨by kernel_rfl, by kernel_rfl, by kernel_rfl⟩
theorem tok38 : TiOk Tryz.prog 38 t38 := ⟨by kernel_rfl, by kernel_rfl, by kernel_rfl⟩
theorem tok39 : TiOk Tryz.prog 39 t39 := ⟨by kernel_rfl, by kernel_rfl, by kernel_rfl⟩
theorem tok40 : TiOk Tryz.prog 40 t40 := ⟨by kernel_rfl, by kernel_rfl, by kernel_rfl⟩
theorem tok42 : TiOk Tryz.prog 42 t42 := ⟨by kernel_rfl, by kernel_rfl, by kernel_rfl⟩
theorem tok43 : TiOk Tryz.prog 43 t43 := ⟨by kernel_rfl, by kernel_rfl, by kernel_rfl⟩
theorem tok45 : TiOk Tryz.prog 45 t45 := ⟨by kernel_rfl, by kernel_rfl, by kernel_rfl⟩
theorem tok47 : TiOk Tryz.prog 47 t47 := ⟨by kernel_rfl, by kernel_rfl, by kernel_rfl⟩
theorem tok49 : TiOk Tryz.prog 49 t49 := ⟨by kernel_rfl, by kernel_rfl, by kernel_rfl⟩
theorem tok51 : TiOk Tryz.prog 51 t51 := ⟨by kernel_rfl, by kernel_rfl, by kernel_rfl⟩
theorem tok53 : TiOk Tryz.prog 53 t53 := ⟨by kernel_rfl, by kernel_rfl, by kernel_rfl⟩
theorem tok55 : TiOk Tryz.prog 55 t55 := ⟨by kernel_rfl, by kernel_rfl, by kernel_rfl⟩
theorem tok56 : TiOk Tryz.prog 56 t56 := ⟨by kernel_rfl, by kernel_rfl, by kernel_rfl⟩
theorem tok57 : TiOk Tryz.prog 57 t57 := ⟨by kernel_rfl, by kernel_rfl, by kernel_rfl⟩
theorem tok58 : TiOk Tryz.prog 58 t58 := ⟨by kernel_rfl, by kernel_rfl, by kernel_rfl⟩
theorem tok64 : TiOk Tryz.prog 64 t64 := ⟨by kernel_rfl, by kernel_rfl, by kernel_rfl⟩
theorem tok75 : TiOk Tryz.prog 75 t75 := ⟨by kernel_rfl, by kernel_rfl, by kernel_rfl⟩
theorem tok83 : TiOk Tryz.prog 83 t83 := ⟨by kernel_rfl, by kernel_rfl, by kernel_rfl⟩
theorem tok85 : TiOk Tryz.prog 85 t85 := ⟨by kernel_rfl, by kernel_rfl, by kernel_rfl⟩
theorem tok91 : TiOk Tryz.prog 91 t91 := ⟨by kernel_rfl, by kernel_rfl, by kernel_rfl⟩
theorem tok92 : TiOk Tryz.prog 92 t92 := ⟨by kernel_rfl, by kernel_rfl, by kernel_rfl⟩
theorem tok94 : TiOk Tryz.prog 94 t94 := ⟨by kernel_rfl, by kernel_rfl, by kernel_rfl⟩
theorem tok101 : TiOk Tryz.prog 101 t101 := ⟨by kernel_rfl, by kernel_rfl, by kernel_rfl⟩
theorem tok103 : TiOk Tryz.prog 103 t103 := ⟨by kernel_rfl, by kernel_rfl, by kernel_rfl⟩
theorem tok107 : TiOk Tryz.prog 107 t107 := ⟨by kernel_rfl, by kernel_rfl, by kernel_rfl⟩
theorem tok109 : TiOk Tryz.prog 109 t109 := ⟨by kernel_rfl, by kernel_rfl, by kernel_rfl⟩
theorem tok112 : TiOk Tryz.prog 112 t112 := ⟨by kernel_rfl, by kernel_rfl, by kernel_rfl⟩
theorem tok114 : TiOk Tryz.prog 114 t114 := ⟨by kernel_rfl, by kernel_rfl, by kernel_rfl⟩
theorem tok116 : TiOk Tryz.prog 116 t116 := ⟨by kernel_rfl, by kernel_rfl, by kernel_rfl⟩
theorem tok131 : TiOk Tryz.prog 131 t131 := ⟨by kernel_rfl, by kernel_rfl, by kernel_rfl⟩
theorem tok135 : TiOk Tryz.prog 135 t135 := ⟨by kernel_rfl, by kernel_rfl, by kernel_rfl⟩
theorem tok137 : TiOk Tryz.prog 137 t137 := ⟨by kernel_rfl, by kernel_rfl, by kernel_rfl⟩
theorem tok147 : TiOk Tryz.prog 147 t147 := ⟨by kernel_rfl, by kernel_rfl, by kernel_rfl⟩
theorem tok148 : TiOk Tryz.prog 148 t148 := ⟨by kernel_rfl, by kernel_rfl, by kernel_rfl⟩
theorem tok151 : TiOk Tryz.prog 151 t151 := ⟨by kernel_rfl, by kernel_rfl, by kernel_rfl⟩
theorem tok153 : TiOk Tryz.prog 153 t153 := ⟨by kernel_rfl, by kernel_rfl, by kernel_rfl⟩
theorem tok155 : TiOk Tryz.prog 155 t155 := ⟨by kernel_rfl, by kernel_rfl, by kernel_rfl⟩
theorem tok215 : TiOk Tryz.prog 215 t215 := ⟨by kernel_rfl, by kernel_rfl, by kernel_rfl⟩
theorem tok225 : TiOk Tryz.prog 225 t225 := ⟨by kernel_rfl, by kernel_rfl, by kernel_rfl⟩
theorem tok227 : TiOk Tryz.prog 227 t227 := ⟨by kernel_rfl, by kernel_rfl, by kernel_rfl⟩
theorem tok229 : TiOk Tryz.prog 229 t229 := ⟨by kernel_rfl, by kernel_rfl, by kernel_rfl⟩
theorem tok231 : TiOk Tryz.prog 231 t231 := ⟨by kernel_rfl, by kernel_rfl, by kernel_rfl⟩
theorem tok233 : TiOk Tryz.prog 233 t233 := ⟨by kernel_rfl, by kernel_rfl, by kernel_rfl⟩
theorem tok235 : TiOk Tryz.prog 235 t235 := ⟨by kernel_rfl, by kernel_rfl, by kernel_rfl⟩
theorem tok237 : TiOk Tryz.prog 237 t237 := ⟨by kernel_rfl, by kernel_rfl, by kernel_rfl⟩
theorem tok238 : TiOk Tryz.prog 238 t238 := ⟨by kernel_rfl, by kernel_rfl, by kernel_rfl⟩
theorem tok240 : TiOk Tryz.prog 240 t240 := ⟨by kernel_rfl, by kernel_rfl, by kernel_rfl⟩
theorem tok242 : TiOk Tryz.prog 242 t242 := ⟨by kernel_rfl, by kernel_rfl, by kernel_rfl⟩
theorem tok244 : TiOk Tryz.prog 244 t244 := ⟨by kernel_rfl, by kernel_rfl, by kernel_rfl⟩
theorem tok246 : TiOk Tryz.prog 246 t246 := ⟨by kernel_rfl, by kernel_rfl, by kernel_rfl⟩
theorem tok248 : TiOk Tryz.prog 248 t248 := ⟨by kernel_rfl, by kernel_rfl, by kernel_rfl⟩
theorem tok250 : TiOk Tryz.prog 250 t250 := ⟨by kernel_rfl, by kernel_rfl, by kernel_rfl⟩
theorem tok265 : TiOk Tryz.prog 265 t265 := ⟨by kernel_rfl, by kernel_rfl, by kernel_rfl⟩
theorem tok275 : TiOk Tryz.prog 275 t275 := ⟨by kernel_rfl, by kernel_rfl, by kernel_rfl⟩
theorem tok276 : TiOk Tryz.prog 276 t276 := ⟨by kernel_rfl, by kernel_rfl, by kernel_rfl⟩
theorem tok316 : TiOk Tryz.prog 316 t316 := ⟨by kernel_rfl, by kernel_rfl, by kernel_rfl⟩
theorem tok346 : TiOk Tryz.prog 346 t346 := ⟨by kernel_rfl, by kernel_rfl, by kernel_rfl⟩
theorem tok350 : TiOk Tryz.prog 350 t350 := ⟨by kernel_rfl, by kernel_rfl, by kernel_rfl⟩
theorem tok352 : TiOk Tryz.prog 352 t352 := ⟨by kernel_rfl, by kernel_rfl, by kernel_rfl⟩
theorem tok407 : TiOk Tryz.prog 407 t407 := ⟨by kernel_rfl, by kernel_rfl, by kernel_rfl⟩
theorem cok3 : FiOk Tryz.prog 3 c3 := fiOk_of Tryz.func3 (by kernel_rfl) (by kernel_rfl)
theorem cok4 : FiOk Tryz.prog 4 c4 := fiOk_of Tryz.func4 (by kernel_rfl) (by kernel_rfl)
theorem cok5 : FiOk Tryz.prog 5 c5 := fiOk_of Tryz.func5 (by kernel_rfl) (by kernel_rfl)
theorem cok6 : FiOk Tryz.prog 6 c6 := fiOk_of Tryz.func6 (by kernel_rfl) (by kernel_rfl)
theorem cok7 : FiOk Tryz.prog 7 c7 := fiOk_of Tryz.func7 (by kernel_rfl) (by kernel_rfl)
theorem cok8 : FiOk Tryz.prog 8 c8 := fiOk_of Tryz.func8 (by kernel_rfl) (by kernel_rfl)
theorem cok9 : FiOk Tryz.prog 9 c9 := fiOk_of Tryz.func9 (by kernel_rfl) (by kernel_rfl)
theorem cok10 : FiOk Tryz.prog 10 c10 := fiOk_of Tryz.func10 (by kernel_rfl) (by kernel_rfl)
theorem cok11 : FiOk Tryz.prog 11 c11 := fiOk_of Tryz.func11 (by kernel_rfl) (by kernel_rfl)
theorem cok12 : FiOk Tryz.prog 12 c12 := fiOk_of Tryz.func12 (by kernel_rfl) (by kernel_rfl)
theorem cok13 : FiOk Tryz.prog 13 c13 := fiOk_of Tryz.func13 (by kernel_rfl) (by kernel_rfl)
theorem cok14 : FiOk Tryz.prog 14 c14 := fiOk_of Tryz.func14 (by kernel_rfl) (by kernel_rfl)
theorem cok15 : FiOk Tryz.prog 15 c15 := fiOk_of Tryz.func15 (by kernel_rfl) (by kernel_rfl)
theorem cok16 : FiOk Tryz.prog 16 c16 := fiOk_of Tryz.func16 (by kernel_rfl) (by kernel_rfl)
theorem cok17 : FiOk Tryz.prog 17 c17 := fiOk_of Tryz.func17 (by kernel_rfl) (by kernel_rfl)
theorem cok18 : FiOk Tryz.prog 18 c18 := fiOk_of Tryz.func18 (by kernel_rfl) (by kernel_rfl)
theorem cok19 : FiOk Tryz.prog 19 c19 := fiOk_of Tryz.func19 (by kernel_rfl) (by kernel_rfl)
theorem cok20 : FiOk Tryz.prog 20 c20 := fiOk_of Tryz.func20 (by kernel_rfl) (by kernel_rfl)
theorem cok21 : FiOk Tryz.prog 21 c21 := fiOk_of Tryz.func21 (by kernel_rfl) (by kernel_rfl)
theorem cok27 : FiOk Tryz.prog 27 c27 := fiOk_of Tryz.func27 (by kernel_rfl) (by kernel_rfl)
theorem cok28 : FiOk Tryz.prog 28 c28 := fiOk_of Tryz.func28 (by kernel_rfl) (by kernel_rfl)
theorem cok30 : FiOk Tryz.prog 30 c30 := fiOk_of Tryz.func30 (by kernel_rfl) (by kernel_rfl)
theorem cok36 : FiOk Tryz.prog 36 c36 := fiOk_of Tryz.func36 (by kernel_rfl) (by kernel_rfl)
theorem cok37 : FiOk Tryz.prog 37 c37 := fiOk_of Tryz.func37 (by kernel_rfl) (by kernel_rfl)
theorem cok38 : FiOk Tryz.prog 38 c38 := fiOk_of Tryz.func38 (by kernel_rfl) (by kernel_rfl)
theorem cok39 : FiOk Tryz.prog 39 c39 := fiOk_of Tryz.func39 (by kernel_rfl) (by kernel_rfl)
theorem cok40 : FiOk Tryz.prog 40 c40 := fiOk_of Tryz.func40 (by kernel_rfl) (by kernel_rfl)
theorem cok41 : FiOk Tryz.prog 41 c41 := fiOk_of Tryz.func41 (by kernel_rfl) (by kernel_rfl)
theorem cok43 : FiOk Tryz.prog 43 c43 := fiOk_of Tryz.func43 (by kernel_rfl) (by kernel_rfl)
theorem cok47 : FiOk Tryz.prog 47 c47 := fiOk_of Tryz.func47 (by kernel_rfl) (by kernel_rfl)
theorem cok48 : FiOk Tryz.prog 48 c48 := fiOk_of Tryz.func48 (by kernel_rfl) (by kernel_rfl)
theorem cok54 : FiOk Tryz.prog 54 c54 := fiOk_of Tryz.func54 (by kernel_rfl) (by kernel_rfl)
theorem cok55 : FiOk Tryz.prog 55 c55 := fiOk_of Tryz.func55 (by kernel_rfl) (by kernel_rfl)
theorem cok56 : FiOk Tryz.prog 56 c56 := fiOk_of Tryz.func56 (by kernel_rfl) (by kernel_rfl)
theorem cok57 : FiOk Tryz.prog 57 c57 := fiOk_of Tryz.func57 (by kernel_rfl) (by kernel_rfl)
theorem cok58 : FiOk Tryz.prog 58 c58 := fiOk_of Tryz.func58 (by kernel_rfl) (by kernel_rfl)
theorem cok59 : FiOk Tryz.prog 59 c59 := fiOk_of Tryz.func59 (by kernel_rfl) (by kernel_rfl)
theorem cok60 : FiOk Tryz.prog 60 c60 := fiOk_of Tryz.func60 (by kernel_rfl) (by kernel_rfl)
theorem cok65 : FiOk Tryz.prog 65 c65 := fiOk_of Tryz.func65 (by kernel_rfl) (by kernel_rfl)
theorem cok67 : FiOk Tryz.prog 67 c67 := fiOk_of Tryz.func67 (by kernel_rfl) (by kernel_rfl)
theorem cok76 : FiOk Tryz.prog 76 c76 := fiOk_of Tryz.func76 (by kernel_rfl) (by kernel_rfl)
theorem cok77 : FiOk Tryz.prog 77 c77 := fiOk_of Tryz.func77 (by kernel_rfl) (by kernel_rfl)
theorem cok78 : FiOk Tryz.prog 78 c78 := fiOk_of Tryz.func78 (by kernel_rfl) (by kernel_rfl)
theorem cok79 : FiOk Tryz.prog 79 c79 := fiOk_of Tryz.func79 (by kernel_rfl) (by kernel_rfl)
theorem cok80 : FiOk Tryz.prog 80 c80 := fiOk_of Tryz.func80 (by kernel_rfl) (by kernel_rfl)
theorem cok81 : FiOk Tryz.prog 81 c81 := fiOk_of Tryz.func81 (by kernel_rfl) (by kernel_rfl)
theorem cok82 : FiOk Tryz.prog 82 c82 := fiOk_of Tryz.func82 (by kernel_rfl) (by kernel_rfl)
theorem cok83 : FiOk Tryz.prog 83 c83 := fiOk_of Tryz.func83 (by kernel_rfl) (by kernel_rfl)
theorem cok91 : FiOk Tryz.prog 91 c91 := fiOk_of Tryz.func91 (by kernel_rfl) (by kernel_rfl)
theorem cok92 : FiOk Tryz.prog 92 c92 := fiOk_of Tryz.func92 (by kernel_rfl) (by kernel_rfl)
theorem cok93 : FiOk Tryz.prog 93 c93 := fiOk_of Tryz.func93 (by kernel_rfl) (by kernel_rfl)
theorem cok105 : FiOk Tryz.prog 105 c105 := fiOk_of Tryz.func105 (by kernel_rfl) (by kernel_rfl)
theorem cok107 : FiOk Tryz.prog 107 c107 := fiOk_of Tryz.func107 (by kernel_rfl) (by kernel_rfl)
theorem cok122 : FiOk Tryz.prog 122 c122 := fiOk_of Tryz.func122 (by kernel_rfl) (by kernel_rfl)
theorem cok127 : FiOk Tryz.prog 127 c127 := fiOk_of Tryz.func127 (by kernel_rfl) (by kernel_rfl)
theorem cok131 : FiOk Tryz.prog 131 c131 := fiOk_of Tryz.func131 (by kernel_rfl) (by kernel_rfl)
theorem cok139 : FiOk Tryz.prog 139 c139 := fiOk_of Tryz.func139 (by kernel_rfl) (by kernel_rfl)
theorem cok140 : FiOk Tryz.prog 140 c140 := fiOk_of Tryz.func140 (by kernel_rfl) (by kernel_rfl)
theorem cok146 : FiOk Tryz.prog 146 c146 := fiOk_of Tryz.func146 (by kernel_rfl) (by kernel_rfl)
theorem cok147 : FiOk Tryz.prog 147 c147 := fiOk_of Tryz.func147 (by kernel_rfl) (by kernel_rfl)
theorem cok148 : FiOk Tryz.prog 148 c148 := fiOk_of Tryz.func148 (by kernel_rfl) (by kernel_rfl)
theorem cok163 : FiOk Tryz.prog 163 c163 := fiOk_of Tryz.func163 (by kernel_rfl) (by kernel_rfl)
theorem cok164 : FiOk Tryz.prog 164 c164 := fiOk_of Tryz.func164 (by kernel_rfl) (by kernel_rfl)
theorem cok165 : FiOk Tryz.prog 165 c165 := fiOk_of Tryz.func165 (by kernel_rfl) (by kernel_rfl)
theorem cok166 : FiOk Tryz.prog 166 c166 := fiOk_of Tryz.func166 (by kernel_rfl) (by kernel_rfl)
theorem cok167 : FiOk Tryz.prog 167 c167 := fiOk_of Tryz.func167 (by kernel_rfl) (by kernel_rfl)
theorem cok202 : FiOk Tryz.prog 202 c202 := fiOk_of Tryz.func202 (by kernel_rfl) (by kernel_rfl)
theorem cok220 : FiOk Tryz.prog 220 c220 := fiOk_of Tryz.func220 (by kernel_rfl) (by kernel_rfl)
theorem cok225 : FiOk Tryz.prog 225 c225 := fiOk_of Tryz.func225 (by kernel_rfl) (by kernel_rfl)
theorem cok226 : FiOk Tryz.prog 226 c226 := fiOk_of Tryz.func226 (by kernel_rfl) (by kernel_rfl)
theorem cok227 : FiOk Tryz.prog 227 c227 := fiOk_of Tryz.func227 (by kernel_rfl) (by kernel_rfl)
theorem cok228 : FiOk Tryz.prog 228 c228 := fiOk_of Tryz.func228 (by kernel_rfl) (by kernel_rfl)
theorem cok229 : FiOk Tryz.prog 229 c229 := fiOk_of Tryz.func229 (by kernel_rfl) (by kernel_rfl)
theorem cok230 : FiOk Tryz.prog 230 c230 := fiOk_of Tryz.func230 (by kernel_rfl) (by kernel_rfl)
theorem cok251 : FiOk Tryz.prog 251 c251 := fiOk_of Tryz.func251 (by kernel_rfl) (by kernel_rfl)
theorem cok252 : FiOk Tryz.prog 252 c252 := fiOk_of Tryz.func252 (by kernel_rfl) (by kernel_rfl)
theorem cok259 : FiOk Tryz.prog 259 c259 := fiOk_of Tryz.func259 (by kernel_rfl) (by kernel_rfl)
theorem cok303 : FiOk Tryz.prog 303 c303 := fiOk_of Tryz.func303 (by kernel_rfl) (by kernel_rfl)
theorem cok304 : FiOk Tryz.prog 304 c304 := fiOk_of Tryz.func304 (by kernel_rfl) (by kernel_rfl)
theorem cok305 : FiOk Tryz.prog 305 c305 := fiOk_of Tryz.func305 (by kernel_rfl) (by kernel_rfl)
theorem cok306 : FiOk Tryz.prog 306 c306 := fiOk_of Tryz.func306 (by kernel_rfl) (by kernel_rfl)
theorem cok350 : FiOk Tryz.prog 350 c350 := fiOk_of Tryz.func350 (by kernel_rfl) (by kernel_rfl)
theorem cok354 : FiOk Tryz.prog 354 c354 := fiOk_of Tryz.func354 (by kernel_rfl) (by kernel_rfl)
theorem cok397 : FiOk Tryz.prog 397 c397 := fiOk_of Tryz.func397 (by kernel_rfl) (by kernel_rfl)
theorem cok431 : FiOk Tryz.prog 431 c431 := fiOk_of Tryz.func431 (by kernel_rfl) (by kernel_rfl)
theorem tget_ok (f : Nat) (i : TI) (h : tget f = some i) : TiOk Tryz.prog f i :=
  let Q := TiOk Tryz.prog
  ite_q (ite_q (ite_q (ite_q (ite_q (ite_q (leaf_q (Q := Q) tok2) (leaf_q (Q := Q) tok3)) (ite_q (leaf_q (Q := Q) tok4) (leaf_q (Q := Q) tok5))) (ite_q (ite_q (leaf_q (Q := Q) tok9) (leaf_q (Q := Q) tok22)) (ite_q (leaf_q (Q := Q) tok24) (ite_q (leaf_q (Q := Q) tok25) (leaf_q (Q := Q) tok27))))) (ite_q (ite_q (ite_q (leaf_q (Q := Q) tok28) (leaf_q (Q := Q) tok30)) (ite_q (leaf_q (Q := Q) tok32) (leaf_q (Q := Q) tok34))) (ite_q (ite_q (leaf_q (Q := Q) tok35) (leaf_q (Q := Q) tok36)) (ite_q (leaf_q (Q := Q) tok38) (ite_q (leaf_q (Q := Q) tok39) (leaf_q (Q := Q) tok40)))))) (ite_q (ite_q (ite_q (ite_q (leaf_q (Q := Q) tok42) (leaf_q (Q := Q) tok43)) (ite_q (leaf_q (Q := Q) tok45) (leaf_q (Q := Q) tok47))) (ite_q (ite_q (leaf_q (Q := Q) tok49) (leaf_q (Q := Q) tok51)) (ite_q (leaf_q (Q := Q) tok53) (ite_q (leaf_q (Q := Q) tok55) (leaf_q (Q := Q) tok56))))) (ite_q (ite_q (ite_q (leaf_q (Q := Q) tok57) (leaf_q (Q := Q) tok58)) (ite_q (leaf_q (Q := Q) tok64) (ite_q (leaf_q (Q := Q) tok75) (leaf_q (Q := Q) tok83)))) (ite_q (ite_q (leaf_q (Q := Q) tok85) (leaf_q (Q := Q) tok91)) (ite_q (leaf_q (Q := Q) tok92) (ite_q (leaf_q (Q := Q) tok94) (leaf_q (Q := Q) tok101))))))) (ite_q (ite_q (ite_q (ite_q (ite_q (leaf_q (Q := Q) tok103) (leaf_q (Q := Q) tok107)) (ite_q (leaf_q (Q := Q) tok109) (leaf_q (Q := Q) tok112))) (ite_q (ite_q (leaf_q (Q := Q) tok114) (leaf_q (Q := Q) tok116)) (ite_q (leaf_q (Q := Q) tok131) (ite_q (leaf_q (Q := Q) tok135) (leaf_q (Q := Q) tok137))))) (ite_q (ite_q (ite_q (leaf_q (Q := Q) tok147) (leaf_q (Q := Q) tok148)) (ite_q (leaf_q (Q := Q) tok151) (leaf_q (Q := Q) tok153))) (ite_q (ite_q (leaf_q (Q := Q) tok155) (leaf_q (Q := Q) tok215)) (ite_q (leaf_q (Q := Q) tok225) (ite_q (leaf_q (Q := Q) tok227) (leaf_q (Q := Q) tok229)))))) (ite_q (ite_q (ite_q (ite_q (leaf_q (Q := Q) tok231) (leaf_q (Q := Q) tok233)) (ite_q (leaf_q (Q := Q) tok235) (leaf_q (Q := Q) tok237))) (ite_q (ite_q (leaf_q (Q := Q) tok238) (leaf_q (Q := Q) tok240)) (ite_q (leaf_q (Q := Q) tok242) (ite_q (leaf_q (Q := Q) tok244) (leaf_q (Q := Q) tok246))))) (ite_q (ite_q (ite_q (leaf_q (Q := Q) tok248) (leaf_q (Q := Q) tok250)) (ite_q (leaf_q (Q := Q) tok265) (ite_q (leaf_q (Q := Q) tok275) (leaf_q (Q := Q) tok276)))) (ite_q (ite_q (leaf_q (Q := Q) tok316) (leaf_q (Q := Q) tok346)) (ite_q (leaf_q (Q := Q) tok350) (ite_q (leaf_q (Q := Q) tok352) (leaf_q (Q := Q) tok407))))))) h
theorem cget_ok (f : Nat) (i : FI) (h : cget f = some i) : FiOk Tryz.prog f i :=
  let Q := FiOk Tryz.prog
  ite_q (ite_q (ite_q (ite_q (ite_q (ite_q (leaf_q (Q := Q) cok3) (leaf_q (Q := Q) cok4)) (ite_q (leaf_q (Q := Q) cok5) (ite_q (leaf_q (Q := Q) cok6) (leaf_q (Q := Q) cok7)))) (ite_q (ite_q (leaf_q (Q := Q) cok8) (leaf_q (Q := Q) cok9)) (ite_q (leaf_q (Q := Q) cok10) (ite_q (leaf_q (Q := Q) cok11) (leaf_q (Q := Q) cok12))))) (ite_q (ite_q (ite_q (leaf_q (Q := Q) cok13) (leaf_q (Q := Q) cok14)) (ite_q (leaf_q (Q := Q) cok15) (ite_q (leaf_q (Q := Q) cok16) (leaf_q (Q := Q) cok17)))) (ite_q (ite_q (leaf_q (Q := Q) cok18) (ite_q (leaf_q (Q := Q) cok19) (leaf_q (Q := Q) cok20))) (ite_q (leaf_q (Q := Q) cok21) (ite_q (leaf_q (Q := Q) cok27) (leaf_q (Q := Q) cok28)))))) (ite_q (ite_q (ite_q (ite_q (leaf_q (Q := Q) cok30) (leaf_q (Q := Q) cok36)) (ite_q (leaf_q (Q := Q) cok37) (ite_q (leaf_q (Q := Q) cok38) (leaf_q (Q := Q) cok39)))) (ite_q (ite_q (leaf_q (Q := Q) cok40) (leaf_q (Q := Q) cok41)) (ite_q (leaf_q (Q := Q) cok43) (ite_q (leaf_q (Q := Q) cok47) (leaf_q (Q := Q) cok48))))) (ite_q (ite_q (ite_q (leaf_q (Q := Q) cok54) (leaf_q (Q := Q) cok55)) (ite_q (leaf_q (Q := Q) cok56) (ite_q (leaf_q (Q := Q) cok57) (leaf_q (Q := Q) cok58)))) (ite_q (ite_q (leaf_q (Q := Q) cok59) (ite_q (leaf_q (Q := Q) cok60) (leaf_q (Q := Q) cok65))) (ite_q (leaf_q (Q := Q) cok67) (ite_q (leaf_q (Q := Q) cok76) (leaf_q (Q := Q) cok77))))))) (ite_q (ite_q (ite_q (ite_q (ite_q (leaf_q (Q := Q) cok78) (leaf_q (Q := Q) cok79)) (ite_q (leaf_q (Q := Q) cok80) (ite_q (leaf_q (Q := Q) cok81) (leaf_q (Q := Q) cok82)))) (ite_q (ite_q (leaf_q (Q := Q) cok83) (leaf_q (Q := Q) cok91)) (ite_q (leaf_q (Q := Q) cok92) (ite_q (leaf_q (Q := Q) cok93) (leaf_q (Q := Q) cok105))))) (ite_q (ite_q (ite_q (leaf_q (Q := Q) cok107) (leaf_q (Q := Q) cok122)) (ite_q (leaf_q (Q := Q) cok127) (ite_q (leaf_q (Q := Q) cok131) (leaf_q (Q := Q) cok139)))) (ite_q (ite_q (leaf_q (Q := Q) cok140) (ite_q (leaf_q (Q := Q) cok146) (leaf_q (Q := Q) cok147))) (ite_q (leaf_q (Q := Q) cok148) (ite_q (leaf_q (Q := Q) cok163) (leaf_q (Q := Q) cok164)))))) (ite_q (ite_q (ite_q (ite_q (leaf_q (Q := Q) cok165) (leaf_q (Q := Q) cok166)) (ite_q (leaf_q (Q := Q) cok167) (ite_q (leaf_q (Q := Q) cok202) (leaf_q (Q := Q) cok220)))) (ite_q (ite_q (leaf_q (Q := Q) cok225) (ite_q (leaf_q (Q := Q) cok226) (leaf_q (Q := Q) cok227))) (ite_q (leaf_q (Q := Q) cok228) (ite_q (leaf_q (Q := Q) cok229) (leaf_q (Q := Q) cok230))))) (ite_q (ite_q (ite_q (leaf_q (Q := Q) cok251) (leaf_q (Q := Q) cok252)) (ite_q (leaf_q (Q := Q) cok259) (ite_q (leaf_q (Q := Q) cok303) (leaf_q (Q := Q) cok304)))) (ite_q (ite_q (leaf_q (Q := Q) cok305) (ite_q (leaf_q (Q := Q) cok306) (leaf_q (Q := Q) cok350))) (ite_q (leaf_q (Q := Q) cok354) (ite_q (leaf_q (Q := Q) cok397) (leaf_q (Q := Q) cok431))))))) h
noncomputable def ctx : Ctx := ⟨tget, cget, fun _ => none, fun _ => none, fun _ => false⟩
theorem mixed : Tryz.prog.follows .mixedOrders = true := by kernel_rfl
theorem ctx_ok : Ctx.Ok Tryz.prog ctx where
  ty := fun t i h => (tget_ok t i h).ok
  fn := fun f i h => cget_ok f i h
  same := fun f h v w => by cases h
  noZero := fun f e h n w h0 hle => by cases h
  mixed := mixed
  eqs := fun t h => by cases h
  sum := fun _ _ _ _ _ _ h => by cases h
end Go.PI
