/- Own work of the verifier: PiExec PiEv PiOps. -/
import Derived.Test.YtefajaiioljjoaaOwAA
import Derived.Laws.StructEq
set_option linter.all false
set_option exponentiation.threshold 3000
set_option linter.deprecated false
/- THE INTERPRETER. -/
namespace Go.PI
structure TI where
  desc : TypeDesc
  size : Nat
  bytes : Nat
  zero : AV
structure FI where
  ntmps : Nat
  results : List ResultVar
  body : Code
inductive XI where
  | same
  | noZero (elem : TypeId)
structure Ctx where
  ty : TypeId → Option TI
  fn : FuncId → Option FI
  ext : FuncId → Option XI
  /-- what is known of whole calls -/
  sum : FuncId → Option (List AV → Heap → Option (AV × Heap)) := fun _ => none
  /-- structs that may be compared field by field -/
  eqs : TypeId → Bool := fun _ => false
def AV.raw : Value → AV
  | .bool b => .bool b
  | v => .any v
theorem VR.raw (μ : M) (v : Value) : VR μ (AV.raw v) v := by
  cases v <;> first | exact .bool _ | exact .any _ (fun b h => by cases h)
def AV.cells : AV → List AV
  | .agg cs => cs
  | .any v => v.cells.toList.map AV.raw
  | v => [v]
def undefA : AV := .tup []
def AV.one : AV → Bool
  | .agg _ | .tup _ | .any _ => false
  | _ => true
def ones : List AV → Bool
  | [] => true
  | a :: as => a.one && ones as
def ofScalar : Value → Option AV
  | .int k n => some (.int k n)
  | .bool b => some (.bool b)
  | .string s => some (.str s)
  | .pointer none => some .nilp
  | .slice none 0 0 => some .nils
  | .nilFunc => some .nilf
  | .map none => some .nilm
  | .nilIface => some .nili
  | _ => none
def ofScalars : List Value → Option (List AV)
  | [] => some []
  | v :: vs => match ofScalar v, ofScalars vs with
    | some a, some as => some (a :: as)
    | _, _ => none
def ofConst : Value → Option AV
  | .agg cs => match ofScalars cs.toList with
    | some as => some (.agg as)
    | none => none
  | .tuple vs => if vs.size = 0 then some (.tup []) else none
  | v => ofScalar v
def opd (T : List AV) : Operand → Option AV
  | .tmp t => some (T.getD t undefA)
  | .const v => ofConst v
  | .global _ => none
  | .func f => some (.fn f [] [])
def opds (ρ : Operand → Option AV) : List Operand → Option (List AV)
  | [] => some []
  | x :: xs => match ρ x, opds ρ xs with
    | some a, some as => some (a :: as)
    | _, _ => none
def intBin (op : BinOp) (k : IntKind) (a b : Int) : Option AV :=
  match op with
  | .add => some (.int k (k.wrap (a + b)))
  | .sub => some (.int k (k.wrap (a - b)))
  | .mul => some (.int k (k.wrap (a * b)))
  | .quo => if b = 0 then none else some (.int k (k.wrap (a.tdiv b)))
  | .rem => if b = 0 then none else some (.int k (a.tmod b))
  | .eql => some (.bool (a == b))
  | .neq => some (.bool (a != b))
  | .lss => some (.bool (decide (a < b)))
  | .leq => some (.bool (decide (a ≤ b)))
  | .gtr => some (.bool (decide (a > b)))
  | .geq => some (.bool (decide (a ≥ b)))
  | .and => some (.int k (k.wrap (BitVec.ofInt k.bits a &&& BitVec.ofInt k.bits b).toNat))
  | .or => some (.int k (k.wrap (BitVec.ofInt k.bits a ||| BitVec.ofInt k.bits b).toNat))
  | .xor => some (.int k (k.wrap (BitVec.ofInt k.bits a ^^^ BitVec.ofInt k.bits b).toNat))
  | .andNot => some (.int k (k.wrap (BitVec.ofInt k.bits a &&& ~~~BitVec.ofInt k.bits b).toNat))
  | _ => none
def eqOp (op : BinOp) (b : Bool) : Option AV :=
  match op with
  | .eql => some (.bool b)
  | .neq => some (.bool (!b))
  | _ => none
def strBin (op : BinOp) (a b : ByteArray) : Option AV :=
  match op with
  | .add => if a.size + b.size < 1000000 then some (.str (a ++ b)) else none
  | .eql => some (.bool (a.toList == b.toList))
  | .neq => some (.bool (!(a.toList == b.toList)))
  | _ => none
def isConstOp : Operand → Bool
  | .const _ => true
  | _ => false
def shiftE (op : BinOp) (k : IntKind) (a b : Int) : Option AV :=
  if b < 0 then none else
  match op with
  | .shl => some (.int k (k.wrap (a * 2 ^ (min b.toNat k.bits))))
  | .shr => some (.int k (a.fdiv (2 ^ (min b.toNat k.bits))))
  | _ => none
def isShift : BinOp → Bool
  | .shl | .shr => true
  | _ => false
inductive EqK where
  | bool | ptr | slice | iface
def EqK.fits : EqK → TypeDesc → Bool
  | .bool, .bool => true
  | .ptr, .pointer _ => true
  | .slice, .slice _ => true
  | .iface, .interface _ => true
  | _, _ => false
def eqIf (C : Ctx) (k : EqK) (op : BinOp) (t : TypeId) (r : Bool) : Option AV :=
  match C.ty t with
  | some i => if k.fits i.desc then eqOp op r else none
  | none => none
def eqPtrs (C : Ctx) (op : BinOp) (t : TypeId) (b o b' o' : Nat) : Option AV :=
  match C.ty t with
  | some i => match i.desc with
    | .pointer e => match C.ty e with
      | some ei => if ei.size ≠ 0 ∧ b = b' then eqOp op (o == o') else none
      | none => none
    | _ => none
  | none => none
def intFs (C : Ctx) : List Field → Nat → Bool
  | [], _ => true
  | f :: fs, o => (match C.ty f.type with
    | some i => (match i.desc with
      | .int _ => true
      | _ => false)
    | none => false) && Nat.beq f.offset o && intFs C fs (o + 1)
def eqInts : List AV → List AV → Option Bool
  | [], [] => some true
  | .int k m :: as, .int k' n :: bs => if k = k' then (match eqInts as bs with
    | some r => some (m == n && r)
    | none => none) else none
  | _, _ => none
def eqOk (C : Ctx) (t : TypeId) (n : Nat) : Bool :=
  C.eqs t && (match C.ty t with
  | some i => (match i.desc with
    | .struct fs => intFs C fs.toList 0 && Nat.beq fs.toList.length n
    | _ => false)
  | none => false)
def eqStr (C : Ctx) (op : BinOp) (t : TypeId) (as bs : List AV) : Option AV :=
  match eqOk C t as.length with
  | true => match eqInts as bs with
    | some r => eqOp op r
    | none => none
  | false => none
def binE (C : Ctx) (op : BinOp) (t : TypeId) (x y : Operand) (a b : AV) : Option AV :=
  match a with
  | .int k m => match b with
    | .int k' n => if isShift op then shiftE op k m n else if k = k' then intBin op k m n else none
    | _ => none
  | .str s => match b with
    | .str u => strBin op s u
    | _ => none
  | .bool p => match b with
    | .bool q => eqIf C .bool op t (p == q)
    | _ => none
  | .nilp => match b with
    | .nilp => eqIf C .ptr op t true
    | .ptr _ _ => eqIf C .ptr op t false
    | _ => none
  | .ptr b1 o1 => match b with
    | .nilp => eqIf C .ptr op t false
    | .ptr b2 o2 => eqPtrs C op t b1 o1 b2 o2
    | _ => none
  | .nils => match b with
    | .nils => eqIf C .slice op t true
    | .sl _ _ _ _ => eqIf C .slice op t false
    | .slu _ _ _ _ => eqIf C .slice op t false
    | .sle => eqIf C .slice op t false
    | _ => none
  | .sle => match b with
    | .nils => eqIf C .slice op t false
    | _ => none
  | .sl _ _ _ _ => match b with
    | .nils => eqIf C .slice op t false
    | _ => none
  | .slu _ _ _ _ => match b with
    | .nils => eqIf C .slice op t false
    | _ => none
  | .nili => match b with
    | .nili => if isConstOp x || isConstOp y then eqIf C .iface op t true else none
    | .ifc _ _ => eqIf C .iface op t false
    | _ => none
  | .ifc _ _ => match b with
    | .nili => eqIf C .iface op t false
    | _ => none
  | .agg as => match b with
    | .agg bs => eqStr C op t as bs
    | _ => none
  | _ => none
def bound (x : Option AV) (y : Nat) : Option Nat :=
  match x with
  | some (.int _ i) => if 0 ≤ i ∧ i ≤ y then some i.toNat else none
  | _ => none
def partE (C : Ctx) (t : TypeId) (cs : List AV) (off : Nat) : Option AV :=
  match C.ty t with
  | some i => match i.desc with
    | .struct _ | .array _ _ => if off + i.size ≤ cs.length then some (.agg ((cs.drop off).take i.size)) else none
    | _ => cs[off]?
  | none => none
def splice (cs : List AV) (off : Nat) (vs : List AV) : List AV := cs.take off ++ vs ++ cs.drop (off + vs.length)
def fillE (place : Nat → Option (Nat × Nat)) (cells : List AV) : List (Nat × AV) → Option (List AV)
  | [] => some cells
  | (i, v) :: rest => match place i with
    | none => none
    | some (off, size) => if v.cells.length ≠ size ∨ off + size > cells.length then none else fillE place (splice cells off v.cells) rest
def partsE (ρ : Operand → Option AV) : List (Nat × Operand) → Option (List (Nat × AV))
  | [] => some []
  | (i, x) :: xs => match ρ x, partsE ρ xs with
    | some a, some as => some ((i, a) :: as)
    | _, _ => none
def placesE (C : Ctx) : List Field → Option (List (Nat × Nat))
  | [] => some []
  | f :: fs => match C.ty f.type, placesE C fs with
    | some i, some ps => some ((f.offset, i.size) :: ps)
    | _, _ => none
def foldMinMax (mx : Bool) : AV → List AV → Option AV
  | a, [] => some a
  | .int k x, .int k' y :: r => if k = k' then foldMinMax mx (.int k (if mx then (if y > x then y else x) else (if y < x then y else x))) r else none
  | _, _ => none
def builtinP (C : Ctx) (b : Builtin) (ts : List TypeId) (args : List AV) : Option AV :=
  match b, ts, args with
  | .len, t :: _, x :: _ => match C.ty t, x with
    | some { desc := .string, .. }, .str s => some (.int .i64 s.size)
    | some { desc := .slice _, .. }, .nils => some (.int .i64 0)
    | some { desc := .slice _, .. }, .sle => some (.int .i64 0)
    | some { desc := .slice _, .. }, .sl _ _ n _ => some (.int .i64 n)
    | some { desc := .slice _, .. }, .slu _ _ n _ => some (.int .i64 n)
    | some { desc := .array n _, .. }, _ => some (.int .i64 n)
    | _, _ => none
  | .cap, t :: _, x :: _ => match C.ty t, x with
    | some { desc := .slice _, .. }, .nils => some (.int .i64 0)
    | some { desc := .slice _, .. }, .sl _ _ _ n => some (.int .i64 n)
    | _, _ => none
  | .unsafeSliceData, _, [x] => match x with
    | .nils => some .nilp
    | .sl b o _ c => if c = 0 then none else some (.ptr b o)
    | .slu b o n _ => if n = 0 then none else some (.ptr b o)
    | _ => none
  | .min, _, x :: xs => match x with
    | .int _ _ => foldMinMax false x xs
    | _ => none
  | .max, _, x :: xs => match x with
    | .int _ _ => foldMinMax true x xs
    | _ => none
  | _, _, _ => none
def pureE (C : Ctx) (ρ : Operand → Option AV) (op : Op) : Option AV :=
  match op with
  | .move x | .assign x => ρ x
  | .pick c a b => match ρ c with
    | some (.bool true) => ρ a
    | some (.bool false) => ρ b
    | _ => none
  | .nilCheck x => match ρ x with
    | some (.ptr b o) => some (.ptr b o)
    | some (.fn f a b) => some (.fn f a b)
    | some (.yld l) => some (.yld l)
    | _ => none
  | .binOp op t x y _ => match ρ x, ρ y with
    | some a, some b => binE C op t x y a b
    | _, _ => none
  | .unOp op _ x => match op, ρ x with
    | .neg, some (.int k n) => some (.int k (k.wrap (0 - n)))
    | .not, some (.bool b) => some (.bool (!b))
    | _, _ => none
  | .convert s d x => match C.ty s, C.ty d, ρ x with
    | some _, some { desc := .int k, .. }, some (.int _ n) => some (.int k (k.wrap n))
    | some _, some { desc := .string, .. }, some (.str s) => some (.str s)
    | some _, some { desc := .string, .. }, some (.int _ n) => some (.str (Utf8.encode n))
    | _, _, _ => none
  | .fieldAddr s x f => match C.ty s, ρ x with
    | some { desc := .struct fs, .. }, some (.ptr b o) => match fs[f]? with
      | some fd => match C.ty fd.type with
        | some i => if i.size = 0 then none else some (.ptr b (o + fd.offset))
        | none => none
      | none => none
    | _, _ => none
  | .field t x f => match C.ty t, ρ x with
    | some { desc := .struct fs, .. }, some (.agg cs) => match fs[f]? with
      | some fd => partE C fd.type cs fd.offset
      | none => none
    | _, _ => none
  | .indexAddr t x i => match C.ty t, ρ x, ρ i with
    | some { desc := .slice e, .. }, some (.sl b o len _), some (.int _ n) => match C.ty e with
      | some ei => if 0 ≤ n ∧ n < len then some (.ptr b (o + n.toNat * ei.size)) else none
      | none => none
    | some { desc := .slice e, .. }, some (.slu b o len _), some (.int _ n) => match C.ty e with
      | some ei => if 0 ≤ n ∧ n < len then some (.ptr b (o + n.toNat * ei.size)) else none
      | none => none
    | some { desc := .array len e, .. }, some (.ptr b o), some (.int _ n) => match C.ty e with
      | some ei => if 0 ≤ n ∧ n < len then some (.ptr b (o + n.toNat * ei.size)) else none
      | none => none
    | _, _, _ => none
  | .index t x i => match C.ty t, ρ x, ρ i with
    | some { desc := .array len e, .. }, some (.agg cs), some (.int _ n) => match C.ty e with
      | some ei => if 0 ≤ n ∧ n < len then partE C e cs (n.toNat * ei.size) else none
      | none => none
    | some { desc := .string, .. }, some (.str s), some (.int _ n) => if 0 ≤ n then match s[n.toNat]? with
      | some b => some (.int .u8 b.toNat)
      | none => none else none
    | _, _, _ => none
  | .extract t i => match ρ t with
    | some (.tup vs) => vs[i]?
    | _ => none
  | .slice t x lo hi none => match C.ty t, ρ x with
    | some { desc := .string, .. }, some (.str s) =>
      match (match hi with | some h => bound (ρ h) s.size | none => some s.size) with
      | some h => match (match lo with | some l => bound (ρ l) h | none => some 0) with
        | some l => some (.str (s.extract l h))
        | none => none
      | none => none
    | some { desc := .slice e, .. }, some (.sl b o len cap) => match C.ty e with
      | none => none
      | some ei =>
        match (match hi with | some h => bound (ρ h) cap | none => some len) with
        | some h => match (match lo with | some l => bound (ρ l) h | none => some 0) with
          | some l => some (.sl b (if cap = l then o else o + l * ei.size) (h - l) (cap - l))
          | none => none
        | none => none
    | some { desc := .slice e, .. }, some (.slu b o len esz) => match C.ty e with
      | none => none
      | some ei =>
        match (match hi with | some h => bound (ρ h) len | none => some len) with
        | some h => match (match lo with | some l => bound (ρ l) h | none => some 0) with
          | some l => if esz = ei.size then some (.slu b (o + l * ei.size) (h - l) esz) else if h = l ∧ 0 < l then some .sle else if l = 0 then some (.slu b o h esz) else none
          | none => none
        | none => none
    | some { desc := .slice e, .. }, some .nils =>
      if (C.ty e).isNone then none else
      match (match hi with | some h => bound (ρ h) 0 | none => some 0) with
      | some h => match (match lo with | some l => bound (ρ l) h | none => some 0) with
        | some _ => some .nils
        | none => none
      | none => none
    | some { desc := .slice e, .. }, some .sle =>
      if (C.ty e).isNone then none else
      match (match hi with | some h => bound (ρ h) 0 | none => some 0) with
      | some h => match (match lo with | some l => bound (ρ l) h | none => some 0) with
        | some _ => some .sle
        | none => none
      | none => none
    | some { desc := .array n e, .. }, some (.ptr b o) => match C.ty e with
      | none => none
      | some ei =>
        match (match hi with | some h => bound (ρ h) n | none => some n) with
        | some h => match (match lo with | some l => bound (ρ l) h | none => some 0) with
          | some l => some (.sl b (if n = l then o else o + l * ei.size) (h - l) (n - l))
          | none => none
        | none => none
    | _, _ => none
  | .build t parts => match C.ty t, partsE ρ parts.toList with
    | some i, some ps => match i.desc with
      | .struct fs => match placesE C fs.toList with
        | some pl => match fillE (fun k => pl[k]?) i.zero.cells ps with
          | some cs => some (.agg cs)
          | none => none
        | none => none
      | .array _ e => match C.ty e with
        | some ei => match fillE (fun k => some (k * ei.size, ei.size)) i.zero.cells ps with
          | some cs => some (.agg cs)
          | none => none
        | none => none
      | _ => none
    | _, _ => none
  | .makeFunc (.func f) first captured => match opds ρ first.toList, opds ρ captured.toList with
    | some a, some b => some (.fn f a b)
    | _, _ => none
  | .call { callee := .builtin b, args, argTypes } => match opds ρ args.toList with
    | some as => builtinP C b argTypes.toList as
    | none => none
  | _ => none
def loadE (C : Ctx) (t : TypeId) (a : AV) (H : Heap) : Option AV :=
  match C.ty t, a with
  | some i, .ptr b o => match H.get b with
    | .cells _ _ cs => partE C t cs o
    | _ => none
  | _, _ => none
def allocE (C : Ctx) (ρ : Operand → Option AV) (op : Op) : Option (Blk × (Nat → AV)) :=
  match op with
  | .alloc e => match C.ty e with
    | some i => some (.cells true e i.zero.cells, fun A => .ptr A 0)
    | none => none
  | .box e x => match C.ty e, ρ x with
    | some _, some v => some (.cells true e v.cells, fun A => .ptr A 0)
    | _, _ => none
  | .buildSlice t len parts => match C.ty t, partsE ρ parts.toList with
    | some { desc := .slice e, .. }, some ps => match C.ty e with
      | some ei => if len * ei.size > 2 ^ 20 ∨ ei.zero.cells.length ≠ ei.size then none else
        match fillE (fun i => some (i * ei.size, ei.size)) (List.replicate len ei.zero.cells).flatten ps with
        | some cs => some (.cells true e cs, fun A => .sl A 0 len len)
        | none => none
      | none => none
    | _, _ => none
  | .makeSlice t l c => match C.ty t, ρ l, ρ c with
    | some { desc := .slice e, .. }, some (.int .i64 l), some (.int .i64 c) => match C.ty e with
      | some ei => if 0 ≤ l ∧ l ≤ c ∧ c ≤ 2 ^ 30 ∧ ei.bytes ≤ 2 ^ 10 ∧ ei.zero.cells.length = ei.size then
          some (.cells true e (List.replicate c.toNat ei.zero.cells).flatten, fun A => .sl A 0 l.toNat c.toNat) else none
      | none => none
    | _, _, _ => none
  | _ => none
def storeE (C : Ctx) (t : TypeId) (a v : AV) (H : Heap) : Option Heap :=
  match C.ty t, a with
  | some i, .ptr b o => match H.get b with
    | .cells true ty cs => if v.cells.length = i.size ∧ o + i.size ≤ cs.length ∧ ones v.cells = true then some (H.set b (.cells true ty (splice cs o v.cells))) else none
    | _ => none
  | _, _ => none
def cellsE (H : Heap) (size n : Nat) : AV → Option (List AV)
  | .nils => if n = 0 then some [] else none
  | .sle => if n = 0 then some [] else none
  | .sl b o _ _ | .slu b o _ _ => match H.get b with
    | .cells _ _ cs => if o + n * size ≤ cs.length then some ((cs.drop o).take (n * size)) else none
    | _ => none
  | .str s => if size = 1 ∧ n ≤ s.size then some ((s.data.toList.take n).map fun b => .int .u8 b.toNat) else none
  | _ => none
def lenE : AV → Option Nat
  | .nils | .sle => some 0
  | .sl _ _ n _ | .slu _ _ n _ => some n
  | .str s => some s.size
  | _ => none
def srcOk : TypeDesc → Bool
  | .slice _ => true
  | .string => true
  | _ => false
def appendZ (e : TypeId) (ei : TI) (xi : TI) (s x : AV) (H : Heap) : Option (AV × Heap) :=
  match xi.desc, s, x with
  | .int _, .nils, .int _ n => if (0 < n ∧ n ≤ 2 ^ 30) ∧ ei.bytes ≤ 2 ^ 10 ∧ H.n < lim ∧ 0 < ei.size ∧ ei.zero.cells.length = ei.size then
      some (.slu H.n 0 n.toNat ei.size, H.push (.cells true e (List.replicate n.toNat ei.zero.cells).flatten)) else none
  | _, _, _ => none
def appendE (C : Ctx) (ts : List TypeId) (s x : AV) (H : Heap) : Option (AV × Heap) :=
  match ts with
  | t :: tx :: _ => match C.ty t, C.ty tx with
    | some { desc := .slice e, .. }, some xi => match C.ty e with
      | some ei =>
        if srcOk xi.desc = false ∨ ei.bytes > 2 ^ 10 ∨ lim ≤ H.n then appendZ e ei xi s x H else
        match lenE x with
        | some n => if n > 2 ^ 30 then none else match cellsE H ei.size n x with
          | some new => if ones new = false then none else match s with
            | .nils => if n = 0 then some (.nils, H) else some (.slu H.n 0 n ei.size, H.push (.cells true e new))
            | .sl b o len cap =>
              if len > 2 ^ 30 then none else
              match H.get b with
              | .cells rw ty cs =>
                if len + n ≤ cap then
                  (if rw then (if o + len * ei.size + new.length ≤ cs.length then some (.sl b o (len + n) cap, H.set b (.cells true ty (splice cs (o + len * ei.size) new))) else none) else none)
                else if o + len * ei.size ≤ cs.length then some (.slu H.n 0 (len + n) ei.size, H.push (.cells true e ((cs.drop o).take (len * ei.size) ++ new)))
                else none
              | _ => none
            | .slu b o len esz =>
              if len > 2 ^ 30 then none else
              match H.get b with
              | .cells true ty cs =>
                if ty = e ∧ esz = ei.size ∧ o + len * ei.size ≤ cs.length ∧ (o = 0 ∨ qty e = true) then some (.slu H.n 0 (len + n) esz, (H.set b .dead).push (.cells true e ((cs.drop o).take (len * ei.size) ++ new))) else none
              | _ => none
            | _ => none
          | none => none
        | none => none
      | none => none
    | _, _ => none
  | _ => none
def copyE (C : Ctx) (ts : List TypeId) (d x : AV) (H : Heap) : Option (AV × Heap) :=
  match ts with
  | t :: _ => match C.ty t with
    | some { desc := .slice e, .. } => match C.ty e, lenE d, lenE x with
      | some ei, some dl, some xl => match cellsE H ei.size (Nat.min xl dl) x with
        | some new => match d with
          | .nils | .sle => some (.int .i64 (Nat.min xl dl), H)
          | .sl b o _ _ | .slu b o _ _ => match H.get b with
            | .cells true ty cs => if o + new.length ≤ cs.length ∧ ones new = true then some (.int .i64 (Nat.min xl dl), H.set b (.cells true ty (splice cs o new))) else none
            | _ => none
          | _ => none
        | none => none
      | _, _, _ => none
    | _ => none
  | _ => none
inductive Ex where
  | normal
  | exit (id : Nat)
  | goto (l : Nat)
  | ret
structure St where
  T : List AV
  H : Heap
  D : List Nat
abbrev Ih := Option Nat → Code → St → Option (Ex × St)
def shutMarks : List Nat → Heap → Option Heap
  | [], H => some H
  | d :: ds, H => match H.get d with
    | .dfr => shutMarks ds (H.set d .dead)
    | _ => none
def resultsE (C : Ctx) (T : List AV) (H : Heap) : List ResultVar → Option (List AV)
  | [] => some []
  | .tmp t :: r => match resultsE C T H r with
    | some vs => some (T.getD t undefA :: vs)
    | none => none
  | .cell a t :: r => match loadE C t (T.getD a undefA) H, resultsE C T H r with
    | some v, some vs => some (v :: vs)
    | _, _ => none
def callB (C : Ctx) (ih : Ih) (f : FuncId) (args : List AV) (H : Heap) : Option (AV × Heap) :=
  match C.fn f with
  | none => match C.ext f, args with
    | some .same, [x] => some (x, H)
    | some (.noZero e), [.int .i64 n] => if 0 ≤ n ∧ n ≤ 2 ^ 30 ∧ H.n < lim then some (.slu H.n 0 n.toNat 1, H.push (.cells true e [])) else none
    | _, _ => none
  | some fi => match ih none fi.body ⟨args ++ List.replicate (fi.ntmps - args.length) undefA, H, []⟩ with
    | some (.normal, s) | some (.ret, s) => match shutMarks s.D s.H with
      | some H' => match resultsE C s.T H' fi.results with
        | some [v] => some (v, H')
        | some vs => some (.tup vs, H')
        | none => none
      | none => none
    | _ => none
def sumE (C : Ctx) (f : FuncId) (args : List AV) (H : Heap) : Option (AV × Heap) :=
  match C.sum f with
  | some S => S args H
  | none => none
def callF (C : Ctx) (ih : Ih) (f : FuncId) (args : List AV) (H : Heap) : Option (AV × Heap) :=
  match sumE C f args H with
  | some r => some r
  | none => callB C ih f args H
def Ex.jump : Ex → Option Code
  | .normal => none
  | .exit id => some (.exit id)
  | .goto l => some (.goto l)
  | .ret => some .ret
def foldPar (T : List AV) : List Tmp → List AV → List AV
  | p :: ps, a :: as => foldPar (T.set p a) ps as
  | _, _ => T
def yieldF (ih : Ih) (l : Nat) (args : List AV) (H : Heap) : Option (AV × Heap) :=
  match H.get l with
  | .loop L => if args.length = L.params.size ∧ L.state = .ready then
      match ih (some l) L.assign ⟨foldPar L.tmps L.params.toList args, H, []⟩ with
      | some (.normal, ⟨T1, H1, []⟩) => match H1.get l with
        | .loop L1 => if L1.state = .ready then
            match ih (some l) L.body ⟨T1, H1.set l (.loop { L1 with state := .busy }), []⟩ with
            | some (e, ⟨_, H2, []⟩) => match H2.get l with
              | .loop L2 => some (.bool e.jump.isNone, H2.set l (.loop { L2 with state := if e.jump.isNone then .ready else .done, pending := e.jump }))
              | _ => none
            | _ => none
          else none
        | _ => none
      | _ => none
    else none
  | _ => none
def bytesOf : List AV → Option (List UInt8)
  | [] => some []
  | .int .u8 n :: r => match bytesOf r with
    | some bs => some (n.toNat.toUInt8 :: bs)
    | none => none
  | _ => none
def b2sE (C : Ctx) (e : TypeId) (b o l : Nat) (H : Heap) : Option (AV × Heap) :=
  match C.ty e with
  | some { desc := .int .u8, .. } => (match H.get b with
    | .cells _ _ cs => if 0 < l ∧ o + l ≤ cs.length then (match bytesOf ((cs.drop o).take l) with
      | some bs => some (.str ⟨bs.toArray⟩, H)
      | none => none) else none
    | _ => none)
  | _ => none
def isMap (C : Ctx) (ts : List TypeId) : Bool :=
  match ts with
  | [t] => match C.ty t with
    | some { desc := .map _ _, .. } => true
    | _ => false
  | _ => false
def mapGet : List (Int × AV) → Int → Option AV
  | [], _ => none
  | (k, v) :: es, n => match k == n with
    | true => some v
    | false => mapGet es n
def mapSet : List (Int × AV) → Int → AV → List (Int × AV)
  | [], n, v => [(n, v)]
  | (k, x) :: es, n, v => match k == n with
    | true => (n, v) :: es
    | false => (k, x) :: mapSet es n v
def sameBs (a b : ByteArray) : Bool := a.data.toList == b.data.toList
def smapGet : List (ByteArray × AV) → ByteArray → Option AV
  | [], _ => none
  | (k, v) :: es, n => match sameBs k n with
    | true => some v
    | false => smapGet es n
def smapSet : List (ByteArray × AV) → ByteArray → AV → List (ByteArray × AV)
  | [], n, v => [(n, v)]
  | (k, x) :: es, n, v => match sameBs k n with
    | true => (n, v) :: es
    | false => (k, x) :: smapSet es n v
def makeMapE (C : Ctx) (t : TypeId) (H : Heap) : Option (AV × Heap) :=
  if lim ≤ H.n then none else
  match C.ty t with
  | some { desc := .map kt _, .. } => match C.ty kt with
    | some { desc := .int k, .. } => some (.mp H.n, H.push (.map k []))
    | some { desc := .string, .. } => some (.mp H.n, H.push (.smap []))
    | _ => none
  | _ => none
def lookupE (C : Ctx) (t : TypeId) (m key : AV) (ok : Bool) (H : Heap) : Option (AV × Heap) :=
  match C.ty t, m, key with
  | some { desc := .map kt et, .. }, .mp b, .int k n => match C.ty kt, C.ty et, H.get b with
    | some { desc := .int k1, .. }, some ei, .map k2 es => if k = k1 ∧ k = k2 then
        match mapGet es n with
        | some v => some (if ok then .tup [v, .bool true] else v, H)
        | none => some (if ok then .tup [ei.zero, .bool false] else ei.zero, H)
      else none
    | _, _, _ => none
  | some { desc := .map kt et, .. }, .mp b, .str n => match C.ty kt, C.ty et, H.get b with
    | some { desc := .string, .. }, some ei, .smap es =>
        match smapGet es n with
        | some v => some (if ok then .tup [v, .bool true] else v, H)
        | none => some (if ok then .tup [ei.zero, .bool false] else ei.zero, H)
    | _, _, _ => none
  | _, _, _ => none
def updateE (C : Ctx) (t : TypeId) (m key v : AV) (H : Heap) : Option (AV × Heap) :=
  match C.ty t, m, key with
  | some { desc := .map kt _, .. }, .mp b, .int k n => match C.ty kt, H.get b with
    | some { desc := .int k1, .. }, .map k2 es => if k = k1 ∧ k = k2 then some (undefA, H.set b (.map k (mapSet es n v))) else none
    | _, _ => none
  | some { desc := .map kt _, .. }, .mp b, .str n => match C.ty kt, H.get b with
    | some { desc := .string, .. }, .smap es => some (undefA, H.set b (.smap (smapSet es n v)))
    | _, _ => none
  | _, _, _ => none
def lenMapE (m : AV) (H : Heap) : Option (AV × Heap) :=
  match m with
  | .mp b => match H.get b with
    | .map _ es => if es.length < 2 ^ 62 then some (.int .i64 es.length, H) else none
    | .smap es => if es.length < 2 ^ 62 then some (.int .i64 es.length, H) else none
    | _ => none
  | _ => none
def runesF (s : ByteArray) : (bound i : Nat) → List Int
  | 0, _ => []
  | bound + 1, i => if i < s.size then ((Utf8.decode s i).1 : Int) :: runesF s bound (i + (Utf8.decode s i).2) else []
def runesE (s : ByteArray) : List AV := (runesF s s.size 0).map (.int .i32)
def effE (C : Ctx) (ih : Ih) (ρ : Operand → Option AV) (op : Op) (H : Heap) : Option (AV × Heap) :=
  match op with
  | .store t a v => match ρ a, ρ v with
    | some a, some v => match storeE C t a v H with
      | some H' => some (undefA, H')
      | none => none
    | _, _ => none
  | .call { callee := .builtin .append, args, argTypes } => match opds ρ args.toList with
    | some [s, x] => appendE C argTypes.toList s x H
    | _ => none
  | .call { callee := .builtin .copy, args, argTypes } => match opds ρ args.toList with
    | some [d, x] => copyE C argTypes.toList d x H
    | _ => none
  | .convert s d x => match C.ty s, C.ty d, ρ x with
    | some { desc := .pointer t, .. }, some { desc := .unsafePointer, .. }, some (.ptr b o) => match H.get b, C.ty t with
      | .cells _ _ cs, some ti => if o < cs.length ∧ ti.size ≠ 0 then some (.ptr b o, H) else none
      | _, _ => none
    | some { desc := .unsafePointer, .. }, some { desc := .pointer u, .. }, some (.ptr b o) => match H.get b, C.ty u with
      | .cells _ ty cs, some ui => if ty = u ∧ ui.size ≠ 0 ∧ (o % ui.size = 0 ∧ (qty u = false ∨ ui.size = 1)) ∧ o + ui.size ≤ cs.length then some (.ptr b o, H) else none
      | _, _ => none
    | some { desc := .string, .. }, some { desc := .slice e, .. }, some (.str s) => match C.ty e with
      | some { desc := .int .i32, .. } => if lim ≤ H.n ∨ 2 ^ 30 < (runesE s).length then none else some (.slu H.n 0 (runesE s).length 1, H.push (.cells true e (runesE s)))
      | _ => none
    | some { desc := .slice e, .. }, some { desc := .string, .. }, some (.sl b o l _) => b2sE C e b o l H
    | some { desc := .slice e, .. }, some { desc := .string, .. }, some (.slu b o l 1) => b2sE C e b o l H
    | _, _, _ => none
  | .range t x => match C.ty t, ρ x with
    | some { desc := .string, .. }, some (.str s) => if lim ≤ H.n then none else some (.ptr H.n 0, H.push (.siter s 0))
    | _, _ => none
  | .next x true => match ρ x with
    | some (.ptr b 0) => match H.get b with
      | .siter s pos => if pos < s.size then some (.tup [.bool true, .int .i64 pos, .int .i32 (Utf8.decode s pos).1], H.set b (.siter s (pos + (Utf8.decode s pos).2))) else some (.tup [.bool false], H)
      | _ => none
    | _ => none
  | .call { callee := .builtin .unsafeString, args, argTypes } => match argTypes.toList with
    | pt :: _ => match C.ty pt, opds ρ args.toList with
      | some { desc := .pointer u, .. }, some [p, .int .i64 n] => match p with
        | .nilp => if n = 0 then some (.str .empty, H) else none
        | .ptr b o => match H.get b, C.ty u with
          | .cells true ty cs, some ui => if ty = u ∧ ui.size = 1 ∧ 0 < n ∧ n ≤ 2 ^ 30 ∧ o + n.toNat ≤ cs.length then
              match bytesOf ((cs.drop o).take n.toNat) with
              | some bs => some (.str ⟨bs.toArray⟩, H.set b .dead)
              | none => none
            else none
          | _, _ => none
        | _ => none
      | _, _ => none
    | _ => none
  | .makeMap t none => makeMapE C t H
  | .lookup t m key ok => match ρ m, ρ key with
    | some m, some key => lookupE C t m key ok H
    | _, _ => none
  | .mapUpdate t m key v => match ρ m, ρ key, ρ v with
    | some m, some key, some v => updateE C t m key v H
    | _, _, _ => none
  | .insert t m key v => match ρ m, ρ key, ρ v with
    | some m, some key, some v => updateE C t m key v H
    | _, _, _ => none
  | .call { callee := .builtin .len, args, argTypes } => if isMap C argTypes.toList then (match opds ρ args.toList with
    | some [m] => lenMapE m H
    | _ => none) else none
  | .call { callee := .value f, args, argTypes := _ } => match ρ f, opds ρ args.toList with
    | some (.fn g first caps), some as => callF C ih g (first ++ as ++ caps) H
    | some (.yld l), some as => yieldF ih l as H
    | _, _ => none
  | _ => none
inductive Kd where
  | pure | load | alloc | eff | look
  deriving DecidableEq
def isPtr (C : Ctx) (t : TypeId) : Bool :=
  match C.ty t with
  | some { desc := .pointer _, .. } | some { desc := .unsafePointer, .. } | some { desc := .slice _, .. } => true
  | _ => false
def isStr (C : Ctx) (t : TypeId) : Bool :=
  match C.ty t with
  | some { desc := .string, .. } => true
  | _ => false
def isSlc (C : Ctx) (t : TypeId) : Bool :=
  match C.ty t with
  | some { desc := .slice _, .. } => true
  | _ => false
def kindOf (C : Ctx) : Op → Kd
  | .load _ _ => .load
  | .alloc _ | .box _ _ | .buildSlice _ _ _ | .makeSlice _ _ _ => .alloc
  | .store _ _ _ => .eff
  | .lookup _ _ _ _ => .look
  | .makeMap _ _ | .mapUpdate _ _ _ _ | .insert _ _ _ _ => .eff
  | .call { callee := .builtin .len, argTypes, .. } => if isMap C argTypes.toList then .eff else .pure
  | .convert s d _ => if isPtr C d || (isStr C d && isSlc C s) then .eff else .pure
  | .range _ _ | .next _ _ => .eff
  | .call { callee := .builtin .append, .. } | .call { callee := .builtin .copy, .. } | .call { callee := .builtin .unsafeString, .. } | .call { callee := .value _, .. } => .eff
  | _ => .pure
def execE (C : Ctx) (ih : Ih) (T : List AV) (o : Oper) (H : Heap) : Option (AV × Heap) :=
  match kindOf C o.op with
  | .pure => match pureE C (opd T) o.op with
    | some v => some (v, H)
    | none => none
  | .load => match o.op with
    | .load t a => match opd T a with
      | some a => match loadE C t a H with
        | some v => some (v, H)
        | none => none
      | none => none
    | _ => none
  | .alloc => if lim ≤ H.n then none else match allocE C (opd T) o.op with
    | some (b, f) => some (f H.n, H.push b)
    | none => none
  | .eff => effE C ih (opd T) o.op H
  | .look => match o.op with
    | .lookup t m key ok => match opd T m, opd T key with
      | some a, some b => match lookupE C t a b ok H with
        | some (v, _) => some (v, H)
        | none => none
      | _, _ => none
    | _ => none
def ayielded (ops : List Oper) (T : List AV) (j : Nat) : Option Bool :=
  match ops[j]? with
  | some o => match o.dst with
    | some d => match T[d]? with
      | some (.bool b) => some b
      | _ => none
    | none => none
  | none => none
def putT (T : List AV) (dst : Option Tmp) (v : AV) : List AV :=
  match dst with
  | some d => T.set d v
  | none => T
def stepE (C : Ctx) (ih : Ih) (ops : List Oper) (o : Oper) (T : List AV) (H : Heap) : Option (List AV × Heap) :=
  if Region.wanted o (ayielded ops T) then
    match execE C ih T o H with
    | some (v, H') => some (putT T o.dst v, H')
    | none => none
  else some (putT T o.dst undefA, H)
def traceE (C : Ctx) (ih : Ih) (ops : List Oper) : List Oper → List AV → Heap → Option (List (List AV × Heap))
  | [], T, H => some [(T, H)]
  | o :: rest, T, H => match stepE C ih ops o T H with
    | some (T', H') => match traceE C ih ops rest T' H' with
      | some tr => some ((T, H) :: tr)
      | none => none
    | none => none
def runE (C : Ctx) (ih : Ih) (ops : List Oper) : List Oper → List AV → Heap → Option (List AV × Heap)
  | [], T, H => some (T, H)
  | o :: rest, T, H => match stepE C ih ops o T H with
    | some (T', H') => runE C ih ops rest T' H'
    | none => none
end Go.PI
/- THE INTERPRETER, WHOLE. -/
namespace Go.PI
def preMask (acc : List Nat) (es : List Edge) : Nat :=
  match es with
  | [] => 0
  | e :: r => if Region.binds .any e then preMask acc r ||| (1 <<< e.on) ||| acc.getD e.on 0 else preMask acc r
def preList : List Oper → List Nat → List Nat
  | [], acc => acc
  | o :: os, acc => preList os (acc ++ [preMask acc o.after.toList])
def looks (ops : List Oper) (o : Oper) : List Tmp :=
  (o.op.operands.toList.filterMap fun | .tmp t => some t | _ => none) ++
  (match o.guard with
   | some (g, _) => match ops[g]? with
     | some og => og.dst.toList
     | none => []
   | none => [])
def inOpt (d : Option Tmp) (l : List Tmp) : Bool :=
  match d with
  | some t => l.contains t
  | none => false
def sameOpt (a b : Option Tmp) : Bool :=
  match a, b with
  | some x, some y => x == y
  | _, _ => false
def effLook : Kd → Kd → Bool
  | .eff, .eff => true
  | .eff, .look => true
  | .look, .eff => true
  | _, _ => false
def clash (C : Ctx) (ops : List Oper) (x y : Oper) : Bool :=
  inOpt x.dst (looks ops y) || inOpt y.dst (looks ops x) || sameOpt x.dst y.dst ||
  effLook (kindOf C x.op) (kindOf C y.op)
def allBefore (C : Ctx) (ops : List Oper) (y : Oper) (m : Nat) : List Oper → Nat → Bool
  | [], _ => true
  | x :: xs, i => (!clash C ops x y || m.testBit i) && allBefore C ops y m xs (i + 1)
def orderOk (C : Ctx) (ops : List Oper) (pre : List Nat) : List Oper → Nat → Bool
  | [], _ => true
  | y :: ys, j => allBefore C ops y (pre.getD j 0) (ops.take j) 0 && y.after.toList.all (fun e => !Region.binds .any e || decide (e.on < j)) && orderOk C ops pre ys (j + 1)
def AV.sames : AV → AV → Bool
  | .int k n, .int k' n' => k == k' && n == n'
  | .bool a, .bool b => a == b
  | .str a, .str b => a.data.toList == b.data.toList
  | .nilp, .nilp => true
  | .ptr b o, .ptr b' o' => b == b' && o == o'
  | .nils, .nils => true
  | .sl b o l c, .sl b' o' l' c' => b == b' && o == o' && l == l' && c == c'
  | .slu b o l c, .slu b' o' l' c' => b == b' && o == o' && l == l' && c == c'
  | .sle, .sle => true
  | .nilf, .nilf => true
  | .nili, .nili => true
  | .yld a, .yld b => a == b
  | .mp a, .mp b => a == b
  | .nilm, .nilm => true
  | _, _ => false
def sameLs : List AV → List AV → Bool
  | [], [] => true
  | a :: as, b :: bs => a.sames b && sameLs as bs
  | _, _ => false
def AV.same : AV → AV → Bool
  | .agg as, .agg bs => sameLs as bs
  | .tup as, .tup bs => sameLs as bs
  | .fn f as bs, .fn f' as' bs' => f == f' && sameLs as as' && sameLs bs bs'
  | a, b => a.sames b
def mayAt (C : Ctx) (ops : List Oper) (pre : List Nat) (i p : Nat) : List Oper → Nat → Bool
  | [], _ => true
  | x :: xs, j => (!(kindOf C x.op == .eff) || ((!(pre.getD i 0).testBit j || decide (j < p)) && (!(pre.getD j 0).testBit i || decide (p ≤ j)))) && mayAt C ops pre i p xs (j + 1)
def isBd (C : Ctx) (ops : List Oper) (p : Nat) : Bool :=
  p == 0 || (match ops[p - 1]? with | some o => kindOf C o.op == .eff | none => false)
def loadAts (C : Ctx) (ops : List Oper) (pre : List Nat) (i : Nat) (t : TypeId) (a v : AV) : List (List AV × Heap) → Nat → Bool
  | [], _ => true
  | (_, H) :: tr, p => (!(isBd C ops p && mayAt C ops pre i p ops 0) || (match loadE C t a H with | some v' => v.same v' | none => false)) && loadAts C ops pre i t a v tr (p + 1)
def loadsOk (C : Ctx) (ops : List Oper) (pre : List Nat) (all : List (List AV × Heap)) : List Oper → List (List AV × Heap) → Nat → Bool
  | o :: os, (T, H) :: tr, i =>
    (match o.op with
     | .load t x => if Region.wanted o (ayielded ops T) then
         (match opd T x with
          | some a => (match loadE C t a H with
            | some v => loadAts C ops pre i t a v all 0
            | none => false)
          | none => false) else true
     | _ => true) && loadsOk C ops pre all os tr (i + 1)
  | _, _, _ => true
def allocAts (C : Ctx) (ops : List Oper) (pre : List Nat) (i A : Nat) (ty : TypeId) (cs : List AV) : List (List AV × Heap) → Nat → Bool
  | [], _ => true
  | (_, H) :: tr, p => (!(isBd C ops p && decide (i < p) && mayAt C ops pre i p ops 0) || (match H.get A with | .cells true ty' cs' => ty == ty' && sameLs cs cs' | _ => false)) && allocAts C ops pre i A ty cs tr (p + 1)
def allocsOk (C : Ctx) (ops : List Oper) (pre : List Nat) (all : List (List AV × Heap)) : List Oper → List (List AV × Heap) → Nat → Bool
  | o :: os, (T, H) :: tr, i =>
    (match kindOf C o.op with
     | .alloc => if Region.wanted o (ayielded ops T) then
         (match allocE C (opd T) o.op with
          | some (.cells true ty cs, _) => allocAts C ops pre i H.n ty cs all 0
          | _ => false) else true
     | _ => true) && allocsOk C ops pre all os tr (i + 1)
  | _, _, _ => true
def monoOk : List (List AV × Heap) → Bool
  | (_, H) :: (T', H') :: r => decide (H.n ≤ H'.n) && monoOk ((T', H') :: r)
  | _ => true
def drawOk (C : Ctx) (ops : List Oper) (tr : List (List AV × Heap)) : Bool :=
  let pre := preList ops []
  orderOk C ops pre ops 0 && loadsOk C ops pre tr ops tr 0 && allocsOk C ops pre tr ops tr 0 && monoOk tr
def lastOf : List (List AV × Heap) → Option (List AV × Heap)
  | [] => none
  | [x] => some x
  | _ :: xs => lastOf xs
def startE (rd : Option Nat) (s : St) : Option (Nat × Heap × List Nat) :=
  match rd with
  | none => some (s.H.n, s.H.push .dfr, s.H.n :: s.D)
  | some l0 => match s.H.get l0 with
    | .loop L0 => some (L0.dfr, s.H, s.D)
    | _ => none
def rangeF (C : Ctx) (ih : Ih) (rd : Option Nat) (f : Operand) (ps : Array Tmp) (assign body : Code) (s : St) : Option (Ex × St) :=
  if lim ≤ s.H.n + 1 then none else
  match opd s.T f with
  | some (.fn g first caps) =>
    if (C.fn g).isNone then none else
    match startE rd s with
    | some (D, H1, Ds) =>
      match callF C ih g (first ++ [.yld H1.n] ++ caps) (H1.push (.loop { state := .ready, pending := none, tmps := s.T, params := ps, assign, body, dfr := D })) with
      | some (_, H3) => match H3.get H1.n with
        | .loop lp => if lp.state = .busy then none else
          match lp.pending with
          | none => some (.normal, ⟨s.T, H3.set H1.n .dead, Ds⟩)
          | some c => ih rd c ⟨s.T, H3.set H1.n .dead, Ds⟩
        | _ => none
      | none => none
    | none => none
  | _ => none
def loopF (ih : Ih) (rd : Option Nat) (b : Code) : Nat → St → Option (Ex × St)
  | 0, _ => none
  | k + 1, s => match ih rd b s with
    | some (.normal, s') => loopF ih rd b k s'
    | r => r
def evF (C : Ctx) (ih : Ih) (k : Nat) (rd : Option Nat) (c : Code) (s : St) : Option (Ex × St) :=
  match c with
  | .skip => some (.normal, s)
  | .label _ => some (.normal, s)
  | .seq a b => match ih rd a s with
    | some (.normal, s') => ih rd b s'
    | r => r
  | .cond c a b => match opd s.T c with
    | some (.bool true) => ih rd a s
    | some (.bool false) => ih rd b s
    | _ => none
  | .block id b => match ih rd b s with
    | some (.exit i, s') => if i = id then some (.normal, s') else some (.exit i, s')
    | r => r
  | .loop b => loopF ih rd b k s
  | .exit id => some (.exit id, s)
  | .goto l => some (.goto l, s)
  | .ret => some (.ret, s)
  | .scope _ => none
  | .region _ ops draw =>
    if draw then
      match traceE C ih ops.toList ops.toList s.T s.H with
      | some tr => if drawOk C ops.toList tr then
          (match lastOf tr with
           | some (T', H') => some (.normal, ⟨T', H', s.D⟩)
           | none => none) else none
      | none => none
    else match runE C ih ops.toList ops.toList s.T s.H with
      | some (T', H') => some (.normal, ⟨T', H', s.D⟩)
      | none => none
  | .rangeFunc f ps assign body => rangeF C ih rd f ps assign body s
  | .refuse _ => none
def ev (C : Ctx) : Nat → Ih
  | 0 => fun _ _ _ => none
  | n + 1 => evF C (ev C n) n
def call (C : Ctx) (n : Nat) (f : FuncId) (args : List AV) (H : Heap) : Option (AV × Heap) := callF C (ev C n) f args H
end Go.PI
/- THE INTERPRETER's OPERATIONS AND THE MACHINE's. -/
namespace Go.PI
variable {P : Program} {C : Ctx} {μ : M}
def EffR (μ : M) (H : Heap) (w : World) (v : AV) (H' : Heap) (u : Value) (w' : World) : Prop := ∃ μ', VR μ' v u ∧ HR μ' H' w' ∧ Fr μ H w μ' H' w'
def Wd (F : Fence) : Prop := (∀ f, F.fn f) ∧ F.depth = none ∧ F.alive = false
def CallR (P : Program) (μ : M) (H : Heap) (w : World) (f : FuncId) (args : Array Value) (v : AV) (H' : Heap) : Prop :=
  (∃ u w', (callFunc f args).run P w = .ok (.value u) w' ∧ EffR μ H w v H' u w') ∨
  ((callFunc f args).run P w = .ok (.enter f args) w ∧ ∀ (F : Fence) (n : Nat), Wd F → CallsIn F n P f args w fun e w' => ∃ u, e = .returned u ∧ EffR μ H w v H' u w')
structure Ctx.Ok (P : Program) (C : Ctx) : Prop where
  ty : ∀ t i, C.ty t = some i → P.underlying t = some i.desc ∧ ∃ ti z, P.info? t = some ti ∧ ti.size = i.size ∧ ti.bytes = i.bytes ∧ ti.zero = some z ∧ VR (fun _ => none) i.zero z ∧ i.zero.cells.length = i.size
  fn : ∀ f i, C.fn f = some i → ∃ fn, P.funcs[f]? = some fn ∧ fn.ntmps = i.ntmps ∧ fn.results.toList = i.results ∧ fn.body = some i.body ∧ (fn.name == "runtime.NumGoroutine") = false
  same : ∀ f, C.ext f = some .same → ∀ v w, (callFunc f #[v]).run P w = .ok (.value v) w
  noZero : ∀ f e, C.ext f = some (.noZero e) → ∀ (n : Int) w, 0 ≤ n → n ≤ 2 ^ 30 → ∃ (cap : Nat) (cs : Array Value) (k : Nat), n ≤ cap ∧ cap ≤ maxLen ∧ cs.size = cap ∧ (callFunc f #[.int .i64 n]).run P w = .ok (.value (.slice (some ⟨w.heap.size, 0, none⟩) n.toNat cap)) (({ w with drawn := k } : World).alloc (.cells cs e))
  mixed : P.follows .mixedOrders = true
  eqs : ∀ t, C.eqs t = true → P.stoodInHeld t = false ∧ P.eqGuardType P.depth t = false ∧ (P.fieldsOf t).toList.all (fun f => f.name != "_") = true
  sum : ∀ f S as H v H', C.sum f = some S → S as H = some (v, H') → ∀ μ (args : Array Value) w, VRs μ as args.toList → HR μ H w → CallR P μ H w f args v H'
theorem run_info {t : TypeId} {ti : TypeInfo} (h : P.info? t = some ti) (w : World) : (typeInfo t).run P w = .ok ti w := by simp [typeInfo, h]
theorem run_und {t : TypeId} {d : TypeDesc} (h : P.underlying t = some d) (w : World) : (underlying t).run P w = .ok d w := by simp [underlying, h]
theorem run_zero {t : TypeId} {ti : TypeInfo} {z : Value} (h : P.info? t = some ti) (hz : ti.zero = some z) (w : World) : (zeroValue t).run P w = .ok z w := by
  simp [zeroValue, run_info h, hz]
theorem run_size {t : TypeId} {ti : TypeInfo} (h : P.info? t = some ti) (w : World) : (sizeOf t).run P w = .ok ti.size w := by simp [sizeOf, run_info h]
def aggD : TypeDesc → Bool
  | .struct _ | .array _ _ => true
  | _ => false
theorem run_isAgg {t : TypeId} {d : TypeDesc} (h : P.underlying t = some d) (w : World) : (isAgg t).run P w = .ok (aggD d) w := by
  cases d <;> simp [isAgg, run_und h, aggD]
theorem Ctx.Ok.got (hC : Ctx.Ok P C) {t : TypeId} {i : TI} (h : C.ty t = some i) : ∃ ti z, P.underlying t = some i.desc ∧ P.info? t = some ti ∧ ti.size = i.size ∧ ti.bytes = i.bytes ∧ ti.zero = some z ∧ VR (fun _ => none) i.zero z ∧ i.zero.cells.length = i.size :=
  let ⟨h1, ti, z, h2⟩ := hC.ty t i h
  ⟨ti, z, h1, h2⟩
theorem anys (μ : M) (vs : List Value) : VRs μ (vs.map AV.raw) vs := by
  induction vs with
  | nil => exact .nil
  | cons v vs ih => exact .cons (.raw μ v) ih
theorem VR.cells {a : AV} {v : Value} (h : VR μ a v) : VRs μ a.cells v.cells.toList := by
  cases h <;> first | (exact anys μ _) | (simpa [AV.cells, Value.cells] using ‹All2 _ _ _›) | (simp only [AV.cells, Value.cells]; exact .cons (by constructor <;> assumption) .nil)
theorem part_sim (hC : Ctx.Ok P C) {t : TypeId} {cs : List AV} {xs : Array Value} {off : Nat} {v : AV} (h : partE C t cs off = some v) (hv : VRs μ cs xs.toList) (w : World) :
    ∃ u, (part t xs off).run P w = .ok u w ∧ VR μ v u := by
  unfold partE at h
  cases hi : C.ty t with
  | none => simp [hi] at h
  | some i =>
    simp only [hi] at h
    obtain ⟨ti, z, h1, h2, h3, -, -, -, -⟩ := hC.got hi
    have key : aggD i.desc = true → off + i.size ≤ cs.length → v = .agg ((cs.drop off).take i.size) → ∃ u, (part t xs off).run P w = .ok u w ∧ VR μ v u := fun ha hl e => by
      subst e
      refine ⟨.agg (xs.extract off (off + ti.size)), by simp [part, run_isAgg h1, ha, run_size h2], .agg ?_⟩
      have := (hv.drop off).take i.size
      rw [h3]
      simpa [List.extract_eq_take_drop, Array.toList_extract] using this
    have key2 : aggD i.desc = false → cs[off]? = some v → ∃ u, (part t xs off).run P w = .ok u w ∧ VR μ v u := fun ha e => by
      obtain ⟨u, hu, hr⟩ := hv.get e
      exact ⟨u, by simp at hu; simp [part, run_isAgg h1, ha, hu], hr⟩
    cases hd : i.desc <;> simp only [hd] at h <;> first
      | (split at h
         · exact key (by simp [hd, aggD]) ‹_› (by simpa using h.symm)
         · cases h)
      | exact key2 (by simp [hd, aggD]) h
theorem opds_sim {ρ : Operand → Option AV} {ρ' : Operand → Value} : ∀ {xs : List Operand} {as : List AV}, opds ρ xs = some as → (∀ x ∈ xs, ∀ a, ρ x = some a → VR μ a (ρ' x)) → VRs μ as (xs.map ρ')
  | [], as, h, _ => by simp [opds] at h; subst h; exact .nil
  | x :: xs, as, h, hr => by
    unfold opds at h
    split at h
    · rename_i a as' h1 h2
      cases h
      exact .cons (hr x (by simp) a h1) (opds_sim h2 fun y hy => hr y (by simp [hy]))
    · cases h
theorem ones_sim {as : List AV} {vs : List Value} (h : VRs μ as vs) (ho : ones as = true) : ∀ v ∈ vs, v.oneCell' = true := by
  induction h with
  | nil => intro v hv; cases hv
  | cons x _ ih =>
    simp only [ones, Bool.and_eq_true] at ho
    intro v hv
    rcases List.mem_cons.1 hv with rfl | hv
    · cases x <;> simp_all [AV.one, Value.oneCell']
    · exact ih ho.2 v hv
end Go.PI
