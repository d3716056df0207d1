/- Own work of the verifier: PiMono PiQuick PiDrawQ PiQuick2 PiMono2. -/
import Derived.Test.YtefajaiioljjoaaOvAI
set_option linter.all false
set_option exponentiation.threshold 3000
set_option linter.deprecated false
/- A RUN THAT ENDS WITH LESS ENDS THE SAME WITH MORE. -/
namespace Go.PI
def Ih.Le (a b : Ih) : Prop := ∀ rd c s r, a rd c s = some r → b rd c s = some r
variable {C : Ctx} {a b : Ih}
theorem callB_mono (h : Ih.Le a b) {f : FuncId} {args : List AV} {H : Heap} {r : AV × Heap} (e : callB C a f args H = some r) : callB C b f args H = some r := by
  unfold callB at e ⊢
  cases hf : C.fn f with
  | none => simp only [hf] at e ⊢; exact e
  | some fi =>
    simp only [hf] at e ⊢
    cases hi : a none fi.body ⟨args ++ List.replicate (fi.ntmps - args.length) undefA, H, []⟩ with
    | none => rw [hi] at e; cases e
    | some x => rw [hi] at e; rw [h _ _ _ _ hi]; exact e
theorem callF_mono (h : Ih.Le a b) {f : FuncId} {args : List AV} {H : Heap} {r : AV × Heap} (e : callF C a f args H = some r) : callF C b f args H = some r := by
  unfold callF at e ⊢
  split at e
  · exact e
  · exact callB_mono h e
theorem yieldF_mono (h : Ih.Le a b) {l : Nat} {args : List AV} {H : Heap} {r : AV × Heap} (e : yieldF a l args H = some r) : yieldF b l args H = some r := by
  unfold yieldF at e ⊢
  cases hl : H.get l with
  | loop L =>
    simp only [hl] at e ⊢
    by_cases hc : args.length = L.params.size ∧ L.state = .ready
    · rw [if_pos hc] at e ⊢
      cases h1 : a (some l) L.assign ⟨foldPar L.tmps L.params.toList args, H, []⟩ with
      | none => rw [h1] at e; cases e
      | some x =>
        rw [h1] at e; rw [h _ _ _ _ h1]
        obtain ⟨x1, T1, H1, D1⟩ := x
        cases x1 <;> cases D1 <;> simp only at e ⊢ <;> try (cases e; done)
        cases h2 : H1.get l with
        | loop L1 =>
          simp only [h2] at e ⊢
          by_cases hs : L1.state = .ready
          · rw [if_pos hs] at e ⊢
            cases h3 : a (some l) L.body ⟨T1, H1.set l (.loop { L1 with state := .busy }), []⟩ with
            | none => rw [h3] at e; cases e
            | some y => rw [h3] at e; rw [h _ _ _ _ h3]; exact e
          · rw [if_neg hs] at e; cases e
        | dead => simp only [h2] at e; cases e
        | cells => simp only [h2] at e; cases e
        | dfr => simp only [h2] at e; cases e
        | map => simp only [h2] at e; cases e
        | smap => simp only [h2] at e; cases e
        | siter => simp only [h2] at e; cases e
    · rw [if_neg hc] at e; cases e
  | dead => simp only [hl] at e; cases e
  | cells => simp only [hl] at e; cases e
  | dfr => simp only [hl] at e; cases e
  | map => simp only [hl] at e; cases e
  | smap => simp only [hl] at e; cases e
  | siter => simp only [hl] at e; cases e
theorem effE_mono (h : Ih.Le a b) {ρ : Operand → Option AV} {op : Op} {H : Heap} {r : AV × Heap} (e : effE C a ρ op H = some r) : effE C b ρ op H = some r := by
  unfold effE at e ⊢
  split at e
  all_goals first
    | exact e
    | (cases e; done)
    | (split at e
       · rename_i h1 h2
         exact callF_mono h e
       · rename_i h1 h2
         exact yieldF_mono h e
       · cases e)
theorem execE_mono (h : Ih.Le a b) {T : List AV} {o : Oper} {H : Heap} {r : AV × Heap} (e : execE C a T o H = some r) : execE C b T o H = some r := by
  unfold execE at e ⊢
  cases hk : kindOf C o.op with
  | eff => simp only [hk] at e ⊢; exact effE_mono h e
  | pure => simp only [hk] at e ⊢; exact e
  | load => simp only [hk] at e ⊢; exact e
  | look => simp only [hk] at e ⊢; exact e
  | alloc => simp only [hk] at e ⊢; exact e
end Go.PI
/- THE INTERPRETER OVER TREES. -/
namespace Go.PI
structure QT where
  t : TT
  H : Heap
  D : List Nat
abbrev IhQ := Nat → Option Nat → Code → QT → Option (Ex × QT)
def QT.st (n : Nat) (q : QT) : St := ⟨toL n q.t, q.H, q.D⟩
def Sim (ih : IhQ) (ihS : Ih) : Prop := ∀ n, n ≤ 256 → ∀ rd c q e q', ih n rd c q = some (e, q') → ihS rd c (q.st n) = some (e, q'.st n)
noncomputable def slowQ (ih : IhQ) : Ih := fun rd c s =>
  if s.T.length ≤ 256 then
    match ih s.T.length rd c ⟨ofA 0 zeroT s.T, s.H, s.D⟩ with
    | some (e, q) => some (e, q.st s.T.length)
    | none => none
  else none
theorem slow_le {ih : IhQ} {ihS : Ih} (h : Sim ih ihS) : Ih.Le (slowQ ih) ihS := by
  intro rd c s r e
  unfold slowQ at e
  split at e
  · rename_i hl
    split at e
    · rename_i x q hq
      cases e
      have := h _ hl _ _ _ _ _ hq
      rw [← this]
      unfold QT.st
      rw [toL_ofL _ hl]
    · cases e
  · cases e
structure OQ where
  f : TT → Option AV
def qO (n : Nat) : Operand → OQ
  | .tmp t => if t < n then ⟨fun T => some ((get16 AV (t % 16)).f ((get16 (N16 AV) (t / 16)).f T))⟩ else ⟨fun _ => some undefA⟩
  | .const v => ⟨fun _ => ofConst v⟩
  | .global _ => ⟨fun _ => none⟩
  | .func g => ⟨fun _ => some (.fn g [] [])⟩
theorem qO_eq (n : Nat) (x : Operand) (T : TT) : (qO n x).f T = opd (toL n T) x := by
  cases x with
  | tmp t =>
    simp only [qO, opd, toL_getD]
    by_cases h : t < n
    · rw [if_pos h, if_pos h]; rfl
    · rw [if_neg h, if_neg h]
  | _ => rfl
structure LQ where
  f : TT → Option (List AV)
def qL (n : Nat) : List Operand → LQ
  | [] => ⟨fun _ => some []⟩
  | x :: xs => ⟨fun T => match (qO n x).f T, (qL n xs).f T with
    | some a, some as => some (a :: as)
    | _, _ => none⟩
theorem qL_eq (n : Nat) (xs : List Operand) (T : TT) : (qL n xs).f T = opds (opd (toL n T)) xs := by
  induction xs with
  | nil => rfl
  | cons x xs ih => simp only [qL, opds, qO_eq, ih]; cases opd (toL n T) x <;> cases opds (opd (toL n T)) xs <;> rfl
noncomputable def resultsQ (C : Ctx) (n : Nat) (t : TT) (H : Heap) : List ResultVar → Option (List AV)
  | [] => some []
  | .tmp a :: r => match resultsQ C n t H r with
    | some vs => match (qO n (.tmp a)).f t with
      | some v => some (v :: vs)
      | none => none
    | none => none
  | .cell a ty :: r => match (qO n (.tmp a)).f t with
    | some p => match loadE C ty p H, resultsQ C n t H r with
      | some v, some vs => some (v :: vs)
      | _, _ => none
    | none => none
theorem resultsQ_eq (C : Ctx) (n : Nat) (t : TT) (H : Heap) (rs : List ResultVar) : resultsQ C n t H rs = resultsE C (toL n t) H rs := by
  induction rs with
  | nil => rfl
  | cons r rs ih =>
    cases r with
    | tmp a => simp only [resultsQ, resultsE, ih, qO_eq, opd]; cases resultsE C (toL n t) H rs <;> rfl
    | cell a ty => simp only [resultsQ, resultsE, ih, qO_eq, opd]; cases loadE C ty _ H <;> cases resultsE C (toL n t) H rs <;> rfl
def retQ (r : Option (List AV)) (H : Heap) : Option (AV × Heap) :=
  match r with
  | some [v] => some (v, H)
  | some vs => some (.tup vs, H)
  | none => none
noncomputable def callK (C : Ctx) (ih : IhQ) (g : FuncId) (as : List AV) (H : Heap) : Option (AV × Heap) :=
  match C.fn g with
  | none => callB C (fun _ _ _ => none) g as H
  | some fi =>
    if as.length ≤ fi.ntmps ∧ fi.ntmps ≤ 256 then
      match ih fi.ntmps none fi.body ⟨ofA 0 zeroT as, H, []⟩ with
      | some (.normal, s) => match shutMarks s.D s.H with
        | some H' => retQ (resultsQ C fi.ntmps s.t H' fi.results) H'
        | none => none
      | some (.ret, s) => match shutMarks s.D s.H with
        | some H' => retQ (resultsQ C fi.ntmps s.t H' fi.results) H'
        | none => none
      | _ => none
    else none
theorem callK_sim {C : Ctx} {ih : IhQ} {ihS : Ih} (h : Sim ih ihS) {g : FuncId} {as : List AV} {H : Heap} {r : AV × Heap} (e : callK C ih g as H = some r) : callB C ihS g as H = some r := by
  unfold callK at e
  cases hf : C.fn g with
  | none =>
    simp only [hf] at e
    exact callB_mono (a := fun _ _ _ => none) (fun _ _ _ _ x => by cases x) e
  | some fi =>
    simp only [hf] at e
    split at e
    · rename_i hl
      unfold callB
      simp only [hf]
      cases hi : ih fi.ntmps none fi.body ⟨ofA 0 zeroT as, H, []⟩ with
      | none => rw [hi] at e; cases e
      | some x =>
        obtain ⟨x, q⟩ := x
        have hs := h _ hl.2 _ _ _ _ _ hi
        unfold QT.st at hs
        rw [toL_ofA _ hl.2 _ hl.1] at hs
        rw [hs]
        rw [hi] at e
        cases x <;> simp only [resultsQ_eq] at e ⊢ <;> first | (cases e; done) | skip
        all_goals
          cases hm : shutMarks q.D q.H with
          | none => rw [hm] at e; cases e
          | some H' => rw [hm] at e; exact e
    · cases e
noncomputable def callQ (C : Ctx) (ih : IhQ) (g : FuncId) (as : List AV) (H : Heap) : Option (AV × Heap) :=
  match sumE C g as H with
  | some r => some r
  | none => callK C ih g as H
theorem callQ_sim {C : Ctx} {ih : IhQ} {ihS : Ih} (h : Sim ih ihS) {g : FuncId} {as : List AV} {H : Heap} {r : AV × Heap} (e : callQ C ih g as H = some r) : callF C ihS g as H = some r := by
  unfold callQ at e
  unfold callF
  cases hs : sumE C g as H with
  | some r' => simp only [hs] at e ⊢; exact e
  | none => simp only [hs] at e ⊢; exact callK_sim h e
structure XQ where
  f : IhQ → TT → Heap → Option (AV × Heap)
noncomputable def callQ1 (C : Ctx) (ih : IhQ) (g : FuncId) (as : Option (List AV)) (H : Heap) : Option (AV × Heap) :=
  match as with
  | some as => callQ C ih g as H
  | none => none
structure BQ where
  f : TT → Nat → Option Nat
def faOff (C : Ctx) (s : TypeId) (f : Nat) : Option Nat :=
  match C.ty s with
  | some { desc := .struct fs, .. } => match fs[f]? with
    | some fd => match C.ty fd.type with
      | some i => if i.size = 0 then none else some fd.offset
      | none => none
    | none => none
  | _ => none
def addP (off : Nat) (x : Option AV) : Option AV :=
  match x with
  | some (.ptr b o) => some (.ptr b (o + off))
  | _ => none
theorem addP_eq (C : Ctx) (s : TypeId) (f : Nat) (ρ : Operand → Option AV) (x : Operand) : (match faOff C s f with
    | some off => addP off (ρ x)
    | none => none) = pureE C ρ (.fieldAddr s x f) := by
  unfold faOff
  simp only [pureE]
  cases h : C.ty s with
  | none => rfl
  | some i =>
    obtain ⟨d, sz, by_, z⟩ := i
    cases d <;> try rfl
    rename_i fs
    simp only
    cases hf : fs[f]? with
    | none => cases ρ x with
      | none => rfl
      | some v => cases v <;> simp [hf]
    | some fd =>
      simp only
      cases hi : C.ty fd.type with
      | none => cases ρ x with
        | none => rfl
        | some v => cases v <;> simp [hf, hi]
      | some i =>
        simp only
        by_cases h0 : i.size = 0
        · simp only [if_pos h0]
          cases ρ x with
          | none => rfl
          | some v => cases v <;> simp [hf, hi, h0]
        · simp only [if_neg h0]
          cases ρ x with
          | none => rfl
          | some v => cases v <;> simp [addP, hf, hi, h0]
def execR (C : Ctx) (ih : Ih) (ρ : Operand → Option AV) (o : Op) (H : Heap) : Option (AV × Heap) :=
  match kindOf C o with
  | .pure => match pureE C ρ o with
    | some v => some (v, H)
    | none => none
  | .load => match o with
    | .load t a => match ρ a with
      | some a => match loadE C t a H with
        | some v => some (v, H)
        | none => none
      | none => none
    | _ => none
  | .alloc => if lim ≤ H.n then none else match allocE C ρ o with
    | some (b, f) => some (f H.n, H.push b)
    | none => none
  | .eff => effE C ih ρ o H
  | .look => match o with
    | .lookup t m key ok => match ρ m, ρ key with
      | some a, some b => match lookupE C t a b ok H with
        | some (v, _) => some (v, H)
        | none => none
      | _, _ => none
    | _ => none
theorem execR_eq (C : Ctx) (ih : Ih) (T : List AV) (o : Oper) (H : Heap) : execR C ih (opd T) o.op H = execE C ih T o H := rfl
def nilC (x : Option AV) : Option AV :=
  match x with
  | some (.ptr b o) => some (.ptr b o)
  | some (.fn f a b) => some (.fn f a b)
  | some (.yld l) => some (.yld l)
  | _ => none
def allocQ (C : Ctx) (e : TypeId) (H : Heap) : Option (AV × Heap) :=
  match Nat.ble lim H.n with
  | true => none
  | false => match C.ty e with
    | some i => some (.ptr H.n 0, H.push (.cells true e i.zero.cells))
    | none => none
def boxQ (C : Ctx) (e : TypeId) (x : Option AV) (H : Heap) : Option (AV × Heap) :=
  match Nat.ble lim H.n with
  | true => none
  | false => match C.ty e, x with
    | some _, some v => some (.ptr H.n 0, H.push (.cells true e v.cells))
    | _, _ => none
noncomputable def qX (C : Ctx) (n : Nat) (o : Oper) : XQ :=
  match o.op with
  | .move x => ⟨fun _ T H => withH ((qO n x).f T) H⟩
  | .assign x => ⟨fun _ T H => withH ((qO n x).f T) H⟩
  | .pick c a b => ⟨fun _ T H => withH (pickB ((qO n c).f T) ((qO n a).f T) ((qO n b).f T)) H⟩
  | .binOp op t x y _ => ⟨fun _ T H => withH (bin2 (decB C op t x y) ((qO n x).f T) ((qO n y).f T)) H⟩
  | .extract t i => ⟨fun _ T H => withH (extrB ((qO n t).f T) i) H⟩
  | .load t a => ⟨fun _ T H => load1 C t ((qO n a).f T) H⟩
  | .unOp op _ x => ⟨fun _ T H => withH (unB op ((qO n x).f T)) H⟩
  | .indexAddr t x i => ⟨fun _ T H => withH (idxB C (C.ty t) ((qO n x).f T) ((qO n i).f T)) H⟩
  | .store t a v => ⟨fun _ T H => store2 C t ((qO n a).f T) ((qO n v).f T) H⟩
  | .fieldAddr s x f => match faOff C s f with
    | some off => ⟨fun _ T H => withH (addP off ((qO n x).f T)) H⟩
    | none => ⟨fun _ _ _ => none⟩
  | .nilCheck x => ⟨fun _ T H => withH (nilC ((qO n x).f T)) H⟩
  | .alloc e => ⟨fun _ _ H => allocQ C e H⟩
  | .box e x => ⟨fun _ T H => boxQ C e ((qO n x).f T) H⟩
  | .call { callee := .value (.func g), args, argTypes := _ } => ⟨fun ih T H => callQ1 C ih g ((qL n args.toList).f T) H⟩
  | .call { callee := .builtin .len, args, argTypes } => match isMap C argTypes.toList with
    | false => ⟨fun _ T H => withH (lenX C argTypes.toList ((qL n args.toList).f T)) H⟩
    | true => ⟨fun ih T H => execR C (slowQ ih) (fun x => (qO n x).f T) o.op H⟩
  | .call { callee := .builtin .append, args, argTypes } => ⟨fun _ T H => appX C argTypes.toList ((qL n args.toList).f T) H⟩
  | .slice t x lo hi none => ⟨fun _ T H => withH (sliceX C (C.ty t) (lo.map fun l => ⟨fun _ => (qO n l).f T⟩) (hi.map fun l => ⟨fun _ => (qO n l).f T⟩) [] ((qO n x).f T)) H⟩
  | op => ⟨fun ih T H => execR C (slowQ ih) (fun x => (qO n x).f T) op H⟩
theorem qX_sim {C : Ctx} {ih : IhQ} {ihS : Ih} (hs : Sim ih ihS) {n : Nat} {o : Oper} {T : TT} {H : Heap} {r : AV × Heap} (e : (qX C n o).f ih T H = some r) : execE C ihS (toL n T) o H = some r := by
  have hold : ∀ {r0 : Option (AV × Heap)}, (decX C o).f ihS (toL n T) H = r0 → r0 = some r → execE C ihS (toL n T) o H = some r := fun h1 h2 => by rw [← decX_eq, h1, h2]
  unfold qX at e
  split at e
  case h_10 s x f h =>
    rw [← execR_eq]
    simp only [execR, h, kindOf]
    rw [← addP_eq]
    cases hf : faOff C s f with
    | none => rw [hf] at e; cases e
    | some off =>
      rw [hf] at e
      simp only [qO_eq] at e
      simp only
      cases ha : addP off (opd (toL n T) x) with
      | none => rw [ha] at e; cases e
      | some v => rw [ha] at e; exact e
  case h_11 x h =>
    rw [← execR_eq]
    simp only [qO_eq] at e
    simp only [execR, h, kindOf, pureE]
    unfold nilC withH at e
    split at e
    · rename_i v hv
      rw [← e]
      split at hv <;> cases hv <;> simp_all
    · cases e
  case h_12 el h =>
    rw [← execR_eq]
    simp only [execR, h, kindOf, allocE]
    simp only [allocQ] at e
    cases hb : Nat.ble lim H.n with
    | true => rw [hb] at e; cases e
    | false =>
      rw [hb] at e
      have hl : ¬ lim ≤ H.n := fun hh => by rw [Nat.ble_eq_true_of_le hh] at hb; cases hb
      rw [if_neg hl]
      cases ht : C.ty el with
      | none => rw [ht] at e; cases e
      | some i => rw [ht] at e; exact e
  case h_13 el x h =>
    rw [← execR_eq]
    simp only [qO_eq] at e
    simp only [execR, h, kindOf, allocE]
    simp only [boxQ] at e
    cases hb : Nat.ble lim H.n with
    | true => rw [hb] at e; cases e
    | false =>
      rw [hb] at e
      have hl : ¬ lim ≤ H.n := fun hh => by rw [Nat.ble_eq_true_of_le hh] at hb; cases hb
      rw [if_neg hl]
      cases ht : C.ty el with
      | none => rw [ht] at e; cases e
      | some i =>
        rw [ht] at e
        cases hx : opd (toL n T) x with
        | none => rw [hx] at e; cases e
        | some v => rw [hx] at e; exact e
  case h_14 g args ts h =>
    refine hold rfl ?_
    unfold decX
    simp only [h, decL_eq]
    simp only [qL_eq] at e
    cases ha : opds (opd (toL n T)) args.toList with
    | none => rw [ha] at e; cases e
    | some as => rw [ha] at e; exact callQ_sim hs e
  case h_15 args ts h =>
    cases hm : isMap C ts.toList with
    | false =>
      simp only [hm] at e
      refine hold rfl ?_
      unfold decX
      simp only [h, hm, decL_eq]
      simp only [qL_eq] at e
      exact e
    | true =>
      simp only [hm] at e
      have hρ : (fun x => (qO n x).f T) = opd (toL n T) := funext fun x => qO_eq n x T
      simp only [hρ] at e
      rw [execR_eq] at e
      exact execE_mono (slow_le hs) e
  case h_17 t x lo hi h =>
    refine hold rfl ?_
    unfold decX
    simp only [h, decO_eq]
    simp only [qO_eq] at e
    rw [← e]
    cases lo <;> cases hi <;> simp only [Option.map, sliceX, decO_eq]
  case h_18 =>
    have hρ : (fun x => (qO n x).f T) = opd (toL n T) := funext fun x => qO_eq n x T
    simp only [hρ] at e
    rw [execR_eq] at e
    exact execE_mono (slow_le hs) e
  all_goals
    rename_i h
    refine hold rfl ?_
    unfold decX
    simp only [h, decO_eq, decL_eq]
    simp only [qO_eq, qL_eq] at e
    exact e
structure YQ where
  f : TT → Option Bool
def isB (v : AV) : Option Bool :=
  match v with
  | .bool b => some b
  | _ => none
def ayQ (n : Nat) (ops : List Oper) (j : Nat) : YQ :=
  match ops[j]? with
  | some o => match o.dst with
    | some d => if d < n then ⟨fun T => isB (getT d T)⟩ else ⟨fun _ => none⟩
    | none => ⟨fun _ => none⟩
  | none => ⟨fun _ => none⟩
theorem ayQ_eq (n : Nat) (ops : List Oper) (T : TT) (j : Nat) : (ayQ n ops j).f T = ayielded ops (toL n T) j := by
  unfold ayQ ayielded
  cases ops[j]? with
  | none => rfl
  | some o =>
    simp only
    cases o.dst with
    | none => rfl
    | some d =>
      simp only [toL_get]
      by_cases h : d < n
      · rw [if_pos h, if_pos h]; cases hv : getT d T <;> simp [isB, hv]
      · rw [if_neg h, if_neg h]
structure PQ where
  f : TT → AV → TT
noncomputable def putQ (n : Nat) (dst : Option Tmp) : PQ :=
  match dst with
  | some d => if d < n then ⟨fun T v => setT d T v⟩ else ⟨fun T _ => T⟩
  | none => ⟨fun T _ => T⟩
theorem putQ_eq (n : Nat) (hn : n ≤ 256) (dst : Option Tmp) (T : TT) (v : AV) : putT (toL n T) dst v = toL n ((putQ n dst).f T v) := by
  unfold putQ putT
  cases dst with
  | none => rfl
  | some d =>
    simp only
    by_cases h : d < n
    · rw [if_pos h, toL_set n hn T d h]
    · rw [if_neg h, toL_set_out n T d h]
structure SQ where
  f : IhQ → TT → Heap → Option (TT × Heap)
noncomputable def afterQ (n : Nat) (dst : Option Tmp) (T : TT) (r : Option (AV × Heap)) : Option (TT × Heap) :=
  match r with
  | some (v, H') => some ((putQ n dst).f T v, H')
  | none => none
noncomputable def qS (C : Ctx) (n : Nat) (ops : List Oper) (o : Oper) : SQ :=
  match o.guard with
  | none => ⟨fun ih T H => afterQ n o.dst T ((qX C n o).f ih T H)⟩
  | some _ => ⟨fun ih T H => cond (Region.wanted o (fun j => (ayQ n ops j).f T)) (afterQ n o.dst T ((qX C n o).f ih T H)) (some ((putQ n o.dst).f T undefA, H))⟩
theorem qS_sim {C : Ctx} {ih : IhQ} {ihS : Ih} (hs : Sim ih ihS) {n : Nat} (hn : n ≤ 256) {ops : List Oper} {o : Oper} {T T' : TT} {H H' : Heap} (e : (qS C n ops o).f ih T H = some (T', H')) : stepE C ihS ops o (toL n T) H = some (toL n T', H') := by
  have hx : ∀ T' H', afterQ n o.dst T ((qX C n o).f ih T H) = some (T', H') → (match execE C ihS (toL n T) o H with
    | some (v, H') => some (putT (toL n T) o.dst v, H')
    | none => none) = some (toL n T', H') := by
    intro T' H' e
    unfold afterQ at e
    cases hq : (qX C n o).f ih T H with
    | none => rw [hq] at e; cases e
    | some p =>
      rw [hq] at e
      rw [qX_sim hs hq]
      cases e
      simp only [putQ_eq n hn]
  unfold qS at e
  unfold stepE
  split at e
  · rename_i h
    have : Region.wanted o (ayielded ops (toL n T)) = true := by simp [Region.wanted, h]
    rw [if_pos this]
    exact hx _ _ e
  · have hy : (fun j => (ayQ n ops j).f T) = ayielded ops (toL n T) := funext (ayQ_eq n ops T)
    simp only [hy] at e
    cases hw : Region.wanted o (ayielded ops (toL n T)) with
    | true => rw [hw] at e; rw [if_pos rfl]; exact hx _ _ e
    | false =>
      rw [hw] at e
      cases e
      simp [putQ_eq n hn]
noncomputable def qR (C : Ctx) (n : Nat) (ops : List Oper) : List Oper → SQ
  | [] => ⟨fun _ T H => some (T, H)⟩
  | o :: rest => ⟨fun ih T H => match (qS C n ops o).f ih T H with
    | some (T', H') => (qR C n ops rest).f ih T' H'
    | none => none⟩
theorem qR_sim {C : Ctx} {ih : IhQ} {ihS : Ih} (hs : Sim ih ihS) {n : Nat} (hn : n ≤ 256) {ops os : List Oper} : ∀ {T T' : TT} {H H' : Heap}, (qR C n ops os).f ih T H = some (T', H') → runE C ihS ops os (toL n T) H = some (toL n T', H') := by
  induction os with
  | nil => intro T T' H H' e; cases e; rfl
  | cons o rest ihh =>
    intro T T' H H' e
    simp only [qR] at e
    cases hq : (qS C n ops o).f ih T H with
    | none => rw [hq] at e; cases e
    | some p =>
      rw [hq] at e
      simp only [runE, qS_sim hs hn hq]
      exact ihh e
structure TQ where
  f : IhQ → TT → Heap → Option (List (TT × Heap))
noncomputable def qT (C : Ctx) (n : Nat) (ops : List Oper) : List Oper → TQ
  | [] => ⟨fun _ T H => some [(T, H)]⟩
  | o :: rest => ⟨fun ih T H => match (qS C n ops o).f ih T H with
    | some (T', H') => match (qT C n ops rest).f ih T' H' with
      | some tr => some ((T, H) :: tr)
      | none => none
    | none => none⟩
def asL (n : Nat) (p : TT × Heap) : List AV × Heap := (toL n p.1, p.2)
theorem qT_sim {C : Ctx} {ih : IhQ} {ihS : Ih} (hs : Sim ih ihS) {n : Nat} (hn : n ≤ 256) {ops os : List Oper} : ∀ {T : TT} {H : Heap} {tr : List (TT × Heap)}, (qT C n ops os).f ih T H = some tr → traceE C ihS ops os (toL n T) H = some (tr.map (asL n)) := by
  induction os with
  | nil => intro T H tr e; cases e; rfl
  | cons o rest ihh =>
    intro T H tr e
    simp only [qT] at e
    cases hq : (qS C n ops o).f ih T H with
    | none => rw [hq] at e; cases e
    | some p =>
      rw [hq] at e
      simp only at e
      cases hr : (qT C n ops rest).f ih p.1 p.2 with
      | none => rw [hr] at e; cases e
      | some tr' =>
        rw [hr] at e
        cases e
        simp only [traceE, qS_sim hs hn hq, ihh hr]
        rfl
end Go.PI
/- THE CHECK OF A REGION WHOSE ORDER IS OPEN, what is static of it computed once. -/
namespace Go.PI
def posL (C : Ctx) (ops : List Oper) (pre : List Nat) (i : Nat) : Nat → Nat → List Nat
  | _, 0 => []
  | p, k + 1 => match isBd C ops p && mayAt C ops pre i p ops 0 with
    | true => p :: posL C ops pre i (p + 1) k
    | false => posL C ops pre i (p + 1) k
def atsD (C : Ctx) (t : TypeId) (a v : AV) (all : List (TT × Heap)) : List Nat → Bool
  | [] => true
  | p :: ps => match all[p]? with
    | some x => (match loadE C t a x.2 with
      | some v' => cond (v.same v') (atsD C t a v all ps) false
      | none => false)
    | none => atsD C t a v all ps
theorem atsD_eq (C : Ctx) (n : Nat) (ops : List Oper) (pre : List Nat) (i : Nat) (t : TypeId) (a v : AV) (all : List (TT × Heap)) : ∀ (rest : List (TT × Heap)) (p : Nat), all.drop p = rest → atsD C t a v all (posL C ops pre i p rest.length) = true → loadAts C ops pre i t a v (rest.map (asL n)) p = true := by
  intro rest
  induction rest with
  | nil => intro p _ _; rfl
  | cons x rest ih =>
    intro p hp h
    have hx : all[p]? = some x := by
      have : (all.drop p)[0]? = some x := by rw [hp]; rfl
      simpa using this
    have hr : all.drop (p + 1) = rest := by
      have : (all.drop p).drop 1 = rest := by rw [hp]; rfl
      rw [List.drop_drop] at this
      exact this
    simp only [List.length_cons, posL] at h
    simp only [List.map_cons, asL, loadAts]
    cases hb : isBd C ops p && mayAt C ops pre i p ops 0 with
    | false =>
      rw [hb] at h
      simp only at h
      simp only [Bool.not_false, Bool.true_or, Bool.true_and]
      exact ih (p + 1) hr h
    | true =>
      rw [hb] at h
      simp only [atsD, hx] at h
      simp only [Bool.not_true, Bool.false_or]
      cases hl : loadE C t a x.2 with
      | none => rw [hl] at h; cases h
      | some v' =>
        rw [hl] at h
        simp only at h ⊢
        cases hs : v.same v' with
        | false => rw [hs] at h; cases h
        | true =>
          rw [hs] at h
          rw [Bool.true_and]
          exact ih (p + 1) hr h
structure LD where
  f : List (TT × Heap) → TT → Heap → Bool
def wantQ (n : Nat) (ops : List Oper) (o : Oper) (T : TT) : Bool :=
  match o.guard with
  | none => true
  | some _ => Region.wanted o (fun j => (ayQ n ops j).f T)
theorem wantQ_eq (n : Nat) (ops : List Oper) (o : Oper) (T : TT) : wantQ n ops o T = Region.wanted o (ayielded ops (toL n T)) := by
  unfold wantQ
  split
  · rename_i h; simp [Region.wanted, h]
  · have hy : (fun j => (ayQ n ops j).f T) = ayielded ops (toL n T) := funext (ayQ_eq n ops T)
    rw [hy]
def ldQ (C : Ctx) (n : Nat) (ops : List Oper) (pre : List Nat) (m : Nat) (o : Oper) (i : Nat) : LD :=
  match o.op with
  | .load t x => ⟨fun all T H => cond (wantQ n ops o T) (match (qO n x).f T with
      | some a => (match loadE C t a H with
        | some v => atsD C t a v all (posL C ops pre i 0 m)
        | none => false)
      | none => false) true⟩
  | _ => ⟨fun _ _ _ => true⟩
def loadsD (C : Ctx) (n : Nat) (ops : List Oper) (pre : List Nat) (m : Nat) (all : List (TT × Heap)) : List Oper → List (TT × Heap) → Nat → Bool
  | o :: os, x :: tr, i => cond ((ldQ C n ops pre m o i).f all x.1 x.2) (loadsD C n ops pre m all os tr (i + 1)) false
  | _, _, _ => true
theorem loadsD_eq (C : Ctx) (n : Nat) (ops : List Oper) (pre : List Nat) (all : List (TT × Heap)) : ∀ (os : List Oper) (tr : List (TT × Heap)) (i : Nat), loadsD C n ops pre all.length all os tr i = true → loadsOk C ops pre (all.map (asL n)) os (tr.map (asL n)) i = true := by
  intro os
  induction os with
  | nil => intro tr i _; cases tr <;> rfl
  | cons o os ih =>
    intro tr i h
    cases tr with
    | nil => rfl
    | cons x tr =>
      simp only [loadsD] at h
      simp only [List.map_cons, asL, loadsOk]
      cases hq : (ldQ C n ops pre all.length o i).f all x.1 x.2 with
      | false => rw [hq] at h; cases h
      | true =>
        rw [hq] at h
        rw [ih tr (i + 1) h, Bool.and_true]
        unfold ldQ at hq
        split at hq
        · rename_i t y ho
          simp only [ho]
          simp only [wantQ_eq, qO_eq] at hq
          cases hw : Region.wanted o (ayielded ops (toL n x.1)) with
          | false => simp
          | true =>
            rw [hw] at hq
            simp only [cond_true, if_true] at hq ⊢
            cases ha : opd (toL n x.1) y with
            | none => rw [ha] at hq; cases hq
            | some a =>
              rw [ha] at hq
              simp only at hq ⊢
              cases hl : loadE C t a x.2 with
              | none => rw [hl] at hq; cases hq
              | some v =>
                rw [hl] at hq
                exact atsD_eq C n ops pre i t a v all all 0 rfl hq
        · rename_i hne
          split
          · rename_i t y ho; exact absurd ho (hne t y)
          · rfl
def posA (C : Ctx) (ops : List Oper) (pre : List Nat) (i : Nat) : Nat → Nat → List Nat
  | _, 0 => []
  | p, k + 1 => match isBd C ops p && decide (i < p) && mayAt C ops pre i p ops 0 with
    | true => p :: posA C ops pre i (p + 1) k
    | false => posA C ops pre i (p + 1) k
def atsA (A : Nat) (ty : TypeId) (cs : List AV) (all : List (TT × Heap)) : List Nat → Bool
  | [] => true
  | p :: ps => match all[p]? with
    | some x => (match x.2.get A with
      | .cells true ty' cs' => cond (ty == ty' && sameLs cs cs') (atsA A ty cs all ps) false
      | _ => false)
    | none => atsA A ty cs all ps
theorem atsA_eq (C : Ctx) (n : Nat) (ops : List Oper) (pre : List Nat) (i A : Nat) (ty : TypeId) (cs : List AV) (all : List (TT × Heap)) : ∀ (rest : List (TT × Heap)) (p : Nat), all.drop p = rest → atsA A ty cs all (posA C ops pre i p rest.length) = true → allocAts C ops pre i A ty cs (rest.map (asL n)) p = true := by
  intro rest
  induction rest with
  | nil => intro p _ _; rfl
  | cons x rest ih =>
    intro p hp h
    have hx : all[p]? = some x := by
      have : (all.drop p)[0]? = some x := by rw [hp]; rfl
      simpa using this
    have hr : all.drop (p + 1) = rest := by
      have : (all.drop p).drop 1 = rest := by rw [hp]; rfl
      rw [List.drop_drop] at this
      exact this
    simp only [List.length_cons, posA] at h
    simp only [List.map_cons, asL, allocAts]
    cases hb : isBd C ops p && decide (i < p) && mayAt C ops pre i p ops 0 with
    | false =>
      rw [hb] at h
      simp only at h
      simp only [Bool.not_false, Bool.true_or, Bool.true_and]
      exact ih (p + 1) hr h
    | true =>
      rw [hb] at h
      simp only [atsA, hx] at h
      simp only [Bool.not_true, Bool.false_or]
      split at h
      · rename_i ty' cs' hg
        cases hs : (ty == ty' && sameLs cs cs') with
        | false => rw [hs] at h; cases h
        | true =>
          rw [hs] at h
          rw [hg]
          simp only [hs, Bool.true_and]
          exact ih (p + 1) hr h
      · cases h
def alQ (C : Ctx) (n : Nat) (ops : List Oper) (pre : List Nat) (m : Nat) (o : Oper) (i : Nat) : LD :=
  match kindOf C o.op with
  | .alloc => ⟨fun all T H => cond (wantQ n ops o T) (match allocE C (fun x => (qO n x).f T) o.op with
      | some (.cells true ty cs, _) => atsA H.n ty cs all (posA C ops pre i 0 m)
      | _ => false) true⟩
  | _ => ⟨fun _ _ _ => true⟩
def allocsD (C : Ctx) (n : Nat) (ops : List Oper) (pre : List Nat) (m : Nat) (all : List (TT × Heap)) : List Oper → List (TT × Heap) → Nat → Bool
  | o :: os, x :: tr, i => cond ((alQ C n ops pre m o i).f all x.1 x.2) (allocsD C n ops pre m all os tr (i + 1)) false
  | _, _, _ => true
theorem allocsD_eq (C : Ctx) (n : Nat) (ops : List Oper) (pre : List Nat) (all : List (TT × Heap)) : ∀ (os : List Oper) (tr : List (TT × Heap)) (i : Nat), allocsD C n ops pre all.length all os tr i = true → allocsOk C ops pre (all.map (asL n)) os (tr.map (asL n)) i = true := by
  intro os
  induction os with
  | nil => intro tr i _; cases tr <;> rfl
  | cons o os ih =>
    intro tr i h
    cases tr with
    | nil => rfl
    | cons x tr =>
      simp only [allocsD] at h
      simp only [List.map_cons, asL, allocsOk]
      cases hq : (alQ C n ops pre all.length o i).f all x.1 x.2 with
      | false => rw [hq] at h; cases h
      | true =>
        rw [hq] at h
        rw [ih tr (i + 1) h, Bool.and_true]
        unfold alQ at hq
        cases hk : kindOf C o.op <;> simp only [hk] at hq ⊢
        have hρ : (fun x_1 => (qO n x_1).f x.1) = opd (toL n x.1) := funext fun y => qO_eq n y x.1
        simp only [wantQ_eq, hρ] at hq
        cases hw : Region.wanted o (ayielded ops (toL n x.1)) with
        | false => simp
        | true =>
          rw [hw] at hq
          simp only [cond_true, if_true] at hq ⊢
          split at hq
          · rename_i ty cs g ha
            rw [ha]
            exact atsA_eq C n ops pre i x.2.n ty cs all all 0 rfl hq
          · cases hq
def monoD : List (TT × Heap) → Bool
  | [] => true
  | [_] => true
  | x :: y :: r => cond (Nat.ble x.2.n y.2.n) (monoD (y :: r)) false
theorem monoD_eq (n : Nat) : ∀ (tr : List (TT × Heap)), monoD tr = true → monoOk (tr.map (asL n)) = true
  | [], _ => rfl
  | [_], _ => rfl
  | x :: y :: r, h => by
    simp only [monoD] at h
    cases hb : Nat.ble x.2.n y.2.n with
    | false => rw [hb] at h; cases h
    | true =>
      rw [hb] at h
      have := monoD_eq n (y :: r) h
      simp only [List.map_cons, asL, monoOk] at this ⊢
      rw [this, decide_eq_true (Nat.le_of_ble_eq_true hb)]
      rfl
structure DQ where
  f : List (TT × Heap) → Bool
def drawD (C : Ctx) (n : Nat) (ops : List Oper) : DQ :=
  match orderOk C ops (preList ops []) ops 0 with
  | true => ⟨fun tr => cond (Nat.beq tr.length (ops.length + 1)) (cond (loadsD C n ops (preList ops []) (ops.length + 1) tr ops tr 0) (cond (allocsD C n ops (preList ops []) (ops.length + 1) tr ops tr 0) (monoD tr) false) false) false⟩
  | false => ⟨fun _ => false⟩
theorem drawD_ok {C : Ctx} {n : Nat} {ops : List Oper} {tr : List (TT × Heap)} (h : (drawD C n ops).f tr = true) : drawOk C ops (tr.map (asL n)) = true := by
  unfold drawD at h
  unfold drawOk
  cases ho : orderOk C ops (preList ops []) ops 0 with
  | false => rw [ho] at h; cases h
  | true =>
    rw [ho] at h
    simp only at h ⊢
    cases hl : Nat.beq tr.length (ops.length + 1) with
    | false => rw [hl] at h; cases h
    | true =>
      rw [hl] at h
      have hl := Nat.eq_of_beq_eq_true hl
      rw [← hl] at h
      simp only [cond_true] at h
      cases h1 : loadsD C n ops (preList ops []) tr.length tr ops tr 0 with
      | false => rw [h1] at h; cases h
      | true =>
        rw [h1] at h
        simp only [cond_true] at h
        cases h2 : allocsD C n ops (preList ops []) tr.length tr ops tr 0 with
        | false => rw [h2] at h; cases h
        | true =>
          rw [h2] at h
          rw [ho, loadsD_eq C n ops _ tr ops tr 0 h1, allocsD_eq C n ops _ tr ops tr 0 h2, monoD_eq n tr h]
          rfl
end Go.PI
namespace Go.PI
theorem rangeF_mono {C : Ctx} {a b : Ih} (h : Ih.Le a b) {rd : Option Nat} {f : Operand} {ps : Array Tmp} {as bd : Code} {s : St} {r : Ex × St} (e : rangeF C a rd f ps as bd s = some r) : rangeF C b rd f ps as bd s = some r := by
  unfold rangeF at e ⊢
  split at e
  · cases e
  · rename_i hl
    rw [if_neg hl]
    split at e
    · rename_i g first caps ho
      try simp only [ho] at e ⊢
      split at e
      · cases e
      · rename_i hg
        rw [if_neg hg]
        split at e
        · rename_i D H1 Ds hst
          try simp only [hst] at e ⊢
          split at e
          · rename_i v H3 hc
            rw [callF_mono h hc]
            try simp only at e ⊢
            split at e
            · rename_i lp hlp
              try simp only [hlp] at e ⊢
              split at e
              · cases e
              · rename_i hb
                rw [if_neg hb]
                split at e
                · rename_i hp
                  try simp only [hp] at e ⊢
                  exact e
                · rename_i c hp
                  try simp only [hp] at e ⊢
                  exact h _ _ _ _ e
            · cases e
          · cases e
        · cases e
    · cases e
def lastQ : List (TT × Heap) → Option (TT × Heap)
  | [] => none
  | [x] => some x
  | _ :: xs => lastQ xs
theorem lastQ_eq (n : Nat) (tr : List (TT × Heap)) : lastOf (tr.map (asL n)) = (lastQ tr).map (asL n) := by
  induction tr with
  | nil => rfl
  | cons x xs ih =>
    cases xs with
    | nil => rfl
    | cons y ys => simpa [lastOf, lastQ] using ih
structure CQ where
  f : IhQ → Nat → Option Nat → QT → Option (Ex × QT)
def thenQ (r : Option (Ex × QT)) (k : QT → Option (Ex × QT)) : Option (Ex × QT) :=
  match r with
  | some (.normal, s') => k s'
  | r => r
def condQ (c : Option AV) (x y : Option (Ex × QT)) : Option (Ex × QT) :=
  match c with
  | some (.bool true) => x
  | some (.bool false) => y
  | _ => none
def blockQ (id : Nat) (r : Option (Ex × QT)) : Option (Ex × QT) :=
  match r with
  | some (.exit i, s') => if i = id then some (.normal, s') else some (.exit i, s')
  | r => r
def regQ (r : Option (TT × Heap)) (D : List Nat) : Option (Ex × QT) :=
  match r with
  | some (T', H') => some (.normal, ⟨T', H', D⟩)
  | none => none
def drawQ (C : Ctx) (n : Nat) (ops : List Oper) (r : Option (List (TT × Heap))) (D : List Nat) : Option (Ex × QT) :=
  match r with
  | some tr => cond ((drawD C n ops).f tr) (regQ (lastQ tr) D) none
  | none => none
noncomputable def loopQ (g : QT → Option (Ex × QT)) (k : Nat) : QT → Option (Ex × QT) :=
  Nat.rec (motive := fun _ => QT → Option (Ex × QT)) (fun _ => none) (fun _ again s => thenQ (g s) again) k
noncomputable def qC (C : Ctx) (n : Nat) : Code → CQ
  | .skip => ⟨fun _ _ _ s => some (.normal, s)⟩
  | .label _ => ⟨fun _ _ _ s => some (.normal, s)⟩
  | .seq a b => ⟨fun ih _ rd s => thenQ (ih n rd a s) (ih n rd b)⟩
  | .cond c a b => ⟨fun ih _ rd s => condQ ((qO n c).f s.t) (ih n rd a s) (ih n rd b s)⟩
  | .block id b => ⟨fun ih _ rd s => blockQ id (ih n rd b s)⟩
  | .loop b => ⟨fun ih k rd s => loopQ (ih n rd b) k s⟩
  | .exit id => ⟨fun _ _ _ s => some (.exit id, s)⟩
  | .goto l => ⟨fun _ _ _ s => some (.goto l, s)⟩
  | .ret => ⟨fun _ _ _ s => some (.ret, s)⟩
  | .region _ ops draw => match draw with
    | true => ⟨fun ih _ _ s => drawQ C n ops.toList ((qT C n ops.toList ops.toList).f ih s.t s.H) s.D⟩
    | false => ⟨fun ih _ _ s => regQ ((qR C n ops.toList ops.toList).f ih s.t s.H) s.D⟩
  | .rangeFunc f ps as bd => ⟨fun ih _ rd s => match rangeF C (slowQ ih) rd f ps as bd (s.st n) with
    | some (e, s') => if s'.T.length = n then some (e, ⟨ofA 0 zeroT s'.T, s'.H, s'.D⟩) else none
    | none => none⟩
  | _ => ⟨fun _ _ _ _ => none⟩
theorem loopQ_sim {ih : IhQ} {ihS : Ih} (hs : Sim ih ihS) {n : Nat} (hn : n ≤ 256) {rd : Option Nat} {b : Code} (k : Nat) : ∀ {q : QT} {e : Ex} {q' : QT}, loopQ (ih n rd b) k q = some (e, q') → loopF ihS rd b k (q.st n) = some (e, q'.st n) := by
  induction k with
  | zero => intro q e q' h; cases h
  | succ k ihk =>
    intro q e q' h
    change thenQ (ih n rd b q) (loopQ (ih n rd b) k) = _ at h
    unfold thenQ at h
    unfold loopF
    split at h
    · rename_i s' h1
      rw [hs _ hn _ _ _ _ _ h1]
      exact ihk h
    · rename_i h1
      rw [hs _ hn _ _ _ _ _ h]
      cases e <;> first | rfl | exact absurd h (h1 _)
theorem qC_sim {C : Ctx} {ih : IhQ} {ihS : Ih} (hs : Sim ih ihS) {n : Nat} (hn : n ≤ 256) {k : Nat} {rd : Option Nat} {c : Code} {q : QT} {e : Ex} {q' : QT} (h : (qC C n c).f ih k rd q = some (e, q')) : evF C ihS k rd c (q.st n) = some (e, q'.st n) := by
  cases c with
  | skip => cases h; rfl
  | label => cases h; rfl
  | exit => cases h; rfl
  | goto => cases h; rfl
  | ret => cases h; rfl
  | refuse => cases h
  | scope => cases h
  | seq a b =>
    simp only [qC, thenQ] at h
    simp only [evF]
    split at h
    · rename_i s' h1
      rw [hs _ hn _ _ _ _ _ h1]
      exact hs _ hn _ _ _ _ _ h
    · rename_i h1
      rw [hs _ hn _ _ _ _ _ h]
      cases e <;> first | rfl | exact absurd h (h1 _)
  | cond c a b =>
    simp only [qC, condQ, qO_eq] at h
    simp only [evF]
    split at h
    · rename_i h1
      have h1' : opd (q.st n).T c = some (.bool true) := h1
      rw [h1']
      exact hs _ hn _ _ _ _ _ h
    · rename_i h1
      have h1' : opd (q.st n).T c = some (.bool false) := h1
      rw [h1']
      exact hs _ hn _ _ _ _ _ h
    · cases h
  | block id b =>
    simp only [qC, blockQ] at h
    simp only [evF]
    split at h
    · rename_i i s' h1
      rw [hs _ hn _ _ _ _ _ h1]
      split at h <;> cases h <;> simp_all
    · rename_i h1
      rw [hs _ hn _ _ _ _ _ h]
      cases e <;> first | rfl | exact absurd h (h1 _ _)
  | loop b => exact loopQ_sim hs hn k h
  | region r ops draw =>
    cases draw with
    | true =>
      simp only [qC, drawQ] at h
      simp only [evF, if_true]
      split at h
      · rename_i tr h1
        have h2 := qT_sim hs hn h1
        have h2' : traceE C ihS ops.toList ops.toList (q.st n).T (q.st n).H = some (tr.map (asL n)) := h2
        rw [h2']
        cases hd : (drawD C n ops.toList).f tr with
        | false => rw [hd] at h; cases h
        | true =>
          rw [hd] at h
          have hd := drawD_ok hd
          simp only [hd, if_true, lastQ_eq]
          cases hl : lastQ tr with
          | none => rw [hl] at h; cases h
          | some p => rw [hl] at h; cases h; rfl
      · cases h
    | false =>
      simp only [qC, regQ] at h
      simp only [evF]
      split at h
      · rename_i T' H' h1
        have h2 : runE C ihS ops.toList ops.toList (q.st n).T (q.st n).H = _ := qR_sim hs hn h1
        rw [h2]
        cases h
        rfl
      · cases h
  | rangeFunc f ps as bd =>
    simp only [qC] at h
    simp only [evF]
    split at h
    · rename_i e1 s' h1
      split at h
      · rename_i hl
        cases h
        rw [rangeF_mono (slow_le hs) h1]
        unfold QT.st
        simp only
        subst hl
        rw [toL_ofL _ hn]
      · cases h
    · cases h
noncomputable def evQ (C : Ctx) (k : Nat) : IhQ := Nat.rec (motive := fun _ => IhQ) (fun _ _ _ _ => none) (fun k ih n rd c s => (qC C n c).f ih k rd s) k
theorem evQ_sim (C : Ctx) (k : Nat) : Sim (evQ C k) (ev C k) := by
  induction k with
  | zero => intro n _ rd c q e q' h; cases h
  | succ k ih => intro n hn rd c q e q' h; exact qC_sim ih hn h
noncomputable def quick (C : Ctx) (k : Nat) (f : FuncId) (args : List AV) (H : Heap) : Option (AV × Heap) := callQ C (evQ C k) f args H
theorem quick_sim {C : Ctx} {k : Nat} {f : FuncId} {args : List AV} {H : Heap} {r : AV × Heap} (h : quick C k f args H = some r) : call C k f args H = some r := callQ_sim (evQ_sim C k) h
end Go.PI
/- MORE FUEL, THE SAME RUN. -/
namespace Go.PI
variable {C : Ctx} {a b : Ih}
theorem stepE_mono (h : Ih.Le a b) {ops : List Oper} {o : Oper} {T : List AV} {H : Heap} {r : List AV × Heap} (e : stepE C a ops o T H = some r) : stepE C b ops o T H = some r := by
  unfold stepE at e ⊢
  split at e
  · rename_i hw
    rw [if_pos hw]
    cases hx : execE C a T o H with
    | none => rw [hx] at e; cases e
    | some x => rw [hx] at e; rw [execE_mono h hx]; exact e
  · rename_i hw
    rw [if_neg hw]; exact e
theorem runE_mono (h : Ih.Le a b) {ops : List Oper} : ∀ {rest : List Oper} {T : List AV} {H : Heap} {r : List AV × Heap}, runE C a ops rest T H = some r → runE C b ops rest T H = some r
  | [], _, _, _, e => e
  | o :: rest, T, H, r, e => by
    unfold runE at e ⊢
    cases hx : stepE C a ops o T H with
    | none => rw [hx] at e; cases e
    | some x => rw [hx] at e; rw [stepE_mono h hx]; exact runE_mono h e
theorem traceE_mono (h : Ih.Le a b) {ops : List Oper} : ∀ {rest : List Oper} {T : List AV} {H : Heap} {r : List (List AV × Heap)}, traceE C a ops rest T H = some r → traceE C b ops rest T H = some r
  | [], _, _, _, e => e
  | o :: rest, T, H, r, e => by
    unfold traceE at e ⊢
    cases hx : stepE C a ops o T H with
    | none => rw [hx] at e; cases e
    | some x =>
      rw [hx] at e; rw [stepE_mono h hx]
      try simp only at e ⊢
      cases hy : traceE C a ops rest x.1 x.2 with
      | none => rw [hy] at e; cases e
      | some y => rw [hy] at e; rw [traceE_mono h hy]; exact e
theorem rangeF_mono2 (h : Ih.Le a b) {rd : Option Nat} {f : Operand} {ps : Array Tmp} {assign body : Code} {s : St} {r : Ex × St} (e : rangeF C a rd f ps assign body s = some r) : rangeF C b rd f ps assign body s = some r := by
  unfold rangeF at e ⊢
  split at e
  · cases e
  · rename_i hl
    rw [if_neg hl]
    split at e
    · rename_i g first caps hf
      try rw [hf]
      try simp only at e ⊢
      split at e
      · cases e
      · rename_i hg
        rw [if_neg hg]
        split at e
        · rename_i D H1 Ds hs
          try rw [hs]
          try simp only at e ⊢
          split at e
          · rename_i v H3 hc
            rw [callF_mono h hc]
            try simp only at e ⊢
            split at e
            · rename_i lp hlp
              try rw [hlp]
              try simp only at e ⊢
              split at e
              · cases e
              · rename_i hst
                rw [if_neg hst]
                split at e
                · rename_i hp; (try rw [hp]); exact e
                · rename_i c hp; (try rw [hp]); exact h _ _ _ _ e
            · cases e
          · cases e
        · cases e
    · cases e
theorem loopF_mono (h : Ih.Le a b) {rd : Option Nat} {c : Code} : ∀ {k k' : Nat} {s : St} {r : Ex × St}, k ≤ k' → loopF a rd c k s = some r → loopF b rd c k' s = some r
  | 0, _, _, _, _, e => by cases e
  | k + 1, k', s, r, hk, e => by
    obtain ⟨k', rfl⟩ : ∃ j, k' = j + 1 := ⟨k' - 1, by omega⟩
    unfold loopF at e ⊢
    split at e
    · rename_i s' hs
      rw [h _ _ _ _ hs]
      exact loopF_mono h (by omega) e
    · rename_i hne
      rw [h _ _ _ _ e]
      cases hr : r with
      | mk x s' => cases x <;> first | rfl | (exact absurd (e.trans (by rw [hr])) (hne s'))
theorem evF_mono (h : Ih.Le a b) {k k' : Nat} (hk : k ≤ k') {rd : Option Nat} {c : Code} {s : St} {r : Ex × St} (e : evF C a k rd c s = some r) : evF C b k' rd c s = some r := by
  cases c <;> simp only [evF] at e ⊢ <;> try exact e
  case seq x y =>
    split at e
    · rename_i s' hs; rw [h _ _ _ _ hs]; exact h _ _ _ _ e
    · rename_i hne
      rw [h _ _ _ _ e]
      cases hr : r with
      | mk x s' => cases x <;> first | rfl | (exact absurd (e.trans (by rw [hr])) (hne s'))
  case cond x y z =>
    split at e
    · rename_i hc; (try rw [hc]); exact h _ _ _ _ e
    · rename_i hc; (try rw [hc]); exact h _ _ _ _ e
    · cases e
  case block id x =>
    split at e
    · rename_i i s' hs; rw [h _ _ _ _ hs]; exact e
    · rename_i hne
      rw [h _ _ _ _ e]
      cases hr : r with
      | mk x s' => cases x <;> first | rfl | (exact absurd (e.trans (by rw [hr])) (hne _ s'))
  case loop x => exact loopF_mono h hk e
  case region id ops draw =>
    split at e
    · rename_i hd
      rw [if_pos hd]
      split at e
      · rename_i tr ht; rw [traceE_mono h ht]; exact e
      · cases e
    · rename_i hd
      rw [if_neg hd]
      split at e
      · rename_i T' H' ht; rw [runE_mono h ht]; exact e
      · cases e
  case rangeFunc f ps as bd => exact rangeF_mono2 h e
theorem ev_succ (n : Nat) : Ih.Le (ev C n) (ev C (n + 1)) := by
  induction n with
  | zero => intro rd c s r e; cases e
  | succ n ih => intro rd c s r e; exact evF_mono ih (Nat.le_succ n) e
theorem ev_mono {m n : Nat} (h : m ≤ n) : Ih.Le (ev C m) (ev C n) := by
  induction h with
  | refl => exact fun _ _ _ _ e => e
  | step _ ih => exact fun rd c s r e => ev_succ _ rd c s r (ih rd c s r e)
end Go.PI
