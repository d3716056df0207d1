/- Own work of the verifier: PiQuick. -/
import Derived.Test.YtdflpkkgjppmgaaGreatCsAJ
set_option linter.all false
set_option exponentiation.threshold 3000
set_option linter.deprecated false
/- THE INTERPRETER OVER TREES. -/
namespace Go.PI
structure QT where
  t : TT
  H : Heap
  D : List Nat
abbrev IhQ := Nat → Option Nat → Code → QT → Option (Ex × QT)
def QT.st (n : Nat) (q : QT) : St := ⟨toL n q.t, q.H, q.D⟩
def Sim (ih : IhQ) (ihS : Ih) : Prop := ∀ n, n ≤ 256 → ∀ rd c q e q', ih n rd c q = some (e, q') → ihS rd c (q.st n) = some (e, q'.st n)
noncomputable def slowQ (ih : IhQ) : Ih := fun rd c s =>
  if s.T.length ≤ 256 then
    match ih s.T.length rd c ⟨ofA 0 zeroT s.T, s.H, s.D⟩ with
    | some (e, q) => some (e, q.st s.T.length)
    | none => none
  else none
theorem slow_le {ih : IhQ} {ihS : Ih} (h : Sim ih ihS) : Ih.Le (slowQ ih) ihS := by
  intro rd c s r e
  unfold slowQ at e
  split at e
  · rename_i hl
    split at e
    · rename_i x q hq
      cases e
      have := h _ hl _ _ _ _ _ hq
      rw [← this]
      unfold QT.st
      rw [toL_ofL _ hl]
    · cases e
  · cases e
structure OQ where
  f : TT → Option AV
def qO (n : Nat) : Operand → OQ
  | .tmp t => if t < n then ⟨fun T => some ((get16 AV (t % 16)).f ((get16 (N16 AV) (t / 16)).f T))⟩ else ⟨fun _ => some undefA⟩
  | .const v => ⟨fun _ => ofConst v⟩
  | .global _ => ⟨fun _ => none⟩
  | .func g => ⟨fun _ => some (.fn g [] [])⟩
theorem qO_eq (n : Nat) (x : Operand) (T : TT) : (qO n x).f T = opd (toL n T) x := by
  cases x with
  | tmp t =>
    simp only [qO, opd, toL_getD]
    by_cases h : t < n
    · rw [if_pos h, if_pos h]; rfl
    · rw [if_neg h, if_neg h]
  | _ => rfl
structure LQ where
  f : TT → Option (List AV)
def qL (n : Nat) : List Operand → LQ
  | [] => ⟨fun _ => some []⟩
  | x :: xs => ⟨fun T => match (qO n x).f T, (qL n xs).f T with
    | some a, some as => some (a :: as)
    | _, _ => none⟩
theorem qL_eq (n : Nat) (xs : List Operand) (T : TT) : (qL n xs).f T = opds (opd (toL n T)) xs := by
  induction xs with
  | nil => rfl
  | cons x xs ih => simp only [qL, opds, qO_eq, ih]; cases opd (toL n T) x <;> cases opds (opd (toL n T)) xs <;> rfl
noncomputable def resultsQ (C : Ctx) (n : Nat) (t : TT) (H : Heap) : List ResultVar → Option (List AV)
  | [] => some []
  | .tmp a :: r => match resultsQ C n t H r with
    | some vs => match (qO n (.tmp a)).f t with
      | some v => some (v :: vs)
      | none => none
    | none => none
  | .cell a ty :: r => match (qO n (.tmp a)).f t with
    | some p => match loadE C ty p H, resultsQ C n t H r with
      | some v, some vs => some (v :: vs)
      | _, _ => none
    | none => none
theorem resultsQ_eq (C : Ctx) (n : Nat) (t : TT) (H : Heap) (rs : List ResultVar) : resultsQ C n t H rs = resultsE C (toL n t) H rs := by
  induction rs with
  | nil => rfl
  | cons r rs ih =>
    cases r with
    | tmp a => simp only [resultsQ, resultsE, ih, qO_eq, opd]; cases resultsE C (toL n t) H rs <;> rfl
    | cell a ty => simp only [resultsQ, resultsE, ih, qO_eq, opd]; cases loadE C ty _ H <;> cases resultsE C (toL n t) H rs <;> rfl
def retQ (r : Option (List AV)) (H : Heap) : Option (AV × Heap) :=
  match r with
  | some [v] => some (v, H)
  | some vs => some (.tup vs, H)
  | none => none
noncomputable def callK (C : Ctx) (ih : IhQ) (g : FuncId) (as : List AV) (H : Heap) : Option (AV × Heap) :=
  match C.fn g with
  | none => callB C (fun _ _ _ => none) g as H
  | some fi =>
    if as.length ≤ fi.ntmps ∧ fi.ntmps ≤ 256 then
      match ih fi.ntmps none fi.body ⟨ofA 0 zeroT as, H, []⟩ with
      | some (.normal, s) => match shutMarks s.D s.H with
        | some H' => retQ (resultsQ C fi.ntmps s.t H' fi.results) H'
        | none => none
      | some (.ret, s) => match shutMarks s.D s.H with
        | some H' => retQ (resultsQ C fi.ntmps s.t H' fi.results) H'
        | none => none
      | _ => none
    else none
theorem callK_sim {C : Ctx} {ih : IhQ} {ihS : Ih} (h : Sim ih ihS) {g : FuncId} {as : List AV} {H : Heap} {r : AV × Heap} (e : callK C ih g as H = some r) : callB C ihS g as H = some r := by
  unfold callK at e
  cases hf : C.fn g with
  | none =>
    simp only [hf] at e
    exact callB_mono (a := fun _ _ _ => none) (fun _ _ _ _ x => by cases x) e
  | some fi =>
    simp only [hf] at e
    split at e
    · rename_i hl
      unfold callB
      simp only [hf]
      cases hi : ih fi.ntmps none fi.body ⟨ofA 0 zeroT as, H, []⟩ with
      | none => rw [hi] at e; cases e
      | some x =>
        obtain ⟨x, q⟩ := x
        have hs := h _ hl.2 _ _ _ _ _ hi
        unfold QT.st at hs
        rw [toL_ofA _ hl.2 _ hl.1] at hs
        rw [hs]
        rw [hi] at e
        cases x <;> simp only [resultsQ_eq] at e ⊢ <;> first | (cases e; done) | skip
        all_goals
          cases hm : shutMarks q.D q.H with
          | none => rw [hm] at e; cases e
          | some H' => rw [hm] at e; exact e
    · cases e
noncomputable def callQ (C : Ctx) (ih : IhQ) (g : FuncId) (as : List AV) (H : Heap) : Option (AV × Heap) :=
  match sumE C g as H with
  | some r => some r
  | none => callK C ih g as H
theorem callQ_sim {C : Ctx} {ih : IhQ} {ihS : Ih} (h : Sim ih ihS) {g : FuncId} {as : List AV} {H : Heap} {r : AV × Heap} (e : callQ C ih g as H = some r) : callF C ihS g as H = some r := by
  unfold callQ at e
  unfold callF
  cases hs : sumE C g as H with
  | some r' => simp only [hs] at e ⊢; exact e
  | none => simp only [hs] at e ⊢; exact callK_sim h e
structure XQ where
  f : IhQ → TT → Heap → Option (AV × Heap)
noncomputable def callQ1 (C : Ctx) (ih : IhQ) (g : FuncId) (as : Option (List AV)) (H : Heap) : Option (AV × Heap) :=
  match as with
  | some as => callQ C ih g as H
  | none => none
structure BQ where
  f : TT → Nat → Option Nat
def faOff (C : Ctx) (s : TypeId) (f : Nat) : Option Nat :=
  match C.ty s with
  | some { desc := .struct fs, .. } => match fs[f]? with
    | some fd => match C.ty fd.type with
      | some i => if i.size = 0 then none else some fd.offset
      | none => none
    | none => none
  | _ => none
def addP (off : Nat) (x : Option AV) : Option AV :=
  match x with
  | some (.ptr b o) => some (.ptr b (o + off))
  | _ => none
theorem addP_eq (C : Ctx) (s : TypeId) (f : Nat) (ρ : Operand → Option AV) (x : Operand) : (match faOff C s f with
    | some off => addP off (ρ x)
    | none => none) = pureE C ρ (.fieldAddr s x f) := by
  unfold faOff
  simp only [pureE]
  cases h : C.ty s with
  | none => rfl
  | some i =>
    obtain ⟨d, sz, by_, z⟩ := i
    cases d <;> try rfl
    rename_i fs
    simp only
    cases hf : fs[f]? with
    | none => cases ρ x with
      | none => rfl
      | some v => cases v <;> simp [hf]
    | some fd =>
      simp only
      cases hi : C.ty fd.type with
      | none => cases ρ x with
        | none => rfl
        | some v => cases v <;> simp [hf, hi]
      | some i =>
        simp only
        by_cases h0 : i.size = 0
        · simp only [if_pos h0]
          cases ρ x with
          | none => rfl
          | some v => cases v <;> simp [hf, hi, h0]
        · simp only [if_neg h0]
          cases ρ x with
          | none => rfl
          | some v => cases v <;> simp [addP, hf, hi, h0]
def execR (C : Ctx) (ih : Ih) (ρ : Operand → Option AV) (o : Op) (H : Heap) : Option (AV × Heap) :=
  match kindOf C o with
  | .pure => match pureE C ρ o with
    | some v => some (v, H)
    | none => none
  | .load => match o with
    | .load t a => match ρ a with
      | some a => match loadE C t a H with
        | some v => some (v, H)
        | none => none
      | none => none
    | _ => none
  | .alloc => if lim ≤ H.n then none else match allocE C ρ o with
    | some (b, f) => some (f H.n, H.push b)
    | none => none
  | .eff => effE C ih ρ o H
  | .look => match o with
    | .lookup t m key ok => match ρ m, ρ key with
      | some a, some b => match lookupE C t a b ok H with
        | some (v, _) => some (v, H)
        | none => none
      | _, _ => none
    | _ => none
theorem execR_eq (C : Ctx) (ih : Ih) (T : List AV) (o : Oper) (H : Heap) : execR C ih (opd T) o.op H = execE C ih T o H := rfl
def nilC (x : Option AV) : Option AV :=
  match x with
  | some (.ptr b o) => some (.ptr b o)
  | some (.fn f a b) => some (.fn f a b)
  | some (.yld l) => some (.yld l)
  | _ => none
def allocQ (C : Ctx) (e : TypeId) (H : Heap) : Option (AV × Heap) :=
  match Nat.ble lim H.n with
  | true => none
  | false => match C.ty e with
    | some i => some (.ptr H.n 0, H.push (.cells true e i.zero.cells))
    | none => none
def boxQ (C : Ctx) (e : TypeId) (x : Option AV) (H : Heap) : Option (AV × Heap) :=
  match Nat.ble lim H.n with
  | true => none
  | false => match C.ty e, x with
    | some _, some v => some (.ptr H.n 0, H.push (.cells true e v.cells))
    | _, _ => none
noncomputable def qX (C : Ctx) (n : Nat) (o : Oper) : XQ :=
  match o.op with
  | .move x => ⟨fun _ T H => withH ((qO n x).f T) H⟩
  | .assign x => ⟨fun _ T H => withH ((qO n x).f T) H⟩
  | .pick c a b => ⟨fun _ T H => withH (pickB ((qO n c).f T) ((qO n a).f T) ((qO n b).f T)) H⟩
  | .binOp op t x y _ => ⟨fun _ T H => withH (bin2 (decB C op t x y) ((qO n x).f T) ((qO n y).f T)) H⟩
  | .extract t i => ⟨fun _ T H => withH (extrB ((qO n t).f T) i) H⟩
  | .load t a => ⟨fun _ T H => load1 C t ((qO n a).f T) H⟩
  | .unOp op _ x => ⟨fun _ T H => withH (unB op ((qO n x).f T)) H⟩
  | .indexAddr t x i => ⟨fun _ T H => withH (idxB C (C.ty t) ((qO n x).f T) ((qO n i).f T)) H⟩
  | .store t a v => ⟨fun _ T H => store2 C t ((qO n a).f T) ((qO n v).f T) H⟩
  | .fieldAddr s x f => match faOff C s f with
    | some off => ⟨fun _ T H => withH (addP off ((qO n x).f T)) H⟩
    | none => ⟨fun _ _ _ => none⟩
  | .nilCheck x => ⟨fun _ T H => withH (nilC ((qO n x).f T)) H⟩
  | .alloc e => ⟨fun _ _ H => allocQ C e H⟩
  | .box e x => ⟨fun _ T H => boxQ C e ((qO n x).f T) H⟩
  | .call { callee := .value (.func g), args, argTypes := _ } => ⟨fun ih T H => callQ1 C ih g ((qL n args.toList).f T) H⟩
  | .call { callee := .builtin .len, args, argTypes } => match isMap C argTypes.toList with
    | false => ⟨fun _ T H => withH (lenX C argTypes.toList ((qL n args.toList).f T)) H⟩
    | true => ⟨fun ih T H => execR C (slowQ ih) (fun x => (qO n x).f T) o.op H⟩
  | .call { callee := .builtin .append, args, argTypes } => ⟨fun _ T H => appX C argTypes.toList ((qL n args.toList).f T) H⟩
  | .slice t x lo hi none => ⟨fun _ T H => withH (sliceX C (C.ty t) (lo.map fun l => ⟨fun _ => (qO n l).f T⟩) (hi.map fun l => ⟨fun _ => (qO n l).f T⟩) [] ((qO n x).f T)) H⟩
  | op => ⟨fun ih T H => execR C (slowQ ih) (fun x => (qO n x).f T) op H⟩
theorem qX_sim {C : Ctx} {ih : IhQ} {ihS : Ih} (hs : Sim ih ihS) {n : Nat} {o : Oper} {T : TT} {H : Heap} {r : AV × Heap} (e : (qX C n o).f ih T H = some r) : execE C ihS (toL n T) o H = some r := by
  have hold : ∀ {r0 : Option (AV × Heap)}, (decX C o).f ihS (toL n T) H = r0 → r0 = some r → execE C ihS (toL n T) o H = some r := fun h1 h2 => by rw [← decX_eq, h1, h2]
  unfold qX at e
  split at e
  case h_10 s x f h =>
    rw [← execR_eq]
    simp only [execR, h, kindOf]
    rw [← addP_eq]
    cases hf : faOff C s f with
    | none => rw [hf] at e; cases e
    | some off =>
      rw [hf] at e
      simp only [qO_eq] at e
      simp only
      cases ha : addP off (opd (toL n T) x) with
      | none => rw [ha] at e; cases e
      | some v => rw [ha] at e; exact e
  case h_11 x h =>
    rw [← execR_eq]
    simp only [qO_eq] at e
    simp only [execR, h, kindOf, pureE]
    unfold nilC withH at e
    split at e
    · rename_i v hv
      rw [← e]
      split at hv <;> cases hv <;> simp_all
    · cases e
  case h_12 el h =>
    rw [← execR_eq]
    simp only [execR, h, kindOf, allocE]
    simp only [allocQ] at e
    cases hb : Nat.ble lim H.n with
    | true => rw [hb] at e; cases e
    | false =>
      rw [hb] at e
      have hl : ¬ lim ≤ H.n := fun hh => by rw [Nat.ble_eq_true_of_le hh] at hb; cases hb
      rw [if_neg hl]
      cases ht : C.ty el with
      | none => rw [ht] at e; cases e
      | some i => rw [ht] at e; exact e
  case h_13 el x h =>
    rw [← execR_eq]
    simp only [qO_eq] at e
    simp only [execR, h, kindOf, allocE]
    simp only [boxQ] at e
    cases hb : Nat.ble lim H.n with
    | true => rw [hb] at e; cases e
    | false =>
      rw [hb] at e
      have hl : ¬ lim ≤ H.n := fun hh => by rw [Nat.ble_eq_true_of_le hh] at hb; cases hb
      rw [if_neg hl]
      cases ht : C.ty el with
      | none => rw [ht] at e; cases e
      | some i =>
        rw [ht] at e
        cases hx : opd (toL n T) x with
        | none => rw [hx] at e; cases e
        | some v => rw [hx] at e; exact e
  case h_14 g args ts h =>
    refine hold rfl ?_
    unfold decX
    simp only [h, decL_eq]
    simp only [qL_eq] at e
    cases ha : opds (opd (toL n T)) args.toList with
    | none => rw [ha] at e; cases e
    | some as => rw [ha] at e; exact callQ_sim hs e
  case h_15 args ts h =>
    cases hm : isMap C ts.toList with
    | false =>
      simp only [hm] at e
      refine hold rfl ?_
      unfold decX
      simp only [h, hm, decL_eq]
      simp only [qL_eq] at e
      exact e
    | true =>
      simp only [hm] at e
      have hρ : (fun x => (qO n x).f T) = opd (toL n T) := funext fun x => qO_eq n x T
      simp only [hρ] at e
      rw [execR_eq] at e
      exact execE_mono (slow_le hs) e
  case h_17 t x lo hi h =>
    refine hold rfl ?_
    unfold decX
    simp only [h, decO_eq]
    simp only [qO_eq] at e
    rw [← e]
    cases lo <;> cases hi <;> simp only [Option.map, sliceX, decO_eq]
  case h_18 =>
    have hρ : (fun x => (qO n x).f T) = opd (toL n T) := funext fun x => qO_eq n x T
    simp only [hρ] at e
    rw [execR_eq] at e
    exact execE_mono (slow_le hs) e
  all_goals
    rename_i h
    refine hold rfl ?_
    unfold decX
    simp only [h, decO_eq, decL_eq]
    simp only [qO_eq, qL_eq] at e
    exact e
structure YQ where
  f : TT → Option Bool
def isB (v : AV) : Option Bool :=
  match v with
  | .bool b => some b
  | _ => none
def ayQ (n : Nat) (ops : List Oper) (j : Nat) : YQ :=
  match ops[j]? with
  | some o => match o.dst with
    | some d => if d < n then ⟨fun T => isB (getT d T)⟩ else ⟨fun _ => none⟩
    | none => ⟨fun _ => none⟩
  | none => ⟨fun _ => none⟩
theorem ayQ_eq (n : Nat) (ops : List Oper) (T : TT) (j : Nat) : (ayQ n ops j).f T = ayielded ops (toL n T) j := by
  unfold ayQ ayielded
  cases ops[j]? with
  | none => rfl
  | some o =>
    simp only
    cases o.dst with
    | none => rfl
    | some d =>
      simp only [toL_get]
      by_cases h : d < n
      · rw [if_pos h, if_pos h]; cases hv : getT d T <;> simp [isB, hv]
      · rw [if_neg h, if_neg h]
structure PQ where
  f : TT → AV → TT
noncomputable def putQ (n : Nat) (dst : Option Tmp) : PQ :=
  match dst with
  | some d => if d < n then ⟨fun T v => setT d T v⟩ else ⟨fun T _ => T⟩
  | none => ⟨fun T _ => T⟩
theorem putQ_eq (n : Nat) (hn : n ≤ 256) (dst : Option Tmp) (T : TT) (v : AV) : putT (toL n T) dst v = toL n ((putQ n dst).f T v) := by
  unfold putQ putT
  cases dst with
  | none => rfl
  | some d =>
    simp only
    by_cases h : d < n
    · rw [if_pos h, toL_set n hn T d h]
    · rw [if_neg h, toL_set_out n T d h]
structure SQ where
  f : IhQ → TT → Heap → Option (TT × Heap)
noncomputable def afterQ (n : Nat) (dst : Option Tmp) (T : TT) (r : Option (AV × Heap)) : Option (TT × Heap) :=
  match r with
  | some (v, H') => some ((putQ n dst).f T v, H')
  | none => none
noncomputable def qS (C : Ctx) (n : Nat) (ops : List Oper) (o : Oper) : SQ :=
  match o.guard with
  | none => ⟨fun ih T H => afterQ n o.dst T ((qX C n o).f ih T H)⟩
  | some _ => ⟨fun ih T H => cond (Region.wanted o (fun j => (ayQ n ops j).f T)) (afterQ n o.dst T ((qX C n o).f ih T H)) (some ((putQ n o.dst).f T undefA, H))⟩
theorem qS_sim {C : Ctx} {ih : IhQ} {ihS : Ih} (hs : Sim ih ihS) {n : Nat} (hn : n ≤ 256) {ops : List Oper} {o : Oper} {T T' : TT} {H H' : Heap} (e : (qS C n ops o).f ih T H = some (T', H')) : stepE C ihS ops o (toL n T) H = some (toL n T', H') := by
  have hx : ∀ T' H', afterQ n o.dst T ((qX C n o).f ih T H) = some (T', H') → (match execE C ihS (toL n T) o H with
    | some (v, H') => some (putT (toL n T) o.dst v, H')
    | none => none) = some (toL n T', H') := by
    intro T' H' e
    unfold afterQ at e
    cases hq : (qX C n o).f ih T H with
    | none => rw [hq] at e; cases e
    | some p =>
      rw [hq] at e
      rw [qX_sim hs hq]
      cases e
      simp only [putQ_eq n hn]
  unfold qS at e
  unfold stepE
  split at e
  · rename_i h
    have : Region.wanted o (ayielded ops (toL n T)) = true := by simp [Region.wanted, h]
    rw [if_pos this]
    exact hx _ _ e
  · have hy : (fun j => (ayQ n ops j).f T) = ayielded ops (toL n T) := funext (ayQ_eq n ops T)
    simp only [hy] at e
    cases hw : Region.wanted o (ayielded ops (toL n T)) with
    | true => rw [hw] at e; rw [if_pos rfl]; exact hx _ _ e
    | false =>
      rw [hw] at e
      cases e
      simp [putQ_eq n hn]
noncomputable def qR (C : Ctx) (n : Nat) (ops : List Oper) : List Oper → SQ
  | [] => ⟨fun _ T H => some (T, H)⟩
  | o :: rest => ⟨fun ih T H => match (qS C n ops o).f ih T H with
    | some (T', H') => (qR C n ops rest).f ih T' H'
    | none => none⟩
theorem qR_sim {C : Ctx} {ih : IhQ} {ihS : Ih} (hs : Sim ih ihS) {n : Nat} (hn : n ≤ 256) {ops os : List Oper} : ∀ {T T' : TT} {H H' : Heap}, (qR C n ops os).f ih T H = some (T', H') → runE C ihS ops os (toL n T) H = some (toL n T', H') := by
  induction os with
  | nil => intro T T' H H' e; cases e; rfl
  | cons o rest ihh =>
    intro T T' H H' e
    simp only [qR] at e
    cases hq : (qS C n ops o).f ih T H with
    | none => rw [hq] at e; cases e
    | some p =>
      rw [hq] at e
      simp only [runE, qS_sim hs hn hq]
      exact ihh e
structure TQ where
  f : IhQ → TT → Heap → Option (List (TT × Heap))
noncomputable def qT (C : Ctx) (n : Nat) (ops : List Oper) : List Oper → TQ
  | [] => ⟨fun _ T H => some [(T, H)]⟩
  | o :: rest => ⟨fun ih T H => match (qS C n ops o).f ih T H with
    | some (T', H') => match (qT C n ops rest).f ih T' H' with
      | some tr => some ((T, H) :: tr)
      | none => none
    | none => none⟩
def asL (n : Nat) (p : TT × Heap) : List AV × Heap := (toL n p.1, p.2)
theorem qT_sim {C : Ctx} {ih : IhQ} {ihS : Ih} (hs : Sim ih ihS) {n : Nat} (hn : n ≤ 256) {ops os : List Oper} : ∀ {T : TT} {H : Heap} {tr : List (TT × Heap)}, (qT C n ops os).f ih T H = some tr → traceE C ihS ops os (toL n T) H = some (tr.map (asL n)) := by
  induction os with
  | nil => intro T H tr e; cases e; rfl
  | cons o rest ihh =>
    intro T H tr e
    simp only [qT] at e
    cases hq : (qS C n ops o).f ih T H with
    | none => rw [hq] at e; cases e
    | some p =>
      rw [hq] at e
      simp only at e
      cases hr : (qT C n ops rest).f ih p.1 p.2 with
      | none => rw [hr] at e; cases e
      | some tr' =>
        rw [hr] at e
        cases e
        simp only [traceE, qS_sim hs hn hq, ihh hr]
        rfl
end Go.PI
