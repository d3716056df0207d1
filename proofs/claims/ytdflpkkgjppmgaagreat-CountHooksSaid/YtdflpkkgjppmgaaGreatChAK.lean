/- Own work of the verifier: PiVc PiGrow. -/
import Derived.Test.YtdflpkkgjppmgaaGreatChAJ
set_option linter.all false
set_option exponentiation.threshold 3000
set_option linter.deprecated false
/- WHAT IS TO BE SHOWN OF A PIECE OF CODE, COMPUTED FROM THE CODE. -/
namespace Go.PI
def Cl (C : Ctx) (g : FuncId) (as : List AV) (H : Heap) (Q : AV → Heap → Prop) : Prop := ∃ n v H', call C n g as H = some (v, H') ∧ Q v H'
theorem Cl.mono {C : Ctx} {g : FuncId} {as : List AV} {H : Heap} {Q R : AV → Heap → Prop} (h : Cl C g as H Q) (k : ∀ v H', Q v H' → R v H') : Cl C g as H R := by
  obtain ⟨n, v, H', h1, h2⟩ := h
  exact ⟨n, v, H', h1, k _ _ h2⟩
theorem Cl.of_sum {C : Ctx} {g : FuncId} {as : List AV} {H H' : Heap} {v : AV} {Q : AV → Heap → Prop} (h : sumE C g as H = some (v, H')) (hq : Q v H') : Cl C g as H Q :=
  ⟨0, v, H', by simp [call, callF, h], hq⟩
def In64 (n : Int) : Prop := -9223372036854775808 ≤ n ∧ n < 9223372036854775808
theorem wrap64 {n : Int} (h : In64 n) : IntKind.wrap .i64 n = n := by
  unfold In64 at h
  simp only [IntKind.wrap, IntKind.signed, IntKind.bits]
  simp
  omega
def vInt (op : BinOp) (m n : Int) (K : AV → Prop) : Prop :=
  match op with
  | .add => In64 (m + n) ∧ K (.int .i64 (m + n))
  | .sub => In64 (m - n) ∧ K (.int .i64 (m - n))
  | .mul => In64 (m * n) ∧ K (.int .i64 (m * n))
  | .quo => (n ≠ 0 ∧ In64 (m.tdiv n)) ∧ K (.int .i64 (m.tdiv n))
  | .rem => n ≠ 0 ∧ K (.int .i64 (m.tmod n))
  | .eql => (m = n → K (.bool true)) ∧ (m ≠ n → K (.bool false))
  | .neq => (m ≠ n → K (.bool true)) ∧ (m = n → K (.bool false))
  | .lss => (m < n → K (.bool true)) ∧ (n ≤ m → K (.bool false))
  | .leq => (m ≤ n → K (.bool true)) ∧ (n < m → K (.bool false))
  | .gtr => (n < m → K (.bool true)) ∧ (m ≤ n → K (.bool false))
  | .geq => (n ≤ m → K (.bool true)) ∧ (m < n → K (.bool false))
  | .and => ∃ v, intBin .and .i64 m n = some v ∧ K v
  | _ => False
theorem vInt_ok {op : BinOp} {m n : Int} {K : AV → Prop} (h : vInt op m n K) : ∃ v, intBin op .i64 m n = some v ∧ K v := by
  by_cases ha : op = .and
  · subst ha; exact h
  cases op <;> simp only [vInt] at h <;> simp only [intBin] <;> try (first | exact h.elim | exact absurd rfl ha)
  · exact ⟨_, by rw [wrap64 h.1], h.2⟩
  · exact ⟨_, by rw [wrap64 h.1], h.2⟩
  · exact ⟨_, by rw [wrap64 h.1], h.2⟩
  · exact ⟨_, by rw [if_neg h.1.1, wrap64 h.1.2], h.2⟩
  · exact ⟨_, by rw [if_neg h.1], h.2⟩
  · by_cases e : m = n
    · exact ⟨_, by simp [e], h.1 e⟩
    · exact ⟨_, by simp [e], h.2 e⟩
  · by_cases e : m = n
    · exact ⟨_, by simp [e], h.2 e⟩
    · exact ⟨_, by simp [e], h.1 e⟩
  · by_cases e : m < n
    · exact ⟨_, by simp [e], h.1 e⟩
    · exact ⟨_, by simp [e], h.2 (by omega)⟩
  · by_cases e : m ≤ n
    · exact ⟨_, by simp [e], h.1 e⟩
    · exact ⟨_, by simp [e], h.2 (by omega)⟩
  · by_cases e : n < m
    · exact ⟨_, by simp [e], h.1 e⟩
    · exact ⟨_, by simp [e], h.2 (by omega)⟩
  · by_cases e : n ≤ m
    · exact ⟨_, by simp [e], h.1 e⟩
    · exact ⟨_, by simp [e], h.2 (by omega)⟩
def vBin (C : Ctx) (op : BinOp) (t : TypeId) (x y : Operand) (a b : AV) (K : AV → Prop) : Prop :=
  match a, b with
  | .int .i64 m, .int .i64 n => match isShift op with
    | true => ∃ v, shiftE op .i64 m n = some v ∧ K v
    | false => vInt op m n K
  | .str s, .str u => match op with
    | .eql => ∃ β, (s.toList == u.toList) = β ∧ match β with
      | true => K (.bool true)
      | false => K (.bool false)
    | .neq => ∃ β, (s.toList == u.toList) = β ∧ match β with
      | true => K (.bool false)
      | false => K (.bool true)
    | op => match strBin op s u with
      | some v => K v
      | none => False
  | a, b => match binE C op t x y a b with
    | some v => K v
    | none => False
theorem vBin_ok {C : Ctx} {op : BinOp} {t : TypeId} {x y : Operand} {a b : AV} {K : AV → Prop} (h : vBin C op t x y a b K) : ∃ v, binE C op t x y a b = some v ∧ K v := by
  unfold vBin at h
  split at h
  · split at h
    · rename_i hs
      obtain ⟨v, h1, h2⟩ := h
      exact ⟨v, by simp [binE, hs, h1], h2⟩
    · rename_i hs
      obtain ⟨v, h1, h2⟩ := vInt_ok h
      exact ⟨v, by simp [binE, hs, h1], h2⟩
  · split at h
    · obtain ⟨β, h1, h2⟩ := h
      cases β
      · exact ⟨_, by simp only [binE, strBin, h1], h2⟩
      · exact ⟨_, by simp only [binE, strBin, h1], h2⟩
    · obtain ⟨β, h1, h2⟩ := h
      cases β
      · exact ⟨_, by simp only [binE, strBin, h1]; rfl, h2⟩
      · exact ⟨_, by simp only [binE, strBin, h1]; rfl, h2⟩
    · split at h
      · rename_i v hv; exact ⟨v, hv, h⟩
      · exact h.elim
  · split at h
    · rename_i v hv; exact ⟨v, hv, h⟩
    · exact h.elim
def getK : List AV → Nat → (AV → Prop) → Prop
  | [], _, K => K undefA
  | a :: _, 0, K => K a
  | _ :: as, n + 1, K => getK as n K
theorem getK_ok : ∀ {T : List AV} {n : Nat} {K : AV → Prop}, getK T n K → K (T.getD n undefA)
  | [], _, _, h => h
  | _ :: _, 0, _, h => h
  | _ :: as, n + 1, _, h => by
    have := getK_ok (T := as) (n := n) h
    simpa using this
def setK : List AV → Nat → AV → (List AV → Prop) → Prop
  | [], _, _, K => K []
  | _ :: as, 0, v, K => K (v :: as)
  | a :: as, n + 1, v, K => setK as n v fun as' => K (a :: as')
theorem setK_ok : ∀ {T : List AV} {n : Nat} {v : AV} {K : List AV → Prop}, setK T n v K → K (T.set n v)
  | [], _, _, _, h => h
  | _ :: _, 0, _, _, h => h
  | _ :: as, n + 1, v, _, h => by
    have := setK_ok (T := as) (n := n) (v := v) h
    simpa using this
def putK (T : List AV) (d : Option Tmp) (v : AV) (K : List AV → Prop) : Prop :=
  match d with
  | some d => setK T d v K
  | none => K T
theorem putK_ok {T : List AV} {d : Option Tmp} {v : AV} {K : List AV → Prop} (h : putK T d v K) : K (putT T d v) := by
  cases d with
  | none => exact h
  | some d => exact setK_ok h
def opdK (T : List AV) (x : Operand) (K : AV → Prop) : Prop :=
  match x with
  | .tmp t => getK T t K
  | .const v => match ofConst v with
    | some a => K a
    | none => False
  | .global _ => False
  | .func f => K (.fn f [] [])
theorem opdK_ok {T : List AV} {x : Operand} {K : AV → Prop} (h : opdK T x K) : ∃ v, opd T x = some v ∧ K v := by
  cases x with
  | tmp t => exact ⟨_, rfl, getK_ok h⟩
  | const v =>
    simp only [opdK] at h
    split at h
    · rename_i a ha; exact ⟨a, ha, h⟩
    · exact h.elim
  | global g => exact h.elim
  | func f => exact ⟨_, rfl, h⟩
def opdsK (T : List AV) : List Operand → (List AV → Prop) → Prop
  | [], K => K []
  | x :: xs, K => opdK T x fun a => opdsK T xs fun as => K (a :: as)
theorem opdsK_ok {T : List AV} : ∀ {xs : List Operand} {K : List AV → Prop}, opdsK T xs K → ∃ as, opds (opd T) xs = some as ∧ K as
  | [], _, h => ⟨[], rfl, h⟩
  | x :: xs, K, h => by
    obtain ⟨a, h1, h2⟩ := opdK_ok (show opdK T x fun a => opdsK T xs fun as => K (a :: as) from h)
    obtain ⟨as, h3, h4⟩ := opdsK_ok h2
    exact ⟨a :: as, by simp [opds, h1, h3], h4⟩
def vPure (C : Ctx) (T : List AV) (op : Op) (K : AV → Prop) : Prop :=
  match op with
  | .move x => opdK T x K
  | .assign x => opdK T x K
  | .pick c a b => opdK T c fun c => match c with
    | .bool true => opdK T a K
    | .bool false => opdK T b K
    | _ => False
  | .binOp op t x y _ => opdK T x fun a => opdK T y fun b => vBin C op t x y a b K
  | .unOp .neg t x => opdK T x fun a => match a with
    | .int .i64 n => In64 (0 - n) ∧ K (.int .i64 (0 - n))
    | _ => False
  | .unOp .not t x => opdK T x fun a => match a with
    | .bool true => K (.bool false)
    | .bool false => K (.bool true)
    | _ => False
  | .extract t i => opdK T t fun a => match a with
    | .tup vs => match decide (i < vs.length) with
      | true => getK vs i K
      | false => False
    | _ => False
  | op => ∃ v, pureE C (opd T) op = some v ∧ K v
theorem vPure_ok {C : Ctx} {T : List AV} {op : Op} {K : AV → Prop} (h : vPure C T op K) : ∃ v, pureE C (opd T) op = some v ∧ K v := by
  unfold vPure at h
  split at h
  · exact opdK_ok h
  · exact opdK_ok h
  · obtain ⟨c, h1, h2⟩ := opdK_ok h
    split at h2
    · obtain ⟨v, h3, h4⟩ := opdK_ok h2
      exact ⟨v, by simp [pureE, h1, h3], h4⟩
    · obtain ⟨v, h3, h4⟩ := opdK_ok h2
      exact ⟨v, by simp [pureE, h1, h3], h4⟩
    · exact h2.elim
  · obtain ⟨a, h1, h2⟩ := opdK_ok h
    obtain ⟨b, h3, h4⟩ := opdK_ok h2
    obtain ⟨v, h5, h6⟩ := vBin_ok h4
    exact ⟨v, by simp [pureE, h1, h3, h5], h6⟩
  · obtain ⟨a, h1, h2⟩ := opdK_ok h
    split at h2
    · exact ⟨_, by simp only [pureE, h1, wrap64 h2.1], h2.2⟩
    · exact h2.elim
  · obtain ⟨a, h1, h2⟩ := opdK_ok h
    split at h2
    · exact ⟨_, by simp only [pureE, h1]; rfl, h2⟩
    · exact ⟨_, by simp only [pureE, h1]; rfl, h2⟩
    · exact h2.elim
  · obtain ⟨a, h1, h2⟩ := opdK_ok h
    split at h2
    · rename_i vs
      split at h2
      · rename_i hd
        have hd := of_decide_eq_true hd
        refine ⟨vs.getD _ undefA, ?_, getK_ok h2⟩
        simp [pureE, h1, hd]
      · exact h2.elim
    · exact h2.elim
  · exact h
def vOp (C : Ctx) (T : List AV) (o : Op) (H : Heap) (K : AV → Heap → Prop) : Prop :=
  match kindOf C o with
  | .pure => vPure C T o fun v => K v H
  | .load => match o with
    | .load t a => opdK T a fun p => ∃ v, loadE C t p H = some v ∧ K v H
    | _ => False
  | .alloc => H.n < lim ∧ match o with
    | .makeSlice t l c => opdK T l fun l => opdK T c fun c => match C.ty t, l, c with
      | some { desc := .slice e, .. }, .int .i64 l, .int .i64 c => match C.ty e with
        | some ei => match decide (ei.bytes ≤ 2 ^ 10 ∧ ei.zero.cells.length = ei.size) with
          | true => (0 ≤ l ∧ l ≤ c ∧ c ≤ 2 ^ 30) ∧ K (.sl H.n 0 l.toNat c.toNat) (H.push (.cells true e (List.replicate c.toNat ei.zero.cells).flatten))
          | false => False
        | none => False
      | _, _, _ => False
    | .alloc e => match C.ty e with
      | some i => K (.ptr H.n 0) (H.push (.cells true e i.zero.cells))
      | none => False
    | .box e x => opdK T x fun v => match C.ty e with
      | some _ => K (.ptr H.n 0) (H.push (.cells true e v.cells))
      | none => False
    | o => ∃ b f, allocE C (opd T) o = some (b, f) ∧ K (f H.n) (H.push b)
  | .eff => match o with
    | .store t a v => opdK T a fun a => opdK T v fun v => ∃ H', storeE C t a v H = some H' ∧ K undefA H'
    | .call { callee := .value f, args, argTypes := _ } => opdK T f fun f => match f with
      | .fn g first caps => opdsK T args.toList fun as => Cl C g (first ++ as ++ caps) H K
      | _ => ∃ n v H', effE C (ev C n) (opd T) o H = some (v, H') ∧ K v H'
    | .call { callee := .builtin .append, args, argTypes } => opdsK T args.toList fun as => match as with
      | [s, x] => ∃ v H', appendE C argTypes.toList s x H = some (v, H') ∧ K v H'
      | _ => False
    | .call { callee := .builtin .copy, args, argTypes } => opdsK T args.toList fun as => match as with
      | [s, x] => ∃ v H', copyE C argTypes.toList s x H = some (v, H') ∧ K v H'
      | _ => False
    | o => ∃ n v H', effE C (ev C n) (opd T) o H = some (v, H') ∧ K v H'
  | .look => False
theorem vOp_ok {C : Ctx} {T : List AV} {o : Oper} {H : Heap} {K : AV → Heap → Prop} (h : vOp C T o.op H K) : ∃ n v H', execE C (ev C n) T o H = some (v, H') ∧ K v H' := by
  unfold vOp at h
  unfold execE
  cases hk : kindOf C o.op with
  | look => simp only [hk] at h
  | pure =>
    simp only [hk] at h ⊢
    obtain ⟨v, h1, h2⟩ := vPure_ok h
    exact ⟨0, v, H, by simp [h1], h2⟩
  | load =>
    simp only [hk] at h ⊢
    split at h
    · rename_i t a ho
      obtain ⟨p, hp, h⟩ := opdK_ok h
      obtain ⟨v, h1, h2⟩ := h
      exact ⟨0, v, H, by simp [ho, hp, h1], h2⟩
    · exact h.elim
  | alloc =>
    simp only [hk] at h ⊢
    obtain ⟨hl, h⟩ := h
    have hl' : ¬ lim ≤ H.n := by omega
    simp only [if_neg hl']
    split at h
    · rename_i t l c ho
      obtain ⟨l, hx, h⟩ := opdK_ok h
      obtain ⟨c, hy, h⟩ := opdK_ok h
      split at h
      · rename_i e _ _ _ l c hty _
        split at h
        · rename_i ei he
          split at h
          · rename_i hd
            have hd := of_decide_eq_true hd
            refine ⟨0, _, _, ?_, h.2⟩
            obtain ⟨h1, h2, h3⟩ := h.1
            simp only [ho, allocE, hty, hx, hy, he, h1, h2, h3, hd.1, hd.2, and_self, if_true]
          · exact h.elim
        · exact h.elim
      · exact h.elim
    · rename_i e ho
      split at h
      · rename_i i hi
        exact ⟨0, _, _, by simp only [ho, allocE, hi], h⟩
      · exact h.elim
    · rename_i e x ho
      obtain ⟨v, hv, h⟩ := opdK_ok h
      split at h
      · rename_i i hi
        exact ⟨0, _, _, by simp only [ho, allocE, hi, hv], h⟩
      · exact h.elim
    · obtain ⟨b, f, hb, h⟩ := h
      exact ⟨0, _, _, by simp [hb], h⟩
  | eff =>
    simp only [hk] at h ⊢
    split at h
    · rename_i t a v ho
      obtain ⟨p, hp, h⟩ := opdK_ok h
      obtain ⟨u, hu, h⟩ := opdK_ok h
      obtain ⟨H', h1, h2⟩ := h
      exact ⟨0, _, H', by simp [ho, effE, hp, hu, h1], h2⟩
    · rename_i f args ts ho
      obtain ⟨p, hp, h⟩ := opdK_ok h
      split at h
      · rename_i g first caps
        obtain ⟨as, ha, h⟩ := opdsK_ok h
        obtain ⟨n, v, H', h1, h2⟩ := h
        refine ⟨n, v, H', ?_, h2⟩
        simp only [ho, effE, hp, ha]
        exact h1
      · exact h
    · rename_i args ts ho
      obtain ⟨as, ha, h⟩ := opdsK_ok h
      split at h
      · obtain ⟨v, H', h1, h2⟩ := h
        exact ⟨0, v, H', by simp only [ho, effE, ha]; exact h1, h2⟩
      · exact h.elim
    · rename_i args ts ho
      obtain ⟨as, ha, h⟩ := opdsK_ok h
      split at h
      · obtain ⟨v, H', h1, h2⟩ := h
        exact ⟨0, v, H', by simp only [ho, effE, ha]; exact h1, h2⟩
      · exact h.elim
    · exact h
def vG (C : Ctx) (ops : List Oper) (o : Oper) (T : List AV) (H : Heap) (K : List AV → Heap → Prop) : Prop :=
  match Region.wanted o (ayielded ops T) with
  | true => vOp C T o.op H fun v H' => putK T o.dst v fun T' => K T' H'
  | false => putK T o.dst undefA fun T' => K T' H
theorem vG_ok {C : Ctx} {ops : List Oper} {o : Oper} {T : List AV} {H : Heap} {K : List AV → Heap → Prop} (h : vG C ops o T H K) : ∃ n T' H', stepE C (ev C n) ops o T H = some (T', H') ∧ K T' H' := by
  unfold vG at h
  unfold stepE
  split at h
  · rename_i hw
    obtain ⟨n, v, H', h1, h2⟩ := vOp_ok h
    exact ⟨n, _, H', by simp [hw, h1], putK_ok h2⟩
  · rename_i hw
    exact ⟨0, _, H, by simp [hw], putK_ok (K := fun T' => K T' H) h⟩
def vOps (C : Ctx) (ops : List Oper) : List Oper → List AV → Heap → (List AV → Heap → Prop) → Prop
  | [], T, H, Q => Q T H
  | o :: rest, T, H, Q => vG C ops o T H fun T' H' => vOps C ops rest T' H' Q
theorem vOps_ok {C : Ctx} {ops : List Oper} : ∀ {rest : List Oper} {T : List AV} {H : Heap} {Q : List AV → Heap → Prop}, vOps C ops rest T H Q → ∃ n T' H', runE C (ev C n) ops rest T H = some (T', H') ∧ Q T' H'
  | [], T, H, _, h => ⟨0, T, H, rfl, h⟩
  | o :: rest, T, H, Q, h => by
    obtain ⟨n, T', H', h1, h2⟩ := vG_ok (show vG C ops o T H fun T' H' => vOps C ops rest T' H' Q from h)
    obtain ⟨m, T2, H2, h3, h4⟩ := vOps_ok h2
    refine ⟨max n m, T2, H2, ?_, h4⟩
    unfold runE
    rw [stepE_mono (ev_mono (Nat.le_max_left n m)) h1]
    exact runE_mono (ev_mono (Nat.le_max_right n m)) h3
def vTr (C : Ctx) (ops : List Oper) : List Oper → List AV → Heap → (List (List AV × Heap) → List AV → Heap → Prop) → Prop
  | [], T, H, Q => Q [(T, H)] T H
  | o :: rest, T, H, Q => vG C ops o T H fun T' H' => vTr C ops rest T' H' fun tr T2 H2 => Q ((T, H) :: tr) T2 H2
theorem lastOf_cons (x : List AV × Heap) {tr : List (List AV × Heap)} {y : List AV × Heap} (h : lastOf tr = some y) : lastOf (x :: tr) = some y := by
  cases tr with
  | nil => cases h
  | cons a b => exact h
theorem vTr_ok {C : Ctx} {ops : List Oper} : ∀ {rest : List Oper} {T : List AV} {H : Heap} {Q : List (List AV × Heap) → List AV → Heap → Prop}, vTr C ops rest T H Q → ∃ n tr T' H', traceE C (ev C n) ops rest T H = some tr ∧ lastOf tr = some (T', H') ∧ Q tr T' H'
  | [], T, H, _, h => ⟨0, [(T, H)], T, H, rfl, rfl, h⟩
  | o :: rest, T, H, Q, h => by
    obtain ⟨n, T', H', h1, h2⟩ := vG_ok (show vG C ops o T H fun T' H' => vTr C ops rest T' H' fun tr T2 H2 => Q ((T, H) :: tr) T2 H2 from h)
    obtain ⟨m, tr, T2, H2, h3, h4, h5⟩ := vTr_ok h2
    refine ⟨max n m, (T, H) :: tr, T2, H2, ?_, lastOf_cons _ h4, h5⟩
    unfold traceE
    rw [stepE_mono (ev_mono (Nat.le_max_left n m)) h1]
    simp only [traceE_mono (ev_mono (Nat.le_max_right n m)) h3]
def Runs (C : Ctx) (rd : Option Nat) (c : Code) (s : St) (Q : Ex → St → Prop) : Prop := ∃ n e s', ev C n rd c s = some (e, s') ∧ Q e s'
theorem Runs.mono {C : Ctx} {rd : Option Nat} {c : Code} {s : St} {Q R : Ex → St → Prop} (h : Runs C rd c s Q) (k : ∀ e s', Q e s' → R e s') : Runs C rd c s R := by
  obtain ⟨n, e, s', h1, h2⟩ := h
  exact ⟨n, e, s', h1, k _ _ h2⟩
def seqK (N : (Ex → St → Prop) → St → Prop) (Q : Ex → St → Prop) : Ex → St → Prop
  | .normal, s => N Q s
  | .exit i, s => Q (.exit i) s
  | .goto l, s => Q (.goto l) s
  | .ret, s => Q .ret s
def blockK (id : Nat) (Q : Ex → St → Prop) : Ex → St → Prop
  | .normal, s => Q .normal s
  | .exit i, s => match Nat.beq i id with
    | true => Q .normal s
    | false => Q (.exit i) s
  | .goto l, s => Q (.goto l) s
  | .ret, s => Q .ret s
def loopK (I : Nat → St → Prop) (m : Nat) (Q : Ex → St → Prop) : Ex → St → Prop
  | .normal, s => ∃ m', m' < m ∧ I m' s
  | .exit i, s => Q (.exit i) s
  | .goto l, s => Q (.goto l) s
  | .ret, s => Q .ret s
def vC (C : Ctx) (rd : Option Nat) : Code → St → (Ex → St → Prop) → Prop
  | .skip, s, Q => Q .normal s
  | .label _, s, Q => Q .normal s
  | .seq a b, s, Q => vC C rd a s (seqK (fun Q s' => vC C rd b s' Q) Q)
  | .cond c a b, ⟨T, H, D⟩, Q => opdK T c fun c => match c with
    | .bool true => vC C rd a ⟨T, H, D⟩ Q
    | .bool false => vC C rd b ⟨T, H, D⟩ Q
    | _ => False
  | .block id b, s, Q => vC C rd b s (blockK id Q)
  | .loop b, s, Q => ∃ I : Nat → St → Prop, (∃ m, I m s) ∧ ∀ m s, I m s → vC C rd b s (loopK I m Q)
  | .exit i, s, Q => Q (.exit i) s
  | .goto l, s, Q => Q (.goto l) s
  | .ret, s, Q => Q .ret s
  | .region _ ops draw, ⟨T, H, D⟩, Q => match draw with
    | true => vTr C ops.toList ops.toList T H fun tr T H => drawOk C ops.toList tr = true ∧ Q .normal ⟨T, H, D⟩
    | false => vOps C ops.toList ops.toList T H fun T H => Q .normal ⟨T, H, D⟩
  | .rangeFunc f ps assign body, s, Q => ∃ n e s', rangeF C (ev C n) rd f ps assign body s = some (e, s') ∧ Q e s'
  | .scope _, _, _ => False
  | .refuse _, _, _ => False
theorem vC_ok {C : Ctx} {rd : Option Nat} : ∀ {c : Code} {s : St} {Q : Ex → St → Prop}, vC C rd c s Q → Runs C rd c s Q
  | .skip, s, Q, h => ⟨1, _, _, rfl, h⟩
  | .label _, s, Q, h => ⟨1, _, _, rfl, h⟩
  | .exit _, s, Q, h => ⟨1, _, _, rfl, h⟩
  | .goto _, s, Q, h => ⟨1, _, _, rfl, h⟩
  | .ret, s, Q, h => ⟨1, _, _, rfl, h⟩
  | .scope _, s, Q, h => h.elim
  | .refuse _, s, Q, h => h.elim
  | .seq a b, s, Q, h => by
    obtain ⟨n, e, s', h1, h2⟩ := vC_ok (c := a) h
    by_cases he : e = .normal
    · subst he
      obtain ⟨m, e2, s2, h3, h4⟩ := vC_ok (c := b) h2
      refine ⟨max n m + 1, e2, s2, ?_, h4⟩
      simp only [ev, evF, ev_mono (Nat.le_max_left n m) _ _ _ _ h1]
      exact ev_mono (Nat.le_max_right n m) _ _ _ _ h3
    · refine ⟨n + 1, e, s', ?_, ?_⟩
      · simp only [ev, evF, h1]
        cases e <;> first | rfl | exact absurd rfl he
      · cases e <;> first | exact h2 | exact absurd rfl he
  | .cond c a b, ⟨T, H, D⟩, Q, h => by
    unfold vC at h
    obtain ⟨cv, hc, h⟩ := opdK_ok h
    split at h
    · obtain ⟨n, e, s', h1, h2⟩ := vC_ok (c := a) h
      exact ⟨n + 1, e, s', by simp only [ev, evF, hc]; exact h1, h2⟩
    · obtain ⟨n, e, s', h1, h2⟩ := vC_ok (c := b) h
      exact ⟨n + 1, e, s', by simp only [ev, evF, hc]; exact h1, h2⟩
    · exact h.elim
  | .block id b, s, Q, h => by
    obtain ⟨n, e, s', h1, h2⟩ := vC_ok (c := b) h
    cases e with
    | exit i =>
      by_cases hi : i = id
      · subst hi
        refine ⟨n + 1, .normal, s', by simp only [ev, evF, h1, if_true], ?_⟩
        simpa [blockK] using h2
      · refine ⟨n + 1, .exit i, s', by simp only [ev, evF, h1, if_neg hi], ?_⟩
        have hf : Nat.beq i id = false := by
          rw [Bool.eq_false_iff]; exact fun hh => hi (Nat.eq_of_beq_eq_true hh)
        simpa [blockK, hf] using h2
    | normal => exact ⟨n + 1, .normal, s', by simp only [ev, evF, h1], h2⟩
    | goto l => exact ⟨n + 1, .goto l, s', by simp only [ev, evF, h1], h2⟩
    | ret => exact ⟨n + 1, .ret, s', by simp only [ev, evF, h1], h2⟩
  | .loop b, s, Q, h => by
    obtain ⟨I, ⟨m, hI⟩, hr⟩ := h
    have key : ∀ m s, I m s → ∃ n k e s', loopF (ev C n) rd b k s = some (e, s') ∧ Q e s' := by
      intro m
      induction m using Nat.strongRecOn with
      | ind m ih =>
        intro s hs
        obtain ⟨n, e, s', h1, h2⟩ := vC_ok (c := b) (hr m s hs)
        by_cases he : e = .normal
        · subst he
          obtain ⟨m', hm, hI'⟩ := h2
          obtain ⟨n2, k2, e2, s2, h3, h4⟩ := ih m' hm s' hI'
          refine ⟨max n n2, k2 + 1, e2, s2, ?_, h4⟩
          unfold loopF
          rw [ev_mono (Nat.le_max_left n n2) _ _ _ _ h1]
          exact loopF_mono (ev_mono (Nat.le_max_right n n2)) (Nat.le_refl _) h3
        · refine ⟨n, 1, e, s', ?_, ?_⟩
          · unfold loopF
            rw [h1]
            cases e <;> first | rfl | exact absurd rfl he
          · cases e <;> first | exact h2 | exact absurd rfl he
    obtain ⟨n, k, e, s', h1, h2⟩ := key m s hI
    refine ⟨max n k + 1, e, s', ?_, h2⟩
    simp only [ev, evF]
    exact loopF_mono (ev_mono (Nat.le_max_left n k)) (Nat.le_max_right n k) h1
  | .region id ops draw, ⟨T, H, D⟩, Q, h => by
    unfold vC at h
    split at h
    · obtain ⟨n, tr, T', H', h1, h2, h3, h4⟩ := vTr_ok h
      exact ⟨n + 1, .normal, _, by simp only [ev, evF, h1, h3, h2, if_true], h4⟩
    · obtain ⟨n, T', H', h1, h2⟩ := vOps_ok h
      exact ⟨n + 1, .normal, _, by simp [ev, evF, h1], h2⟩
  | .rangeFunc f ps assign body, s, Q, h => by
    obtain ⟨n, e, s', h1, h2⟩ := h
    exact ⟨n + 1, e, s', by simp only [ev, evF]; exact h1, h2⟩
def resK (C : Ctx) (T : List AV) (H : Heap) : List ResultVar → (List AV → Prop) → Prop
  | [], K => K []
  | .tmp t :: r, K => getK T t fun v => resK C T H r fun vs => K (v :: vs)
  | .cell a t :: r, K => getK T a fun p => ∃ v, loadE C t p H = some v ∧ resK C T H r fun vs => K (v :: vs)
theorem resK_ok {C : Ctx} {T : List AV} {H : Heap} : ∀ {rs : List ResultVar} {K : List AV → Prop}, resK C T H rs K → ∃ vs, resultsE C T H rs = some vs ∧ K vs
  | [], _, h => ⟨[], rfl, h⟩
  | .tmp t :: r, K, h => by
    have h1 := getK_ok (T := T) (n := t) (K := fun v => resK C T H r fun vs => K (v :: vs)) h
    obtain ⟨vs, h2, h3⟩ := resK_ok h1
    exact ⟨_, by simp only [resultsE, h2], h3⟩
  | .cell a t :: r, K, h => by
    have h1 := getK_ok (T := T) (n := a) (K := fun p => ∃ v, loadE C t p H = some v ∧ resK C T H r fun vs => K (v :: vs)) h
    obtain ⟨v, h0, h1⟩ := h1
    obtain ⟨vs, h2, h3⟩ := resK_ok h1
    exact ⟨_, by simp only [resultsE, h0, h2], h3⟩
def shutK (H : Heap) (D : List Nat) (K : Heap → Prop) : Prop :=
  match D with
  | [] => K H
  | D => ∃ H', shutMarks D H = some H' ∧ K H'
def vEnd (C : Ctx) (rs : List ResultVar) (Q : AV → Heap → Prop) (e : Ex) (s : St) : Prop :=
  match s, e with
  | _, .exit _ => False
  | _, .goto _ => False
  | ⟨T, H, D⟩, _ => shutK H D fun H' => resK C T H' rs fun vs => match vs with
    | [v] => Q v H'
    | vs => Q (.tup vs) H'
theorem cl_of {C : Ctx} {f : FuncId} {fi : FI} {as : List AV} {H : Heap} {Q : AV → Heap → Prop} (hs : C.sum f = none) (hf : C.fn f = some fi)
    (h : vC C none fi.body ⟨as ++ List.replicate (fi.ntmps - as.length) undefA, H, []⟩ (vEnd C fi.results Q)) : Cl C f as H Q := by
  obtain ⟨n, e, s', h1, h2⟩ := vC_ok h
  have hb : sumE C f as H = none := by simp [sumE, hs]
  obtain ⟨T', H2, D'⟩ := s'
  have key : (e = .normal ∨ e = .ret) ∧ ∃ v H', (match shutMarks D' H2 with
      | some H' => match resultsE C T' H' fi.results with
        | some [v] => some (v, H')
        | some vs => some (.tup vs, H')
        | none => none
      | none => none) = some (v, H') ∧ Q v H' := by
    have h3 : (e = .normal ∨ e = .ret) ∧ shutK H2 D' fun H' => resK C T' H' fi.results fun vs => match vs with
      | [v] => Q v H'
      | vs => Q (.tup vs) H' := by
      cases e with
      | normal => exact ⟨.inl rfl, h2⟩
      | ret => exact ⟨.inr rfl, h2⟩
      | exit i => exact h2.elim
      | goto i => exact h2.elim
    refine ⟨h3.1, ?_⟩
    obtain ⟨H', h4, h5⟩ : ∃ H', shutMarks D' H2 = some H' ∧ resK C T' H' fi.results fun vs => match vs with
      | [v] => Q v H'
      | vs => Q (.tup vs) H' := by
      have h6 := h3.2
      unfold shutK at h6
      split at h6
      · exact ⟨H2, rfl, h6⟩
      · exact h6
    obtain ⟨vs, h6, h7⟩ := resK_ok h5
    rw [h4]
    simp only [h6]
    split at h7
    · exact ⟨_, _, rfl, h7⟩
    · rename_i hne
      refine ⟨.tup vs, H', ?_, h7⟩
      cases vs with
      | nil => rfl
      | cons a as => cases as with
        | nil => exact absurd rfl (hne a)
        | cons _ _ => rfl
  obtain ⟨he, v, H', hv, hq⟩ := key
  refine ⟨n, v, H', ?_, hq⟩
  unfold call callF callB
  rw [hb]
  simp only [hf, h1]
  rcases he with rfl | rfl <;> exact hv
end Go.PI
/- A REGION WHOSE ORDER IS OPEN, in which memory only grows but for the last operation. -/
namespace Go.PI
def ldsP (C : Ctx) (ops : List Oper) (H0 : Heap) : List Oper → List (List AV × Heap) → Prop
  | o :: os, (T, _) :: tr => (match o.op with
    | .load t x => (match Region.wanted o (ayielded ops T) with
      | true => ∃ b off v, opd T x = some (.ptr b off) ∧ b < H0.n ∧ loadE C t (.ptr b off) H0 = some v ∧ v.same v = true
      | false => True)
    | _ => True) ∧ ldsP C ops H0 os tr
  | _, _ => True
def mnP : List (List AV × Heap) → Prop
  | [] => True
  | [_] => True
  | x :: y :: r => x.2.n ≤ y.2.n ∧ mnP (y :: r)
def isLoad (o : Oper) : Bool :=
  match o.op with
  | .load _ _ => true
  | _ => false
def noAlloc (C : Ctx) : List Oper → Bool
  | [] => true
  | o :: os => (match kindOf C o.op with | .alloc => false | _ => true) && noAlloc C os
theorem load_get {C : Ctx} {t : TypeId} {b o : Nat} {H H' : Heap} (h : H'.get b = H.get b) : loadE C t (.ptr b o) H' = loadE C t (.ptr b o) H := by
  cases ht : C.ty t with
  | none => simp only [loadE, ht]
  | some i => simp only [loadE, ht, h]
theorem mono_of : ∀ {tr : List (List AV × Heap)}, mnP tr → monoOk tr = true
  | [], _ => rfl
  | [_], _ => rfl
  | (_, H) :: (T, H') :: r, h => by
    have := mono_of (tr := (T, H') :: r) h.2
    simp only [monoOk, this, Bool.and_true, decide_eq_true_eq]
    exact h.1
theorem allocs_of {C : Ctx} {ops : List Oper} {pre : List Nat} {all : List (List AV × Heap)} : ∀ (os : List Oper) (tr : List (List AV × Heap)) (i : Nat), noAlloc C os = true → allocsOk C ops pre all os tr i = true
  | [], tr, _, _ => by cases tr <;> rfl
  | o :: os, [], _, _ => rfl
  | o :: os, (T, H) :: tr, i, h => by
    simp only [noAlloc, Bool.and_eq_true] at h
    simp only [allocsOk]
    rw [allocs_of os tr (i + 1) h.2, Bool.and_true]
    have h1 := h.1
    cases hk : kindOf C o.op <;> simp only [hk] at h1 ⊢
    cases h1
end Go.PI
