/- Own work of the verifier: PiMono2 PiVc PiTabG PiGrow PiClosed. -/
import Derived.Test.YtfebkjgioddgaaaHpAH
import Derived.Test.YtfebkjgioddgaaaHpAK
set_option linter.all false
set_option exponentiation.threshold 3000
set_option linter.deprecated false
/- MORE FUEL, THE SAME RUN. -/
namespace Go.PI
variable {C : Ctx} {a b : Ih}
theorem stepE_mono (h : Ih.Le a b) {ops : List Oper} {o : Oper} {T : List AV} {H : Heap} {r : List AV × Heap} (e : stepE C a ops o T H = some r) : stepE C b ops o T H = some r := by
  unfold stepE at e ⊢
  split at e
  · rename_i hw
    rw [if_pos hw]
    cases hx : execE C a T o H with
    | none => rw [hx] at e; cases e
    | some x => rw [hx] at e; rw [execE_mono h hx]; exact e
  · rename_i hw
    rw [if_neg hw]; exact e
theorem runE_mono (h : Ih.Le a b) {ops : List Oper} : ∀ {rest : List Oper} {T : List AV} {H : Heap} {r : List AV × Heap}, runE C a ops rest T H = some r → runE C b ops rest T H = some r
  | [], _, _, _, e => e
  | o :: rest, T, H, r, e => by
    unfold runE at e ⊢
    cases hx : stepE C a ops o T H with
    | none => rw [hx] at e; cases e
    | some x => rw [hx] at e; rw [stepE_mono h hx]; exact runE_mono h e
theorem traceE_mono (h : Ih.Le a b) {ops : List Oper} : ∀ {rest : List Oper} {T : List AV} {H : Heap} {r : List (List AV × Heap)}, traceE C a ops rest T H = some r → traceE C b ops rest T H = some r
  | [], _, _, _, e => e
  | o :: rest, T, H, r, e => by
    unfold traceE at e ⊢
    cases hx : stepE C a ops o T H with
    | none => rw [hx] at e; cases e
    | some x =>
      rw [hx] at e; rw [stepE_mono h hx]
      try simp only at e ⊢
      cases hy : traceE C a ops rest x.1 x.2 with
      | none => rw [hy] at e; cases e
      | some y => rw [hy] at e; rw [traceE_mono h hy]; exact e
theorem rangeF_mono2 (h : Ih.Le a b) {rd : Option Nat} {f : Operand} {ps : Array Tmp} {assign body : Code} {s : St} {r : Ex × St} (e : rangeF C a rd f ps assign body s = some r) : rangeF C b rd f ps assign body s = some r := by
  unfold rangeF at e ⊢
  split at e
  · cases e
  · rename_i hl
    rw [if_neg hl]
    split at e
    · rename_i g first caps hf
      try rw [hf]
      try simp only at e ⊢
      split at e
      · cases e
      · rename_i hg
        rw [if_neg hg]
        split at e
        · rename_i D H1 Ds hs
          try rw [hs]
          try simp only at e ⊢
          split at e
          · rename_i v H3 hc
            rw [callF_mono h hc]
            try simp only at e ⊢
            split at e
            · rename_i lp hlp
              try rw [hlp]
              try simp only at e ⊢
              split at e
              · cases e
              · rename_i hst
                rw [if_neg hst]
                split at e
                · rename_i hp; (try rw [hp]); exact e
                · rename_i c hp; (try rw [hp]); exact h _ _ _ _ e
            · cases e
          · cases e
        · cases e
    · cases e
theorem loopF_mono (h : Ih.Le a b) {rd : Option Nat} {c : Code} : ∀ {k k' : Nat} {s : St} {r : Ex × St}, k ≤ k' → loopF a rd c k s = some r → loopF b rd c k' s = some r
  | 0, _, _, _, _, e => by cases e
  | k + 1, k', s, r, hk, e => by
    obtain ⟨k', rfl⟩ : ∃ j, k' = j + 1 := ⟨k' - 1, by omega⟩
    unfold loopF at e ⊢
    split at e
    · rename_i s' hs
      rw [h _ _ _ _ hs]
      exact loopF_mono h (by omega) e
    · rename_i hne
      rw [h _ _ _ _ e]
      cases hr : r with
      | mk x s' => cases x <;> first | rfl | (exact absurd (e.trans (by rw [hr])) (hne s'))
theorem evF_mono (h : Ih.Le a b) {k k' : Nat} (hk : k ≤ k') {rd : Option Nat} {c : Code} {s : St} {r : Ex × St} (e : evF C a k rd c s = some r) : evF C b k' rd c s = some r := by
  cases c <;> simp only [evF] at e ⊢ <;> try exact e
  case seq x y =>
    split at e
    · rename_i s' hs; rw [h _ _ _ _ hs]; exact h _ _ _ _ e
    · rename_i hne
      rw [h _ _ _ _ e]
      cases hr : r with
      | mk x s' => cases x <;> first | rfl | (exact absurd (e.trans (by rw [hr])) (hne s'))
  case cond x y z =>
    split at e
    · rename_i hc; (try rw [hc]); exact h _ _ _ _ e
    · rename_i hc; (try rw [hc]); exact h _ _ _ _ e
    · cases e
  case block id x =>
    split at e
    · rename_i i s' hs; rw [h _ _ _ _ hs]; exact e
    · rename_i hne
      rw [h _ _ _ _ e]
      cases hr : r with
      | mk x s' => cases x <;> first | rfl | (exact absurd (e.trans (by rw [hr])) (hne _ s'))
  case loop x => exact loopF_mono h hk e
  case region id ops draw =>
    split at e
    · rename_i hd
      rw [if_pos hd]
      split at e
      · rename_i tr ht; rw [traceE_mono h ht]; exact e
      · cases e
    · rename_i hd
      rw [if_neg hd]
      split at e
      · rename_i T' H' ht; rw [runE_mono h ht]; exact e
      · cases e
  case rangeFunc f ps as bd => exact rangeF_mono2 h e
theorem ev_succ (n : Nat) : Ih.Le (ev C n) (ev C (n + 1)) := by
  induction n with
  | zero => intro rd c s r e; cases e
  | succ n ih => intro rd c s r e; exact evF_mono ih (Nat.le_succ n) e
theorem ev_mono {m n : Nat} (h : m ≤ n) : Ih.Le (ev C m) (ev C n) := by
  induction h with
  | refl => exact fun _ _ _ _ e => e
  | step _ ih => exact fun rd c s r e => ev_succ _ rd c s r (ih rd c s r e)
theorem call_mono {m n : Nat} (h : m ≤ n) {f : FuncId} {as : List AV} {H : Heap} {r : AV × Heap} (e : call C m f as H = some r) : call C n f as H = some r := callF_mono (ev_mono h) e
end Go.PI
/- WHAT IS TO BE SHOWN OF A PIECE OF CODE, COMPUTED FROM THE CODE. -/
namespace Go.PI
def Cl (C : Ctx) (g : FuncId) (as : List AV) (H : Heap) (Q : AV → Heap → Prop) : Prop := ∃ n v H', call C n g as H = some (v, H') ∧ Q v H'
theorem Cl.mono {C : Ctx} {g : FuncId} {as : List AV} {H : Heap} {Q R : AV → Heap → Prop} (h : Cl C g as H Q) (k : ∀ v H', Q v H' → R v H') : Cl C g as H R := by
  obtain ⟨n, v, H', h1, h2⟩ := h
  exact ⟨n, v, H', h1, k _ _ h2⟩
theorem Cl.of_sum {C : Ctx} {g : FuncId} {as : List AV} {H H' : Heap} {v : AV} {Q : AV → Heap → Prop} (h : sumE C g as H = some (v, H')) (hq : Q v H') : Cl C g as H Q :=
  ⟨0, v, H', by simp [call, callF, h], hq⟩
def In64 (n : Int) : Prop := -9223372036854775808 ≤ n ∧ n < 9223372036854775808
theorem wrap64 {n : Int} (h : In64 n) : IntKind.wrap .i64 n = n := by
  unfold In64 at h
  simp only [IntKind.wrap, IntKind.signed, IntKind.bits]
  simp
  omega
def vInt (op : BinOp) (m n : Int) (K : AV → Prop) : Prop :=
  match op with
  | .add => In64 (m + n) ∧ K (.int .i64 (m + n))
  | .sub => In64 (m - n) ∧ K (.int .i64 (m - n))
  | .mul => In64 (m * n) ∧ K (.int .i64 (m * n))
  | .quo => (n ≠ 0 ∧ In64 (m.tdiv n)) ∧ K (.int .i64 (m.tdiv n))
  | .rem => n ≠ 0 ∧ K (.int .i64 (m.tmod n))
  | .eql => (m = n → K (.bool true)) ∧ (m ≠ n → K (.bool false))
  | .neq => (m ≠ n → K (.bool true)) ∧ (m = n → K (.bool false))
  | .lss => (m < n → K (.bool true)) ∧ (n ≤ m → K (.bool false))
  | .leq => (m ≤ n → K (.bool true)) ∧ (n < m → K (.bool false))
  | .gtr => (n < m → K (.bool true)) ∧ (m ≤ n → K (.bool false))
  | .geq => (n ≤ m → K (.bool true)) ∧ (m < n → K (.bool false))
  | _ => False
theorem vInt_ok {op : BinOp} {m n : Int} {K : AV → Prop} (h : vInt op m n K) : ∃ v, intBin op .i64 m n = some v ∧ K v := by
  cases op <;> simp only [vInt] at h <;> simp only [intBin] <;> try (exact h.elim)
  · exact ⟨_, by rw [wrap64 h.1], h.2⟩
  · exact ⟨_, by rw [wrap64 h.1], h.2⟩
  · exact ⟨_, by rw [wrap64 h.1], h.2⟩
  · exact ⟨_, by rw [if_neg h.1.1, wrap64 h.1.2], h.2⟩
  · exact ⟨_, by rw [if_neg h.1], h.2⟩
  · by_cases e : m = n
    · exact ⟨_, by simp [e], h.1 e⟩
    · exact ⟨_, by simp [e], h.2 e⟩
  · by_cases e : m = n
    · exact ⟨_, by simp [e], h.2 e⟩
    · exact ⟨_, by simp [e], h.1 e⟩
  · by_cases e : m < n
    · exact ⟨_, by simp [e], h.1 e⟩
    · exact ⟨_, by simp [e], h.2 (by omega)⟩
  · by_cases e : m ≤ n
    · exact ⟨_, by simp [e], h.1 e⟩
    · exact ⟨_, by simp [e], h.2 (by omega)⟩
  · by_cases e : n < m
    · exact ⟨_, by simp [e], h.1 e⟩
    · exact ⟨_, by simp [e], h.2 (by omega)⟩
  · by_cases e : n ≤ m
    · exact ⟨_, by simp [e], h.1 e⟩
    · exact ⟨_, by simp [e], h.2 (by omega)⟩
def vBin (C : Ctx) (op : BinOp) (t : TypeId) (x y : Operand) (a b : AV) (K : AV → Prop) : Prop :=
  match a, b with
  | .int .i64 m, .int .i64 n => match isShift op with
    | true => ∃ v, shiftE op .i64 m n = some v ∧ K v
    | false => vInt op m n K
  | .str s, .str u => match op with
    | .eql => ∃ β, (s.toList == u.toList) = β ∧ match β with
      | true => K (.bool true)
      | false => K (.bool false)
    | .neq => ∃ β, (s.toList == u.toList) = β ∧ match β with
      | true => K (.bool false)
      | false => K (.bool true)
    | op => match strBin op s u with
      | some v => K v
      | none => False
  | a, b => match binE C op t x y a b with
    | some v => K v
    | none => False
theorem vBin_ok {C : Ctx} {op : BinOp} {t : TypeId} {x y : Operand} {a b : AV} {K : AV → Prop} (h : vBin C op t x y a b K) : ∃ v, binE C op t x y a b = some v ∧ K v := by
  unfold vBin at h
  split at h
  · split at h
    · rename_i hs
      obtain ⟨v, h1, h2⟩ := h
      exact ⟨v, by simp [binE, hs, h1], h2⟩
    · rename_i hs
      obtain ⟨v, h1, h2⟩ := vInt_ok h
      exact ⟨v, by simp [binE, hs, h1], h2⟩
  · split at h
    · obtain ⟨β, h1, h2⟩ := h
      cases β
      · exact ⟨_, by simp only [binE, strBin, h1], h2⟩
      · exact ⟨_, by simp only [binE, strBin, h1], h2⟩
    · obtain ⟨β, h1, h2⟩ := h
      cases β
      · exact ⟨_, by simp only [binE, strBin, h1]; rfl, h2⟩
      · exact ⟨_, by simp only [binE, strBin, h1]; rfl, h2⟩
    · split at h
      · rename_i v hv; exact ⟨v, hv, h⟩
      · exact h.elim
  · split at h
    · rename_i v hv; exact ⟨v, hv, h⟩
    · exact h.elim
/-! ### Temporaries, one after the other: what stands in them is handed on as it stands -/
def getK : List AV → Nat → (AV → Prop) → Prop
  | [], _, K => K undefA
  | a :: _, 0, K => K a
  | _ :: as, n + 1, K => getK as n K
theorem getK_ok : ∀ {T : List AV} {n : Nat} {K : AV → Prop}, getK T n K → K (T.getD n undefA)
  | [], _, _, h => h
  | _ :: _, 0, _, h => h
  | _ :: as, n + 1, _, h => by
    have := getK_ok (T := as) (n := n) h
    simpa using this
def setK : List AV → Nat → AV → (List AV → Prop) → Prop
  | [], _, _, K => K []
  | _ :: as, 0, v, K => K (v :: as)
  | a :: as, n + 1, v, K => setK as n v fun as' => K (a :: as')
theorem setK_ok : ∀ {T : List AV} {n : Nat} {v : AV} {K : List AV → Prop}, setK T n v K → K (T.set n v)
  | [], _, _, _, h => h
  | _ :: _, 0, _, _, h => h
  | _ :: as, n + 1, v, _, h => by
    have := setK_ok (T := as) (n := n) (v := v) h
    simpa using this
def putK (T : List AV) (d : Option Tmp) (v : AV) (K : List AV → Prop) : Prop :=
  match d with
  | some d => setK T d v K
  | none => K T
theorem putK_ok {T : List AV} {d : Option Tmp} {v : AV} {K : List AV → Prop} (h : putK T d v K) : K (putT T d v) := by
  cases d with
  | none => exact h
  | some d => exact setK_ok h
def opdK (T : List AV) (x : Operand) (K : AV → Prop) : Prop :=
  match x with
  | .tmp t => getK T t K
  | .const v => match ofConst v with
    | some a => K a
    | none => False
  | .global _ => False
  | .func f => K (.fn f [] [])
theorem opdK_ok {T : List AV} {x : Operand} {K : AV → Prop} (h : opdK T x K) : ∃ v, opd T x = some v ∧ K v := by
  cases x with
  | tmp t => exact ⟨_, rfl, getK_ok h⟩
  | const v =>
    simp only [opdK] at h
    split at h
    · rename_i a ha; exact ⟨a, ha, h⟩
    · exact h.elim
  | global g => exact h.elim
  | func f => exact ⟨_, rfl, h⟩
def opdsK (T : List AV) : List Operand → (List AV → Prop) → Prop
  | [], K => K []
  | x :: xs, K => opdK T x fun a => opdsK T xs fun as => K (a :: as)
theorem opdsK_ok {T : List AV} : ∀ {xs : List Operand} {K : List AV → Prop}, opdsK T xs K → ∃ as, opds (opd T) xs = some as ∧ K as
  | [], _, h => ⟨[], rfl, h⟩
  | x :: xs, K, h => by
    obtain ⟨a, h1, h2⟩ := opdK_ok (show opdK T x fun a => opdsK T xs fun as => K (a :: as) from h)
    obtain ⟨as, h3, h4⟩ := opdsK_ok h2
    exact ⟨a :: as, by simp [opds, h1, h3], h4⟩
def vPure (C : Ctx) (T : List AV) (op : Op) (K : AV → Prop) : Prop :=
  match op with
  | .move x => opdK T x K
  | .assign x => opdK T x K
  | .pick c a b => opdK T c fun c => match c with
    | .bool true => opdK T a K
    | .bool false => opdK T b K
    | _ => False
  | .binOp op t x y _ => opdK T x fun a => opdK T y fun b => vBin C op t x y a b K
  | .unOp .neg t x => opdK T x fun a => match a with
    | .int .i64 n => In64 (0 - n) ∧ K (.int .i64 (0 - n))
    | _ => False
  | .unOp .not t x => opdK T x fun a => match a with
    | .bool true => K (.bool false)
    | .bool false => K (.bool true)
    | _ => False
  | .extract t i => opdK T t fun a => match a with
    | .tup vs => match decide (i < vs.length) with
      | true => getK vs i K
      | false => False
    | _ => False
  | op => ∃ v, pureE C (opd T) op = some v ∧ K v
theorem vPure_ok {C : Ctx} {T : List AV} {op : Op} {K : AV → Prop} (h : vPure C T op K) : ∃ v, pureE C (opd T) op = some v ∧ K v := by
  unfold vPure at h
  split at h
  · exact opdK_ok h
  · exact opdK_ok h
  · obtain ⟨c, h1, h2⟩ := opdK_ok h
    split at h2
    · obtain ⟨v, h3, h4⟩ := opdK_ok h2
      exact ⟨v, by simp [pureE, h1, h3], h4⟩
    · obtain ⟨v, h3, h4⟩ := opdK_ok h2
      exact ⟨v, by simp [pureE, h1, h3], h4⟩
    · exact h2.elim
  · obtain ⟨a, h1, h2⟩ := opdK_ok h
    obtain ⟨b, h3, h4⟩ := opdK_ok h2
    obtain ⟨v, h5, h6⟩ := vBin_ok h4
    exact ⟨v, by simp [pureE, h1, h3, h5], h6⟩
  · obtain ⟨a, h1, h2⟩ := opdK_ok h
    split at h2
    · exact ⟨_, by simp only [pureE, h1, wrap64 h2.1], h2.2⟩
    · exact h2.elim
  · obtain ⟨a, h1, h2⟩ := opdK_ok h
    split at h2
    · exact ⟨_, by simp only [pureE, h1]; rfl, h2⟩
    · exact ⟨_, by simp only [pureE, h1]; rfl, h2⟩
    · exact h2.elim
  · obtain ⟨a, h1, h2⟩ := opdK_ok h
    split at h2
    · rename_i vs
      split at h2
      · rename_i hd
        have hd := of_decide_eq_true hd
        refine ⟨vs.getD _ undefA, ?_, getK_ok h2⟩
        simp [pureE, h1, hd]
      · exact h2.elim
    · exact h2.elim
  · exact h
def vOp (C : Ctx) (T : List AV) (o : Op) (H : Heap) (K : AV → Heap → Prop) : Prop :=
  match kindOf C o with
  | .pure => vPure C T o fun v => K v H
  | .load => match o with
    | .load t a => opdK T a fun p => ∃ v, loadE C t p H = some v ∧ K v H
    | _ => False
  | .alloc => H.n < lim ∧ match o with
    | .makeSlice t l c => opdK T l fun l => opdK T c fun c => match C.ty t, l, c with
      | some { desc := .slice e, .. }, .int .i64 l, .int .i64 c => match C.ty e with
        | some ei => match decide (ei.bytes ≤ 2 ^ 10 ∧ ei.zero.cells.length = ei.size) with
          | true => (0 ≤ l ∧ l ≤ c ∧ c ≤ 2 ^ 30) ∧ K (.sl H.n 0 l.toNat c.toNat) (H.push (.cells true e (List.replicate c.toNat ei.zero.cells).flatten))
          | false => False
        | none => False
      | _, _, _ => False
    | .alloc e => match C.ty e with
      | some i => K (.ptr H.n 0) (H.push (.cells true e i.zero.cells))
      | none => False
    | .box e x => opdK T x fun v => match C.ty e with
      | some _ => K (.ptr H.n 0) (H.push (.cells true e v.cells))
      | none => False
    | o => ∃ b f, allocE C (opd T) o = some (b, f) ∧ K (f H.n) (H.push b)
  | .eff => match o with
    | .store t a v => opdK T a fun a => opdK T v fun v => ∃ H', storeE C t a v H = some H' ∧ K undefA H'
    | .call { callee := .value f, args, argTypes := _ } => opdK T f fun f => match f with
      | .fn g first caps => opdsK T args.toList fun as => Cl C g (first ++ as ++ caps) H K
      | _ => ∃ n v H', effE C (ev C n) (opd T) o H = some (v, H') ∧ K v H'
    | .call { callee := .builtin .append, args, argTypes } => opdsK T args.toList fun as => match as with
      | [s, x] => ∃ v H', appendE C argTypes.toList s x H = some (v, H') ∧ K v H'
      | _ => False
    | .call { callee := .builtin .copy, args, argTypes } => opdsK T args.toList fun as => match as with
      | [s, x] => ∃ v H', copyE C argTypes.toList s x H = some (v, H') ∧ K v H'
      | _ => False
    | o => ∃ n v H', effE C (ev C n) (opd T) o H = some (v, H') ∧ K v H'
  | .look => False
theorem vOp_ok {C : Ctx} {T : List AV} {o : Oper} {H : Heap} {K : AV → Heap → Prop} (h : vOp C T o.op H K) : ∃ n v H', execE C (ev C n) T o H = some (v, H') ∧ K v H' := by
  unfold vOp at h
  unfold execE
  cases hk : kindOf C o.op with
  | look => simp only [hk] at h
  | pure =>
    simp only [hk] at h ⊢
    obtain ⟨v, h1, h2⟩ := vPure_ok h
    exact ⟨0, v, H, by simp [h1], h2⟩
  | load =>
    simp only [hk] at h ⊢
    split at h
    · rename_i t a ho
      obtain ⟨p, hp, h⟩ := opdK_ok h
      obtain ⟨v, h1, h2⟩ := h
      exact ⟨0, v, H, by simp [ho, hp, h1], h2⟩
    · exact h.elim
  | alloc =>
    simp only [hk] at h ⊢
    obtain ⟨hl, h⟩ := h
    have hl' : ¬ lim ≤ H.n := by omega
    simp only [if_neg hl']
    split at h
    · rename_i t l c ho
      obtain ⟨l, hx, h⟩ := opdK_ok h
      obtain ⟨c, hy, h⟩ := opdK_ok h
      split at h
      · rename_i e _ _ _ l c hty _
        split at h
        · rename_i ei he
          split at h
          · rename_i hd
            have hd := of_decide_eq_true hd
            refine ⟨0, _, _, ?_, h.2⟩
            obtain ⟨h1, h2, h3⟩ := h.1
            simp only [ho, allocE, hty, hx, hy, he, h1, h2, h3, hd.1, hd.2, and_self, if_true]
          · exact h.elim
        · exact h.elim
      · exact h.elim
    · rename_i e ho
      split at h
      · rename_i i hi
        exact ⟨0, _, _, by simp only [ho, allocE, hi], h⟩
      · exact h.elim
    · rename_i e x ho
      obtain ⟨v, hv, h⟩ := opdK_ok h
      split at h
      · rename_i i hi
        exact ⟨0, _, _, by simp only [ho, allocE, hi, hv], h⟩
      · exact h.elim
    · obtain ⟨b, f, hb, h⟩ := h
      exact ⟨0, _, _, by simp [hb], h⟩
  | eff =>
    simp only [hk] at h ⊢
    split at h
    · rename_i t a v ho
      obtain ⟨p, hp, h⟩ := opdK_ok h
      obtain ⟨u, hu, h⟩ := opdK_ok h
      obtain ⟨H', h1, h2⟩ := h
      exact ⟨0, _, H', by simp [ho, effE, hp, hu, h1], h2⟩
    · rename_i f args ts ho
      obtain ⟨p, hp, h⟩ := opdK_ok h
      split at h
      · rename_i g first caps
        obtain ⟨as, ha, h⟩ := opdsK_ok h
        obtain ⟨n, v, H', h1, h2⟩ := h
        refine ⟨n, v, H', ?_, h2⟩
        simp only [ho, effE, hp, ha]
        exact h1
      · exact h
    · rename_i args ts ho
      obtain ⟨as, ha, h⟩ := opdsK_ok h
      split at h
      · obtain ⟨v, H', h1, h2⟩ := h
        exact ⟨0, v, H', by simp only [ho, effE, ha]; exact h1, h2⟩
      · exact h.elim
    · rename_i args ts ho
      obtain ⟨as, ha, h⟩ := opdsK_ok h
      split at h
      · obtain ⟨v, H', h1, h2⟩ := h
        exact ⟨0, v, H', by simp only [ho, effE, ha]; exact h1, h2⟩
      · exact h.elim
    · exact h
/-- one operation with its guard -/
def vG (C : Ctx) (ops : List Oper) (o : Oper) (T : List AV) (H : Heap) (K : List AV → Heap → Prop) : Prop :=
  match Region.wanted o (ayielded ops T) with
  | true => vOp C T o.op H fun v H' => putK T o.dst v fun T' => K T' H'
  | false => putK T o.dst undefA fun T' => K T' H
theorem vG_ok {C : Ctx} {ops : List Oper} {o : Oper} {T : List AV} {H : Heap} {K : List AV → Heap → Prop} (h : vG C ops o T H K) : ∃ n T' H', stepE C (ev C n) ops o T H = some (T', H') ∧ K T' H' := by
  unfold vG at h
  unfold stepE
  split at h
  · rename_i hw
    obtain ⟨n, v, H', h1, h2⟩ := vOp_ok h
    exact ⟨n, _, H', by simp [hw, h1], putK_ok h2⟩
  · rename_i hw
    exact ⟨0, _, H, by simp [hw], putK_ok (K := fun T' => K T' H) h⟩
def vOps (C : Ctx) (ops : List Oper) : List Oper → List AV → Heap → (List AV → Heap → Prop) → Prop
  | [], T, H, Q => Q T H
  | o :: rest, T, H, Q => vG C ops o T H fun T' H' => vOps C ops rest T' H' Q
theorem vOps_ok {C : Ctx} {ops : List Oper} : ∀ {rest : List Oper} {T : List AV} {H : Heap} {Q : List AV → Heap → Prop}, vOps C ops rest T H Q → ∃ n T' H', runE C (ev C n) ops rest T H = some (T', H') ∧ Q T' H'
  | [], T, H, _, h => ⟨0, T, H, rfl, h⟩
  | o :: rest, T, H, Q, h => by
    obtain ⟨n, T', H', h1, h2⟩ := vG_ok (show vG C ops o T H fun T' H' => vOps C ops rest T' H' Q from h)
    obtain ⟨m, T2, H2, h3, h4⟩ := vOps_ok h2
    refine ⟨max n m, T2, H2, ?_, h4⟩
    unfold runE
    rw [stepE_mono (ev_mono (Nat.le_max_left n m)) h1]
    exact runE_mono (ev_mono (Nat.le_max_right n m)) h3
/-- the same, with the states on the way -/
def vTr (C : Ctx) (ops : List Oper) : List Oper → List AV → Heap → (List (List AV × Heap) → List AV → Heap → Prop) → Prop
  | [], T, H, Q => Q [(T, H)] T H
  | o :: rest, T, H, Q => vG C ops o T H fun T' H' => vTr C ops rest T' H' fun tr T2 H2 => Q ((T, H) :: tr) T2 H2
theorem lastOf_cons (x : List AV × Heap) {tr : List (List AV × Heap)} {y : List AV × Heap} (h : lastOf tr = some y) : lastOf (x :: tr) = some y := by
  cases tr with
  | nil => cases h
  | cons a b => exact h
theorem vTr_ok {C : Ctx} {ops : List Oper} : ∀ {rest : List Oper} {T : List AV} {H : Heap} {Q : List (List AV × Heap) → List AV → Heap → Prop}, vTr C ops rest T H Q → ∃ n tr T' H', traceE C (ev C n) ops rest T H = some tr ∧ lastOf tr = some (T', H') ∧ Q tr T' H'
  | [], T, H, _, h => ⟨0, [(T, H)], T, H, rfl, rfl, h⟩
  | o :: rest, T, H, Q, h => by
    obtain ⟨n, T', H', h1, h2⟩ := vG_ok (show vG C ops o T H fun T' H' => vTr C ops rest T' H' fun tr T2 H2 => Q ((T, H) :: tr) T2 H2 from h)
    obtain ⟨m, tr, T2, H2, h3, h4, h5⟩ := vTr_ok h2
    refine ⟨max n m, (T, H) :: tr, T2, H2, ?_, lastOf_cons _ h4, h5⟩
    unfold traceE
    rw [stepE_mono (ev_mono (Nat.le_max_left n m)) h1]
    simp only [traceE_mono (ev_mono (Nat.le_max_right n m)) h3]
def Runs (C : Ctx) (rd : Option Nat) (c : Code) (s : St) (Q : Ex → St → Prop) : Prop := ∃ n e s', ev C n rd c s = some (e, s') ∧ Q e s'
theorem Runs.mono {C : Ctx} {rd : Option Nat} {c : Code} {s : St} {Q R : Ex → St → Prop} (h : Runs C rd c s Q) (k : ∀ e s', Q e s' → R e s') : Runs C rd c s R := by
  obtain ⟨n, e, s', h1, h2⟩ := h
  exact ⟨n, e, s', h1, k _ _ h2⟩
def seqK (N : (Ex → St → Prop) → St → Prop) (Q : Ex → St → Prop) : Ex → St → Prop
  | .normal, s => N Q s
  | .exit i, s => Q (.exit i) s
  | .goto l, s => Q (.goto l) s
  | .ret, s => Q .ret s
def blockK (id : Nat) (Q : Ex → St → Prop) : Ex → St → Prop
  | .normal, s => Q .normal s
  | .exit i, s => match Nat.beq i id with
    | true => Q .normal s
    | false => Q (.exit i) s
  | .goto l, s => Q (.goto l) s
  | .ret, s => Q .ret s
def loopK (I : Nat → St → Prop) (m : Nat) (Q : Ex → St → Prop) : Ex → St → Prop
  | .normal, s => ∃ m', m' < m ∧ I m' s
  | .exit i, s => Q (.exit i) s
  | .goto l, s => Q (.goto l) s
  | .ret, s => Q .ret s
def vC (C : Ctx) (rd : Option Nat) : Code → St → (Ex → St → Prop) → Prop
  | .skip, s, Q => Q .normal s
  | .label _, s, Q => Q .normal s
  | .seq a b, s, Q => vC C rd a s (seqK (fun Q s' => vC C rd b s' Q) Q)
  | .cond c a b, ⟨T, H, D⟩, Q => opdK T c fun c => match c with
    | .bool true => vC C rd a ⟨T, H, D⟩ Q
    | .bool false => vC C rd b ⟨T, H, D⟩ Q
    | _ => False
  | .block id b, s, Q => vC C rd b s (blockK id Q)
  | .loop b, s, Q => ∃ I : Nat → St → Prop, (∃ m, I m s) ∧ ∀ m s, I m s → vC C rd b s (loopK I m Q)
  | .exit i, s, Q => Q (.exit i) s
  | .goto l, s, Q => Q (.goto l) s
  | .ret, s, Q => Q .ret s
  | .region _ ops draw, ⟨T, H, D⟩, Q => match draw with
    | true => vTr C ops.toList ops.toList T H fun tr T H => drawOk C ops.toList tr = true ∧ Q .normal ⟨T, H, D⟩
    | false => vOps C ops.toList ops.toList T H fun T H => Q .normal ⟨T, H, D⟩
  | .rangeFunc f ps assign body, s, Q => ∃ n e s', rangeF C (ev C n) rd f ps assign body s = some (e, s') ∧ Q e s'
  | .scope _, _, _ => False
  | .refuse _, _, _ => False
theorem vC_ok {C : Ctx} {rd : Option Nat} : ∀ {c : Code} {s : St} {Q : Ex → St → Prop}, vC C rd c s Q → Runs C rd c s Q
  | .skip, s, Q, h => ⟨1, _, _, rfl, h⟩
  | .label _, s, Q, h => ⟨1, _, _, rfl, h⟩
  | .exit _, s, Q, h => ⟨1, _, _, rfl, h⟩
  | .goto _, s, Q, h => ⟨1, _, _, rfl, h⟩
  | .ret, s, Q, h => ⟨1, _, _, rfl, h⟩
  | .scope _, s, Q, h => h.elim
  | .refuse _, s, Q, h => h.elim
  | .seq a b, s, Q, h => by
    obtain ⟨n, e, s', h1, h2⟩ := vC_ok (c := a) h
    by_cases he : e = .normal
    · subst he
      obtain ⟨m, e2, s2, h3, h4⟩ := vC_ok (c := b) h2
      refine ⟨max n m + 1, e2, s2, ?_, h4⟩
      simp only [ev, evF, ev_mono (Nat.le_max_left n m) _ _ _ _ h1]
      exact ev_mono (Nat.le_max_right n m) _ _ _ _ h3
    · refine ⟨n + 1, e, s', ?_, ?_⟩
      · simp only [ev, evF, h1]
        cases e <;> first | rfl | exact absurd rfl he
      · cases e <;> first | exact h2 | exact absurd rfl he
  | .cond c a b, ⟨T, H, D⟩, Q, h => by
    unfold vC at h
    obtain ⟨cv, hc, h⟩ := opdK_ok h
    split at h
    · obtain ⟨n, e, s', h1, h2⟩ := vC_ok (c := a) h
      exact ⟨n + 1, e, s', by simp only [ev, evF, hc]; exact h1, h2⟩
    · obtain ⟨n, e, s', h1, h2⟩ := vC_ok (c := b) h
      exact ⟨n + 1, e, s', by simp only [ev, evF, hc]; exact h1, h2⟩
    · exact h.elim
  | .block id b, s, Q, h => by
    obtain ⟨n, e, s', h1, h2⟩ := vC_ok (c := b) h
    cases e with
    | exit i =>
      by_cases hi : i = id
      · subst hi
        refine ⟨n + 1, .normal, s', by simp only [ev, evF, h1, if_true], ?_⟩
        simpa [blockK] using h2
      · refine ⟨n + 1, .exit i, s', by simp only [ev, evF, h1, if_neg hi], ?_⟩
        have hf : Nat.beq i id = false := by
          rw [Bool.eq_false_iff]; exact fun hh => hi (Nat.eq_of_beq_eq_true hh)
        simpa [blockK, hf] using h2
    | normal => exact ⟨n + 1, .normal, s', by simp only [ev, evF, h1], h2⟩
    | goto l => exact ⟨n + 1, .goto l, s', by simp only [ev, evF, h1], h2⟩
    | ret => exact ⟨n + 1, .ret, s', by simp only [ev, evF, h1], h2⟩
  | .loop b, s, Q, h => by
    obtain ⟨I, ⟨m, hI⟩, hr⟩ := h
    have key : ∀ m s, I m s → ∃ n k e s', loopF (ev C n) rd b k s = some (e, s') ∧ Q e s' := by
      intro m
      induction m using Nat.strongRecOn with
      | ind m ih =>
        intro s hs
        obtain ⟨n, e, s', h1, h2⟩ := vC_ok (c := b) (hr m s hs)
        by_cases he : e = .normal
        · subst he
          obtain ⟨m', hm, hI'⟩ := h2
          obtain ⟨n2, k2, e2, s2, h3, h4⟩ := ih m' hm s' hI'
          refine ⟨max n n2, k2 + 1, e2, s2, ?_, h4⟩
          unfold loopF
          rw [ev_mono (Nat.le_max_left n n2) _ _ _ _ h1]
          exact loopF_mono (ev_mono (Nat.le_max_right n n2)) (Nat.le_refl _) h3
        · refine ⟨n, 1, e, s', ?_, ?_⟩
          · unfold loopF
            rw [h1]
            cases e <;> first | rfl | exact absurd rfl he
          · cases e <;> first | exact h2 | exact absurd rfl he
    obtain ⟨n, k, e, s', h1, h2⟩ := key m s hI
    refine ⟨max n k + 1, e, s', ?_, h2⟩
    simp only [ev, evF]
    exact loopF_mono (ev_mono (Nat.le_max_left n k)) (Nat.le_max_right n k) h1
  | .region id ops draw, ⟨T, H, D⟩, Q, h => by
    unfold vC at h
    split at h
    · obtain ⟨n, tr, T', H', h1, h2, h3, h4⟩ := vTr_ok h
      exact ⟨n + 1, .normal, _, by simp only [ev, evF, h1, h3, h2, if_true], h4⟩
    · obtain ⟨n, T', H', h1, h2⟩ := vOps_ok h
      exact ⟨n + 1, .normal, _, by simp [ev, evF, h1], h2⟩
  | .rangeFunc f ps assign body, s, Q, h => by
    obtain ⟨n, e, s', h1, h2⟩ := h
    exact ⟨n + 1, e, s', by simp only [ev, evF]; exact h1, h2⟩
/-- What is to be shown at the end of a body. -/
def resK (C : Ctx) (T : List AV) (H : Heap) : List ResultVar → (List AV → Prop) → Prop
  | [], K => K []
  | .tmp t :: r, K => getK T t fun v => resK C T H r fun vs => K (v :: vs)
  | .cell a t :: r, K => getK T a fun p => ∃ v, loadE C t p H = some v ∧ resK C T H r fun vs => K (v :: vs)
theorem resK_ok {C : Ctx} {T : List AV} {H : Heap} : ∀ {rs : List ResultVar} {K : List AV → Prop}, resK C T H rs K → ∃ vs, resultsE C T H rs = some vs ∧ K vs
  | [], _, h => ⟨[], rfl, h⟩
  | .tmp t :: r, K, h => by
    have h1 := getK_ok (T := T) (n := t) (K := fun v => resK C T H r fun vs => K (v :: vs)) h
    obtain ⟨vs, h2, h3⟩ := resK_ok h1
    exact ⟨_, by simp only [resultsE, h2], h3⟩
  | .cell a t :: r, K, h => by
    have h1 := getK_ok (T := T) (n := a) (K := fun p => ∃ v, loadE C t p H = some v ∧ resK C T H r fun vs => K (v :: vs)) h
    obtain ⟨v, h0, h1⟩ := h1
    obtain ⟨vs, h2, h3⟩ := resK_ok h1
    exact ⟨_, by simp only [resultsE, h0, h2], h3⟩
def shutK (H : Heap) (D : List Nat) (K : Heap → Prop) : Prop :=
  match D with
  | [] => K H
  | D => ∃ H', shutMarks D H = some H' ∧ K H'
def vEnd (C : Ctx) (rs : List ResultVar) (Q : AV → Heap → Prop) (e : Ex) (s : St) : Prop :=
  match s, e with
  | _, .exit _ => False
  | _, .goto _ => False
  | ⟨T, H, D⟩, _ => shutK H D fun H' => resK C T H' rs fun vs => match vs with
    | [v] => Q v H'
    | vs => Q (.tup vs) H'
theorem cl_of {C : Ctx} {f : FuncId} {fi : FI} {as : List AV} {H : Heap} {Q : AV → Heap → Prop} (hs : C.sum f = none) (hf : C.fn f = some fi)
    (h : vC C none fi.body ⟨as ++ List.replicate (fi.ntmps - as.length) undefA, H, []⟩ (vEnd C fi.results Q)) : Cl C f as H Q := by
  obtain ⟨n, e, s', h1, h2⟩ := vC_ok h
  have hb : sumE C f as H = none := by simp [sumE, hs]
  obtain ⟨T', H2, D'⟩ := s'
  have key : (e = .normal ∨ e = .ret) ∧ ∃ v H', (match shutMarks D' H2 with
      | some H' => match resultsE C T' H' fi.results with
        | some [v] => some (v, H')
        | some vs => some (.tup vs, H')
        | none => none
      | none => none) = some (v, H') ∧ Q v H' := by
    have h3 : (e = .normal ∨ e = .ret) ∧ shutK H2 D' fun H' => resK C T' H' fi.results fun vs => match vs with
      | [v] => Q v H'
      | vs => Q (.tup vs) H' := by
      cases e with
      | normal => exact ⟨.inl rfl, h2⟩
      | ret => exact ⟨.inr rfl, h2⟩
      | exit i => exact h2.elim
      | goto i => exact h2.elim
    refine ⟨h3.1, ?_⟩
    obtain ⟨H', h4, h5⟩ : ∃ H', shutMarks D' H2 = some H' ∧ resK C T' H' fi.results fun vs => match vs with
      | [v] => Q v H'
      | vs => Q (.tup vs) H' := by
      have h6 := h3.2
      unfold shutK at h6
      split at h6
      · exact ⟨H2, rfl, h6⟩
      · exact h6
    obtain ⟨vs, h6, h7⟩ := resK_ok h5
    rw [h4]
    simp only [h6]
    split at h7
    · exact ⟨_, _, rfl, h7⟩
    · rename_i hne
      refine ⟨.tup vs, H', ?_, h7⟩
      cases vs with
      | nil => rfl
      | cons a as => cases as with
        | nil => exact absurd rfl (hne a)
        | cons _ _ => rfl
  obtain ⟨he, v, H', hv, hq⟩ := key
  refine ⟨n, v, H', ?_, hq⟩
  unfold call callF callB
  rw [hb]
  simp only [hf, h1]
  rcases he with rfl | rfl <;> exact hv
end Go.PI
/- A CALL WITHOUT ARGUMENTS that was seen to end true, as a summary. -/
namespace Go.PI
/-- What a call out of nothing leaves, it leaves beside whatever there is. -/
theorem frame_closed {μ : M} {H H1 : Heap} {w w' : World} {v : AV} {u : Value} (hH : HR μ H w) (hv : ∀ μ1, VR μ1 v u → VR μ v u) (h : EffR (fun _ => none) ⟨0, .nil⟩ w v H1 u w') : EffR μ H w v H u w' := by
  obtain ⟨μ1, h1, h2, hF⟩ := h
  have hk : ∀ k, k < w.heap.size → w'.heap[k]? = w.heap[k]? := fun k hk => (hF.keep k hk (by rintro ⟨A, a, -, hm, -⟩; cases hm)).1
  refine ⟨μ, hv _ h1, ⟨hH.lim, hH.dom, fun A bi hA hm => ?_, hH.inj⟩, M.le.refl _, fun _ _ => rfl, Nat.le_refl _, hF.os, hF.tape, hF.output, hF.size, fun k hk' ho => ⟨hk k hk', ho⟩, fun A hl ho => ⟨Heap.lt_of_get (fun e => by rw [e] at hl; cases hl), rfl⟩⟩
  obtain ⟨g1, g2⟩ := hH.blk A bi hA hm
  refine ⟨Nat.lt_of_lt_of_le g1 hF.size, ?_⟩
  generalize H.get A = x at g2
  cases x with
  | dead => trivial
  | dfr => exact (hk _ g1).trans g2
  | cells rw ty cs =>
    obtain ⟨carr, fz, q1, q2⟩ := g2
    exact ⟨carr, fz, (hk _ g1).trans q1, q2⟩
  | loop L =>
    obtain ⟨lp, q1, q2⟩ := g2
    exact ⟨lp, (hk _ g1).trans q1, q2⟩
  | map k es =>
    obtain ⟨ms, clock, q1, q2⟩ := g2
    exact ⟨ms, clock, (hk _ g1).trans q1, q2⟩
  | smap es =>
    obtain ⟨ms, clock, q1, q2⟩ := g2
    exact ⟨ms, clock, (hk _ g1).trans q1, q2⟩
  | siter s pos => exact ⟨g2.1, (hk _ g1).trans g2.2⟩
/-- Whoever knows a call's every outcome. -/
def SumR (P : Program) (f : FuncId) (S : List AV → Heap → Option (AV × Heap)) : Prop := ∀ us H v H', S us H = some (v, H') → ∀ μ (args : Array Value) w, VRs μ us args.toList → HR μ H w → CallR P μ H w f args v H'
theorem Ctx.plus_ok2 {P : Program} {C : Ctx} (hC : Ctx.Ok P C) {T : FuncId → Option (List AV → Heap → Option (AV × Heap))} (h : ∀ f S, T f = some S → C.sum f = some S ∨ SumR P f S) : Ctx.Ok P (C.plus T) where
  ty := hC.ty
  fn := hC.fn
  same := hC.same
  noZero := hC.noZero
  mixed := hC.mixed
  eqs := hC.eqs
  sum := by
    intro f S us H v H' hf hS μ args w ha hH
    rcases h f S hf with h | h
    · exact hC.sum f S us H v H' h hS μ args w ha hH
    · exact h us H v H' hS μ args w ha hH
/-- A call without arguments that was seen to end true. -/
theorem closed_true {P : Program} {C : Ctx} (hC : Ctx.Ok P C) {n : Nat} {f : FuncId} {H1 : Heap} (h : call C n f [] ⟨0, .nil⟩ = some (.bool true, H1)) : SumR P f fun us H => match us with
    | [] => some (.bool true, H)
    | _ => none := by
  intro us H v H' hS μ args w ha hH
  cases us with
  | cons a b => cases hS
  | nil =>
    cases hS
    have h0 : HR (fun _ => none) ⟨0, .nil⟩ w := ⟨by simp [PI.lim], fun _ _ => rfl, fun A bi hl hm => (by cases hm), fun A B a b _ _ _ hm => (by cases hm)⟩
    have ha0 : VRs (fun _ => none) [] args.toList := by
      generalize args.toList = l at ha
      cases ha
      exact .nil
    have hb : ∀ u, (∀ μ1, VR μ1 (.bool true) u → VR μ (.bool true) u) := fun u μ1 h => by cases h; exact .bool _
    rcases callF_sim hC (sound hC n) h ha0 h0 with ⟨u, w', h1, h2⟩ | ⟨h1, h2⟩
    · exact .inl ⟨u, w', h1, frame_closed hH (hb u) h2⟩
    · refine .inr ⟨h1, fun F m hF => (h2 F m hF).mono ?_⟩
      rintro e w' ⟨u, rfl, hE⟩
      exact ⟨u, rfl, frame_closed hH (hb u) hE⟩
def sTrue (us : List AV) (H : Heap) : Option (AV × Heap) :=
  match us with
  | [] => some (.bool true, H)
  | _ => none
def isTrue (x : Option (AV × Heap)) : Bool := match x with | some (.bool true, _) => true | _ => false
theorem isTrue_some {x : Option (AV × Heap)} (h : isTrue x = true) : ∃ H, x = some (.bool true, H) := by
  unfold isTrue at h
  split at h
  · exact ⟨_, rfl⟩
  · cases h
end Go.PI
/- A REGION WHOSE ORDER IS OPEN, in which memory only grows but for the last operation. -/
namespace Go.PI
def ldsP (C : Ctx) (ops : List Oper) (H0 : Heap) : List Oper → List (List AV × Heap) → Prop
  | o :: os, (T, _) :: tr => (match o.op with
    | .load t x => (match Region.wanted o (ayielded ops T) with
      | true => ∃ b off v, opd T x = some (.ptr b off) ∧ b < H0.n ∧ loadE C t (.ptr b off) H0 = some v ∧ v.same v = true
      | false => True)
    | _ => True) ∧ ldsP C ops H0 os tr
  | _, _ => True
/-- all but the last state have what there was -/
def grP (H0 : Heap) : List (List AV × Heap) → Prop
  | [] => True
  | [_] => True
  | x :: y :: r => (∀ A, A < H0.n → x.2.get A = H0.get A) ∧ grP H0 (y :: r)
def mnP : List (List AV × Heap) → Prop
  | [] => True
  | [_] => True
  | x :: y :: r => x.2.n ≤ y.2.n ∧ mnP (y :: r)
def isLoad (o : Oper) : Bool :=
  match o.op with
  | .load _ _ => true
  | _ => false
/-- no load may come up behind the last operation -/
def lastOk (C : Ctx) (ops : List Oper) (pre : List Nat) (m : Nat) : List Oper → Nat → Bool
  | [], _ => true
  | o :: os, i => (!isLoad o || !(isBd C ops m && mayAt C ops pre i m ops 0)) && lastOk C ops pre m os (i + 1)
def noAlloc (C : Ctx) : List Oper → Bool
  | [] => true
  | o :: os => (match kindOf C o.op with | .alloc => false | _ => true) && noAlloc C os
theorem load_get {C : Ctx} {t : TypeId} {b o : Nat} {H H' : Heap} (h : H'.get b = H.get b) : loadE C t (.ptr b o) H' = loadE C t (.ptr b o) H := by
  cases ht : C.ty t with
  | none => simp only [loadE, ht]
  | some i => simp only [loadE, ht, h]
theorem mono_of : ∀ {tr : List (List AV × Heap)}, mnP tr → monoOk tr = true
  | [], _ => rfl
  | [_], _ => rfl
  | (_, H) :: (T, H') :: r, h => by
    have := mono_of (tr := (T, H') :: r) h.2
    simp only [monoOk, this, Bool.and_true, decide_eq_true_eq]
    exact h.1
theorem allocs_of {C : Ctx} {ops : List Oper} {pre : List Nat} {all : List (List AV × Heap)} : ∀ (os : List Oper) (tr : List (List AV × Heap)) (i : Nat), noAlloc C os = true → allocsOk C ops pre all os tr i = true
  | [], tr, _, _ => by cases tr <;> rfl
  | o :: os, [], _, _ => rfl
  | o :: os, (T, H) :: tr, i, h => by
    simp only [noAlloc, Bool.and_eq_true] at h
    simp only [allocsOk]
    rw [allocs_of os tr (i + 1) h.2, Bool.and_true]
    have h1 := h.1
    cases hk : kindOf C o.op <;> simp only [hk] at h1 ⊢
    cases h1
theorem loadAts_of {C : Ctx} {ops : List Oper} {pre : List Nat} {i : Nat} {t : TypeId} {b off : Nat} {v : AV} {H0 : Heap} {m : Nat} (hb : b < H0.n) (hl : loadE C t (.ptr b off) H0 = some v) (hs : v.same v = true) (hlast : (isBd C ops m && mayAt C ops pre i m ops 0) = false) :
    ∀ (tr : List (List AV × Heap)) (p : Nat), grP H0 tr → p + tr.length = m + 1 → loadAts C ops pre i t (.ptr b off) v tr p = true
  | [], _, _, _ => rfl
  | [(T, H)], p, _, hp => by
    have : p = m := by simpa using hp
    subst this
    simp only [loadAts, hlast, Bool.not_false, Bool.true_or, Bool.true_and]
  | (T, H) :: y :: r, p, hg, hp => by
    simp only [loadAts]
    have h2 := loadAts_of hb hl hs hlast (y :: r) (p + 1) hg.2 (by simp at hp ⊢; omega)
    rw [load_get (hg.1 b hb), hl]
    simp only [hs, Bool.or_true, Bool.true_and]
    exact h2
theorem loads_of {C : Ctx} {ops : List Oper} {pre : List Nat} {all : List (List AV × Heap)} {H0 : Heap} {m : Nat} (hall : grP H0 all) (hlen : all.length = m + 1) : ∀ (os : List Oper) (tr : List (List AV × Heap)) (i : Nat), ldsP C ops H0 os tr → grP H0 tr → os.length < tr.length → lastOk C ops pre m os i = true → loadsOk C ops pre all os tr i = true
  | [], tr, _, _, _, _, _ => by cases tr <;> rfl
  | o :: os, [], _, _, _, _, _ => rfl
  | o :: os, [(T, H)], _, _, _, h, _ => by simp at h
  | o :: os, (T, H) :: y :: tr, i, h, hg, hl, hlast => by
    simp only [lastOk, Bool.and_eq_true] at hlast
    simp only [loadsOk]
    rw [loads_of hall hlen os (y :: tr) (i + 1) h.2 hg.2 (by simp at hl ⊢; omega) hlast.2, Bool.and_true]
    have h1 := h.1
    cases ho : o.op <;> simp only [ho] at h1 ⊢
    rename_i t x
    cases hw : Region.wanted o (ayielded ops T) with
    | false => simp
    | true =>
      simp only [hw] at h1
      obtain ⟨b, off, v, e1, e2, e3, e4⟩ := h1
      simp only [if_true, e1]
      rw [load_get (hg.1 b e2), e3]
      have hl1 : (isBd C ops m && mayAt C ops pre i m ops 0) = false := by
        have := hlast.1
        simp only [isLoad, ho, Bool.not_true, Bool.false_or, Bool.not_eq_true'] at this
        exact this
      exact loadAts_of e2 e3 e4 hl1 all 0 hall (by omega)
/-- what is static of it -/
def growS (C : Ctx) (ops : List Oper) : Bool := orderOk C ops (preList ops []) ops 0 && lastOk C ops (preList ops []) ops.length ops 0 && noAlloc C ops
theorem draw_of {C : Ctx} {ops : List Oper} {tr : List (List AV × Heap)} (H0 : Heap) (hs : growS C ops = true) (hlen : tr.length = ops.length + 1) (hl : ldsP C ops H0 ops tr) (hg : grP H0 tr) (hm : mnP tr) : drawOk C ops tr = true := by
  simp only [growS, Bool.and_eq_true] at hs
  unfold drawOk
  simp only [hs.1.1, loads_of hg hlen ops tr 0 hl hg (by omega) hs.1.2, allocs_of ops tr 0 hs.2, mono_of hm, Bool.and_self]
end Go.PI
/- A CALL WITH CLOSED ARGUMENTS, once seen to end with a value, as a summary. -/
namespace Go.PI
/-- a value of the pattern, whose blocks count from n on -/
def shS (n : Nat) : AV → AV
  | .sl b o l c => .sl (n + b) o l c
  | .slu b o l e => .slu (n + b) o l e
  | a => a
def shV (n : Nat) : AV → AV
  | .agg cs => .agg (cs.map (shS n))
  | a => shS n a
/-- a is what a1 is, where block i of the pattern is block ks[i] of the run -/
def maS (ks : List Nat) : AV → AV → Bool
  | .int .i64 m, .int .i64 m' => decide (m = m')
  | .bool m, .bool m' => m == m'
  | .nils, .nils => true
  | .nilp, .nilp => true
  | .sl b o l c, .sl b' o' l' c' => decide (ks[b]? = some b' ∧ o = o' ∧ l = l' ∧ c = c')
  | .slu b o l e, .slu b' o' l' e' => decide (ks[b]? = some b' ∧ o = o' ∧ l = l' ∧ e = e')
  | _, _ => false
def maL (ks : List Nat) : List AV → List AV → Bool
  | [], [] => true
  | a :: as, b :: bs => maS ks a b && maL ks as bs
  | _, _ => false
def maV (ks : List Nat) : AV → AV → Bool
  | .agg cs, .agg cs' => maL ks cs cs'
  | a, b => maS ks a b
theorem maS_ok {ks : List Nat} {μ1 μ' : M} {n : Nat} (hk : ∀ (i A : Nat), ks[i]? = some A → μ' (n + i) = μ1 A) {a a1 : AV} {u : Value} (h : maS ks a a1 = true) (hv : VR μ1 a1 u) : VR μ' (shS n a) u := by
  unfold maS at h
  split at h
  · have := of_decide_eq_true h
    subst this
    cases hv
    exact .int _ _
  · have := eq_of_beq h
    subst this
    cases hv
    exact .bool _
  · cases hv; exact .nils
  · cases hv; exact .nilp
  · obtain ⟨h1, rfl, rfl, rfl⟩ := of_decide_eq_true h
    cases hv with
    | sl hb => exact .sl ((hk _ _ h1).trans hb)
  · obtain ⟨h1, rfl, rfl, rfl⟩ := of_decide_eq_true h
    cases hv with
    | slu hb hc hl => exact .slu ((hk _ _ h1).trans hb) hc hl
    | sluz hb => exact .sluz ((hk _ _ h1).trans hb) _ _ _
  · cases h
theorem maL_ok {ks : List Nat} {μ1 μ' : M} {n : Nat} (hk : ∀ (i A : Nat), ks[i]? = some A → μ' (n + i) = μ1 A) : ∀ {as bs : List AV} {us : List Value}, maL ks as bs = true → All2 (VR μ1) bs us → All2 (VR μ') (as.map (shS n)) us
  | [], [], _, _, h => by cases h; exact .nil
  | [], _ :: _, _, h, _ => by cases h
  | _ :: _, [], _, h, _ => by cases h
  | a :: as, b :: bs, _, h, hv => by
    simp only [maL, Bool.and_eq_true] at h
    cases hv with
    | cons h1 h2 => exact .cons (maS_ok hk h.1 h1) (maL_ok hk h.2 h2)
theorem maV_ok {ks : List Nat} {μ1 μ' : M} {n : Nat} (hk : ∀ (i A : Nat), ks[i]? = some A → μ' (n + i) = μ1 A) {a a1 : AV} {u : Value} (h : maV ks a a1 = true) (hv : VR μ1 a1 u) : VR μ' (shV n a) u := by
  unfold maV at h
  split at h
  · cases hv with
    | agg hv => exact .agg (maL_ok hk h hv)
  · rename_i h1 h2
    have : shV n a = shS n a := by
      unfold shV
      split
      · cases a1 <;> simp [maS] at h
      · rfl
    rw [this]
    exact maS_ok hk h hv
/-- one block more, which nobody else has -/
theorem HR.pushN {μ : M} {H : Heap} {w : World} (hH : HR μ H w) (hn : H.n < PI.lim) {bi : BI} {b : Blk} (hc : bi.c < w.heap.size) (hb : BlkR (μ.set H.n bi) w bi b)
    (hne : ∀ A a, (H.get A).live = true → μ A = some a → a.c ≠ bi.c) : HR (μ.set H.n bi) (H.push b) w := by
  have hle : M.le μ (μ.set H.n bi) := M.le_set (hH.dom _ (Nat.le_refl _))
  have hp := Heap.get_push (H := H) (b := b) hn
  have hold : ∀ {A a}, A ≠ H.n → (μ.set H.n bi) A = some a → μ A = some a := fun h e => by unfold M.set at e; rwa [if_neg h] at e
  refine ⟨by show H.n + 1 ≤ PI.lim; omega, fun A hA => ?_, fun A a hl hm => ?_, fun A B a b' hAB hoA hlB hmA hmB => ?_⟩
  · have hA : H.n + 1 ≤ A := hA
    unfold M.set
    rw [if_neg (by omega)]
    exact hH.dom A (by omega)
  · rw [hp] at hl ⊢
    by_cases hA : A = H.n
    · subst hA
      rw [if_pos rfl]
      rw [M.set_self] at hm
      cases hm
      exact ⟨hc, hb⟩
    · rw [if_neg hA] at hl ⊢
      obtain ⟨g1, g2⟩ := hH.blk A a hl (hold hA hm)
      exact ⟨g1, g2.mono hle rfl⟩
  · rw [hp] at hoA hlB
    by_cases hA : A = H.n
    · have hB : B ≠ H.n := fun e => hAB (hA.trans e.symm)
      rw [if_neg hB] at hlB
      rw [hA, M.set_self] at hmA
      cases hmA
      exact fun e => hne B b' hlB (hold hB hmB) e.symm
    · rw [if_neg hA] at hoA
      by_cases hB : B = H.n
      · rw [hB, M.set_self] at hmB
        cases hmB
        exact hne A a (Blk.live_of_own hoA) (hold hA hmA)
      · rw [if_neg hB] at hlB
        exact hH.inj A B a b' hAB hoA hlB (hold hA hmA) (hold hB hmB)
/-- the pattern's blocks, one after the other -/
def pushLn (n0 : Nat) : List (TypeId × List AV) → Heap → Heap
  | [], H => H
  | (ty, cs) :: L, H => pushLn n0 L (H.push (.cells true ty (cs.map (shS n0))))
def blkOk (ks : List Nat) (H1 : Heap) : List Nat → List (TypeId × List AV) → Bool
  | [], [] => true
  | k :: r, (ty, cs) :: L => (match H1.get k with
    | .cells true ty' cs' => decide (ty = ty') && maL ks cs cs'
    | _ => false) && blkOk ks H1 r L
  | _, _ => false
def nodupB : List Nat → Bool
  | [] => true
  | k :: r => !r.contains k && nodupB r
/-- what a run from nothing ended with is what the pattern says -/
def chkRun (ks : List Nat) (L : List (TypeId × List AV)) (v0 v1 : AV) (H1 : Heap) : Bool := maV ks v0 v1 && nodupB ks && blkOk ks H1 ks L
theorem pushLn_n (n0 : Nat) : ∀ (L : List (TypeId × List AV)) (H : Heap), (pushLn n0 L H).n = H.n + L.length
  | [], _ => rfl
  | (ty, cs) :: L, H => by
    show (pushLn n0 L _).n = _
    rw [pushLn_n n0 L]
    show H.n + 1 + L.length = H.n + (L.length + 1)
    omega
theorem pushLn_get (n0 : Nat) : ∀ (L : List (TypeId × List AV)) (H : Heap), H.n + L.length ≤ lim → ∀ A, (pushLn n0 L H).get A = (match (if A < H.n then none else L[A - H.n]?) with
    | some (ty, cs) => .cells true ty (cs.map (shS n0))
    | none => H.get A)
  | [], H, _, A => by
    show H.get A = _
    split
    · rename_i h; split at h <;> simp at h
    · rfl
  | (ty, cs) :: L, H, hl, A => by
    simp only [List.length_cons] at hl
    have hp := Heap.get_push (H := H) (b := .cells true ty (cs.map (shS n0))) (by omega)
    show (pushLn n0 L (H.push _)).get A = _
    rw [pushLn_get n0 L _ (by show H.n + 1 + L.length ≤ lim; omega) A]
    have hpn : (H.push (.cells true ty (cs.map (shS n0)))).n = H.n + 1 := rfl
    rw [hpn, hp]
    by_cases h1 : A < H.n
    · rw [if_pos h1, if_pos (by omega), if_neg (by omega)]
    · by_cases h2 : A = H.n
      · subst h2
        rw [if_neg h1, if_pos (by omega), if_pos rfl, Nat.sub_self]
        rfl
      · rw [if_neg h1, if_neg (by omega), if_neg h2, show A - H.n = (A - (H.n + 1)) + 1 by omega]
        rfl
theorem blkOk_get {ks : List Nat} {H1 : Heap} : ∀ {r : List Nat} {L : List (TypeId × List AV)}, blkOk ks H1 r L = true → r.length = L.length ∧ ∀ (i k : Nat), r[i]? = some k → ∃ ty cs cs', L[i]? = some (ty, cs) ∧ H1.get k = .cells true ty cs' ∧ maL ks cs cs' = true
  | [], [], _ => ⟨rfl, fun i k h => by simp at h⟩
  | [], _ :: _, h => by cases h
  | _ :: _, [], h => by cases h
  | k :: r, (ty, cs) :: L, h => by
    unfold blkOk at h
    simp only [Bool.and_eq_true] at h
    obtain ⟨h1, h2⟩ := h
    obtain ⟨h3, h4⟩ := blkOk_get h2
    refine ⟨by simp [h3], fun i k' hk => ?_⟩
    cases i with
    | zero =>
      cases hk
      split at h1
      · rename_i ty' cs' hg
        simp only [Bool.and_eq_true, decide_eq_true_eq] at h1
        obtain ⟨rfl, h5⟩ := h1
        exact ⟨ty, cs, cs', rfl, hg, h5⟩
      · cases h1
    | succ i => exact h4 i k' hk
theorem nodupB_ix : ∀ {ks : List Nat}, nodupB ks = true → ∀ (i j k : Nat), ks[i]? = some k → ks[j]? = some k → i = j
  | [], _, i, j, k, h, _ => by simp at h
  | a :: r, h, i, j, k, hi, hj => by
    unfold nodupB at h
    simp only [Bool.and_eq_true, Bool.not_eq_true', List.contains_eq_mem, decide_eq_false_iff_not] at h
    cases i with
    | zero => cases j with
      | zero => rfl
      | succ j => cases hi; exact absurd (List.mem_of_getElem? (show r[j]? = some a from hj)) h.1
    | succ i => cases j with
      | zero => cases hj; exact absurd (List.mem_of_getElem? (show r[i]? = some a from hi)) h.1
      | succ j => exact congrArg Nat.succ (nodupB_ix h.2 i j k hi hj)
def μx (μ μ1 : M) (n : Nat) (ks : List Nat) : M := fun A => if A < n then μ A else match ks[A - n]? with
  | some B => μ1 B
  | none => none
/-- what a run from nothing leaves, it leaves beside whatever there is -/
theorem frame_val0 {μ μ0 : M} {H H0 H1 : Heap} {w w' : World} {v0 v1 : AV} {u : Value} {ks : List Nat} {L : List (TypeId × List AV)} (hno : ∀ k, ¬ Own μ0 H0 k) (hH : HR μ H w) (hn : H.n + L.length ≤ lim)
    (h : EffR μ0 H0 w v1 H1 u w') (hc : chkRun ks L v0 v1 H1 = true) : EffR μ H w (shV H.n v0) (pushLn H.n L H) u w' := by
  obtain ⟨μ1, h1, h2, hF⟩ := h
  unfold chkRun at hc
  simp only [Bool.and_eq_true] at hc
  obtain ⟨⟨c1, c2⟩, c3⟩ := hc
  obtain ⟨c4, c5⟩ := blkOk_get c3
  have hlow : ∀ A, A < H.n → μx μ μ1 H.n ks A = μ A := fun A hA => if_pos hA
  have hk : ∀ (i A : Nat), ks[i]? = some A → μx μ μ1 H.n ks (H.n + i) = μ1 A := fun i A hi => by
    unfold μx
    rw [if_neg (by omega), show H.n + i - H.n = i by omega, hi]
  have hhi : ∀ (A : Nat) (b : BI), ¬ A < H.n → μx μ μ1 H.n ks A = some b → ∃ k, ks[A - H.n]? = some k ∧ μ1 k = some b := fun A b hA hm => by
    unfold μx at hm
    rw [if_neg hA] at hm
    split at hm
    · exact ⟨_, ‹_›, hm⟩
    · cases hm
  have hle : M.le μ (μx μ μ1 H.n ks) := fun A b hb => by
    have hA : A < H.n := Nat.lt_of_not_le fun hA => by rw [hH.dom A hA] at hb; cases hb
    rw [hlow A hA]
    exact hb
  have hkp : ∀ k, k < w.heap.size → w'.heap[k]? = w.heap[k]? := fun k hk => (hF.keep k hk (hno k)).1
  have hnew : ∀ (i k : Nat) (b : BI), ks[i]? = some k → μ1 k = some b → w.heap.size ≤ b.c ∧ (H1.get k).own = true ∧ (H1.get k).live = true := fun i k b hi hm => by
    obtain ⟨ty, cs, cs', -, hg, -⟩ := c5 i k hi
    have ho : (H1.get k).own = true := by rw [hg]; rfl
    exact ⟨Nat.le_of_not_lt fun hlt => (hF.keep b.c hlt (hno _)).2 ⟨k, b, ho, hm, rfl⟩, ho, Blk.live_of_own ho⟩
  have hg0 : ∀ A, A < H.n → (pushLn H.n L H).get A = H.get A := fun A hA => by rw [pushLn_get H.n L H hn A, if_pos hA]
  have hg1 : ∀ (A k : Nat), ¬ A < H.n → ks[A - H.n]? = some k → ∃ ty cs cs', (pushLn H.n L H).get A = .cells true ty (cs.map (shS H.n)) ∧ H1.get k = .cells true ty cs' ∧ maL ks cs cs' = true := fun A k hA hi => by
    obtain ⟨ty, cs, cs', q1, q2, q3⟩ := c5 _ k hi
    exact ⟨ty, cs, cs', by rw [pushLn_get H.n L H hn A, if_neg hA, q1], q2, q3⟩
  refine ⟨μx μ μ1 H.n ks, maV_ok hk c1 h1, ⟨?_, fun A hA => ?_, fun A bi hl hm => ?_, fun A B a b hAB hoA hlB hmA hmB => ?_⟩, ⟨hle, hlow, ?_, hF.os, hF.tape, hF.output, hF.size, fun k hk' ho => ⟨hkp k hk', ?_⟩, fun A hl ho => ?_⟩⟩
  · rw [pushLn_n]; exact hn
  · rw [pushLn_n] at hA
    unfold μx
    rw [if_neg (by omega), List.getElem?_eq_none (by omega)]
  · by_cases hA : A < H.n
    · rw [hlow A hA] at hm
      rw [hg0 A hA] at hl ⊢
      obtain ⟨g1, g2⟩ := hH.blk A bi hl hm
      exact ⟨Nat.lt_of_lt_of_le g1 hF.size, g2.mono hle (hkp _ g1)⟩
    · obtain ⟨k, hi, hm1⟩ := hhi A bi hA hm
      obtain ⟨ty, cs, cs', q1, q2, q3⟩ := hg1 A k hA hi
      obtain ⟨p1, -, p3⟩ := hnew _ k bi hi hm1
      obtain ⟨g1, g2⟩ := h2.blk k bi p3 hm1
      refine ⟨g1, ?_⟩
      rw [q1]
      rw [q2] at g2
      obtain ⟨carr, fz, r1, r2, r3, r4, r5⟩ := g2
      have hv := maL_ok hk q3 r4
      have hlen : (cs.map (shS H.n)).length = cs'.length := by
        have e1 := hv.length
        have e2 := r4.length
        omega
      exact ⟨carr, fz, r1, r2, by rw [hlen]; exact r3, by rw [hlen]; exact hv, r5⟩
  · by_cases hA : A < H.n
    · rw [hlow A hA] at hmA
      rw [hg0 A hA] at hoA
      have ga := (hH.blk A a (Blk.live_of_own hoA) hmA).1
      by_cases hB : B < H.n
      · rw [hlow B hB] at hmB
        rw [hg0 B hB] at hlB
        exact hH.inj A B a b hAB hoA hlB hmA hmB
      · obtain ⟨k, hi, hm1⟩ := hhi B b hB hmB
        have := (hnew _ k b hi hm1).1
        omega
    · obtain ⟨k, hi, hm1⟩ := hhi A a hA hmA
      obtain ⟨p1, p2, p3⟩ := hnew _ k a hi hm1
      by_cases hB : B < H.n
      · rw [hlow B hB] at hmB
        rw [hg0 B hB] at hlB
        have := (hH.blk B b hlB hmB).1
        omega
      · obtain ⟨k', hi', hm1'⟩ := hhi B b hB hmB
        obtain ⟨-, -, p3'⟩ := hnew _ k' b hi' hm1'
        refine h2.inj k k' a b (fun e => ?_) p2 p3' hm1 hm1'
        subst e
        have := nodupB_ix c2 _ _ k hi hi'
        omega
  · rw [pushLn_n]; omega
  · rintro ⟨A, a, hoA, hmA, rfl⟩
    by_cases hA : A < H.n
    · rw [hlow A hA] at hmA
      rw [hg0 A hA] at hoA
      exact ho ⟨A, a, hoA, hmA, rfl⟩
    · obtain ⟨k, hi, hm1⟩ := hhi A a hA hmA
      have := (hnew _ k a hi hm1).1
      omega
  · by_cases hA : A < H.n
    · exact ⟨hA, hg0 A hA⟩
    · cases hi : ks[A - H.n]? with
      | some k =>
        obtain ⟨ty, cs, cs', q1, -, -⟩ := hg1 A k hA hi
        rw [q1] at ho
        cases ho
      | none =>
        rw [pushLn_get H.n L H hn A, if_neg hA] at hl
        have hl2 : L[A - H.n]? = none := by
          rw [List.getElem?_eq_none_iff] at hi ⊢
          omega
        rw [hl2] at hl
        have hlt : A < H.n := Heap.lt_of_get (by intro e; rw [e] at hl; cases hl)
        exact absurd hlt hA
theorem frame_val {μ : M} {H H1 : Heap} {w w' : World} {v0 v1 : AV} {u : Value} {ks : List Nat} {L : List (TypeId × List AV)} (hH : HR μ H w) (hn : H.n + L.length ≤ lim)
    (h : EffR (fun _ => none) ⟨0, .nil⟩ w v1 H1 u w') (hc : chkRun ks L v0 v1 H1 = true) : EffR μ H w (shV H.n v0) (pushLn H.n L H) u w' :=
  frame_val0 (fun k => by rintro ⟨A, a, -, hm, -⟩; cases hm) hH hn h hc
def isInts : List AV → List Int → Bool
  | [], [] => true
  | .int .i64 m :: us, n :: ns => decide (m = n) && isInts us ns
  | _, _ => false
theorem isInts_is : ∀ {us : List AV} {ns : List Int}, isInts us ns = true → us = ns.map (AV.int .i64)
  | [], [], _ => rfl
  | [], _ :: _, h => by cases h
  | a :: us, [], h => by cases a <;> simp [isInts] at h
  | a :: us, n :: ns, h => by
    unfold isInts at h
    split at h
    · rename_i e; cases e
    · rename_i m us' n' ns' e1 e2
      cases e1
      cases e2
      simp only [Bool.and_eq_true, decide_eq_true_eq] at h
      obtain ⟨rfl, h2⟩ := h
      rw [isInts_is h2]
      rfl
    · cases h
/-- the answer to the arguments ns, always the same, in blocks of its own -/
def sumT (ns : List Int) (v0 : AV) (L : List (TypeId × List AV)) (us : List AV) (H : Heap) : Option (AV × Heap) :=
  if isInts us ns && Nat.ble (H.n + L.length) lim then some (shV H.n v0, pushLn H.n L H) else none
theorem vr_ints {μ ν : M} : ∀ {ns : List Int} {l : List Value}, All2 (VR μ) (ns.map (AV.int .i64)) l → All2 (VR ν) (ns.map (AV.int .i64)) l
  | [], _, h => by cases h; exact .nil
  | n :: ns, _, h => by
    cases h with
    | cons h1 h2 => cases h1; exact .cons (.int _ _) (vr_ints h2)
/-- A call with integers that was seen to end with a value. -/
theorem closed_val {P : Program} {C : Ctx} (hC : Ctx.Ok P C) {n : Nat} {f : FuncId} {ns : List Int} {v0 v1 : AV} {H1 : Heap} {ks : List Nat} {L : List (TypeId × List AV)}
    (h : call C n f (ns.map (AV.int .i64)) ⟨0, .nil⟩ = some (v1, H1)) (hc : chkRun ks L v0 v1 H1 = true) : SumR P f (sumT ns v0 L) := by
  intro us H v H' hS μ args w ha hH
  unfold sumT at hS
  split at hS
  · rename_i hcond
    simp only [Bool.and_eq_true] at hcond
    have hl : H.n + L.length ≤ lim := Nat.le_of_ble_eq_true hcond.2
    have hu := isInts_is hcond.1
    subst hu
    cases hS
    have h0 : HR (fun _ => none) ⟨0, .nil⟩ w := ⟨by simp [PI.lim], fun _ _ => rfl, fun A bi hl hm => (by cases hm), fun A B a b _ _ _ hm => (by cases hm)⟩
    rcases callF_sim hC (sound hC n) h (vr_ints ha) h0 with ⟨u, w', h1, h2⟩ | ⟨h1, h2⟩
    · exact .inl ⟨u, w', h1, frame_val hH hl h2 hc⟩
    · refine .inr ⟨h1, fun F m hF => (h2 F m hF).mono ?_⟩
      rintro e w' ⟨u, rfl, hE⟩
      exact ⟨u, rfl, frame_val hH hl hE hc⟩
  · cases hS
/-- a block that is only read and holds integers -/
def rdBlk (H : Heap) (b : Nat) (ty : TypeId) (xs : List Int) : Bool :=
  match H.get b with
  | .cells _ ty' cs => decide (ty' = ty) && isInts cs xs
  | _ => false
/-- two slices of integers, whole blocks each -/
def rdTwo (H : Heap) (ty : TypeId) (xs ys : List Int) : AV → Bool
  | .agg [.sl a 0 l c, .sl b 0 l' c'] => decide (l = xs.length ∧ c = xs.length ∧ l' = ys.length ∧ c' = ys.length) && rdBlk H a ty xs && rdBlk H b ty ys
  | _ => false
def twoH (ty : TypeId) (xs ys : List Int) : Heap := ((⟨0, .nil⟩ : Heap).push (.cells false ty (xs.map (AV.int .i64)))).push (.cells false ty (ys.map (AV.int .i64)))
def twoV (xs ys : List Int) : AV := .agg [.sl 0 0 xs.length xs.length, .sl 1 0 ys.length ys.length]
def sumO (ty : TypeId) (xs ys : List Int) (v0 : AV) (L : List (TypeId × List AV)) (us : List AV) (H : Heap) : Option (AV × Heap) :=
  match us with
  | [v] => if rdTwo H ty xs ys v && Nat.ble (H.n + L.length) lim then some (shV H.n v0, pushLn H.n L H) else none
  | _ => none
theorem rdBlk_is {H : Heap} {b : Nat} {ty : TypeId} {xs : List Int} (h : rdBlk H b ty xs = true) : ∃ rw, H.get b = .cells rw ty (xs.map (AV.int .i64)) := by
  unfold rdBlk at h
  split at h
  · rename_i rw ty' cs hg
    simp only [Bool.and_eq_true, decide_eq_true_eq] at h
    obtain ⟨rfl, h2⟩ := h
    rw [hg, isInts_is h2]
    exact ⟨rw, rfl⟩
  · cases h
theorem push_ro {μ : M} {H : Heap} {w : World} (hH : HR μ H w) (hn : H.n < PI.lim) (hro : ∀ A, (H.get A).own = false) {bi : BI} {ty : TypeId} {cs : List AV} (hc : bi.c < w.heap.size) (hb : BlkR (μ.set H.n bi) w bi (.cells false ty cs)) :
    HR (μ.set H.n bi) (H.push (.cells false ty cs)) w ∧ ∀ A, ((H.push (.cells false ty cs)).get A).own = false := by
  have hp := Heap.get_push (H := H) (b := .cells false ty cs) hn
  have hro2 : ∀ A, ((H.push (.cells false ty cs)).get A).own = false := fun A => by
    rw [hp]
    split
    · rfl
    · exact hro A
  have hle : M.le μ (μ.set H.n bi) := M.le_set (hH.dom _ (Nat.le_refl _))
  refine ⟨⟨by show H.n + 1 ≤ PI.lim; omega, fun A hA => ?_, fun A a hl hm => ?_, fun A B a b' hAB hoA => ?_⟩, hro2⟩
  · have hA : H.n + 1 ≤ A := hA
    unfold M.set
    rw [if_neg (by omega)]
    exact hH.dom A (by omega)
  · rw [hp] at hl ⊢
    by_cases hA : A = H.n
    · subst hA
      rw [if_pos rfl]
      rw [M.set_self] at hm
      cases hm
      exact ⟨hc, hb⟩
    · rw [if_neg hA] at hl ⊢
      unfold M.set at hm
      rw [if_neg hA] at hm
      obtain ⟨g1, g2⟩ := hH.blk A a hl hm
      exact ⟨g1, g2.mono hle rfl⟩
  · rw [hro2 A] at hoA
    cases hoA
theorem blk_ro {μ ν : M} {H : Heap} {w : World} (hH : HR μ H w) {a : Nat} {ba : BI} {rw : Bool} {ty : TypeId} {xs : List Int} (hg : H.get a = .cells rw ty (xs.map (AV.int .i64))) (hm : μ a = some ba) :
    ba.c < w.heap.size ∧ BlkR ν w ba (.cells false ty (xs.map (AV.int .i64))) := by
  obtain ⟨g1, g2⟩ := hH.blk a ba (by rw [hg]; rfl) hm
  rw [hg] at g2
  obtain ⟨carr, fz, r1, r2, r3, r4, -, r5⟩ := g2
  exact ⟨g1, carr, fz, r1, r2, r3, vr_ints r4, (fun h => by cases h), r5⟩
/-- A call with two slices of integers that was seen to end with a value. -/
theorem closed_two {P : Program} {C : Ctx} (hC : Ctx.Ok P C) {n : Nat} {f : FuncId} {ty : TypeId} {xs ys : List Int} {v0 v1 : AV} {H1 : Heap} {ks : List Nat} {L : List (TypeId × List AV)}
    (h : call C n f [twoV xs ys] (twoH ty xs ys) = some (v1, H1)) (hc : chkRun ks L v0 v1 H1 = true) : SumR P f (sumO ty xs ys v0 L) := by
  intro us H v H' hS μ args w ha hH
  unfold sumO at hS
  split at hS
  · rename_i v2
    split at hS
    · rename_i hcond
      cases hS
      simp only [Bool.and_eq_true] at hcond
      have hl : H.n + L.length ≤ lim := Nat.le_of_ble_eq_true hcond.2
      have h2 := hcond.1
      unfold rdTwo at h2
      split at h2
      · rename_i a l c b l' c'
        simp only [Bool.and_eq_true, decide_eq_true_eq] at h2
        obtain ⟨⟨⟨rfl, rfl, rfl, rfl⟩, ra⟩, rb⟩ := h2
        obtain ⟨rwa', ga⟩ := rdBlk_is ra
        obtain ⟨rwb', gb⟩ := rdBlk_is rb
        obtain ⟨arg, hargs, hv⟩ : ∃ arg, args.toList = [arg] ∧ VR μ (.agg [.sl a 0 xs.length xs.length, .sl b 0 ys.length ys.length]) arg := by
          generalize args.toList = l at ha
          cases ha with
          | cons q1 q2 => cases q2; exact ⟨_, rfl, q1⟩
        cases hv with
        | @agg _ arr hv =>
        obtain ⟨x1, x2, hx, hv1, hv2⟩ : ∃ x1 x2, arr.toList = [x1, x2] ∧ VR μ (.sl a 0 xs.length xs.length) x1 ∧ VR μ (.sl b 0 ys.length ys.length) x2 := by
          generalize arr.toList = l at hv
          cases hv with
          | cons q1 q2 => cases q2 with
            | cons q3 q4 => cases q4; exact ⟨_, _, rfl, q1, q3⟩
        cases hv1 with
        | @sl _ _ _ _ ba hma =>
        cases hv2 with
        | @sl _ _ _ _ bb hmb =>
        have e0 : HR (fun _ => none) ⟨0, .nil⟩ w := ⟨by simp [PI.lim], fun _ _ => rfl, fun A bi hl hm => (by cases hm), fun A B a b _ _ _ hm => (by cases hm)⟩
        have o0 : ∀ A, ((⟨0, .nil⟩ : Heap).get A).own = false := fun A => by rw [Heap.get_out (Nat.zero_le _)]; rfl
        obtain ⟨e1, o1⟩ := push_ro e0 (by simp [PI.lim]) o0 (blk_ro (ν := M.set (fun _ => none) 0 ba) hH ga hma).1 (blk_ro hH ga hma).2
        obtain ⟨e2, o2⟩ := push_ro e1 (by show 1 < PI.lim; simp [PI.lim]) o1 (blk_ro (ν := M.set (M.set (fun _ => none) 0 ba) 1 bb) hH gb hmb).1 (blk_ro hH gb hmb).2
        have hno : ∀ k, ¬ Own (M.set (M.set (fun _ => none) 0 ba) 1 bb) (twoH ty xs ys) k := fun k => by
          rintro ⟨A, a, hoA, -⟩
          rw [show ((twoH ty xs ys).get A).own = false from o2 A] at hoA
          cases hoA
        have hvs : VRs (M.set (M.set (fun _ => none) 0 ba) 1 bb) [twoV xs ys] args.toList := by
          rw [hargs]
          refine .cons (.agg ?_) .nil
          rw [hx]
          exact .cons (.sl (bi := ba) (by rfl)) (.cons (.sl (bi := bb) (by rfl)) .nil)
        rcases callF_sim hC (sound hC n) h hvs e2 with ⟨u, w', h1, h2⟩ | ⟨h1, h2⟩
        · exact .inl ⟨u, w', h1, frame_val0 hno hH hl h2 hc⟩
        · refine .inr ⟨h1, fun F m hF => (h2 F m hF).mono ?_⟩
          rintro e w' ⟨u, rfl, hE⟩
          exact ⟨u, rfl, frame_val0 hno hH hl hE hc⟩
      · cases h2
    · cases hS
  · cases hS
/-- a run and its pattern, as one closed fact for the kernel -/
def runIs (r : Option (AV × Heap)) (ks : List Nat) (L : List (TypeId × List AV)) (v0 : AV) : Bool :=
  match r with
  | some (v1, H1) => chkRun ks L v0 v1 H1
  | none => false
theorem runIs_some {r : Option (AV × Heap)} {ks : List Nat} {L : List (TypeId × List AV)} {v0 : AV} (h : runIs r ks L v0 = true) : ∃ v1 H1, r = some (v1, H1) ∧ chkRun ks L v0 v1 H1 = true := by
  unfold runIs at h
  split at h
  · exact ⟨_, _, rfl, h⟩
  · cases h
end Go.PI
