/- Own work of the verifier: PvPur2 PvPur3. -/
import Derived.Test.YtdflpkkgjppmgaaGreatChAL
set_option linter.all false
set_option exponentiation.threshold 3000
set_option linter.deprecated false
/- PLAIN VALUES: operations that ask nothing of memory, all of them. -/
namespace Go.PI
def phiK (T : List PV) (hi : Option Operand) (len cap : Nat) (K : Nat → Prop) : Prop :=
  match hi with
  | none => K len
  | some y => popdK T y fun v => match v with
    | .int _ i => (0 ≤ i ∧ i ≤ cap) ∧ K i.toNat
    | _ => False
def bndE (ρ : Operand → Option AV) (x : Option Operand) (d y : Nat) : Option Nat :=
  match x with
  | some h => bound (ρ h) y
  | none => some d
theorem phiK_ok {T : List PV} {hi : Option Operand} {len cap : Nat} {K : Nat → Prop} (h : phiK T hi len cap K) (hlc : len ≤ cap) :
    ∃ n, n ≤ cap ∧ K n ∧ ∀ (H : Heap) (W : Nat → Prop) (β : List Nat) (T' : List AV), (∀ y ∈ hi.toList, TR H W β T T' y) → ∀ cap', cap ≤ cap' → bndE (opd T') hi len cap' = some n := by
  cases hi with
  | none => exact ⟨len, hlc, h, fun _ _ _ _ _ _ _ => rfl⟩
  | some y =>
    obtain ⟨p, h1, h2⟩ := popdK_ok (show popdK T y _ from h)
    split at h2
    · rename_i k i
      refine ⟨i.toNat, by omega, h2.2, fun H W β T' hr cap' hc => ?_⟩
      obtain ⟨a, q1, q2⟩ := pOp_rel h1 (hr y (by simp))
      have := q2.int_inv
      subst this
      simp only [bndE, bound, q1]
      rw [if_pos ⟨h2.1.1, by omega⟩]
    · exact h2.elim
def pidxK (ei : TI) (a n : PV) (K : PV → Prop) : Prop :=
  match n with
  | .int _ m => match a with
    | .lst l cs => ((0 ≤ m ∧ m < l) ∧ m.toNat * ei.size ≤ cs.length) ∧ K (.lptr (cs.drop (m.toNat * ei.size)))
    | .own j o l _ _ => (0 ≤ m ∧ m < l) ∧ K (.optr j (o + m.toNat * ei.size))
    | .ownu j l _ => (0 ≤ m ∧ m < l) ∧ K (.optr j (0 + m.toNat * ei.size))
    | .ownq j o l _ => (0 ≤ m ∧ m < l) ∧ K (.optr j (o + m.toNat * ei.size))
    | _ => False
  | _ => False
def paidxK (ei : TI) (l : Nat) (a n : PV) (K : PV → Prop) : Prop :=
  match n with
  | .int _ m => match a with
    | .lptr cs => ((0 ≤ m ∧ m < l) ∧ m.toNat * ei.size ≤ cs.length) ∧ K (.lptr (cs.drop (m.toNat * ei.size)))
    | .bptr cs => ((0 ≤ m ∧ m < l) ∧ m.toNat * ei.size ≤ cs.length) ∧ K (.bptr (cs.drop (m.toNat * ei.size)))
    | .optr j o => (0 ≤ m ∧ m < l) ∧ K (.optr j (o + m.toNat * ei.size))
    | _ => False
  | _ => False
def pslK (T : List PV) (ei : TI) (a : PV) (lo hi : Option Operand) (K : PV → Prop) : Prop :=
  match a with
  | .nils => phiK T hi 0 0 fun h => phiK T lo 0 h fun _ => K .nils
  | .lst n cs => cs.length = n * ei.size ∧ phiK T hi n n fun h => phiK T lo 0 h fun l => (h - l = 0 → ei.size = 1) ∧ ∃ cs', (cs.drop (l * ei.size)).take ((h - l) * ei.size) = cs' ∧ K (.lst (h - l) cs')
  | .own j o n c e => n ≤ c ∧ phiK T hi n c fun h => phiK T lo 0 h fun l => ∃ o', (if c = l then o else o + l * ei.size) = o' ∧ K (.own j o' (h - l) (c - l) e)
  | .ownu j n e => match lo with
    | none => phiK T hi n n fun h => K (.ownu j h e)
    | some _ => e = ei.size ∧ phiK T hi n n fun h => phiK T lo 0 h fun l => K (.ownq j (0 + l * ei.size) (h - l) e)
  | .ownq j o n e => e = ei.size ∧ phiK T hi n n fun h => phiK T lo 0 h fun l => K (.ownq j (o + l * ei.size) (h - l) e)
  | _ => False
def paslK (T : List PV) (ei : TI) (n : Nat) (a : PV) (lo hi : Option Operand) (K : PV → Prop) : Prop :=
  match a with
  | .optr j o => phiK T hi n n fun h => phiK T lo 0 h fun l => ∃ o', (if n = l then o else o + l * ei.size) = o' ∧ K (.own j o' (h - l) (n - l) ei.size)
  | .lptr cs => n * ei.size ≤ cs.length ∧ phiK T hi n n fun h => phiK T lo 0 h fun l => ∃ cs', (cs.drop (l * ei.size)).take ((h - l) * ei.size) = cs' ∧ K (.lst (h - l) cs')
  | _ => False
def pbuiltK (C : Ctx) (b : Builtin) (ts : List TypeId) (ps : List PV) (K : PV → Prop) : Prop :=
  match b with
  | .len => match ts, ps with
    | t :: _, x :: _ => match C.ty t with
      | some { desc := .string, .. } => match x with
        | .str s => K (.int .i64 s.size)
        | _ => False
      | some { desc := .slice _, .. } => match x with
        | .nils => K (.int .i64 0)
        | .lst n _ => K (.int .i64 n)
        | .own _ _ n _ _ => K (.int .i64 n)
        | .ownu _ n _ => K (.int .i64 n)
        | .ownq _ _ n _ => K (.int .i64 n)
        | _ => False
      | some { desc := .array n _, .. } => K (.int .i64 n)
      | _ => False
    | _, _ => False
  | .cap => match ts, ps with
    | t :: _, x :: _ => match C.ty t with
      | some { desc := .slice _, .. } => match x with
        | .nils => K (.int .i64 0)
        | .own _ _ _ cp _ => K (.int .i64 cp)
        | _ => False
      | _ => False
    | _, _ => False
  | .max => match ps with
    | [.int .i64 m, .int .i64 n] => K (.int .i64 (max m n))
    | _ => False
  | .min => match ps with
    | [.int .i64 m, .int .i64 n] => K (.int .i64 (min m n))
    | _ => False
  | _ => False
def purK (C : Ctx) (T : List PV) (op : Op) (K : PV → Prop) : Prop :=
  match op with
  | .move x => popdK T x K
  | .assign x => popdK T x K
  | .pick c a b => popdK T c fun c => match c with
    | .bool true => popdK T a K
    | .bool false => popdK T b K
    | _ => False
  | .binOp op t x y _ => popdK T x fun a => popdK T y fun b => pbinK C op t a b (toPK K)
  | .unOp .neg _ x => popdK T x fun a => match a with
    | .int .i64 n => In64 (0 - n) ∧ K (.int .i64 (0 - n))
    | _ => False
  | .unOp .not _ x => popdK T x fun a => match a with
    | .bool true => K (.bool false)
    | .bool false => K (.bool true)
    | _ => False
  | .extract t i => popdK T t fun a => match a with
    | .tup vs => match decide (i < vs.length) with
      | true => pgetK vs i K
      | false => False
    | _ => False
  | .nilCheck x => popdK T x fun a => match a with
    | .optr i o => K (.optr i o)
    | .lptr cs => K (.lptr cs)
    | .bptr cs => K (.bptr cs)
    | .fn f => K (.fn f)
    | _ => False
  | .convert s d x => popdK T x fun a => match C.ty s, C.ty d with
    | some _, some { desc := .int k, .. } => match a with
      | .int _ n => K (.int k (k.wrap n))
      | _ => False
    | some _, some { desc := .string, .. } => match a with
      | .str s => K (.str s)
      | _ => False
    | _, _ => False
  | .fieldAddr s x f => popdK T x fun a => match C.ty s with
    | some { desc := .struct fs, .. } => match fs[f]? with
      | some fd => match C.ty fd.type with
        | some i => match decide (i.size = 0) with
          | true => False
          | false => match a with
            | .optr j o => K (.optr j (o + fd.offset))
            | .lptr cs => fd.offset ≤ cs.length ∧ K (.lptr (cs.drop fd.offset))
            | .bptr cs => fd.offset ≤ cs.length ∧ K (.bptr (cs.drop fd.offset))
            | _ => False
        | none => False
      | none => False
    | _ => False
  | .field t x f => popdK T x fun a => match C.ty t with
    | some { desc := .struct fs, .. } => match fs[f]? with
      | some fd => match C.ty fd.type with
        | some i => match a with
          | .agg cs => ∃ r, partP i cs fd.offset = some r ∧ K r
          | _ => False
        | none => False
      | none => False
    | _ => False
  | .indexAddr t x i => popdK T x fun a => popdK T i fun n => match C.ty t with
    | some { desc := .slice e, .. } => match C.ty e with
      | some ei => pidxK ei a n K
      | none => False
    | some { desc := .array l e, .. } => match C.ty e with
      | some ei => paidxK ei l a n K
      | none => False
    | _ => False
  | .index t x i => popdK T x fun a => popdK T i fun n => match C.ty t with
    | some { desc := .array l e, .. } => match C.ty e with
      | some ei => match a, n with
        | .agg cs, .int _ m => (0 ≤ m ∧ m < l) ∧ ∃ r, partP ei cs (m.toNat * ei.size) = some r ∧ K r
        | _, _ => False
      | none => False
    | some { desc := .string, .. } => match a, n with
      | .str s, .int _ m => 0 ≤ m ∧ ∃ b, s[m.toNat]? = some b ∧ K (.int .u8 b.toNat)
      | _, _ => False
    | _ => False
  | .slice t x lo hi none => popdK T x fun a => match C.ty t with
    | some { desc := .string, .. } => match a with
      | .str s => phiK T hi s.size s.size fun h => phiK T lo 0 h fun l => K (.str (s.extract l h))
      | _ => False
    | some { desc := .slice e, .. } => match C.ty e with
      | some ei => pslK T ei a lo hi K
      | none => False
    | some { desc := .array n e, .. } => match C.ty e with
      | some ei => paslK T ei n a lo hi K
      | none => False
    | _ => False
  | .makeFunc (.func f) first captured => match first.toList, captured.toList with
    | [], [] => K (.fn f)
    | [], xs => popdsK T xs fun cs => K (.fnc f cs)
    | _, _ => False
  | .call { callee := .builtin b, args, argTypes } => popdsK T args.toList fun ps => pbuiltK C b argTypes.toList ps K
  | _ => False
section
variable {C : Ctx} {H : Heap} {W : Nat → Prop} {β : List Nat}
theorem drop_rel {R : PV → AV → Prop} {cs : List PV} {bcs : List AV} {o k : Nat} (hk : k ≤ cs.length) (h : All2 R cs ((bcs.drop o).take cs.length)) : All2 R (cs.drop k) ((bcs.drop (o + k)).take (cs.drop k).length) := by
  have := h.drop k
  rw [List.drop_take, List.drop_drop] at this
  rw [List.length_drop]
  exact this
theorem take_rel {R : PV → AV → Prop} {cs : List PV} {bcs : List AV} {o k : Nat} (h : All2 R cs ((bcs.drop o).take cs.length)) : All2 R (cs.take k) ((bcs.drop o).take (cs.take k).length) := by
  have := h.take k
  rw [List.take_take] at this
  rw [List.length_take]
  exact this
theorem pidx_ok {t e : TypeId} {ti ei : TI} {a n : PV} {K : PV → Prop} (ht : C.ty t = some ti) (hd : ti.desc = .slice e) (he : C.ty e = some ei) (h : pidxK ei a n K) :
    ∃ r, K r ∧ ∀ (H : Heap) (W : Nat → Prop) (β : List Nat) (a' n' : AV) (ρ : Operand → Option AV) (x i : Operand), ρ x = some a' → ρ i = some n' → RelV H W β a a' → RelV H W β n n' → ∃ v, pureE C ρ (.indexAddr t x i) = some v ∧ RelV H W β r v := by
  obtain ⟨desc, sz, by', z⟩ := ti
  simp only at hd
  subst hd
  unfold pidxK at h
  split at h
  · rename_i k m
    split at h
    · rename_i l cs
      obtain ⟨⟨h1, h2⟩, h3⟩ := h
      refine ⟨_, h3, fun H W β a' n' ρ x i hx hi ra rn => ?_⟩
      have := rn.int_inv
      subst this
      have hra := ra.lst_inv
      cases hra with
      | lnil => simp at h1; omega
      | lsle => simp at h1; omega
      | sl q1 q2 q3 q4 q5 =>
        refine ⟨_, by simp only [pureE, ht, hx, hi, he]; rw [if_pos h1], .clo (.lptr q1 q2 ?_ (drop_rel h2 q5))⟩
        simp; omega
      | slu q1 q2 q3 q4 q5 =>
        refine ⟨_, by simp only [pureE, ht, hx, hi, he]; rw [if_pos h1], .clo (.lptr q1 q2 ?_ (drop_rel h2 q5))⟩
        simp; omega
    · refine ⟨_, h.2, fun H W β a' n' ρ x i hx hi ra rn => ?_⟩
      have := rn.int_inv
      subst this
      obtain ⟨b, hb, rfl⟩ := ra.own_inv
      exact ⟨_, by simp only [pureE, ht, hx, hi, he]; rw [if_pos h.1], .optr _ hb⟩
    · refine ⟨_, h.2, fun H W β a' n' ρ x i hx hi ra rn => ?_⟩
      have := rn.int_inv
      subst this
      obtain ⟨b, hb, rfl⟩ := ra.ownu_inv
      exact ⟨_, by simp only [pureE, ht, hx, hi, he]; rw [if_pos h.1], .optr _ hb⟩
    · refine ⟨_, h.2, fun H W β a' n' ρ x i hx hi ra rn => ?_⟩
      have := rn.int_inv
      subst this
      obtain ⟨b, hb, rfl⟩ := ra.ownq_inv
      exact ⟨_, by simp only [pureE, ht, hx, hi, he]; rw [if_pos h.1], .optr _ hb⟩
    · exact h.elim
  · exact h.elim
theorem paidx_ok {t e : TypeId} {l : Nat} {ti ei : TI} {a n : PV} {K : PV → Prop} (ht : C.ty t = some ti) (hd : ti.desc = .array l e) (he : C.ty e = some ei) (h : paidxK ei l a n K) :
    ∃ r, K r ∧ ∀ (H : Heap) (W : Nat → Prop) (β : List Nat) (a' n' : AV) (ρ : Operand → Option AV) (x i : Operand), ρ x = some a' → ρ i = some n' → RelV H W β a a' → RelV H W β n n' → ∃ v, pureE C ρ (.indexAddr t x i) = some v ∧ RelV H W β r v := by
  obtain ⟨desc, sz, by', z⟩ := ti
  simp only at hd
  subst hd
  unfold paidxK at h
  split at h
  · rename_i k m
    split at h
    · rename_i cs
      obtain ⟨⟨h1, h2⟩, h3⟩ := h
      refine ⟨_, h3, fun H W β a' n' ρ x i hx hi ra rn => ?_⟩
      have := rn.int_inv
      subst this
      obtain ⟨b, o, _, _, _, rfl, q1, q2, q3, q4⟩ := ra.lptr_inv
      refine ⟨_, by simp only [pureE, ht, hx, hi, he]; rw [if_pos h1], .clo (.lptr q1 q2 ?_ (drop_rel h2 q4))⟩
      simp; omega
    · rename_i cs
      obtain ⟨⟨h1, h2⟩, h3⟩ := h
      refine ⟨_, h3, fun H W β a' n' ρ x i hx hi ra rn => ?_⟩
      have := rn.int_inv
      subst this
      obtain ⟨b, o, _, _, _, rfl, q1, q2, q3, q4⟩ := ra.bptr_inv
      refine ⟨_, by simp only [pureE, ht, hx, hi, he]; rw [if_pos h1], .bptr q1 q2 ?_ (drop_rel h2 q4)⟩
      simp; omega
    · refine ⟨_, h.2, fun H W β a' n' ρ x i hx hi ra rn => ?_⟩
      have := rn.int_inv
      subst this
      obtain ⟨b, hb, rfl⟩ := ra.optr_inv
      exact ⟨_, by simp only [pureE, ht, hx, hi, he]; rw [if_pos h.1], .optr _ hb⟩
    · exact h.elim
  · exact h.elim
section
variable {t e : TypeId} {sz by' : Nat} {z : AV} {ei : TI} {ρ : Operand → Option AV} {x : Operand} {lo hi : Option Operand}
theorem slice_sl {b o len cap : Nat} (ht : C.ty t = some { desc := .slice e, size := sz, bytes := by', zero := z }) (he : C.ty e = some ei) (hx : ρ x = some (.sl b o len cap)) {h l : Nat} (e1 : bndE ρ hi len cap = some h) (e2 : bndE ρ lo 0 h = some l) :
    pureE C ρ (.slice t x lo hi none) = some (.sl b (if cap = l then o else o + l * ei.size) (h - l) (cap - l)) := by
  cases hi <;> cases lo <;> simp only [bndE] at e1 e2 <;> simp only [pureE, ht, hx, he, e1, e2] <;> (try cases e1) <;> (try cases e2) <;> first | rfl | (simp only [e1, e2]; done) | (simp only [e2]; done) | (simp [e1, e2]; done) | (simp [e2]; done) | (simp; done)
theorem slice_slu {b o len esz : Nat} (ht : C.ty t = some { desc := .slice e, size := sz, bytes := by', zero := z }) (he : C.ty e = some ei) (hx : ρ x = some (.slu b o len esz)) {h l : Nat} (e1 : bndE ρ hi len len = some h) (e2 : bndE ρ lo 0 h = some l) :
    pureE C ρ (.slice t x lo hi none) = if esz = ei.size then some (.slu b (o + l * ei.size) (h - l) esz) else if h = l ∧ 0 < l then some .sle else if l = 0 then some (.slu b o h esz) else none := by
  cases hi <;> cases lo <;> simp only [bndE] at e1 e2 <;> simp only [pureE, ht, hx, he, e1, e2] <;> (try cases e1) <;> (try cases e2) <;> first | rfl | (simp only [e1, e2]; done) | (simp only [e2]; done) | (simp [e1, e2]; done) | (simp [e2]; done) | (simp; done)
theorem slice_nils (ht : C.ty t = some { desc := .slice e, size := sz, bytes := by', zero := z }) (he : C.ty e = some ei) (hx : ρ x = some .nils) {h l : Nat} (e1 : bndE ρ hi 0 0 = some h) (e2 : bndE ρ lo 0 h = some l) :
    pureE C ρ (.slice t x lo hi none) = some .nils := by
  cases hi <;> cases lo <;> simp only [bndE] at e1 e2 <;> simp only [pureE, ht, hx, he, e1, e2] <;> (try cases e1) <;> (try cases e2) <;> first | rfl | (simp only [e1, e2]; done) | (simp only [e2]; done) | (simp [e1, e2]; done) | (simp [e2]; done) | (simp; done)
theorem slice_sle (ht : C.ty t = some { desc := .slice e, size := sz, bytes := by', zero := z }) (he : C.ty e = some ei) (hx : ρ x = some .sle) {h l : Nat} (e1 : bndE ρ hi 0 0 = some h) (e2 : bndE ρ lo 0 h = some l) :
    pureE C ρ (.slice t x lo hi none) = some .sle := by
  cases hi <;> cases lo <;> simp only [bndE] at e1 e2 <;> simp only [pureE, ht, hx, he, e1, e2] <;> (try cases e1) <;> (try cases e2) <;> first | rfl | (simp only [e1, e2]; done) | (simp only [e2]; done) | (simp [e1, e2]; done) | (simp [e2]; done) | (simp; done)
theorem slice_arr {b o n : Nat} (ht : C.ty t = some { desc := .array n e, size := sz, bytes := by', zero := z }) (he : C.ty e = some ei) (hx : ρ x = some (.ptr b o)) {h l : Nat} (e1 : bndE ρ hi n n = some h) (e2 : bndE ρ lo 0 h = some l) :
    pureE C ρ (.slice t x lo hi none) = some (.sl b (if n = l then o else o + l * ei.size) (h - l) (n - l)) := by
  cases hi <;> cases lo <;> simp only [bndE] at e1 e2 <;> simp only [pureE, ht, hx, he, e1, e2] <;> (try cases e1) <;> (try cases e2) <;> first | rfl | (simp only [e1, e2]; done) | (simp only [e2]; done) | (simp [e1, e2]; done) | (simp [e2]; done) | (simp; done)
theorem slice_str {s : ByteArray} (ht : C.ty t = some { desc := .string, size := sz, bytes := by', zero := z }) (hx : ρ x = some (.str s)) {h l : Nat} (e1 : bndE ρ hi s.size s.size = some h) (e2 : bndE ρ lo 0 h = some l) :
    pureE C ρ (.slice t x lo hi none) = some (.str (s.extract l h)) := by
  cases hi <;> cases lo <;> simp only [bndE] at e1 e2 <;> simp only [pureE, ht, hx, e1, e2] <;> (try cases e1) <;> (try cases e2) <;> first | rfl | (simp only [e1, e2]; done) | (simp only [e2]; done) | (simp [e1, e2]; done) | (simp [e2]; done) | (simp; done)
end
theorem psl_ok {t e : TypeId} {T : List PV} {ti ei : TI} {a : PV} {lo hi : Option Operand} {K : PV → Prop} (ht : C.ty t = some ti) (hd : ti.desc = .slice e) (he : C.ty e = some ei) (h : pslK T ei a lo hi K) :
    ∃ r, K r ∧ ∀ (H : Heap) (W : Nat → Prop) (β : List Nat) (a' : AV) (T' : List AV) (x : Operand), opd T' x = some a' → (∀ y ∈ lo.toList ++ hi.toList, TR H W β T T' y) → RelV H W β a a' → ∃ v, pureE C (opd T') (.slice t x lo hi none) = some v ∧ RelV H W β r v := by
  obtain ⟨desc, sz, by', z⟩ := ti
  simp only at hd
  subst hd
  unfold pslK at h
  split at h
  · obtain ⟨h1, l1, h2, g1⟩ := phiK_ok h (Nat.le_refl _)
    obtain ⟨h3, l2, h4, g2⟩ := phiK_ok h2 (Nat.zero_le _)
    refine ⟨_, h4, fun H W β a' T' x hx hr ra => ?_⟩
    have := ra.nils_inv
    subst this
    have e1 := g1 H W β T' (fun y hy => hr y (by simp at hy ⊢; exact .inr hy)) 0 (Nat.le_refl _)
    have e2 := g2 H W β T' (fun y hy => hr y (by simp at hy ⊢; exact .inl hy)) h1 (Nat.le_refl _)
    exact ⟨.nils, slice_nils ht he hx e1 e2, .nils⟩
  · rename_i n cs
    obtain ⟨hl, h⟩ := h
    obtain ⟨h1, l1, h2, g1⟩ := phiK_ok h (Nat.le_refl _)
    obtain ⟨h3, l2, h4, g2⟩ := phiK_ok h2 (Nat.zero_le _)
    obtain ⟨hz1, cs', rfl, h5⟩ := h4
    refine ⟨_, h5, fun H W β a' T' x hx hr ra => ?_⟩
    have e1 := fun cap' hc => g1 H W β T' (fun y hy => hr y (by simp at hy ⊢; exact .inr hy)) cap' hc
    have e2 := g2 H W β T' (fun y hy => hr y (by simp at hy ⊢; exact .inl hy)) h1 (Nat.le_refl _)
    have m1 : h3 * ei.size + (h1 - h3) * ei.size = h1 * ei.size := by rw [← Nat.add_mul]; congr 1; omega
    have m2 : h1 * ei.size ≤ n * ei.size := Nat.mul_le_mul_right _ l1
    have hlen : ((cs.drop (h3 * ei.size)).take ((h1 - h3) * ei.size)).length = (h1 - h3) * ei.size := by simp; omega
    have hra := ra.lst_inv
    cases hra with
    | lnil =>
      have z1 : h1 = 0 := by omega
      have z3 : h3 = 0 := by omega
      subst z1; subst z3
      refine ⟨.nils, ?_, ?_⟩
      · exact slice_nils ht he hx (e1 0 (Nat.le_refl _)) e2
      · simp; exact .clo .lnil
    | lsle =>
      have z1 : h1 = 0 := by omega
      have z3 : h3 = 0 := by omega
      subst z1; subst z3
      refine ⟨.sle, ?_, ?_⟩
      · exact slice_sle ht he hx (e1 0 (Nat.le_refl _)) e2
      · simp; exact .clo .lsle
    | @sl _ _ b o c _ _ bcs q1 q2 q3 q4 q5 =>
      refine ⟨_, slice_sl ht he hx (e1 c q4) e2, .clo ?_⟩
      have hk : h3 * ei.size ≤ cs.length := by omega
      by_cases hc : c = h3
      · rw [if_pos hc]
        have z : h1 = h3 := by omega
        subst z
        refine .sl q1 q2 ?_ (by omega) ?_
        · rw [hlen]; simp; omega
        · simp; exact .nil
      · rw [if_neg hc]
        refine .sl q1 q2 ?_ (by omega) (take_rel (drop_rel hk q5))
        rw [hlen]; omega
    | @slu _ _ b o ez _ _ bcs q1 q2 q3 q4 q5 =>
      have hk : h3 * ei.size ≤ cs.length := by omega
      have hz : 0 < n → ez = ei.size := fun hn => by
        have : n * ez = n * ei.size := by have := q4.1; omega
        exact Nat.eq_of_mul_eq_mul_left hn this
      by_cases hez : ez = ei.size
      · refine ⟨_, by rw [slice_slu ht he hx (e1 n (Nat.le_refl _)) e2, if_pos hez], .clo (.slu q1 q2 ?_ ?_ (take_rel (drop_rel hk q5)))⟩
        · rw [hlen]; omega
        · exact ⟨by rw [hlen, hez], fun h0 => by rw [hez]; exact hz1 h0⟩
      · have hn0 : n = 0 := by
          rcases Nat.eq_zero_or_pos n with h | h
          · exact h
          · exact absurd (hz h) hez
        have z0 : h1 = 0 := by omega
        have z3 : h3 = 0 := by omega
        subst z0; subst z3
        refine ⟨.slu b o 0 ez, by rw [slice_slu ht he hx (e1 n (Nat.le_refl _)) e2, if_neg hez, if_neg (by omega), if_pos rfl], .clo (.slu q1 q2 ?_ ?_ ?_)⟩
        · simp; omega
        · exact ⟨by simp, fun _ => q4.2 hn0⟩
        · simp; exact .nil
  · rename_i j o n c e'
    obtain ⟨hl, h⟩ := h
    obtain ⟨h1, l1, h2, g1⟩ := phiK_ok h hl
    obtain ⟨h3, l2, h4, g2⟩ := phiK_ok h2 (Nat.zero_le _)
    obtain ⟨o', rfl, h5⟩ := h4
    refine ⟨_, h5, fun H W β a' T' x hx hr ra => ?_⟩
    have e1 := g1 H W β T' (fun y hy => hr y (by simp at hy ⊢; exact .inr hy)) c (Nat.le_refl _)
    have e2 := g2 H W β T' (fun y hy => hr y (by simp at hy ⊢; exact .inl hy)) h1 (Nat.le_refl _)
    obtain ⟨b, hb, rfl⟩ := ra.own_inv
    exact ⟨_, slice_sl ht he hx e1 e2, .own _ _ _ _ hb⟩
  · rename_i j n e'
    split at h
    · obtain ⟨h1, l1, h2, g1⟩ := phiK_ok h (Nat.le_refl _)
      refine ⟨_, h2, fun H W β a' T' x hx hr ra => ?_⟩
      have e1 := g1 H W β T' (fun y hy => hr y (by simp at hy ⊢; exact hy)) n (Nat.le_refl _)
      obtain ⟨b, hb, rfl⟩ := ra.ownu_inv
      refine ⟨.slu b 0 h1 e', ?_, .ownu _ _ hb⟩
      rw [slice_slu (lo := none) ht he hx e1 rfl]
      simp
    · obtain ⟨rfl, h⟩ := h
      obtain ⟨h1, l1, h2, g1⟩ := phiK_ok h (Nat.le_refl _)
      obtain ⟨h3, l2, h4, g2⟩ := phiK_ok h2 (Nat.zero_le _)
      refine ⟨_, h4, fun H W β a' T' x hx hr ra => ?_⟩
      have e1 := g1 H W β T' (fun y hy => hr y (List.mem_append.2 (.inr hy))) n (Nat.le_refl _)
      have e2 := g2 H W β T' (fun y hy => hr y (List.mem_append.2 (.inl hy))) h1 (Nat.le_refl _)
      obtain ⟨b, hb, rfl⟩ := ra.ownu_inv
      exact ⟨_, by rw [slice_slu ht he hx e1 e2, if_pos rfl], .ownq _ _ _ hb⟩
  · rename_i j o n e'
    obtain ⟨rfl, h⟩ := h
    obtain ⟨h1, l1, h2, g1⟩ := phiK_ok h (Nat.le_refl _)
    obtain ⟨h3, l2, h4, g2⟩ := phiK_ok h2 (Nat.zero_le _)
    refine ⟨_, h4, fun H W β a' T' x hx hr ra => ?_⟩
    have e1 := g1 H W β T' (fun y hy => hr y (List.mem_append.2 (.inr hy))) n (Nat.le_refl _)
    have e2 := g2 H W β T' (fun y hy => hr y (List.mem_append.2 (.inl hy))) h1 (Nat.le_refl _)
    obtain ⟨b, hb, rfl⟩ := ra.ownq_inv
    exact ⟨_, by rw [slice_slu ht he hx e1 e2, if_pos rfl], .ownq _ _ _ hb⟩
  · exact h.elim
theorem pasl_ok {t e : TypeId} {n : Nat} {T : List PV} {ti ei : TI} {a : PV} {lo hi : Option Operand} {K : PV → Prop} (ht : C.ty t = some ti) (hd : ti.desc = .array n e) (he : C.ty e = some ei) (h : paslK T ei n a lo hi K) :
    ∃ r, K r ∧ ∀ (H : Heap) (W : Nat → Prop) (β : List Nat) (a' : AV) (T' : List AV) (x : Operand), opd T' x = some a' → (∀ y ∈ lo.toList ++ hi.toList, TR H W β T T' y) → RelV H W β a a' → ∃ v, pureE C (opd T') (.slice t x lo hi none) = some v ∧ RelV H W β r v := by
  obtain ⟨desc, sz, by', z⟩ := ti
  simp only at hd
  subst hd
  unfold paslK at h
  split at h
  · obtain ⟨h1, l1, h2, g1⟩ := phiK_ok h (Nat.le_refl _)
    obtain ⟨h3, l2, h4, g2⟩ := phiK_ok h2 (Nat.zero_le _)
    obtain ⟨o', rfl, h5⟩ := h4
    refine ⟨_, h5, fun H W β a' T' x hx hr ra => ?_⟩
    have e1 := g1 H W β T' (fun y hy => hr y (by simp at hy ⊢; exact .inr hy)) n (Nat.le_refl _)
    have e2 := g2 H W β T' (fun y hy => hr y (by simp at hy ⊢; exact .inl hy)) h1 (Nat.le_refl _)
    obtain ⟨b, hb, rfl⟩ := ra.optr_inv
    exact ⟨_, slice_arr ht he hx e1 e2, .own _ _ _ _ hb⟩
  · rename_i cs
    obtain ⟨hl, h⟩ := h
    obtain ⟨h1, l1, h2, g1⟩ := phiK_ok h (Nat.le_refl _)
    obtain ⟨h3, l2, h4, g2⟩ := phiK_ok h2 (Nat.zero_le _)
    obtain ⟨cs', rfl, h5⟩ := h4
    refine ⟨_, h5, fun H W β a' T' x hx hr ra => ?_⟩
    have e1 := g1 H W β T' (fun y hy => hr y (by simp at hy ⊢; exact .inr hy)) n (Nat.le_refl _)
    have e2 := g2 H W β T' (fun y hy => hr y (by simp at hy ⊢; exact .inl hy)) h1 (Nat.le_refl _)
    have m1 : h3 * ei.size + (h1 - h3) * ei.size = h1 * ei.size := by rw [← Nat.add_mul]; congr 1; omega
    have m2 : h1 * ei.size ≤ n * ei.size := Nat.mul_le_mul_right _ l1
    have hlen : ((cs.drop (h3 * ei.size)).take ((h1 - h3) * ei.size)).length = (h1 - h3) * ei.size := by simp; omega
    obtain ⟨b, o, _, _, _, rfl, q1, q2, q3, q5⟩ := ra.lptr_inv
    refine ⟨_, slice_arr ht he hx e1 e2, .clo ?_⟩
    have hk : h3 * ei.size ≤ cs.length := by omega
    by_cases hc : n = h3
    · rw [if_pos hc]
      have z : h1 = h3 := by omega
      subst z
      refine .sl q1 q2 ?_ (by omega) ?_
      · rw [hlen]; simp; omega
      · simp; exact .nil
    · rw [if_neg hc]
      refine .sl q1 q2 ?_ (by omega) (take_rel (drop_rel hk q5))
      rw [hlen]; omega
  · exact h.elim
end
end Go.PI
/- PLAIN VALUES: what is computed of plain values is what is computed of what they stand for. -/
namespace Go.PI
variable {C : Ctx}
def PurO (C : Ctx) (T : List PV) (op : Op) (K : PV → Prop) : Prop :=
  ∃ r, K r ∧ ∀ (H : Heap) (W : Nat → Prop) (β : List Nat) (T' : List AV), (∀ x ∈ op.operands.toList, TR H W β T T' x) → ∃ v, pureE C (opd T') op = some v ∧ RelV H W β r v
theorem len_built {t : TypeId} {ts : List TypeId} {p : PV} {ps : List PV} {K : PV → Prop} (h : pbuiltK C .len (t :: ts) (p :: ps) K) : ∃ r, K r ∧ ∀ (H : Heap) (W : Nat → Prop) (β : List Nat) (as : List AV), All2 (RelV H W β) (p :: ps) as → ∃ v, builtinP C .len (t :: ts) as = some v ∧ RelV H W β r v := by
  unfold pbuiltK at h
  simp only at h
  split at h
  · rename_i ht
    split at h
    · refine ⟨_, h, fun H W β as ha => ?_⟩
      cases ha with
      | cons h1 _ =>
        have := h1.str_inv
        subst this
        exact ⟨_, by simp only [builtinP, ht], .clo (.int _ _)⟩
    · exact h.elim
  · rename_i ht
    split at h
    · refine ⟨_, h, fun H W β as ha => ?_⟩
      cases ha with
      | cons h1 _ =>
        have := h1.nils_inv
        subst this
        exact ⟨_, by simp only [builtinP, ht], .clo (.int _ _)⟩
    · rename_i n cs
      refine ⟨_, h, fun H W β as ha => ?_⟩
      cases ha with
      | cons h1 _ =>
        have hl := h1.lst_inv
        cases hl with
        | lnil => exact ⟨_, by simp only [builtinP, ht]; rfl, .clo (.int _ _)⟩
        | lsle => exact ⟨_, by simp only [builtinP, ht]; rfl, .clo (.int _ _)⟩
        | sl => exact ⟨_, by simp only [builtinP, ht], .clo (.int _ _)⟩
        | slu => exact ⟨_, by simp only [builtinP, ht], .clo (.int _ _)⟩
    · refine ⟨_, h, fun H W β as ha => ?_⟩
      cases ha with
      | cons h1 _ =>
        obtain ⟨b, -, rfl⟩ := h1.own_inv
        exact ⟨_, by simp only [builtinP, ht], .clo (.int _ _)⟩
    · refine ⟨_, h, fun H W β as ha => ?_⟩
      cases ha with
      | cons h1 _ =>
        obtain ⟨b, -, rfl⟩ := h1.ownu_inv
        exact ⟨_, by simp only [builtinP, ht], .clo (.int _ _)⟩
    · refine ⟨_, h, fun H W β as ha => ?_⟩
      cases ha with
      | cons h1 _ =>
        obtain ⟨b, -, rfl⟩ := h1.ownq_inv
        exact ⟨_, by simp only [builtinP, ht], .clo (.int _ _)⟩
    · exact h.elim
  · rename_i ht
    refine ⟨_, h, fun H W β as ha => ?_⟩
    cases ha with
    | cons h1 _ => exact ⟨_, by simp only [builtinP, ht], .clo (.int _ _)⟩
  · exact h.elim
theorem len_notmap {ts : List TypeId} {ps : List PV} {K : PV → Prop} (h : pbuiltK C .len ts ps K) : isMap C ts = false := by
  unfold isMap
  split
  · rename_i t
    split
    · rename_i ht
      cases ps with
      | nil => exact h.elim
      | cons p ps =>
        unfold pbuiltK at h
        simp only [ht] at h
    · rfl
  · rfl
theorem built_ok {b : Builtin} {ts : List TypeId} {ps : List PV} {K : PV → Prop} (h : pbuiltK C b ts ps K) : (b = .len ∨ b = .max ∨ b = .min ∨ b = .cap) ∧ ∃ r, K r ∧ ∀ (H : Heap) (W : Nat → Prop) (β : List Nat) (as : List AV), All2 (RelV H W β) ps as → ∃ v, builtinP C b ts as = some v ∧ RelV H W β r v := by
  cases b with
  | len =>
    cases ts with
    | nil => exact h.elim
    | cons t ts => cases ps with
      | nil => exact h.elim
      | cons p ps => exact ⟨.inl rfl, len_built h⟩
  | max =>
    simp only [pbuiltK] at h
    split at h
    · rename_i m n
      refine ⟨.inr (.inl rfl), _, h, fun H W β as ha => ?_⟩
      cases ha with
      | cons h1 h2 => cases h2 with
        | cons h2 h3 => cases h3 with
          | nil =>
            have := h1.int_inv
            subst this
            have := h2.int_inv
            subst this
            refine ⟨.int .i64 (max m n), ?_, .clo (.int _ _)⟩
            have e : (if n > m then n else m) = max m n := by split <;> omega
            simp [builtinP, foldMinMax, e]
    · exact h.elim
  | min =>
    simp only [pbuiltK] at h
    split at h
    · rename_i m n
      refine ⟨.inr (.inr (.inl rfl)), _, h, fun H W β as ha => ?_⟩
      cases ha with
      | cons h1 h2 => cases h2 with
        | cons h2 h3 => cases h3 with
          | nil =>
            have := h1.int_inv
            subst this
            have := h2.int_inv
            subst this
            refine ⟨.int .i64 (min m n), ?_, .clo (.int _ _)⟩
            have e : (if n < m then n else m) = min m n := by split <;> omega
            simp [builtinP, foldMinMax, e]
    · exact h.elim
  | cap =>
    cases ts with
    | nil => exact h.elim
    | cons t ts => cases ps with
      | nil => exact h.elim
      | cons p ps =>
        simp only [pbuiltK] at h
        split at h
        · rename_i ht
          split at h
          · refine ⟨.inr (.inr (.inr rfl)), _, h, fun H W β as ha => ?_⟩
            cases ha with
            | cons h1 _ =>
              have := h1.nils_inv
              subst this
              exact ⟨_, by simp only [builtinP, ht], .clo (.int _ _)⟩
          · refine ⟨.inr (.inr (.inr rfl)), _, h, fun H W β as ha => ?_⟩
            cases ha with
            | cons h1 _ =>
              obtain ⟨b, hb, rfl⟩ := h1.own_inv
              exact ⟨_, by simp only [builtinP, ht], .clo (.int _ _)⟩
          · exact h.elim
        · exact h.elim
  | _ => exact h.elim
theorem pur_ok {T : List PV} {op : Op} {K : PV → Prop} (h : purK C T op K) : kindOf C op = .pure ∧ PurO C T op K := by
  unfold purK at h
  split at h
  · rename_i x
    obtain ⟨p, h1, h2⟩ := popdK_ok h
    exact ⟨rfl, p, h2, fun H W β T' hr => pOp_rel h1 (hr x (by simp [Op.operands]))⟩
  · rename_i x
    obtain ⟨p, h1, h2⟩ := popdK_ok h
    exact ⟨rfl, p, h2, fun H W β T' hr => pOp_rel h1 (hr x (by simp [Op.operands]))⟩
  · rename_i c a b
    obtain ⟨p, h1, h2⟩ := popdK_ok h
    split at h2
    · obtain ⟨q, h3, h4⟩ := popdK_ok h2
      refine ⟨rfl, q, h4, fun H W β T' hr => ?_⟩
      obtain ⟨v, g1, g2⟩ := pOp_rel h1 (hr c (by simp [Op.operands]))
      obtain ⟨u, g3, g4⟩ := pOp_rel h3 (hr a (by simp [Op.operands]))
      rw [g2.bool_inv] at g1
      exact ⟨u, by simp only [pureE, g1, g3], g4⟩
    · obtain ⟨q, h3, h4⟩ := popdK_ok h2
      refine ⟨rfl, q, h4, fun H W β T' hr => ?_⟩
      obtain ⟨v, g1, g2⟩ := pOp_rel h1 (hr c (by simp [Op.operands]))
      obtain ⟨u, g3, g4⟩ := pOp_rel h3 (hr b (by simp [Op.operands]))
      rw [g2.bool_inv] at g1
      exact ⟨u, by simp only [pureE, g1, g3], g4⟩
    · exact h2.elim
  · rename_i op t x y t2
    obtain ⟨p, h1, h2⟩ := popdK_ok h
    obtain ⟨q, h3, h4⟩ := popdK_ok h2
    obtain ⟨v, h5, h6⟩ := pbinK_ok h4
    obtain ⟨r, h7, h8⟩ := toPK_ok h5
    refine ⟨rfl, r, h7, fun H W β T' hr => ⟨v, ?_, h8 H W β⟩⟩
    obtain ⟨a, g1, g2⟩ := pOp_rel h1 (hr x (by simp [Op.operands]))
    obtain ⟨b, g3, g4⟩ := pOp_rel h3 (hr y (by simp [Op.operands]))
    simp only [pureE, g1, g3]
    exact h6 H W β x y a b g2 g4
  · rename_i t x
    obtain ⟨p, h1, h2⟩ := popdK_ok h
    split at h2
    · rename_i n
      refine ⟨rfl, _, h2.2, fun H W β T' hr => ?_⟩
      obtain ⟨a, g1, g2⟩ := pOp_rel h1 (hr x (by simp [Op.operands]))
      rw [g2.int_inv] at g1
      exact ⟨_, by simp only [pureE, g1, wrap64 h2.1], .clo (.int _ _)⟩
    · exact h2.elim
  · rename_i t x
    obtain ⟨p, h1, h2⟩ := popdK_ok h
    split at h2
    · refine ⟨rfl, _, h2, fun H W β T' hr => ?_⟩
      obtain ⟨a, g1, g2⟩ := pOp_rel h1 (hr x (by simp [Op.operands]))
      rw [g2.bool_inv] at g1
      exact ⟨_, by simp only [pureE, g1]; rfl, .clo (.bool _)⟩
    · refine ⟨rfl, _, h2, fun H W β T' hr => ?_⟩
      obtain ⟨a, g1, g2⟩ := pOp_rel h1 (hr x (by simp [Op.operands]))
      rw [g2.bool_inv] at g1
      exact ⟨_, by simp only [pureE, g1]; rfl, .clo (.bool _)⟩
    · exact h2.elim
  · rename_i t i
    obtain ⟨p, h1, h2⟩ := popdK_ok h
    split at h2
    · rename_i vs
      split at h2
      · rename_i hd
        have hd := of_decide_eq_true hd
        have hk := pgetK_ok h2
        refine ⟨rfl, _, hk, fun H W β T' hr => ?_⟩
        obtain ⟨a, g1, g2⟩ := pOp_rel h1 (hr t (by simp [Op.operands]))
        obtain ⟨as, rfl, g3⟩ := g2.tup_inv
        have e : vs[i]? = some (vs.getD i undefP) := by simp [List.getD, hd]
        obtain ⟨v, g4, g5⟩ := g3.get e
        exact ⟨v, by simp only [pureE, g1]; exact g4, g5⟩
      · exact h2.elim
    · exact h2.elim
  · rename_i x
    obtain ⟨p, h1, h2⟩ := popdK_ok h
    split at h2
    · refine ⟨rfl, _, h2, fun H W β T' hr => ?_⟩
      obtain ⟨a, g1, g2⟩ := pOp_rel h1 (hr x (by simp [Op.operands]))
      obtain ⟨b, hb, rfl⟩ := g2.optr_inv
      exact ⟨_, by simp only [pureE, g1], g2⟩
    · refine ⟨rfl, _, h2, fun H W β T' hr => ?_⟩
      obtain ⟨a, g1, g2⟩ := pOp_rel h1 (hr x (by simp [Op.operands]))
      obtain ⟨b, o, _, _, _, rfl, -⟩ := g2.lptr_inv
      exact ⟨_, by simp only [pureE, g1], g2⟩
    · refine ⟨rfl, _, h2, fun H W β T' hr => ?_⟩
      obtain ⟨a, g1, g2⟩ := pOp_rel h1 (hr x (by simp [Op.operands]))
      obtain ⟨b, o, _, _, _, rfl, -⟩ := g2.bptr_inv
      exact ⟨_, by simp only [pureE, g1], g2⟩
    · refine ⟨rfl, _, h2, fun H W β T' hr => ?_⟩
      obtain ⟨a, g1, g2⟩ := pOp_rel h1 (hr x (by simp [Op.operands]))
      rw [g2.fn_inv] at g1 g2
      exact ⟨_, by simp only [pureE, g1], g2⟩
    · exact h2.elim
  · rename_i s d x
    obtain ⟨p, h1, h2⟩ := popdK_ok h
    split at h2
    · rename_i hs hd
      split at h2
      · refine ⟨by simp [kindOf, isPtr, hd], _, h2, fun H W β T' hr => ?_⟩
        obtain ⟨a, g1, g2⟩ := pOp_rel h1 (hr x (by simp [Op.operands]))
        rw [g2.int_inv] at g1
        exact ⟨_, by simp only [pureE, hs, hd, g1], .clo (.int _ _)⟩
      · exact h2.elim
    · rename_i hs hd
      split at h2
      · refine ⟨by simp [kindOf, isPtr, hd], _, h2, fun H W β T' hr => ?_⟩
        obtain ⟨a, g1, g2⟩ := pOp_rel h1 (hr x (by simp [Op.operands]))
        rw [g2.str_inv] at g1
        exact ⟨_, by simp only [pureE, hs, hd, g1], .clo (.str _)⟩
      · exact h2.elim
    · exact h2.elim
  · rename_i s x f
    obtain ⟨p, h1, h2⟩ := popdK_ok h
    split at h2
    · rename_i hs
      split at h2
      · rename_i fd hf
        split at h2
        · rename_i i hi
          split at h2
          · exact h2.elim
          · rename_i hz
            have hz := of_decide_eq_false hz
            split at h2
            · refine ⟨rfl, _, h2, fun H W β T' hr => ?_⟩
              obtain ⟨a, g1, g2⟩ := pOp_rel h1 (hr x (by simp [Op.operands]))
              obtain ⟨b, hb, rfl⟩ := g2.optr_inv
              exact ⟨_, by simp only [pureE, hs, g1, hf, hi]; rw [if_neg hz], .optr _ hb⟩
            · refine ⟨rfl, _, h2.2, fun H W β T' hr => ?_⟩
              obtain ⟨a, g1, g2⟩ := pOp_rel h1 (hr x (by simp [Op.operands]))
              obtain ⟨b, o, _, _, _, rfl, q1, q2, q3, q4⟩ := g2.lptr_inv
              refine ⟨_, by simp only [pureE, hs, g1, hf, hi]; rw [if_neg hz], .clo (.lptr q1 q2 ?_ (drop_rel h2.1 q4))⟩
              have := h2.1
              simp; omega
            · refine ⟨rfl, _, h2.2, fun H W β T' hr => ?_⟩
              obtain ⟨a, g1, g2⟩ := pOp_rel h1 (hr x (by simp [Op.operands]))
              obtain ⟨b, o, _, _, _, rfl, q1, q2, q3, q4⟩ := g2.bptr_inv
              refine ⟨_, by simp only [pureE, hs, g1, hf, hi]; rw [if_neg hz], .bptr q1 q2 ?_ (drop_rel h2.1 q4)⟩
              have := h2.1
              simp; omega
            · exact h2.elim
        · exact h2.elim
      · exact h2.elim
    · exact h2.elim
  · rename_i t x f
    obtain ⟨p, h1, h2⟩ := popdK_ok h
    split at h2
    · rename_i hs
      split at h2
      · rename_i fd hf
        split at h2
        · rename_i i hi
          split at h2
          · obtain ⟨r, h3, h4⟩ := h2
            refine ⟨rfl, r, h4, fun H W β T' hr => ?_⟩
            obtain ⟨a, g1, g2⟩ := pOp_rel h1 (hr x (by simp [Op.operands]))
            obtain ⟨as, rfl, g3⟩ := g2.agg_inv
            obtain ⟨v, g4, g5⟩ := partP_ok hi (fun _ _ h => RelV.agg h) g3 h3
            exact ⟨v, by simp only [pureE, hs, g1, hf]; exact g4, g5⟩
          · exact h2.elim
        · exact h2.elim
      · exact h2.elim
    · exact h2.elim
  · rename_i t x i
    obtain ⟨p, h1, h2⟩ := popdK_ok h
    obtain ⟨q, h3, h4⟩ := popdK_ok h2
    split at h4
    · rename_i hs
      split at h4
      · rename_i ei he
        obtain ⟨r, h5, h6⟩ := pidx_ok hs rfl he h4
        refine ⟨rfl, r, h5, fun H W β T' hr => ?_⟩
        obtain ⟨a, g1, g2⟩ := pOp_rel h1 (hr x (by simp [Op.operands]))
        obtain ⟨b, g3, g4⟩ := pOp_rel h3 (hr i (by simp [Op.operands]))
        exact h6 H W β a b _ x i g1 g3 g2 g4
      · exact h4.elim
    · rename_i hs
      split at h4
      · rename_i ei he
        obtain ⟨r, h5, h6⟩ := paidx_ok hs rfl he h4
        refine ⟨rfl, r, h5, fun H W β T' hr => ?_⟩
        obtain ⟨a, g1, g2⟩ := pOp_rel h1 (hr x (by simp [Op.operands]))
        obtain ⟨b, g3, g4⟩ := pOp_rel h3 (hr i (by simp [Op.operands]))
        exact h6 H W β a b _ x i g1 g3 g2 g4
      · exact h4.elim
    · exact h4.elim
  · rename_i t x i
    obtain ⟨p, h1, h2⟩ := popdK_ok h
    obtain ⟨q, h3, h4⟩ := popdK_ok h2
    split at h4
    · rename_i hs
      split at h4
      · rename_i ei he
        split at h4
        · rename_i cs k m
          obtain ⟨h5, r, h6, h7⟩ := h4
          refine ⟨rfl, r, h7, fun H W β T' hr => ?_⟩
          obtain ⟨a, g1, g2⟩ := pOp_rel h1 (hr x (by simp [Op.operands]))
          obtain ⟨b, g3, g4⟩ := pOp_rel h3 (hr i (by simp [Op.operands]))
          obtain ⟨as, rfl, g5⟩ := g2.agg_inv
          rw [g4.int_inv] at g3
          obtain ⟨v, g6, g7⟩ := partP_ok he (fun _ _ h => RelV.agg h) g5 h6
          exact ⟨v, by simp only [pureE, hs, g1, g3, he]; rw [if_pos h5]; exact g6, g7⟩
        · exact h4.elim
      · exact h4.elim
    · rename_i hs
      split at h4
      · rename_i s k m
        obtain ⟨h5, b, h6, h7⟩ := h4
        refine ⟨rfl, _, h7, fun H W β T' hr => ?_⟩
        obtain ⟨a, g1, g2⟩ := pOp_rel h1 (hr x (by simp [Op.operands]))
        obtain ⟨b', g3, g4⟩ := pOp_rel h3 (hr i (by simp [Op.operands]))
        rw [g2.str_inv] at g1
        rw [g4.int_inv] at g3
        exact ⟨_, by simp only [pureE, hs, g1, g3]; rw [if_pos h5]; simp only [h6], .clo (.int _ _)⟩
      · exact h4.elim
    · exact h4.elim
  · rename_i t x lo hi
    obtain ⟨p, h1, h2⟩ := popdK_ok h
    have hops : ∀ {H : Heap} {W : Nat → Prop} {β : List Nat} {T' : List AV}, (∀ y ∈ (Op.slice t x lo hi none).operands.toList, TR H W β T T' y) → ∀ y ∈ lo.toList ++ hi.toList, TR H W β T T' y := fun hr y hy => hr y (by
      simp only [Op.operands]
      rcases List.mem_append.1 hy with hy | hy
      · have : lo = some y := by simpa using hy
        subst this; simp
      · have : hi = some y := by simpa using hy
        subst this; simp)
    split at h2
    · rename_i hs
      split at h2
      · obtain ⟨n1, l1, h3, g1⟩ := phiK_ok h2 (Nat.le_refl _)
        obtain ⟨n2, l2, h4, g2⟩ := phiK_ok h3 (Nat.zero_le _)
        refine ⟨rfl, _, h4, fun H W β T' hr => ?_⟩
        obtain ⟨a, q1, q2⟩ := pOp_rel h1 (hr x (by simp [Op.operands]))
        rw [q2.str_inv] at q1
        have hr2 := hops hr
        have e1 := g1 H W β T' (fun y hy => hr2 y (List.mem_append.2 (.inr hy))) _ (Nat.le_refl _)
        have e2 := g2 H W β T' (fun y hy => hr2 y (List.mem_append.2 (.inl hy))) _ (Nat.le_refl _)
        exact ⟨_, slice_str hs q1 e1 e2, .clo (.str _)⟩
      · exact h2.elim
    · rename_i hs
      split at h2
      · rename_i ei he
        obtain ⟨r, h5, h6⟩ := psl_ok hs rfl he h2
        refine ⟨rfl, r, h5, fun H W β T' hr => ?_⟩
        obtain ⟨a, q1, q2⟩ := pOp_rel h1 (hr x (by simp [Op.operands]))
        exact h6 H W β a T' x q1 (hops hr) q2
      · exact h2.elim
    · rename_i hs
      split at h2
      · rename_i ei he
        obtain ⟨r, h5, h6⟩ := pasl_ok hs rfl he h2
        refine ⟨rfl, r, h5, fun H W β T' hr => ?_⟩
        obtain ⟨a, q1, q2⟩ := pOp_rel h1 (hr x (by simp [Op.operands]))
        exact h6 H W β a T' x q1 (hops hr) q2
      · exact h2.elim
    · exact h2.elim
  · rename_i f first captured
    split at h
    · rename_i h1 h2
      refine ⟨rfl, _, h, fun H W β T' hr => ⟨_, by simp only [pureE, h1, h2, opds], .clo (.fn f)⟩⟩
    · rename_i h1 h2
      obtain ⟨cs, h3, h4⟩ := popdsK_ok h
      refine ⟨rfl, _, h4, fun H W β T' hr => ?_⟩
      obtain ⟨as, g1, g2⟩ := pOps_rel h3 fun x hx => hr x (by simp only [Op.operands]; simp; exact .inr (by simpa using hx))
      exact ⟨_, by simp only [pureE, h1, g1, opds], .fnc f g2⟩
    · exact h.elim
  · rename_i b args ts
    obtain ⟨ps, h1, h2⟩ := popdsK_ok h
    obtain ⟨hb, r, h3, h4⟩ := built_ok h2
    refine ⟨by rcases hb with rfl | rfl | rfl | rfl <;> first | rfl | simp [kindOf, len_notmap h2], r, h3, fun H W β T' hr => ?_⟩
    obtain ⟨as, g1, g2⟩ := pOps_rel h1 fun x hx => hr x (by simp [Op.operands, Call.operands]; simpa using hx)
    obtain ⟨v, g3, g4⟩ := h4 H W β as g2
    exact ⟨v, by simp only [pureE, g1]; exact g3, g4⟩
  · exact h.elim
end Go.PI
